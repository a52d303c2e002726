import PyProof.Rows.All
import Wide.All
import OpenK.AllK
import Wide.FinOn
import Lean
import PyProof.EqAt
import PyProof.EqKinds
import PyProof.TupleCall
import PySem.Challenge.RW_crystalwords_k63_gathered
set_option Elab.async false
set_option linter.all false
set_option compiler.extract_closed false
set_option genSizeOf false
set_option bootstrap.genMatcherCode false
set_option maxRecDepth 100000
local macro_rules | `(⋯)=>`(by omega)
local macro_rules | `(∅)=>`(by decide)
local macro_rules | `(nofun)=>`(by decide +kernel)
local macro_rules | `(tactic| ext)=>`(tactic| walk_at "r")
noncomputable section
theorem dLe{d k:Nat}(h:d=2\/d=3)(g:3≤k):d≤k:=by
 rcases h with h|h<;>rw[h]
 ·exact Nat.le_trans (by decide) g
 ·exact g
theorem eLe{x d k:Nat}(e:x=d)(h:d=2\/d=3)(g:3≤k):x≤k:=by rw[e];exact dLe h g
theorem eLt{x y k:Nat}(e:x=y)(g:k<y):k<x:=by rw[e];exact g
theorem iNn{x:Int}(h:0<x):¬x<0:=Int.not_lt.mpr (Int.le_of_lt h)
local macro_rules | `(tactic| omega)=>`(tactic| first | (with_reducible first | assumption | exact Int.ne_of_gt (by assumption) | exact iNn (by assumption) | exact Int.le_of_lt (by assumption) | exact eLt (by assumption) (by assumption) | exact dLe (by assumption) (by decide) | exact eLe (by assumption) (by assumption) (by decide) | exact Nat.le_trans (by assumption) (by decide) | exact Nat.lt_of_lt_of_le (by assumption) (by decide) | exact Nat.lt_of_le_of_lt (by assumption) (by decide) | exact Nat.le_trans (Nat.le_of_lt (by assumption)) (by decide) | exact Nat.le_of_lt (by assumption)) | decide | lia | omega +splitDisjunctions)
abbrev SP':=List Int×Int
abbrev LI':=List Int
abbrev PN:=List (PySem.Addr×PySem.Obj)
abbrev VP:=PySem.Value->PySem.Shared->Prop
abbrev LW:=List PySem.Value
abbrev LA:=List PySem.Addr
abbrev MT:=PySem.Str->Option PySem.Value
def zA:=@PySem.wpAny_bind
def zB:=@PySem.wpAny_pure
def zC:=@List.getElem?_map
def zD:=@PySem.Heap.get?_push_of_some
def zE:=@Nat.le_refl
def zF:=@Nat.lt_of_lt_of_le
def zG:=@PyProof.Rows.wpS_bind
def zH:=@PyProof.Rows.wpS_pure
def zI:=@if_neg
def zJ:=@if_pos
def zK:=@List.map_cons
def zL:=@decide_eq_true
def zM:=@List.mem_cons_of_mem
def zN:=@Array.length_toList
def zO:=@PySem.Heap.lt_size
def zP:=@decide_eq_false
def zQ:=@PySem.Heap.get?_push_size
def zR:=@Int.toNat_natCast
def zS:=@List.length_append
def zT:=@Bool.and_eq_true
def zU:=@Option.some.inj
def zV:=@List.mem_cons_self
def zW:=@Ne.symm
def zX:=@List.size_toArray
def zY:=@Nat.pow_le_pow_right
def zZ:=@List.getElem?_append_right
def yA:=@Nat.le_trans
def yB:=@List.getElem?_of_mem
def yC:=@Bool.false_ne_true
def yD:=@Nat.ne_of_lt
def yE:=@List.length_cons
def yF:=@PySem.PassesOwn.never
def yG:=@PyProof.Rows.mulOk_of_bits
def yH:=@PySem.W.mg_of
def yI:=@List.getElem?_append_left
def yJ:=@Nat.lt_of_le_of_lt
def yK:=@List.mem_of_getElem?
def yL:=@List.length_map
def yM:=@List.map_append
def yN:=@List.mem_append_right
def yO:=@List.cons.injEq
def yP:=@of_decide_eq_true
def yQ:=@Array.toList_append
def yR:=@List.getElem?_range
def yS:=@LawfulBEq.eq_of_beq
def yT:=@Array.getElem?_toList
def yU:=@List.append_assoc
def yV:=@Nat.zero_le
def yW:=@List.getElem?_zipWith
def yX:=@PySem.wpAny_newObj_type
def yY:=@List.zipWith_cons_cons
def yZ:=@Int.mul_pos
def xA:=@PySem.F.plainAttrs_list
def xB:=@PySem.W.mg_none_of
def xC:=@Int.natAbs_mul
def xD:=@List.length_zipWith
def xE:=@List.mem_cons
def xF:=@List.length_take
def xG:=@List.all_cons
def xH:=@Nat.lt_irrefl
def xI:=@List.map_map
def xJ:=@PySem.wpAny_call_entry
def xK:=@PySem.F.type_list_append
def xL:=@PySem.F.slot_list_append
def xM:=@List.length_replicate
def xN:=@List.lookup_cons
def xO:=@List.getElem_mem
def xP:=@PySem.wpAny_callSpecial?_slot
def xQ:=@Int.eq_ofNat_of_zero_le
def xR:=@PyProof.Rows.wpS_forRange
def xS:=@PySem.wpAny_mono
def xT:=@PySem.W.kia_one
def xU:=@PySem.wpAny_holding
def xV:=@List.getElem?_eq_getElem
def xW:=@Int.fmod_eq_emod_of_nonneg
def xX:=@Nat.le_of_lt
def xY:=@List.ext_getElem
def xZ:=@PySem.wpAny_field
def wA:=@PySem.Heap.size_push
def wB:=@List.take_append_drop
def wC:=@List.mem_append_left
def wD:=@Nat.mul_le_mul_right
def wE:=@PySem.F.excBase_ValueError
def wF:=@PySem.Heap.SameBut.update
def wG:=@List.getElem?_eq_none
def wH:=@congrArg
def wI:=@List.all_eq_true
def wJ:=@PySem.F.slot_dict_valueiterator_next
def wK:=@List.eq_of_mem_replicate
def wL:=@PySem.IntMulOk.of_left
def wM:=@PySem.wpAny_seqItems
def wN:=@Nat.mul_le_mul
def wO:=@PySem.F.slot_dict_keyiterator_next
def wP:=@PyProof.Rows.wpS_mono
def wQ:=@List.foldl_cons
def wR:=@PyProof.Rows.callWith_type1
def wS:=@List.replicate_succ
def wT:=@List.getElem_of_mem
def wU:=@List.map_congr_left
def wV:=@List.take_of_length_le
def wW:=@Nat.zero_add
def wX:=@PySem.wpAny_rule
def wY:=@PyProof.Rows.wpS_modify
def wZ:=@PySem.intBits_le_64
def vA:=@PySem.wpAny_attempt
def vB:=@PySem.Heap.get?_update_self
def vC:=@Nat.lt_succ_of_lt
def vD:=@PySem.IntMulOk.of_right
def vE:=@PySem.wpAny_typeNameOfWhole_valiter
def vF:=@PySem.wpAny_typeNameOfWhole_keyiter
def vG:=@List.getElem?_replicate
def vH:=@PySem.mem_of_lookup
def vI:=@PySem.wpAny_isInstance
def vJ:=@Nat.lt_succ_self
def vK:=@Nat.pow_add
def vL:=@PySem.Obj.data_mapFields
def vM:=@PySem.wpAny_setField_rec
def vN:=@Int.mul_comm
def vO:=@List.perm_append_comm
def vP:=@PySem.wpAny_passesOwn
def vQ:=@Nat.two_pow_pos
def vR:=@PySem.F.slot_tuple_iterator_next
def vS:=@PySem.wpAny_dictEntries
def vU:=@Nat.le_succ_of_le
def vV:=@Array.getElem?_eq_getElem
def vW:=@PySem.Paired.snoc
def vX:=@List.eraseIdx_append_of_length_le
def vY:=@PySem.wpAny_typeNameOf_valiter
def vZ:=@List.getElem_map
def uA:=@Int.dvd_refl
def uB:=@List.zipIdx_cons
def uC:=@Int.le_of_lt
def uD:=@PySem.wpAny_typeNameOf_keyiter
def uE:=@PySem.wpAny_pyIter_tuple
def uF:=@PySem.wpAny_loadPart'
def uG:=@List.forIn_cons
def uH:=@PySem.wpAny_Call_Name_kw
def uI:=@PySem.wpAny_dictEpoch
def uJ:=@List.append_nil
def uK:=@Int.fmod_nonneg_of_pos
def uL:=@PySem.Heap.get?_update_other
def uM:=@PySem.Calls.callWith_builtin
def uN:=@List.foldl_append
def uO:=@PySem.wpAny_truthy_bool
def uP:=@Int.natAbs_add_le
def uQ:=@Array.toList_push
def uR:=@Nat.lt_or_ge
def uS:=@List.cons_lt_cons_iff
def uT:=@PyProof.Rows.wpS_get
def uU:=@PySem.wpAny_setField
def uV:=@List.nodup_nil
def uW:=@Nat.sub_self
def uX:=@List.Pairwise.sublist
def uY:=@PySem.F.slot_dict_get
def uZ:=@PySem.Around.under_plainId
def tD:=@PySem.W.looks_findIn
def tE:=@List.take_length
def tF:=@Array.toList_reverse
def tG:=@List.length_drop
def tH:=@List.any_cons
def tI:=@List.getD_eq_getElem?_getD
def tJ:=@PySem.wpAny_standAt
def tK:=@List.eraseIdx_of_length_le
def tL:=@Int.mul_one
def tM:=@Int.one_mul
def tN:=@List.filterMap_cons
def tO:=@List.drop_eq_getElem_cons
def tP:=@PySem.codeAny_builtin
def tQ:=@Nat.not_lt_zero
def tR:=@List.mem_or_eq_of_mem_set
def tS:=@PySem.SeqAt.Reads.unique
def tU:=@List.mem_of_mem_eraseIdx
def tV:=@List.getElem?_drop
def tW:=@PySem.wpAny_typeOf
def tX:=@Nat.min_self
def tY:=@Int.fmod_lt_of_pos
def tZ:=@of_decide_eq_false
def sD:=@Int.zero_mul
def sE:=@Int.fdiv_one
def sF:=@List.take_zero
def sG:=@PySem.F.plainAttrs_dict
def sH:=@PySem.wpAny_pyIter_list
def sI:=@List.nodup_append
def sJ:=@List.getElem?_inj
def sK:=@List.any_eq_false
def sL:=@List.take_add_one
def sQ:=@List.flatten_cons
def sT:=@List.drop_sublist
def sU:=@Nat.log2_lt
def sV:=@PyProof.Rows.subscriptTail_builtinR
def sW:=@List.drop_eq_nil_of_le
def sZ:=@List.getElem?_set_self
def rA:=@Nat.add_assoc
def rB:=@Nat.succ_le_succ
def rC:=@Nat.mul_lt_mul''
def rE:=@List.reverse_nil
def rF:=@PySem.Obj.isFreed_of_fields
def rG:=@PySem.wpAny_notOrdered_dict
def rH:=@PySem.wpAny_isOneOf_valiter
def rJ:=@List.getElem?_reverse
def rK:=@List.Perm.append_left
def rL:=@Nat.le_of_eq
def rM:=@List.nodup_cons
def rN:=@PySem.wpAny_execs_nil
def rO:=@List.of_mem_zip
def rP:=@PySem.Calls.evalArgs_plain
def rQ:=@List.getElem?_zipIdx
def rR:=@PySem.wpAny_updateSeq_pair
def rS:=@PySem.F.slot_zip_next
def rT:=@List.length_eraseIdx
def rV:=@Nat.ne_of_gt
def rW:=@Option.map_some
def rX:=@List.mem_of_mem_take
def rY:=@Nat.succ_mul
def rZ:=@PySem.W.plainGet_of
def qB:=@Int.mul_le_mul
def qC:=@PySem.isSubtype_stop
def qD:=@PySem.wpAny_fieldsOf
def qE:=@PyProof.Rows.wpS_lift
def qF:=@List.map_id
def qG:=@PySem.wpAny_tupleItemsOf
def qH:=@Array.size_extract
def qI:=@PySem.W.callWith_K
def qJ:=@List.zip_cons_cons
def qK:=@PyProof.Rows.assignInOrder_cons
def qL:=@List.take_add
def qM:=@PySem.plainId_quiet
def qN:=@PySem.wpAny_onRaise
def qO:=@PySem.Obj.cls_mapFields
def qP:=@List.ext_getElem?
def qQ:=@List.reverse_perm
def qR:=@Nat.le_of_succ_le
def qT:=@Nat.pow_succ
def qU:=@PySem.codeAny_mono
def qV:=@PySem.wpAny_pyHash_int
def qW:=@Nat.le_add_right
def qX:=@Nat.mul_comm
def qZ:=@Int.mul_dvd_mul
def pC:=@PySem.pushCells_keeps
def pE:=@Nat.le_succ
def pF:=@List.drop_drop
def pG:=@PySem.call_meets
def pH:=@PySem.wpAny_handled
def pI:=@PySem.seqIndex_neg
def pJ:=@Int.zero_add
def pK:=@Int.lt_trans
def pL:=@PySem.call_meetsIn
def pM:=@Int.gcd_comm
def pN:=@Int.le_trans
def pO:=@Nat.one_mul
def pQ:=@Int.dvd_add
def pR:=@Int.dvd_sub
def pS:=@dif_pos
def pU:=@beq_iff_eq
def pV:=@beq_eq_false_iff_ne
def pW:=@List.mem_singleton
def pY:=@List.mem_append
def pZ:=@List.mem_map
def oA:=@Int.dvd_neg
def oB:=@List.getElem?_eq_some_iff
def oC:=@List.pairwise_append
def oE:=@List.mem_flatMap
def oF:=@List.mem_range
def oG:=@List.mem_reverse
def oH:=@List.not_lt
def oI:=@decide_eq_decide
namespace L2
open PySem PySem.Spec PyProof.Rows
open PySem.W (Frag)
abbrev Key:=Sum Int Str
noncomputable def Fx:Key->Value->Bool
 |.inl k,v=>Value.isInt k v
 |.inr x,v=>Value.isStrOf x v
noncomputable def keyH(w:World):Key->Int
 |.inl k=>hashInt k
 |.inr x=>hashStr w x
theorem iI:∀{k:Key}{v:Value},Fx k v=true->(∃i t,k=Sum.inl i/\v=Value.int i t)\/(∃x t,k=Sum.inr x/\v=Value.str x t)
 |.inl i,v,h=>by
  obtain⟨t,e⟩:=Value.isInt_shape (k:=i) (v:=v) h;exact .inl ⟨i,t,rfl,e⟩
 |.inr x,v,h=>by
  obtain⟨t,e⟩:=Value.isStrOf_shape (x:=x) (v:=v) h;exact .inr ⟨x,t,rfl,e⟩
theorem Mb(a b:Int):decide ((Sum.inl a:Key)=Sum.inl b)=(a == b):=by
 by_cases e:a=b
 ·subst e;simp
 ·have h:¬ (Sum.inl a:Key)=Sum.inl b:=λq=>e (Sum.inl.inj q);rw[zP h];exact(pV.mpr e).symm
theorem Ma(a b:Str):decide ((Sum.inr a:Key)=Sum.inr b)=decide (a=b):=by
 by_cases e:a=b
 ·subst e;simp
 ·have h:¬ (Sum.inr a:Key)=Sum.inr b:=λq=>e (Sum.inr.inj q);rw[zP h,zP e]
theorem Nz(a:Int)(b:Str):decide ((Sum.inl a:Key)=Sum.inr b)=false:=zP (λq=>nomatch q)
theorem Ny(a:Str)(b:Int):decide ((Sum.inr a:Key)=Sum.inl b)=false:=zP (λq=>nomatch q)
def Fw(prog:Program)(w:World):PySem.KeyKind prog w Key where
 is:=Fx
 hash:=keyH w
 inj:=λv a b ha hb=>by
  rcases iI ha with⟨i,t,rfl,rfl⟩|⟨x,t,rfl,rfl⟩
  ·rcases iI hb with⟨j,u,rfl,e⟩|⟨y,u,rfl,e⟩
   ·injection e with e1 _;rw[e1]
   ·exact nomatch e
  ·rcases iI hb with⟨j,u,rfl,e⟩|⟨y,u,rfl,e⟩
   ·exact nomatch e
   ·injection e with e1 _;rw[e1]
 byValue:=λk v h=>by
  rcases iI h with⟨i,t,rfl,rfl⟩|⟨x,t,rfl,rfl⟩ <;> rfl
 pyHash:=λhv h=>by
  rcases iI hv with⟨i,t,rfl,rfl⟩|⟨x,t,rfl,rfl⟩
  ·exact qV h
  ·exact wpAny_pyHash_str h
 eqBool:=λhu hv h=>by
  rcases iI hu with⟨i,t,rfl,rfl⟩|⟨x,t,rfl,rfl⟩
  ·rcases iI hv with⟨j,u,rfl,rfl⟩|⟨y,u,rfl,rfl⟩
   ·rw[Mb]at h;exact wpAny_eqBool_int h
   ·rw[Nz]at h;exact SeqAt.EqAt.int_str i t y u _ _ _ _ h
  ·rcases iI hv with⟨j,u,rfl,rfl⟩|⟨y,u,rfl,rfl⟩
   ·rw[Ny]at h;exact SeqAt.EqAt.str_int x t j u _ _ _ _ h
   ·rw[Ma]at h;exact wpAny_eqBool_str h
 «strs»:=λk x t v h=>by
  rcases iI h with⟨i,u,rfl,e⟩|⟨y,u,rfl,e⟩
  ·exact nomatch e
  ·injection e with e1 _;subst e1;cases v <;> rfl
inductive V where
 |non|bl(b:Bool)|int(i:Int)|str(x:Str)|byt(b:Array UInt8)|flt(b:UInt64)|ref(a:Addr)|ty(n:String)
 deriving DecidableEq
def RelV:V->Value->Prop
 |.non,u=>u=Value.none
 |.bl b,u=>u=Value.bool b
 |.int i,u=>∃t,u=Value.int i t
 |.str x,u=>∃t,u=Value.str x t
 |.byt b,u=>∃t,u=Value.bytes b t
 |.flt b,u=>∃t,u=Value.float b t
 |.ref a,u=>u=Value.ref a
 |.ty n,u=>u=Value.type n
abbrev Vals:List V->LW->Prop:=Paired RelV
theorem Vals.length{xs:List V}{us:LW}(r:Vals xs us):xs.length=us.length:=Paired.length r
theorem Vals.get:∀{xs:List V}{us:LW}{i:Nat}{x:V},Vals xs us->xs[i]?=some x->∃u,us[i]?=some u/\RelV x u
 |_,_,_,_,.nil,e=>by simp at e
 |_,_,0,_,.cons r _,e=>by simp at e;subst e;exact⟨_,rfl,r⟩
 |_,_,i+1,x,.cons _ b,e=>by
  obtain⟨u,c,a⟩:=Vals.get (i:=i) (x:=x) b (by simpa using e);exact⟨u,by simpa using c,a⟩
theorem Vals.set{x:V}{u:Value}(r:RelV x u):∀{xs:List V}{us:LW}(i:Nat),Vals xs us->Vals (xs.set i x) (us.set i u)
 |_,_,_,.nil=>.nil
 |_,_,0,.cons _ t=>.cons r t
 |_,_,i+1,.cons q t=>.cons q (Vals.set r i t)
theorem Vals.append:∀{xs ys:List V}{us a:LW},Vals xs us->Vals ys a->Vals (xs++ys) (us++a)
 |_,_,_,_,.nil,s=>s
 |_,_,_,_,.cons r b,s=>.cons r (Vals.append b s)
theorem Vals.take:∀{xs:List V}{us:LW}(n:Nat),Vals xs us->Vals (xs.take n) (us.take n)
 |_,_,0,_=>.nil
 |_,_,_+1,.nil=>.nil
 |_,_,n+1,.cons r t=>.cons r (Vals.take n t)
theorem Vals.drop:∀{xs:List V}{us:LW}(n:Nat),Vals xs us->Vals (xs.drop n) (us.drop n)
 |_,_,0,r=>r
 |_,_,_+1,.nil=>.nil
 |_,_,n+1,.cons _ t=>Vals.drop n t
theorem Vals.none_of:∀{xs:List V}{us:LW}{i:Nat},Vals xs us->xs[i]?=none->us[i]?=none:=λ{xs us i}r e=>by
 have b:=r.length;have a:xs.length<=i:=List.getElem?_eq_none_iff.mp e;exact List.getElem?_eq_none_iff.mpr ⋯
def RelO:Option V->Option Value->Prop
 |some v,some u=>RelV v u
 |none,none=>True
 |_,_=>False
def KV{κ:Type}:List (κ×V)->List (κ×Value)->Prop:=Paired λ(p:κ×V)(q:κ×Value)=>p.1=q.1/\RelV p.2 q.2
noncomputable def kV:Key->V
 |.inl i=>.int i
 |.inr x=>.str x
inductive HO where
  |lst(xs:List V)
  |tup(xs:List V)
  |dK(kvs:List (Key×V))|dT(kvs:List (List Key×V))
  |set(S:Int->Bool)(n:Nat)
  |ins(C dx:Addr)(fs:List (Str×V))
  |own(x:Addr)
  |xd(fs:List (Str×V))
  |met(f x:Addr)
  |rng(lo hi:Int)
  |frz(o:Obj)(u:HO)
  |tbl(ps:Array Value)
  |ext(φ:Heap->Prop)
abbrev Hp:=Addr->Option HO
noncomputable def upd(H:Hp)(a:Addr)(o:HO):Hp:=λb=>if b=a then some o else H b
theorem oQ{H:Hp}{a:Addr}{o:HO}:upd H a o a=some o:=by unfold upd;rw[zJ rfl]
theorem oU{H:Hp}{a b:Addr}{o:HO}(h:b≠a):upd H a o b=H b:=by unfold upd;rw[zI h]
theorem mI{H:Hp}{a b:Addr}{o:HO}(h:H a=some o)(h':H b=none):a≠b:=by
 intro e;subst e;rw[h]at h';cases h'
section
variable (P:Program) (w:World)
def mK(H:Hp)(h:Heap)(a:Addr):HO->Prop
 |.lst xs=>xs.length<=sizeLine/\∃(its:LW)(n:Nat),Vals xs its/\h.get? a=some {cls:=.type "list",data:=.seq its.toArray n}
 |.tup xs=>xs.length<=sizeLine/\∃its:LW,Vals xs its/\IsTup h a its.toArray
 |.dK kvs=>kvs.length<=sizeLine/\(a == sysModules)=false/\∃vs,KV kvs vs/\h.DictOf (Fw P w) a vs
 | .dT kvs=>kvs.length<=sizeLine/\(a == sysModules)=false/\∃xs:List (List Key×Addr×Value),
   Paired (λ(p:List Key×V)(q:List Key×Addr×Value)=>p.1=q.1/\H q.2.1=some (.tup (p.1.map kV))/\RelV p.2 q.2.2) kvs xs /\
   ∃o es ep,h.get? a=some o/\o.ExactDict/\o.data=.dict es ep/\es.toList=xs.map (entryOfKey (tupleKind (Fw P w)))/\(xs.map (·.1)).Nodup
 |.set S n=>h.SetOf (intKind P w) a S n
 | .ins C dx fs=>H dx=some (.own a)/\fs.length<=1000/\dx≠a/\h.get? a=some (PySem.W.instObj C dx) /\
   ∃mA,h.Ns1 dx mA/\(∀f,RelO (fs.lookup f) (mA f))/\PySem.Within mA (fs.map (·.1))
 |.own _=>∃o,h.get? a=some o
 |.xd fs=>∃mA,h.Ns1 a mA/\∀f,RelO (fs.lookup f) (mA f)
 |.rng lo hi=>∃t u v,h.get? a=some {cls:=.type "range",data:=.fields #[.int lo t,.int hi u,.int 1 v]}
 |.frz o u=>h.get? a=some o/\mK H h a u
 |.tbl ps=>h.get? a=some {cls:=.none,data:=.fields ps}
 |.met f x=>h.get? a=some (PySem.W.methodObj (.ref f) (.ref x))
 |.ext φ=>φ h/\(∃o,h.get? a=some o)/\∀h1 h2:Heap,φ h1->(∀o,h1.get? a=some o->h2.get? a=some o)->φ h2
def HOk(H:Hp)(h:Heap):Prop:=∀a o,H a=some o->mK P w H h a o
end
section
variable {P:Program} {w:World} {H H':Hp} {h h':Heap} {a:Addr} {o:HO}
theorem mK.lt(x:mK P w H h a o):a<h.objs.size:=by
 cases o with
 |lst xs=>obtain⟨_,_,_,_,e⟩:=x;exact zO e
 |tup xs=>obtain⟨_,_,_,p⟩:=x;exact p.lt
 |dK kvs=>obtain⟨_,_,_,_,o,_,_,e,_⟩:=x;exact zO e
 |dT kvs=>obtain⟨_,_,_,_,o,_,_,e,_⟩:=x;exact zO e
 |set g n=>obtain⟨o,_,_,_,e,_⟩:=x;exact zO e
 |ins C b fs=>obtain⟨_,_,_,e,_⟩:=x;exact zO e
 |own y=>obtain⟨_,e⟩:=x;exact zO e
 |xd fs=>obtain⟨_,⟨_,_,_,e,_⟩,_⟩:=x;exact zO e
 |rng lo hi=>obtain⟨_,_,_,e⟩:=x;exact zO e
 |frz d u=>obtain⟨e,_⟩:=x;exact zO e
 |tbl ps=>exact zO (show h.get? a=some _ from x)
 |met f y=>exact zO (show h.get? a=some _ from x)
 |ext c=>obtain⟨_,⟨_,e⟩,_⟩:=x;exact zO e
theorem Paired.mapP{g c:Type}{F G:g->c->Prop}:∀{e:List g}{d:List c},Paired F e d->(∀a b,F a b->G a b)->Paired G e d
 |_,_,.nil,_=>.nil
 |_,_,.cons r i,f=>.cons (f _ _ r) (Paired.mapP i f)
theorem mK.stay(x:mK P w H h a o)(k:∀b u,(b=a\/H b=some (.own a))->h.get? b=some u->h'.get? b=some u)
  (t:∀b,H b=some (.own a)->H' b=some (.own a))(G:∀b xs,H b=some (.tup xs)->H' b=some (.tup xs)):mK P w H' h' a o:=by
 induction o with
 |lst xs=>obtain⟨z,its,n,r,e⟩:=x;exact⟨z,its,n,r,k _ _ (.inl rfl) e⟩
 |tup xs=>obtain⟨z,its,r,g,e,c⟩:=x;exact⟨z,its,r,g,k _ _ (.inl rfl) e,c⟩
 |dK kvs=>obtain⟨z,y,vs,r,g,es,ep,e,c⟩:=x;exact⟨z,y,vs,r,g,es,ep,k _ _ (.inl rfl) e,c⟩
 |dT kvs =>
  obtain⟨z,y,xs,r,g,es,ep,e,c⟩:=x;exact⟨z,y,xs,Paired.mapP r λp q z=>⟨z.1,G _ _ z.2.1,z.2.2⟩,g,es,ep,k _ _ (.inl rfl) e,c⟩
 |set K n=>obtain⟨g,es,ep,l,e,c⟩:=x;exact⟨g,es,ep,l,k _ _ (.inl rfl) e,c⟩
 |ins C J fs =>
  obtain⟨d,z,D,e,i,⟨j,es,ep,m,c⟩,r⟩:=x;exact⟨t _ d,z,D,k _ _ (.inl rfl) e,i,⟨j,es,ep,k _ _ (.inr d) m,c⟩,r⟩
 |own y=>obtain⟨g,e⟩:=x;exact⟨g,k _ _ (.inl rfl) e⟩
 |xd fs=>obtain⟨i,⟨j,es,ep,e,c⟩,r⟩:=x;exact⟨i,⟨j,es,ep,k _ _ (.inl rfl) e,c⟩,r⟩
 |rng lo hi=>obtain⟨l,u,v,e⟩:=x;exact⟨l,u,v,k _ _ (.inl rfl) e⟩
 |frz g u F=>obtain⟨e,q⟩:=x;exact⟨k _ _ (.inl rfl) e,F q⟩
 |tbl ps =>
  have e:h.get? a=some {cls:=.none,data:=.fields ps}:=x;show h'.get? a=some {cls:=.none,data:=.fields ps};exact k a _ (.inl rfl) e
 |met f y =>
  have e:h.get? a=some (PySem.W.methodObj (.ref f) (.ref y)):=x;show h'.get? a=some (PySem.W.methodObj (.ref f) (.ref y));exact k a _ (.inl rfl) e
 |ext I=>obtain⟨p,⟨o,e⟩,st⟩:=x;exact⟨st _ _ p λo q=>k _ _ (.inl rfl) q,⟨o,k _ _ (.inl rfl) e⟩,st⟩
theorem HOk.lt(x:HOk P w H h)(e:H a=some o):a<h.objs.size:=(x a o e).lt
theorem HOk.fresh(x:HOk P w H h)(e:h.objs.size<=a):H a=none:=by
 cases q:H a with
 |none=>rfl
 |some u=>exact absurd (zF (x.lt q) e) (xH _)
theorem HOk.kept(x:HOk P w H h)(k:∀b u,h.get? b=some u->h'.get? b=some u):HOk P w H h':=λa o e =>
 (x a o e).stay (λb u _ q=>k b u q) (λ_ q=>q) λ_ _ q=>q
theorem HOk.laid(x:HOk P w H h)(k:∀b u,h.get? b=some u->h'.get? b=some u)(g:h.objs.size<=a)(new:mK P w (upd H a o) h' a o):HOk P w (upd H a o) h':=λb u e=>by
 have d:=x.fresh g
 by_cases f:b=a
 ·subst f;rw[oQ]at e;cases e;exact new
 ·rw[oU f]at e;exact(x b u e).stay (λc v _ q=>k c v q) (λc q=>by rw[oU (mI q d)];exact q) λc xs q=>by rw[oU (mI q d)];exact q
end
def Rd(H:Hp)(a:Addr)(u:HO):Prop:=H a=some u\/∃o,H a=some (.frz o u)
theorem Rd.ok{P:Program}{w:World}{H:Hp}{h:Heap}{a:Addr}{u:HO}(r:Rd H a u)(x:HOk P w H h):mK P w H h a u:=by
 rcases r with r|⟨o,r⟩
 ·exact x a u r
 ·obtain⟨_,q⟩:=x a _ r;exact q
def Mut:Option HO->Prop
 |some (.lst _)=>True
 |some (.dK _)=>True
 |some (.dT _)=>True
 |some (.set _ _)=>True
 |some (.ins _ _ _)=>True
 |some (.ext _)=>True
 |_=>False
section
variable {P:Program} {w:World} {H:Hp} {h h':Heap} {x e:Addr} {o':HO}
theorem HOk.write(ok:HOk P w H h)(d:Mut (H x))(i:e=x\/H e=some (.own x))(k:∀b u,b≠e->h.get? b=some u->h'.get? b=some u)(m:∃u,h'.get? e=some u)
  (new:mK P w (upd H x o') h' x o'):HOk P w (upd H x o') h':=λb u q=>by
 have j:∀c y,H c=some (.own y)->c≠x:=λc y r z=>by subst z;rw[r]at d;exact d
 have n:∀c xs,H c=some (.tup xs)->c≠x:=λc xs r z=>by subst z;rw[r]at d;exact d
 by_cases f:b=x
 ·subst f;rw[oQ]at q;cases q;exact new
 ·rw[oU f]at q
  by_cases g:b=e
  ·have l:H b=some (.own x):=by
    rcases i with z|z
    ·exact absurd (g.trans z) f
    ·rw[g];exact z
   rw[q]at l;cases l;obtain⟨v,o⟩:=m;exact⟨v,by rw[g];exact o⟩
  ·refine(ok b u q).stay (λc v a r=>k c v ?_ r) (λc r=>by rw[oU (j c b r)];exact r) λc xs r=>by rw[oU (n c xs r)];exact r
   rcases a with rfl|a
   ·exact g
   ·rintro rfl;rcases i with z|z
    ·exact j c b a z
    ·rw[a]at z;cases z;exact f rfl
end
structure Un(fs ex:LA)(H H':Hp)(h h':Heap):Prop where
 keep:∀b o,h.get? b=some o->H b=none->b∉fs->b∉ex->h'.get? b=some o
 slot:∀b o,h.get? b=some o->H b=none->b∈fs->b∉ex->∃sl,h'.get? b=some {o with slots:=sl}
 free:∀b o,h.get? b=some o->H b=none->b∉ex->H' b=none
 there:∀b o,h.get? b=some o->b∉ex->∃o',h'.get? b=some o'
 tups:∀b xs,H b=some (.tup xs)->H' b=some (.tup xs)
 frzs:∀b o u,H b=some (.frz o u)->H' b=some (.frz o u)
 tbls:∀b ps,H b=some (.tbl ps)->∃more,H' b=some (.tbl (ps++more))
section
variable {fs fs' ex ex':LA} {H H1 H2:Hp} {h h1 h2 h':Heap} {a x e:Addr} {o:HO}
theorem Un.any(u:Un fs ex H H1 h h1){b:Addr}{c:Obj}(q:h.get? b=some c)(n:H b=none)(d:b∉ex):∃g,h1.get? b=some {c with slots:=g}:=by
 by_cases f:b∈fs
 ·exact u.slot b c q n f d
 ·exact⟨c.slots,u.keep b c q n f d⟩
theorem Un.trans(a:Un fs ex H H1 h h1)(b:Un fs ex H1 H2 h1 h2):Un fs ex H H2 h h2 where
 keep:=λc f q n g d=>b.keep c f (a.keep c f q n g d) (a.free c f q n d) g d
 slot:=λc f q n g d=>by
  obtain⟨p,e1⟩:=a.slot c f q n g d;obtain⟨k,j⟩:=b.slot c _ e1 (a.free c f q n d) g d;exact⟨k,j⟩
 free:=λc f q n d=>by
  obtain⟨i,e1⟩:=a.there c f q d;exact b.free c i e1 (a.free c f q n d) d
 there:=λc f q d=>by
  obtain⟨i,e1⟩:=a.there c f q d;exact b.there c i e1 d
 tups:=λc xs q=>b.tups c xs (a.tups c xs q)
 frzs:=λc f xs q=>b.frzs c f xs (a.frzs c f xs q)
 tbls:=λc ps q=>by
  obtain⟨m,e1⟩:=a.tbls c ps q;obtain⟨l,j⟩:=b.tbls c _ e1;exact⟨m++l,by rw[j,Array.append_assoc]⟩
theorem Un.kept(k:∀b u,h.get? b=some u->h'.get? b=some u):Un fs ex H H h h':=
 ⟨λb c q _ _ _=>k b c q,λb c q _ _ _=>⟨c.slots,k b c q⟩,λ_ _ _ n _=>n,λb c q _=>⟨c,k b c q⟩,λ_ _ q=>q,λ_ _ _ q=>q,λ_ ps q=>⟨#[],by rw[q];simp⟩⟩
theorem Un.refl:Un fs ex H H h h:=Un.kept λ_ _ q=>q
theorem Un.laid(k:∀b u,h.get? b=some u->h'.get? b=some u)(d:h.objs.size<=a)(c:H a=none):Un fs ex H (upd H a o) h h' where
 keep:=λb u q _ _ _=>k b u q
 slot:=λb u q _ _ _=>⟨u.slots,k b u q⟩
 free:=λb u q n _=>by rw[oU (yD (zF (zO q) d))];exact n
 there:=λb u q _=>⟨u,k b u q⟩
 tups:=λb xs q=>by rw[oU (mI q c)];exact q
 frzs:=λb u xs q=>by rw[oU (mI q c)];exact q
 tbls:=λb ps q=>⟨#[],by rw[oU (mI q c),q];simp⟩
theorem Un.write(c:Mut (H x))(j:e=x\/H e=some (.own x))(k:∀b u,b≠e->h.get? b=some u->h'.get? b=some u)(l:∃u,h'.get? e=some u):Un fs ex H (upd H x o) h h':=by
 have f:∀b,H b=none->b≠x:=λb n z=>by subst z;rw[n]at c;exact c
 have g:∀b,H b=none->b≠e:=λb n z=>by
  subst z;rcases j with r|r
  ·exact f b n r
  ·rw[n]at r;cases r
 have d:∀b u,H b=some u->¬ Mut (some u)->b≠x:=λb u q nm z=>by subst z;rw[q]at c;exact nm c
 refine⟨λb u q n _ _=>k b u (g b n) q,λb u q n _ _=>⟨u.slots,k b u (g b n) q⟩,λb u q n _=>by rw[oU (f b n)];exact n,λb u q _=>?_,
  λb xs q=>by rw[oU (d b _ q λz=>z)];exact q,λb u xs q=>by rw[oU (d b _ q λz=>z)];exact q,λb ps q=>⟨#[],by rw[oU (d b _ q λz=>z),q];simp⟩⟩
 by_cases i:b=e
 ·subst i;exact l
 ·exact⟨u,k b u i q⟩
end
noncomputable def trk(h:Heap)(H:Hp):LA:=(List.range h.objs.size).filter λa=>(H a).isSome
def hidT(h:Heap)(H:Hp):Heap:=PySem.W.hideAll h (trk h H)
theorem Nx(h:Heap)(H:Hp):(hidT h H).objs.size=h.objs.size:=PySem.W.hideAll_size _ _
theorem Nw{h:Heap}{H:Hp}{b:Addr}{o:Obj}(e:h.get? b=some o)(n:H b=none):(hidT h H).get? b=some o:=
 PySem.W.hideAll_get _ e λa=>by
  have q:(H b).isSome=true:=(List.mem_filter.mp a).2;rw[n]at q;simp at q
theorem Nv{h:Heap}{H:Hp}{b:Addr}{o:Obj}(e:(hidT h H).get? b=some o):h.get? b=some o/\H b=none:=by
 have a:h.get? b=some o:=PySem.W.of_hideAll (trk h H) e;refine⟨a,?_⟩;cases q:H b with
 |none=>rfl
 |some x =>
  have c:b∈trk h H:=List.mem_filter.mpr ⟨oF.mpr (zO a),by simp[q]⟩;have z:(hidT h H).get? b=none:=PySem.W.hideAll_none (trk h H) c;rw[z]at e;cases e
noncomputable def Nu(g h:Heap)(L:Addr):PN:=(List.range h.objs.size).filterMap λa=>if a=L\/(g.get? a).isSome=true then none else(h.get? a).map λo=>(a,o)
def rest(g h:Heap)(L d:Addr):PN:=(Nu g h L).filter λp=>decide (p.1≠d)
structure Mod(K:Frag)(mg:MT)(base:Heap):Prop where
 kin:K.In base
 glob:base.Ns mainGlobals mg
 blt:∃mb,base.Ns builtinsNs mb/\∀x:Str,x≠"__name__" -> mb x=bootBuiltins x
 nolimit:base.NoLimit
structure Cx where
 prog:Program
 w:World
 K:Frag
 mg:MT
 base:Heap
 A:Around
 N:List Str
 s₀:Shared
 H₀:Hp
 env:Env
 outer:List Env
 stack:List Env
 ex:LA
 fn:Str->Bool
 calm:Bool
 pn:PN
 xe:VP
noncomputable def frs(l:List Env):LA:=l.filterMap (·.frame)
abbrev Cx.fs(X:Cx):LA:=frs X.outer
def Vis(sc:Scope)(x:Str):Prop:=sc.names.lookup x=some .local\/sc.names.lookup x=some .cell\/sc.names.lookup x=some .free
def Loc(sc:Scope)(x:Str):Prop:=sc.names.lookup x=some .local\/sc.names.lookup x=some .cell
def Look(env:Env)(h:Heap)(m:MT)(x:Str)(u:Value):Prop:=
 (env.kindOf x=some .local/\m x=some u)\/((env.kindOf x=some .cell\/env.kindOf x=some .free)/\∃c,env.cells.lookup x=some c/\h.IsCell c (some u))
structure Cx.Ok(X:Cx):Prop where
 mod:Mod X.K X.mg X.base
 kind:X.env.scope.kind=.function
 glob:X.env.globals=mainGlobals
 blt:X.env.builtins=builtinsNs
 above:X.s₀.heap.objs.size<=X.env.locals
 inj:∀x y c,X.env.cells.lookup x=some c->X.env.cells.lookup y=some c->x=y
 has:∀x,(X.env.kindOf x=some .cell\/X.env.kindOf x=some .free)->∃c,X.env.cells.lookup x=some c
 cab:∀x c,X.fn x=true->X.env.cells.lookup x=some c->X.s₀.heap.objs.size<=c
 hd:X.calm=true->X.A.handled=none
 frames:X.A.frames=some X.stack
 stk:X.stack=X.outer\/(X.stack=X.env:: X.outer/\X.env.frame=some X.env.locals)
 exf:∀b∈X.ex,b≠X.env.locals/\∀x c,X.env.cells.lookup x=some c->c≠b
 bs:∀b o,X.base.get? b=some o->X.s₀.heap.get? b=some o/\X.H₀ b=none
 bsz:X.base.objs.size<=X.s₀.heap.objs.size
 noex:∀b o,X.base.get? b=some o->b∉X.ex
 exfs:∀b∈X.ex,b∉X.fs
 funs:X.s₀.heap.FunFrames X.base X.outer
 frf:∀b∈X.fs,X.H₀ b=none
structure Inv(X:Cx)(pins:PN)(σ:List (Option V))(H:Hp)(s:Shared):Prop where
 ok:X.Ok
 os:s.os=X.s₀.os
 bare:AllBare s.gens
 base:Un X.fs X.ex X.H₀ H X.s₀.heap s.heap
 loc:∃m,s.heap.Ns X.env.locals m/\∀(i:Nat)(x:Str)(v:V),X.N[i]?=some x->σ[i]?=some (some v)->Vis X.env.scope x->∃u,RelV v u/\Look X.env s.heap m x u
 cell:∀x c,X.env.cells.lookup x=some c->∃v,s.heap.IsCell c v
 free:H X.env.locals=none
 freeC:∀x c,X.env.cells.lookup x=some c->H c=none
 pin:∀p∈X.pn++pins,s.heap.get? p.1=some p.2/\H p.1=none/\p.1≠X.env.locals/\p.1∉X.fs/\∀v,p.2.data≠.cell v
 hok:HOk X.prog X.w H s.heap
 len:σ.length=X.N.length
section
variable {X:Cx} {pins:PN} {σ:List (Option V)} {H H':Hp} {s:Shared} {h':Heap}
theorem Cx.Ok.nofr(ok:X.Ok){b:Addr}{o:Obj}(e:X.base.get? b=some o):b∉X.fs:=λa=>by
 have:=(ok.funs.mem a).1;rw[e]at this;cases this
theorem Inv.bs(I:Inv X pins σ H s):∀b o,X.base.get? b=some o->s.heap.get? b=some o/\H b=none:=λb o e =>
 ⟨I.base.keep b o (I.ok.bs b o e).1 (I.ok.bs b o e).2 (I.ok.nofr e) (I.ok.noex b o e),I.base.free b o (I.ok.bs b o e).1 (I.ok.bs b o e).2 (I.ok.noex b o e)⟩
theorem Inv.bk(I:Inv X pins σ H s):∀b o,X.base.get? b=some o->s.heap.get? b=some o:=λb o e=>(I.bs b o e).1
theorem Inv.mod(I:Inv X pins σ H s):Mod X.K X.mg X.base:=I.ok.mod
theorem Inv.kIn(I:Inv X pins σ H s):X.K.In s.heap:=I.ok.mod.kin.keeps I.bk
theorem Inv.lt(I:Inv X pins σ H s):X.env.locals<s.heap.objs.size:=let ⟨_,a,_⟩:=I.loc;a.lt
theorem Inv.sz(I:Inv X pins σ H s):X.s₀.heap.objs.size<=s.heap.objs.size:=yA I.ok.above (xX I.lt)
theorem Inv.nofs(I:Inv X pins σ H s){a:Addr}(h:s.heap.objs.size<=a):a∉X.fs:=λb=>by
 obtain⟨_,o,c,_⟩:=I.ok.funs.mem b;exact absurd (zF (zO c) (yA I.sz h)) (xH _)
theorem Inv.cne(I:Inv X pins σ H s):∀x c,X.env.cells.lookup x=some c->c≠X.env.locals:=λx c e z=>by
 obtain⟨v,o,a,b⟩:=I.cell x c e;obtain⟨m,⟨g,es,ep,f,d,_⟩,_⟩:=I.loc;rw[z,f]at a;cases a;rw[d]at b;cases b
theorem Inv.funs(I:Inv X pins σ H s):s.heap.FunFrames X.base X.outer:=by
 have all:∀(l:List Env),(∀b∈frs l,b∈X.fs)->X.s₀.heap.FunFrames X.base l->s.heap.FunFrames X.base l:=by
  intro l
  induction l with
  |nil=>intro _ _;trivial
  |cons env r m =>
   intro f hl;obtain⟨j,⟨L,o,a,k,i,g⟩,hr⟩:=hl;have c:L∈X.fs:=f L (by unfold frs;rw[tN,a];exact zV);obtain⟨n,e⟩:=I.base.slot L o i (I.ok.frf L c) c λz=>I.ok.exfs L z c;exact⟨j,⟨L,_,a,k,e,g⟩,m (λb d=>f b (by unfold frs;rw[tN,a];exact zM _ d)) hr⟩
 exact all X.outer (λ_ d=>d) I.ok.funs
theorem Inv.stack(I:Inv X pins σ H s):s.heap.FunFrames X.base X.stack:=by
 rcases I.ok.stk with e|⟨e,b⟩
 ·rw[e];exact I.funs
 ·rw[e];obtain⟨m,a,_⟩:=I.loc;refine .cons (by rw[I.ok.kind];decide) b a ?_ I.funs;exact Heap.get?_none_of_le (yA I.ok.bsz I.ok.above)
theorem Inv.stkSub(I:Inv X pins σ H s):∀b∈frs X.stack,b∈X.env.locals:: X.fs:=λb a=>by
 rcases I.ok.stk with e|⟨e,c⟩
 ·rw[e]at a;exact zM _ a
 ·rw[e]at a;unfold frs at a;rw[tN,c]at a;exact a
theorem Inv.stkFree(I:Inv X pins σ H s):∀b∈frs X.stack,H b=none:=λb a=>by
 rcases xE.mp (I.stkSub b a) with e|a
 ·rw[e];exact I.free
 ·obtain⟨_,o,c,_⟩:=I.ok.funs.mem a;exact I.base.free b o c (I.ok.frf b a) λz=>I.ok.exfs b z a
theorem Inv.step{g':Array GenState}{t':Nat}{d':Drawn}{ch:LA}(I:Inv X pins σ H s)
  (w:∀b∈ch,(b∈X.ex\/X.s₀.heap.objs.size<=b)/\b≠X.env.locals/\(∀x c,X.env.cells.lookup x=some c->c≠b)/\∀p∈X.pn++pins,p.1≠b)
  (F:∀b o,b≠X.env.locals->b∉X.fs->b∉ch->s.heap.get? b=some o->H b=none->h'.get? b=some o)
  (N:∀b o,b≠X.env.locals->b∈X.fs->b∉ch->s.heap.get? b=some o->H b=none->∃G,h'.get? b=some {o with slots:=G})(D:∀b o,b∉ch->s.heap.get? b=some o->H b=none->H' b=none)
  (there:∀b o,b∉ch->s.heap.get? b=some o->∃y,h'.get? b=some y)
  (W:∀b xs,H b=some (.tup xs)->H' b=some (.tup xs))(Z:∀b o u,H b=some (.frz o u)->H' b=some (.frz o u))(T:∀b ps,H b=some (.tbl ps)->∃more,H' b=some (.tbl (ps++more)))
  (ns:∀m,s.heap.Ns X.env.locals m->h'.Ns X.env.locals m)(a0:HOk X.prog X.w H' h')(a2:AllBare g'):
  Inv X pins σ H' {s with heap:=h',gens:=g',drawn:=d',toks:=t'}:=by
 have M:∀b o,X.s₀.heap.get? b=some o->b≠X.env.locals:=λb o e=>yD (zF (zO e) I.ok.above);have C:∀b o,X.s₀.heap.get? b=some o->b∉X.ex->b∉ch:=λb o e a f=>by
  rcases(w b f).1 with z|z
  ·exact a z
  ·exact absurd (zF (zO e) z) (xH _)
 have P:∀x c,X.env.cells.lookup x=some c->∀v,s.heap.IsCell c v->h'.IsCell c v:=λx c e v⟨o,g,J⟩=>by
  have j:c∉ch:=λz=>(w c z).2.2.1 x c e rfl
  by_cases O:c∈X.fs
  ·obtain⟨G,q⟩:=N c o (I.cne x c e) O j g (I.freeC x c e);exact⟨_,q,J⟩
  ·exact⟨o,F c o (I.cne x c e) O j g (I.freeC x c e),J⟩
 refine⟨I.ok,I.os,a2,⟨λb o e n f a=>?_,λb o e n f a=>?_,λb o e n a=>?_,λb o e a=>?_,λb xs e=>W b xs (I.base.tups b xs e),λb o xs e=>Z b o xs (I.base.frzs b o xs e),λb ps e=>?_⟩,?_,λx c e=>?_,?_,λx c e=>?_,λp K=>?_,a0,I.len⟩
 ·exact F b o (M b o e) f (C b o e a) (I.base.keep b o e n f a) (I.base.free b o e n a)
 ·obtain⟨G,e1⟩:=I.base.slot b o e n f a;obtain⟨Y,t⟩:=N b _ (M b o e) f (C b o e a) e1 (I.base.free b o e n a);exact⟨Y,t⟩
 ·obtain⟨y,e1⟩:=I.base.there b o e a;exact D b y (C b o e a) e1 (I.base.free b o e n a)
 ·obtain⟨y,e1⟩:=I.base.there b o e a;exact there b y (C b o e a) e1
 ·obtain⟨a3,e1⟩:=I.base.tbls b ps e;obtain⟨S,t⟩:=T b _ e1;exact⟨a3++S,by rw[t,Array.append_assoc]⟩
 ·obtain⟨m,U,hl⟩:=I.loc;refine⟨m,ns m U,λi x v e1 t a1=>?_⟩;obtain⟨u,r,l⟩:=hl i x v e1 t a1;refine⟨u,r,?_⟩;rcases l with l|⟨k,c,e,z⟩
  ·exact .inl l
  ·exact .inr ⟨k,c,e,P x c e _ z⟩
 ·obtain⟨v,z⟩:=I.cell x c e;exact⟨v,P x c e v z⟩
 ·obtain⟨m,⟨o,_,_,g,_⟩,_⟩:=I.loc;exact D _ o (λz=>(w _ z).2.1 rfl) g I.free
 ·obtain⟨v,o,g,J⟩:=I.cell x c e;exact D c o (λz=>(w c z).2.2.1 x c e rfl) g (I.freeC x c e)
 ·obtain⟨e,n,R,L,d⟩:=I.pin p K;have j:p.1∉ch:=λz=>(w p.1 z).2.2.2 p K rfl;exact⟨F p.1 p.2 R L j e n,D p.1 p.2 j e n,R,L,d⟩
theorem Inv.un{t':Nat}(I:Inv X pins σ H s)(u:Un X.fs [] H H' s.heap h')(k:HOk X.prog X.w H' h'):Inv X pins σ H' {s with heap:=h',toks:=t'}:=by
 obtain⟨m,⟨o,es,ep,c,r⟩,_⟩:=id I.loc;obtain⟨p,j⟩:=u.any c I.free (by simp);exact I.step (g':=s.gens) (d':=s.drawn) (ch:=[]) (λ_ z=>nomatch z) (λb o _ a _ e n=>u.keep b o e n a (by simp)) (λb o _ a _ e n=>u.slot b o e n a (by simp)) (λb o _ e n=>u.free b o e n (by simp)) (λb o _ e=>u.there b o e (by simp)) u.tups u.frzs u.tbls (λt i=>by
  obtain⟨q,f,g,d,l⟩:=i;rw[c]at d;cases d;exact⟨_,f,g,j,l⟩) k I.bare
theorem Inv.call{g':Array GenState}{t':Nat}{d':Drawn}{ch:LA}(I:Inv X pins σ H s)(u:Un (frs X.stack) ch H H' s.heap h')(q:HOk X.prog X.w H' h')(w:AllBare g')
  (f:∀b∈ch,(b∈X.ex\/X.s₀.heap.objs.size<=b)/\b≠X.env.locals/\(∀x c,X.env.cells.lookup x=some c->c≠b)/\∀p∈X.pn++pins,p.1≠b):
  Inv X pins σ H' {s with heap:=h',gens:=g',drawn:=d',toks:=t'}:=by
 obtain⟨m,⟨o,es,ep,g,r⟩,_⟩:=id I.loc;obtain⟨y,d⟩:=u.any g I.free λz=>(f _ z).2.1 rfl;exact I.step (ch:=ch) f (λb o d t a e n=>u.keep b o e n (λz=>(xE.mp (I.stkSub b z)).elim d t) a) (λb o _ _ a e n=>u.any e n a) (λb o a e n=>u.free b o e n a) (λb o a e=>u.there b o e a) u.tups u.frzs u.tbls (λD l=>by
  obtain⟨C,j,k,i,v⟩:=l;rw[g]at i;cases i;exact⟨_,j,k,d,v⟩) q w
theorem Inv.turned{t':Nat}{a:Addr}(I:Inv X pins σ H s)(k:∀b o,b≠a->s.heap.get? b=some o->h'.get? b=some o)(C:H a=none)(f:a≠X.env.locals)
  (y:a∈X.ex\/X.s₀.heap.objs.size<=a)(l:∀x c,X.env.cells.lookup x=some c->c≠a)(w:∀p∈X.pn++pins,p.1≠a):Inv X pins σ H {s with heap:=h',toks:=t'}:=by
 have g:∀b u,H b=some u->b≠a:=λb u e z=>by rw[z,C]at e;cases e
 refine I.step (g':=s.gens) (d':=s.drawn) (ch:=[a]) (λb t=>?_) (λb o _ _ d e _=>k b o (λz=>d (by simp[z])) e) (λb o _ _ d e _=>⟨o.slots,k b o (λz=>d (by simp[z])) e⟩) (λ_ _ _ _ n=>n)
  (λb o d e=>⟨o,k b o (λz=>d (by simp[z])) e⟩) (λ_ _ e=>e) (λ_ _ _ e=>e) (λb ps e=>⟨#[],by rw[e];simp⟩) (λm i=>?_) (λb u e=>?_) I.bare
 ·have e:b=a:=by simpa using t
  subst e;exact⟨y,f,l,w⟩
 ·obtain⟨o,es,ep,j,r⟩:=i;exact⟨o,es,ep,k _ o (zW f) j,r⟩
 ·refine(I.hok b u e).stay (λc v d q=>k c v ?_ q) (λ_ q=>q) λ_ _ q=>q;rcases d with z|z
  ·rw[z];exact g b u e
  ·exact g c _ z
theorem Inv.tok(I:Inv X pins σ H s)(t:Nat):Inv X pins σ H {s with toks:=t}:=I.un (h':=s.heap) (t':=t) Un.refl I.hok
theorem Inv.kept{t':Nat}(I:Inv X pins σ H s)(k:∀b u,s.heap.get? b=some u->h'.get? b=some u):Inv X pins σ H {s with heap:=h',toks:=t'}:=I.un (Un.kept k) (I.hok.kept k)
theorem Inv.laid{a:Addr}{o:HO}{t':Nat}(I:Inv X pins σ H s)(k:∀b u,s.heap.get? b=some u->h'.get? b=some u)(c:s.heap.objs.size<=a)(new:mK X.prog X.w (upd H a o) h' a o):
  Inv X pins σ (upd H a o) {s with heap:=h',toks:=t'}:=I.un (Un.laid k c (I.hok.fresh c)) (I.hok.laid k c new)
theorem Inv.write{x e:Addr}{o:HO}{t':Nat}(I:Inv X pins σ H s)(c:Mut (H x))(a:e=x\/H e=some (.own x))(k:∀b u,b≠e->s.heap.get? b=some u->h'.get? b=some u)(d:∃u,h'.get? e=some u)
  (new:mK X.prog X.w (upd H x o) h' x o):Inv X pins σ (upd H x o) {s with heap:=h',toks:=t'}:=I.un (Un.write c a k d) (I.hok.write c a k d new)
theorem Inv.pins_of{a:PN}(I:Inv X pins σ H s)(h:∀p∈a,s.heap.get? p.1=some p.2/\H p.1=none/\p.1≠X.env.locals/\p.1∉X.fs/\∀v,p.2.data≠.cell v):Inv X a σ H s:=
 ⟨I.ok,I.os,I.bare,I.base,I.loc,I.cell,I.free,I.freeC,λp b=>(pY.mp b).elim (λz=>I.pin p (wC _ z)) (h p),I.hok,I.len⟩
theorem Fv{N:List Str}(c:N.Nodup){i j:Nat}{x:Str}(a:N[i]?=some x)(b:N[j]?=some x):i=j:=by
 obtain⟨f,e1⟩:=oB.mp a;obtain⟨e,d⟩:=oB.mp b;exact(List.getElem_inj c).mp (e1.trans d.symm)
theorem Fu{M:Model}{A:Around}{E:VP}{i:Nat}{x:Str}{v:V}{u:Value}{Q:Unit->Shared->Prop}(I:Inv X pins σ H s)(Z:X.N.Nodup)(hi:X.N[i]?=some x)(l:Loc X.env.scope x)(r:RelV v u)
  (h:∀P,Inv X pins (σ.set i (some v)) H P->(∃a,Heap.SameBut a s.heap P.heap/\(a=X.env.locals\/X.env.cells.lookup x=some a))->Q () P)(b6:X.fn x=true\/X.env.scope.names.lookup x=some .local:=by first|exact .inl rfl|exact .inr rfl|assumption):wpAny M A (storeName X.env x u) Q E s:=by
 obtain⟨m,O,hl⟩:=id I.loc;have b8:(X.env.scope.kind == .class || (X.env.scope.kind == .module && X.env.locals != X.env.globals))=false:=by rw[I.ok.kind];rfl
 have a6:i<σ.length:=by rw[I.len];exact(oB.mp hi).1
 have cne:=I.cne;have a0:∀{a:Addr}{h':Heap},(∃o,s.heap.get? a=some o/\H a=none)->Heap.SameBut a s.heap h'->HOk X.prog X.w H h':=λ{a h'}b2 f b b7 e=>by
  obtain⟨_,_,a2⟩:=b2;refine(I.hok b b7 e).stay (λc F g q=>(f.2 c ?_).trans q) (λ_ q=>q) λ_ _ q=>q;rintro rfl;rcases g with rfl|g
  ·rw[a2]at e;cases e
  ·rw[a2]at g;cases g
 rcases l with w|w
 ·refine wpAny_storeName_local w O (λh' b1 f=>?_) b8;obtain⟨a8,_,_,b5,_⟩:=id O;refine h _ ⟨I.ok,I.os,I.bare,⟨λb o e n C l=>?_,λb o e n C l=>?_,I.base.free,λb o e l=>?_,I.base.tups,I.base.frzs,I.base.tbls⟩,⟨_,b1,λj y T e1 t S=>?_⟩,λy c e=>?_,I.free,I.freeC,λp K=>?_,a0 ⟨a8,b5,I.free⟩ f,by simpa using I.len⟩ ⟨_,f,.inl rfl⟩
  ·exact(f.2 b (yD (zF (zO e) I.ok.above))).trans (I.base.keep b o e n C l)
  ·obtain⟨R,e1⟩:=I.base.slot b o e n C l;exact⟨R,(f.2 b (yD (zF (zO e) I.ok.above))).trans e1⟩
  ·obtain⟨U,e1⟩:=I.base.there b o e l;exact⟨U,(f.2 b (yD (zF (zO e) I.ok.above))).trans e1⟩
  ·by_cases D:j=i
   ·subst D;rw[hi]at e1;cases e1;rw[sZ a6]at t;cases t;exact⟨u,r,.inl ⟨w,by simp⟩⟩
   ·rw[List.getElem?_set_ne (zW D)]at t;obtain⟨W,Y,q⟩:=hl j y T e1 t S;refine⟨W,Y,?_⟩;rcases q with⟨k,e⟩|⟨k,c,e,z⟩
    ·refine .inl ⟨k,?_⟩;have:y≠x:=λe=>D (Fv Z e1 (e ▸ hi));simp[this,e]
    ·exact .inr ⟨k,c,e,z.sameBut f (cne y c e)⟩
  ·obtain⟨F,z⟩:=I.cell y c e;exact⟨F,z.sameBut f (cne y c e)⟩
  ·obtain⟨e,n,J,L,d⟩:=I.pin p K;exact⟨(f.2 p.1 J).trans e,n,J,L,d⟩
 ·have N:X.fn x=true:=by
   rcases b6 with z|z
   ·exact z
   ·rw[z]at w;cases w
  obtain⟨c,g⟩:=I.ok.has x (.inl w);obtain⟨F,z⟩:=I.cell x c g;refine wpAny_storeName_cell I.ok.kind w g z (λh' a1 f=>?_);obtain⟨a5,a4,a9⟩:=id z;refine h {s with heap:=h'} ⟨I.ok,I.os,I.bare,⟨λb o e n C l=>?_,λb o e n C l=>?_,I.base.free,λb o e l=>?_,I.base.tups,I.base.frzs,I.base.tbls⟩,⟨m,O.sameBut f (zW (cne x c g)),λj y T e1 t S=>?_⟩,λy G e=>?_,I.free,I.freeC,λp K=>?_,a0 ⟨a5,a4,I.freeC x c g⟩ f,by simpa using I.len⟩ ⟨c,f,.inr g⟩
  ·exact(f.2 b (yD (zF (zO e) (I.ok.cab x c N g)))).trans (I.base.keep b o e n C l)
  ·obtain⟨R,e1⟩:=I.base.slot b o e n C l;exact⟨R,(f.2 b (yD (zF (zO e) (I.ok.cab x c N g)))).trans e1⟩
  ·obtain⟨U,e1⟩:=I.base.there b o e l;exact⟨U,(f.2 b (yD (zF (zO e) (I.ok.cab x c N g)))).trans e1⟩
  ·by_cases D:j=i
   ·subst D;rw[hi]at e1;cases e1;rw[sZ a6]at t;cases t;exact⟨u,r,.inr ⟨.inl w,c,g,a1⟩⟩
   ·rw[List.getElem?_set_ne (zW D)]at t;obtain⟨W,Y,q⟩:=hl j y T e1 t S;refine⟨W,Y,?_⟩;rcases q with q|⟨k,G,e,b0⟩
    ·exact .inl q
    ·refine .inr ⟨k,G,e,b0.sameBut f ?_⟩;rintro rfl;exact D (Fv Z e1 (I.ok.inj _ _ _ e g ▸ hi))
  ·by_cases a3:G=c
   ·subst a3;exact⟨_,a1⟩
   ·obtain⟨a7,b3⟩:=I.cell y G e;exact⟨a7,b3.sameBut f a3⟩
  ·obtain⟨e,n,J,L,d⟩:=I.pin p K;refine⟨(f.2 p.1 ?_).trans e,n,J,L,d⟩;intro q;rw[q,a4]at e;have b4:a5=p.2:=zU e;exact d F (by rw[←b4];exact a9)
theorem dF{M:Model}{A:Around}{E:VP}{i:Nat}{x:Str}{v:V}{u:Value}{Q:Unit->Shared->Prop}(I:Inv X pins σ H s)(e:X.N.Nodup)(hi:X.N[i]?=some x)(d:Loc X.env.scope x)(r:RelV v u)
  (h:∀a,Inv X pins (σ.set i (some v)) H a->Q () a)(b:X.fn x=true\/X.env.scope.names.lookup x=some .local:=by first|exact .inl rfl|exact .inr rfl|assumption):wpAny M A (storeName X.env x u) Q E s:=
 Fu I e hi d r (λa c _=>h a c) b
theorem Inv.call'{a:Shared}{ch:LA}(I:Inv X pins σ H s)(g:a.os=s.os)(u:Un (frs X.stack) ch H H' s.heap a.heap)(i:HOk X.prog X.w H' a.heap)(j:AllBare a.gens)
  (f:∀b∈ch,(b∈X.ex\/X.s₀.heap.objs.size<=b)/\b≠X.env.locals/\(∀x c,X.env.cells.lookup x=some c->c≠b)/\∀p∈X.pn++pins,p.1≠b):Inv X pins σ H' a:=by
 obtain⟨h',g',d',t',d⟩:=a;have e:d=s.os:=g;subst e;exact I.call (g':=g') (t':=t') (d':=d') u i j f
end
abbrev XK:=Value->Option Addr->Hp->Prop
abbrev St:=List (Option V)
abbrev VK:=V->Hp->Prop
abbrev TE:=St->Hp->VK->Prop
abbrev TT:=St->Hp->(Bool->Hp->Prop)->Prop
abbrev TA:=St->Hp->(List V->Hp->Prop)->Prop
structure Ends where
 nx:St->Hp->Prop
 rt:VK
 bk:St->Hp->Prop:=λ_ _=>False
 ct:St->Hp->Prop:=λ_ _=>False
abbrev TS:=Ends->St->Hp->Prop
def EP(X:Cx)(pins:PN)(σ:St)(Q:VK)(u:Value)(s':Shared):Prop:=∃v H',Inv X pins σ H' s'/\RelV v u/\Q v H'
def TP(X:Cx)(pins:PN)(σ:St)(Q:Bool->Hp->Prop)(b:Bool)(s':Shared):Prop:=∃H',Inv X pins σ H' s'/\Q b H'
def AP(X:Cx)(pins:PN)(σ:St)(Q:List V->Hp->Prop)(us:LW)(s':Shared):Prop:=∃vs H',Inv X pins σ H' s'/\Vals vs us/\Q vs H'
def SP(X:Cx)(pins:PN)(D:Ends)(f:Flow)(s':Shared):Prop:=
 match f with
 |.next=>∃σ' H',Inv X pins σ' H' s'/\D.nx σ' H'
 |.brk=>∃σ' H',Inv X pins σ' H' s'/\D.bk σ' H'
 |.cont=>∃σ' H',Inv X pins σ' H' s'/\D.ct σ' H'
 |.ret u=>∃v σ' H',Inv X pins σ' H' s'/\RelV v u/\D.rt v H'
def PE(X:Cx)(e:Expr)(t:TE):Prop:=
 ∀(pins:PN)(s:Shared)(σ:St)(H:Hp)(Q:VK),Inv X pins σ H s->t σ H Q->wpAny (model X.prog X.w) X.A (eval e X.env) (EP X pins σ Q) X.xe s
def PT(X:Cx)(e:Expr)(t:TT):Prop:=
 ∀(pins:PN)(s:Shared)(σ:St)(H:Hp)(Q:Bool->Hp->Prop),Inv X pins σ H s->t σ H Q->wpAny (model X.prog X.w) X.A (isTrue e X.env (eval e X.env)) (TP X pins σ Q) X.xe s
def PW(X:Cx)(e:Expr)(t:TT):Prop:=
 ∀(whole:Sem Value)(pins:PN)(s:Shared)(σ:St)(H:Hp)(Q:Bool->Hp->Prop),Inv X pins σ H s->t σ H Q->wpAny (model X.prog X.w) X.A (isTrue e X.env whole) (TP X pins σ Q) X.xe s
theorem PW.pt{X:Cx}{e:Expr}{t:TT}(h:PW X e t):PT X e t:=h _
def PA(X:Cx)(es:List Expr)(t:TA):Prop:=
 ∀(pos:Pos)(pins:PN)(s:Shared)(σ:St)(H:Hp)(Q:List V->Hp->Prop),Inv X pins σ H s->t σ H Q->wpAny (model X.prog X.w) X.A (spliced (backTo pos (starEach es X.env))) (AP X pins σ Q) X.xe s
def PS(X:Cx)(st:Stmt)(t:TS):Prop:=
 ∀(pins:PN)(s:Shared)(σ:St)(H:Hp)(D:Ends),Inv X pins σ H s->t D σ H->wpAny (model X.prog X.w) X.A (exec st X.env) (SP X pins D) X.xe s
def PSs(X:Cx)(st:List Stmt)(t:TS):Prop:=
 ∀(pins:PN)(s:Shared)(σ:St)(H:Hp)(D:Ends),Inv X pins σ H s->t D σ H->wpAny (model X.prog X.w) X.A (execs st X.env) (SP X pins D) X.xe s
theorem thn{c:Type}{b:Sem c}{Q d:c->Shared->Prop}{M:Model}{A:Around}{E:VP}{s:Shared}(h:wpAny M A b Q E s)(e:∀a s,Q a s->d a s):wpAny M A b d E s:=xS h e λ_ _ x=>x
section
variable {X:Cx}
def tVar(i:Nat):TE:=λσ H Q=>∃v,σ[i]?=some (some v)/\Q v H
def tC(v:V):TE:=λ_ H Q=>Q v H
theorem Ft{i:Nat}{x:Str}{j:Pos}(n:X.N[i]?=some x)(t:Vis X.env.scope x)(b:(x == ("__debug__" :Str))=false:=by decide)(q:(x == ("__classdict__" :Str))=false:=by decide):PE X (.Name x j) (tVar i):=by
 intro o s σ H Q I h;obtain⟨v,e,h⟩:=h;obtain⟨m,p,hl⟩:=I.loc;obtain⟨u,r,l⟩:=hl i x v n e t;have d:EP X o σ Q u s:=⟨v,H,I,r,h⟩;rcases l with⟨a,k⟩|⟨a,c,f,g⟩
 ·exact wpAny_Name (wpAny_loadName_local I.ok.kind a p k d) b
 ·rcases a with a|a
  ·exact wpAny_Name (wpAny_loadName_cell I.ok.kind a f g d) b
  ·exact wpAny_Name (wpAny_loadName_free I.ok.kind a f g d q) b
theorem oR{i j a}:PE X (.Constant (.int i) j a) (tC (.int i)):=λ_ _ _ H _ I h=>wpAny_Constant_int ⟨.int i,H,I.tok _,⟨_,rfl⟩,h⟩
theorem bE{b j a}:PE X (.Constant (.bool b) j a) (tC (.bl b)):=λ_ _ _ H _ I h=>Constant_bool ⟨.bl b,H,I,rfl,h⟩
theorem Fs{j a}:PE X (.Constant .none j a) (tC .non):=λ_ _ _ H _ I h=>Constant_none ⟨.non,H,I,rfl,h⟩
theorem fJ{x j a}:PE X (.Constant (.str x) j a) (tC (.str x)):=λ_ _ _ H _ I h=>Calls.Constant_str ⟨.str x,H,I.tok _,⟨_,rfl⟩,h⟩
def Gl(X:Cx)(x:Str):Prop:=X.env.kindOf x=some .globalImplicit
theorem bF{E:VP}{c:PN}{s:Shared}{σ:St}{H:Hp}{x:Str}{u:Value}{a:Pos}{Q:VP}(I:Inv X c σ H s)(e:Gl X x)(b:X.mg x=some u)(h:Q u s)
  (d:(x == ("__debug__" :Str))=false:=by decide):wpAny (model X.prog X.w) X.A (eval (.Name x a) X.env) Q E s:=
 Calls.Name_function_global I.ok.kind e (Calls.loadGlobal_global (by rw[I.ok.glob];exact I.mod.glob.keeps I.bk) b h) d
theorem gO{E:VP}{e:PN}{s:Shared}{σ:St}{H:Hp}{x:Str}{u:Value}{a:Pos}{Q:VP}(I:Inv X e σ H s)(f:Gl X x)(b:X.mg x=none)(j:bootBuiltins x=some u)(h:Q u s)
  (i:x≠"__name__" := by decide)(c:(x == ("__debug__" :Str))=false:=by decide):wpAny (model X.prog X.w) X.A (eval (.Name x a) X.env) Q E s:=by
 obtain⟨k,g,d⟩:=I.mod.blt;exact Calls.Name_function_global I.ok.kind f (Calls.loadGlobal_builtin (by rw[I.ok.glob];exact I.mod.glob.keeps I.bk) b (by rw[I.ok.blt];exact g.keeps I.bk) ((d x i).trans j) h) c
theorem Nt{x:Str}{v:V}{u:Value}{b:Pos}(d:Gl X x)(c:X.mg x=some u)(r:RelV v u)(a:(x == ("__debug__" :Str))=false:=by decide):PE X (.Name x b) (tC v):=
 λ_ _ _ H _ I h=>bF I d c ⟨v,H,I,r,h⟩ a
theorem bG{x:Str}{v:V}{u:Value}{a:Pos}(f:Gl X x)(b:X.mg x=none)(e:bootBuiltins x=some u)(r:RelV v u)(c:x≠"__name__" := by decide)(d:(x == ("__debug__" :Str))=false:=by decide):PE X (.Name x a) (tC v):=
 λ_ _ _ H _ I h=>gO I f b e ⟨v,H,I,r,h⟩ c d
variable {a b:Expr} {ta tb:TE} {pos:Pos}
def tB(t:TE):TT:=λσ H Q=>t σ H λx H1=>∃c,x=.bl c/\Q c H1
theorem fK{e:Expr}{f:TE}(h:PE X e f)(i:∀c,isTrue e X.env c=(do let v ←c;standAt e.pos;holding [v] (truthy v)):=by intro _;rfl):PT X e (tB f):=by
 intro m s σ H Q I j;refine isTrue_plain (thn (h m s σ H _ I j) ?_) (i _);rintro v o ⟨x,k,n,g,l⟩;obtain⟨d,rfl,q⟩:=l;cases g;exact uO ⟨k,n,q⟩
variable {tA tB':TT} {rest:List Expr}
def tAnd(t u:TT):TT:=λσ H Q=>t σ H λc H1=>if c=true then u σ H1 Q else Q false H1
def tOr(t u:TT):TT:=λσ H Q=>t σ H λc H1=>if c=true then Q true H1 else u σ H1 Q
def tNot(t:TT):TT:=λσ H Q=>t σ H λc H1=>Q (!c) H1
theorem fL(f:PT X a tA):PW X (.BoolOp .Or [a] pos) tA:=by
 intro g d s σ H Q I h;refine isTrue_or (thn (f d s σ H Q I h) λc i e=>?_);cases c with
 |false=>exact isTrue_or_nil e
 |true=>exact e
theorem fM(l:PT X a tA)(k:PW X (.BoolOp .Or (b:: rest) pos) tB'):PW X (.BoolOp .Or (a:: b:: rest) pos) (tOr tA tB'):=by
 intro i f s σ H Q I h;refine isTrue_or (thn (l f s σ H _ I h) ?_);rintro c j ⟨d,g,e⟩;cases c with
 |true=>exact⟨d,g,e⟩
 |false=>exact k i f j σ d Q g e
theorem By(f:PT X a tA):PT X (.UnaryOp .Not a pos) (tNot tA):=by
 intro e s σ H Q I h;exact isTrue_not (f e s σ H (λc d=>Q (!c) d) I h)
def Nr(ta tb:TE):TE:=λσ H Q=>ta σ H λx H1=>∃c,x=.bl c/\if c=true then tb σ H1 Q else Q (.bl false) H1
def tOrV(ta tb:TE):TE:=λσ H Q=>ta σ H λx H1=>∃c,x=.bl c/\if c=true then Q (.bl true) H1 else tb σ H1 Q
def Nq(ta:TE):TE:=λσ H Q=>ta σ H λx H1=>∃c,x=.bl c/\Q (.bl (!c)) H1
theorem Np{op}{c:TE}(h:PE X a c):PE X (.BoolOp op [a] pos) c:=λd s σ H Q I e=>BoolOp_one (h d s σ H Q I e)
theorem No(l:PE X a ta)(k:PE X (.BoolOp .And (b:: rest) pos) tb):PE X (.BoolOp .And (a:: b:: rest) pos) (Nr ta tb):=by
 intro f s σ H Q I h;refine BoolOp_and (thn (l f s σ H _ I h) ?_);rintro v j ⟨x,e,g,i,d⟩;obtain⟨c,rfl,d⟩:=d;cases i;refine uO ?_;cases c with
 |true=>exact k f j σ e Q g d
 |false=>exact⟨.bl false,e,g,rfl,d⟩
theorem Nn(j:PE X a ta):PE X (.UnaryOp .Not a pos) (Nq ta):=by
 intro g s σ H Q I h;refine UnaryOp_ (thn (j g s σ H _ I h) ?_);rintro v k ⟨x,f,i,e,d⟩;obtain⟨c,rfl,d⟩:=d;cases e;exact not_of (uO ⟨.bl (!c),f,i,rfl,d⟩)
def tIf(t:TT)(ta tb:TE):TE:=λσ H Q=>t σ H λc H1=>if c=true then ta σ H1 Q else tb σ H1 Q
theorem Fr{c:Expr}(k:PT X c tA)(m:PE X a ta)(l:PE X b tb):PE X (.IfExp c a b pos) (tIf tA ta tb):=by
 intro e s σ H Q I h;refine wpAny_IfExp (thn (k e s σ H _ I h) ?_);rintro d g ⟨f,j,i⟩;cases d with
 |true=>exact m e g σ f Q j i
 |false=>exact l e g σ f Q j i
end
def SqL(K:Frag)(H:Hp)(a:Addr)(xs:List V):Prop:=
 Rd H a (.lst xs) \/
  ∃(o:Obj)(its:Array Value)(n:Nat),K.lookup a=some o/\o.cls=.type "list" /\ o.dict=none/\o.data=.seq its n/\its.size<=sizeLine/\Vals xs its.toList
def SqT(K:Frag)(H:Hp)(a:Addr)(xs:List V):Prop:=
 Rd H a (.tup xs) \/
  ∃(o:Obj)(its:Array Value)(n:Nat),K.lookup a=some o/\o.cls=.type "tuple" /\ o.data=.seq its n/\its.size<=sizeLine/\Vals xs its.toList
noncomputable def absV:Value->Option V
 |.none=>some .non
 |.bool b=>some (.bl b)
 |.int i _=>some (.int i)
 |.str x _=>some (.str x)
 |.bytes b _=>some (.byt b)
 |.float b _=>some (.flt b)
 |.ref a=>some (.ref a)
 |.type n=>some (.ty n)
 |_=>none
theorem RelV.abs{x:V}{u:Value}(r:RelV x u):absV u=some x:=by
 cases x with
 |non=>cases r;rfl
 |bl _=>cases r;rfl
 |int _=>obtain⟨t,rfl⟩:=r;rfl
 |str _=>obtain⟨t,rfl⟩:=r;rfl
 |byt _=>obtain⟨t,rfl⟩:=r;rfl
 |flt _=>obtain⟨t,rfl⟩:=r;rfl
 |ref _=>cases r;rfl
 |ty _=>cases r;rfl
theorem RelV.inj{x y:V}{u:Value}(r:RelV x u)(q:RelV y u):x=y:=zU (r.abs.symm.trans q.abs)
theorem Vals.inj:∀{xs ys:List V}{us:LW},Vals xs us->Vals ys us->xs=ys
 |_,_,_,.nil,.nil=>rfl
 |_,_,_,.cons r a,.cons b t'=>by rw[r.inj b,Vals.inj a t']
section
variable {X:Cx} {pins:PN} {σ:St} {H:Hp} {s:Shared} {a:Addr} {xs ys:List V}
theorem SqL.of{K:Frag}(h:H a=some (.lst xs)):SqL K H a xs:=.inl (.inl h)
theorem SqT.of{K:Frag}(h:H a=some (.tup xs)):SqT K H a xs:=.inl (.inl h)
theorem Inv.list(I:Inv X pins σ H s)(h:SqL X.K H a xs):∃its:LW,Vals xs its/\PlainL s.heap a its.toArray/\xs.length<=sizeLine:=by
 rcases h with h|⟨o,its,n,c,b,d,f,g,r⟩
 ·obtain⟨z,its,n,r,e⟩:=h.ok I.hok;exact⟨its,r,⟨_,n,e,rfl,rfl,rfl⟩,z⟩
 ·refine⟨its.toList,r,⟨o,n,I.kIn a o c,b,d,by simpa using f⟩,?_⟩;have e:=r.length;simp only[Array.length_toList]at e;omega
theorem Inv.tuple(I:Inv X pins σ H s)(h:SqT X.K H a xs):∃its:LW,Vals xs its/\IsTup s.heap a its.toArray/\xs.length<=sizeLine:=by
 rcases h with h|⟨o,its,n,c,d,b,f,r⟩
 ·obtain⟨z,its,r,p⟩:=h.ok I.hok;exact⟨its,r,p,z⟩
 ·refine⟨its.toList,r,⟨o,I.kIn a o c,d,n,by simpa using b⟩,?_⟩;have e:=r.length;simp only[Array.length_toList]at e;omega
theorem Inv.list_inj(I:Inv X pins σ H s)(h:SqL X.K H a xs)(h':SqL X.K H a ys):xs=ys:=by
 obtain⟨its,r,⟨o,n,e,_,_,d⟩,_⟩:=I.list h;obtain⟨its',f,⟨i,g,b,_,_,d'⟩,_⟩:=I.list h';rw[e]at b;cases b;rw[d]at d';injection d' with c _;have:its=its':=by simpa using wH Array.toList c
 subst this;exact r.inj f
theorem Inv.tuple_inj(I:Inv X pins σ H s)(h:SqT X.K H a xs)(h':SqT X.K H a ys):xs=ys:=by
 obtain⟨its,r,⟨o,e,_,n,d⟩,_⟩:=I.tuple h;obtain⟨its',f,⟨i,b,_,g,d'⟩,_⟩:=I.tuple h';rw[e]at b;cases b;rw[d]at d';injection d' with c _;have:its=its':=by simpa using wH Array.toList c
 subst this;exact r.inj f
end
noncomputable abbrev Cx.wish(X:Cx)(E:VP):Cx:={X with xe:=E}
abbrev Cx.nox(X:Cx):Cx:=X.wish λ_ _=>False
theorem Cx.Ok.wish{X:Cx}(ok:X.Ok)(E:VP):(X.wish E).Ok:=
 ⟨ok.mod,ok.kind,ok.glob,ok.blt,ok.above,ok.inj,ok.has,ok.cab,ok.hd,ok.frames,ok.stk,ok.exf,ok.bs,ok.bsz,ok.noex,ok.exfs,ok.funs,ok.frf⟩
theorem Cx.Ok.unwish{X:Cx}{E:VP}(ok:(X.wish E).Ok):X.Ok:=
 ⟨ok.mod,ok.kind,ok.glob,ok.blt,ok.above,ok.inj,ok.has,ok.cab,ok.hd,ok.frames,ok.stk,ok.exf,ok.bs,ok.bsz,ok.noex,ok.exfs,ok.funs,ok.frf⟩
section
variable {X:Cx} {pins:PN} {σ:St} {H:Hp} {s:Shared} {E:VP}
theorem Inv.wish(I:Inv X pins σ H s)(E:VP):Inv (X.wish E) pins σ H s:=⟨I.ok.wish E,I.os,I.bare,I.base,I.loc,I.cell,I.free,I.freeC,I.pin,I.hok,I.len⟩
theorem Inv.unwish(I:Inv (X.wish E) pins σ H s):Inv X pins σ H s:=⟨I.ok.unwish,I.os,I.bare,I.base,I.loc,I.cell,I.free,I.freeC,I.pin,I.hok,I.len⟩
theorem SP.unwish{D:Ends}{f:Flow}{b:Shared}(h:SP (X.wish E) pins D f b):SP X pins D f b:=by
 cases f with
 |next=>obtain⟨a,H',I,q⟩:=h;exact⟨a,H',I.unwish,q⟩
 |brk=>obtain⟨a,H',I,q⟩:=h;exact⟨a,H',I.unwish,q⟩
 |cont=>obtain⟨a,H',I,q⟩:=h;exact⟨a,H',I.unwish,q⟩
 |ret u=>obtain⟨v,a,H',I,r,q⟩:=h;exact⟨v,a,H',I.unwish,r,q⟩
theorem PSs.nox{st:List Stmt}{a:TS}(h:PSs X.nox st a):PSs X st a:=λpins s σ H D I b =>
 xS (h pins s σ H D (I.wish _) b) (λ_ _ q=>q.unwish) λ_ _ z=>False.elim z
end
section
variable {X:Cx} {st:Stmt} {rest:List Stmt} {t u:TS} {e:Expr} {te:TE} {pos:Pos}
def Fq:TS:=λD σ H=>D.nx σ H
def tSeq(t u:TS):TS:=λD σ H=>t {D with nx:=u D} σ H
theorem mB:PSs X [] Fq:=λ_ _ σ H _ I h=>rN ⟨σ,H,I,h⟩
theorem oM(g:PS X st t)(d:PSs X rest u):PSs X (st:: rest) (tSeq t u):=by
 intro a s σ H D I h;refine wpAny_execs_cons (thn (g a s σ H {D with nx:=u D} I h) λf c q=>?_);cases f with
 |next =>
  obtain⟨i,H',b,q⟩:=q;exact d a c i H' D b q
 |ret v=>exact q
 |brk=>exact q
 |cont=>exact q
theorem oO(b:PS X st t):PSs X [st] t:=by
 intro a s σ H D I h;refine wpAny_execs_cons (thn (b a s σ H D I h) λf c q=>?_);cases f with
 |next=>exact rN q
 |ret v=>exact q
 |brk=>exact q
 |cont=>exact q
theorem Inv.quiet{a:PN}{σ:St}{H:Hp}{s:Shared}(I:Inv X a σ H s):interactive X.env=false:=by simp[interactive,I.ok.kind]
def Fp(te:TE):TS:=λD σ H=>te σ H λ_ H1=>D.nx σ H1
theorem lP(a:PE X e te)(g:swapsWith e none pos.line X.env=pure false:=by rfl):PS X (.Expr e pos) (Fp te):=by
 intro d s σ H D I h;exact wpAny_Expr_any (thn (a d s σ H _ I h) λv j⟨x,b,f,i,c⟩=>⟨σ,b,f,c⟩) I.quiet g
def tRet(te:TE):TS:=λD σ H=>te σ H D.rt
theorem nB(b:PE X e te):PS X (.Return (some e) pos) (tRet te):=by
 intro f s σ H D I h;exact wpAny_Return_some (thn (b f s σ H _ I h) λv i⟨x,c,g,a,d⟩=>⟨x,σ,c,g,a,d⟩)
def t_M:TS:=λD _ H=>D.rt .non H
def tIfS(c:TT)(t u:TS):TS:=λD σ H=>c σ H λb H1=>if b=true then t D σ H1 else u D σ H1
theorem nV{c:Expr}{a b:List Stmt}{g:TT}(m:PT X c g)(o:PSs X a t)(n:PSs X b u):PS X (.If c a b pos) (tIfS g t u):=by
 intro f s σ H D I h;refine wpAny_If (thn (m f s σ H _ I h) ?_);rintro d j ⟨i,l,k⟩;cases d with
 |true=>exact o f j σ i D l k
 |false=>exact n f j σ i D l k
def Nm:TS:=λ_ _ _=>False
theorem jJ:PS X st Nm:=λ_ _ _ _ _ _ h=>h.elim
end
abbrev TG:=V->St->Hp->(St->Hp->Prop)->Prop
abbrev TGs:=List V->St->Hp->(St->Hp->Prop)->Prop
def PG(X:Cx)(target:Expr)(t:TG):Prop:=
 ∀(pins:PN)(s:Shared)(σ:St)(H:Hp)(v:V)(u:Value)(Q:St->Hp->Prop),Inv X pins σ H s->RelV v u->t v σ H Q ->
  wpAny (model X.prog X.w) X.A (assign target X.env u) (λ_ s'=>∃σ' H',Inv X pins σ' H' s'/\Q σ' H') X.xe s
def PGs(X:Cx)(ts:List Expr)(t:TGs):Prop:=
 ∀(pins:PN)(s:Shared)(σ:St)(H:Hp)(vs:List V)(us:LW)(Q:St->Hp->Prop),Inv X pins σ H s->Vals vs us->t vs σ H Q ->
  wpAny (model X.prog X.w) X.A (assignInOrder ((assignEach ts X.env).map (·.2)) us) (λ_ s'=>∃σ' H',Inv X pins σ' H' s'/\Q σ' H') X.xe s
abbrev TSet:=V->V->V->Hp->(Hp->Prop)->Prop
def PSet(X:Cx)(t:TSet):Prop:=
 ∀(pins:PN)(s:Shared)(σ:St)(H:Hp)(o i v:V)(ov iv u:Value)(Q:Hp->Prop),Inv X pins σ H s->RelV o ov->RelV i iv->RelV v u->t o i v H Q ->
  wpAny (model X.prog X.w) X.A (setItem ov iv u) (λ_ s'=>∃H',Inv X pins σ H' s'/\Q H') X.xe s
abbrev TIp:=V->V->Hp->VK->Prop
def PIp(X:Cx)(op:Operator)(t:TIp):Prop:=
 ∀(pins:PN)(s:Shared)(σ:St)(H:Hp)(x y:V)(v u:Value)(Q:VK),Inv X pins σ H s->RelV x v->RelV y u->t x y H Q ->
  wpAny (model X.prog X.w) X.A (inplaceOp op v u) (EP X pins σ Q) X.xe s
section
variable {X:Cx} {pos:Pos}
def oV(i:Nat):TG:=λv σ H Q=>Q (σ.set i (some v)) H
theorem nL{i:Nat}{x:Str}(d:X.N.Nodup)(hi:X.N[i]?=some x)(c:Loc X.env.scope x)(a:X.fn x=true\/X.env.scope.names.lookup x=some .local:=by first|exact .inl rfl|exact .inr rfl|assumption):PG X (.Name x pos) (oV i):=by
 intro f s σ H v u Q I r h;exact wpAny_assign_Name (dF I d hi c r (λe b=>⟨_,H,b,h⟩) a)
def gNil:TGs:=λvs σ H Q=>vs=[]/\Q σ H
def nR(t:TG)(u:TGs):TGs:=λvs σ H Q=>∃v r,vs=v:: r/\t v σ H λσ' H'=>u r σ' H' Q
theorem lQ:PGs X [] gNil:=by
 intro a s σ H vs us Q I r h;obtain⟨e,h⟩:=h;subst e;cases r;exact assignInOrder_nil ⟨σ,H,I,h⟩
theorem nO{e:Expr}{es:List Expr}{b:TG}{u:TGs}(k:PG X e b)(l:PGs X es u)
  (m:(assignEach (e:: es) X.env).map (·.2)=assign e X.env:: (assignEach es X.env).map (·.2):=by rfl):PGs X (e:: es) (nR b u):=by
 intro a s σ H vs us Q I r h;obtain⟨v,n,e1,h⟩:=h;subst e1;cases r with
 |cons r d =>
  rw[m];refine qK (thn (k a s σ H _ _ _ I r h) ?_);rintro _ g ⟨c,f,j,i⟩;exact l a g c f _ _ Q j d i
def gTup(K:Frag)(n:Nat)(t:TGs):TG:=λv σ H Q=>∃a xs,v=.ref a/\SqT K H a xs/\xs.length=n/\t xs σ H Q
theorem lR{es:List Expr}{k:Nat}{g:TGs}{n:Nat}(j:X.calm=true)(h:PGs X es g)
  (q:(assignEach es X.env).length=n:=by rfl)(i:(assignEach es X.env).findIdx? (·.1)=none:=by rfl):PG X (.Tuple es k pos) (gTup X.K n g):=by
 intro f s σ H v u Q I r c;obtain⟨a,xs,e1,l,hl,c⟩:=c;subst e1;cases r;obtain⟨its,d,t,w⟩:=I.tuple l;refine assign_Tuple_tuple (I.ok.hd j) t (by simp[q,←hl,d.length]) i λh' m=>?_;have p:Inv X f σ H {s with heap:=h'}:=I.kept (t':=s.toks) λb o e=>m b o (yD (zO e)) e;exact h f _ σ H xs _ Q p (by simpa using d) c
def gSub(to ti:TE)(t:TSet):TG:=λv σ H Q=>to σ H λo H1=>ti σ H1 λi H2=>t o i v H2 λH3=>Q σ H3
theorem dG{o i:Expr}{f d:TE}{e:TSet}(q:PE X o f)(hi:PE X i d)(m:PSet X e)
  (l:∀v,assign (.Subscript o i pos) X.env v=(do
   let a ←holding [v] (eval o X.env)
   let b ←holding [v,a] (eval i X.env)
   standAt pos
   holding [v,a,b] (setItem a b v)
   release [v,a,b] []):=by intro _;rfl):PG X (.Subscript o i pos) (gSub f d e):=by
 intro c s σ H v u Q I r h;rw[l];refine zA (xU (thn (q c s σ H _ I h) ?_));rintro a g ⟨x,z,w,n,j⟩;refine zA (xU (thn (hi c g σ z _ w j) ?_));rintro b k ⟨y,p,J,t,F⟩;refine zA (tJ (zA (xU (thn (m c k σ p x y v a b u _ J n t r F) ?_))));rintro _ K ⟨C,D,G⟩;exact wpAny_release ⟨σ,C,D,G⟩
def tAsg(te:TE)(g:TG):TS:=λD σ H=>te σ H λx H1=>g x σ H1 D.nx
theorem jU{a e:Expr}{te:TE}{g:TG}(d:PE X e te)(o:PG X a g)(n:swapsWithSole [a] e pos.line X.env=pure false:=by rfl)(f:swappedStores [a] e X.env=pure none:=by rfl)
  (m:(assignEach [a] X.env).map (·.2)=[assign a X.env]:=by rfl):PS X (.Assign [a] e pos) (tAsg te g):=by
 intro b s σ H D I h;refine wpAny_Assign_stores (thn (d b s σ H _ I h) ?_) n f;rintro v j ⟨x,i,l,c,k⟩;rw[m];exact thn (o b j σ i x v _ l c k) λ_ p q=>q
theorem oX{i:Nat}{x:Str}{e:Expr}{te:TE}{a:Pos}(k:X.N.Nodup)(hi:X.N[i]?=some x)(g:Loc X.env.scope x)(b:PE X e te)(o:swapsWith e (some (.Name x a)) pos.line X.env=pure false:=by rfl)(d:X.fn x=true\/X.env.scope.names.lookup x=some .local:=by first|exact .inl rfl|exact .inr rfl|assumption):
  PS X (.Assign [.Name x a] e pos) (tAsg te (oV i)):=by
 intro l s σ H D I h;refine wpAny_Assign_Name (thn (b l s σ H _ I h) ?_) o;rintro v p ⟨y,f,m,c,j⟩;exact dF m k hi g c (λq n=>⟨_,f,n,j⟩) d
def tPar(i j:Nat)(ta:TA):TS:=λD σ H=>ta σ H λvs H1=>∃v w,vs=[v,w]/\D.nx ((σ.set i (some v)).set j (some w)) H1
theorem Nl{i j:Nat}{x y:Str}{a b:Expr}{ta:TA}{g k pt:Pos}{l k2 n}(N:X.calm=true)(t:X.N.Nodup)(hi:X.N[i]?=some x)(Z:X.N[j]?=some y)(V:i≠j)
  (r:X.env.scope.names.lookup x=some .local)(C:X.env.scope.names.lookup y=some .local)(K:PA X [a,b] ta)
  (G:swappedStores [.Tuple [.Name x g,.Name y k] l pt] (.Tuple [a,b] k2 n) X.env=pure (some [x,y]))
  (L:swapsWithSole [.Tuple [.Name x g,.Name y k] l pt] (.Tuple [a,b] k2 n) pos.line X.env=pure false:=by rfl):
  PS X (.Assign [.Tuple [.Name x g,.Name y k] l pt] (.Tuple [a,b] k2 n) pos) (tPar i j ta):=by
 intro u s σ H D I h;rw[exec_Assign_arm];refine zA (tJ ?_);rw[L];refine zA (zB ?_);rw[zI ∅];refine zA (Tuple_ (thn (K _ u s σ H _ I h) ?_));rintro us c ⟨vs,F,S,M,m⟩;obtain⟨v,w,e1,m⟩:=m;subst e1;obtain⟨f,d,rfl,P,O⟩:∃f d,us=[f,d]/\RelV v f/\RelV w d:=by
  cases M with
  | cons p q =>
   cases q with
   |cons T R =>
    cases R;exact⟨_,_,rfl,p,T⟩
 refine yX ?_ (by show 2<=sizeLine;decide);have Y:Inv X u σ F {c with heap:=c.heap.push {cls:=.type "tuple",data:=.seq [f,d].toArray}}:=S.kept (t':=c.toks) λb o e=>zD _ e;rw[G];refine zA (zB ?_);show wpAny (model X.prog X.w) X.A (do rule "assign.swapped-stores";let items ←unpackItems (.ref c.heap.objs.size) 2 none;assignInOrder [λv=>bindName X.env y v,λv=>bindName X.env x v] items.reverse;pure Flow.next) _ _ _;refine zA (wX (zA (unpackItems_tuple (items:=#[f,d]) (I.ok.hd N) (IsTup.new c.heap _) λh' U=>?_)));have W:=Y.kept (h':=h') (t':=c.toks) λb o e=>U b o (yD (zO e)) e;show wpAny _ _ (assignInOrder [λv=>bindName X.env y v,λv=>bindName X.env x v] [d,f] >>= λ_=>pure Flow.next) _ _ _;refine zA (qK (wpAny_bindName (dF W t Z (.inl C) O (λa1 J=>?_) (.inr C))));refine qK (wpAny_bindName (dF J t hi (.inl r) P (λa0 z=>assignInOrder_nil (zB ?_)) (.inr r)));rw[List.set_comm _ _ (zW V)]at z;exact⟨_,F,z,m⟩
def tAug(i:Nat)(te:TE)(ti:TIp):TS:=λD σ H=>∃x,σ[i]?=some (some x)/\te σ H λy H1=>ti x y H1 λz H2=>D.nx (σ.set i (some z)) H2
theorem Fo{i:Nat}{x:Str}{e:Expr}{te:TE}{op:Operator}{f:TIp}{C:Pos}(n:X.N.Nodup)(hi:X.N[i]?=some x)(b:Loc X.env.scope x)(q:PE X e te)(L:PIp X op f)(P:X.fn x=true\/X.env.scope.names.lookup x=some .local:=by first|exact .inl rfl|exact .inr rfl|assumption):
  PS X (.AugAssign (.Name x C) op e pos) (tAug i te f):=by
 intro d s σ H D I h;obtain⟨v,e1,h⟩:=h;obtain⟨m,p,hl⟩:=I.loc;have J:Vis X.env.scope x:=by rcases b with k|k;exact .inl k;exact .inr (.inl k)
 obtain⟨u,r,l⟩:=hl i x v hi e1 J;refine wpAny_AugAssign_Name ?_;have go:wpAny (model X.prog X.w) X.A (eval e X.env) (λw o=>wpAny (model X.prog X.w) X.A (inplaceOp op u w) (λr t=>wpAny (model X.prog X.w) X.A (storeName X.env x r) (λ_=>SP X d D .next) X.xe t) X.xe o) X.xe s:=by
  refine thn (q d s σ H _ I h) ?_;rintro w g ⟨y,S,O,F,j⟩;refine thn (L d g σ S v y u w _ O r F j) ?_;rintro z Y ⟨Z,G,V,N,U⟩;exact dF V n hi b N (λW T=>⟨_,G,T,U⟩) P
 rcases l with⟨a,R⟩|⟨a,c,K,M⟩
 ·exact wpAny_loadName_local I.ok.kind a p R go
 ·rcases a with a|a
  ·exact wpAny_loadName_cell I.ok.kind a K M go
  ·rcases b with k|k
   ·have:X.env.scope.names.lookup x=some .free:=a;rw[k]at this;cases this
   ·have:X.env.scope.names.lookup x=some .free:=a;rw[k]at this;cases this
def ipI(f:Int->Int->Int):TIp:=λx y H Q=>∃i j,x=.int i/\y=.int j/\Q (.int (f i j)) H
theorem Fn:PIp X .Add (ipI λi j=>i+j):=by
 intro d s σ H x y v u Q I a c h;obtain⟨i,j,e1,b,q⟩:=h;subst e1;subst b;obtain⟨e,rfl⟩:=a;obtain⟨t',rfl⟩:=c;exact iadd_int ⟨.int _,H,I.tok _,⟨_,rfl⟩,q⟩
def Fm(c:TT)(tb:TS):TS:=λD σ H=>∃W:Nat->St->Hp->Prop,(∃m,W m σ H)/\∀m σ H,W m σ H ->
 c σ H λb H1=>if b=true then∃N:St->Hp->Prop,(∀σ' H',N σ' H'->∃m',m'<m/\W m' σ' H')/\tb {D with nx:=N,ct:=N,bk:=D.nx} σ H1 else D.nx σ H1
theorem Bx{c:Expr}{body:List Stmt}{u:TT}{tb:TS}(q:PassesOwn (model X.prog X.w) X.A X.env X.xe)(K:PT X c u)(F:PSs X body tb):PS X (.While c body [] pos) (Fm u tb):=by
 intro k s σ H D I h;obtain⟨L,⟨O,z⟩,turn⟩:=h;refine wpAny_While (codeAny_whileLoop (λn J=>∃x H',Inv X k x H' J/\L n x H') ?_ O ⟨σ,H,I,z⟩);rintro n C ⟨e,w,M,P⟩;refine vP q (thn (K k C e w _ M (turn n e w P)) ?_);rintro b G ⟨t,y,i⟩;cases b with
 | true =>
  obtain⟨N,r,i⟩:=i;rw[zJ rfl];refine vP q (thn (F k G e t _ y i) λf R g=>?_);cases f with
  |next =>
   obtain⟨a,d,p,j⟩:=g;obtain⟨l,o,m⟩:=r a d j;exact⟨l,o,a,d,p,m⟩
  |cont =>
   obtain⟨a,d,p,j⟩:=g;obtain⟨l,o,m⟩:=r a d j;exact⟨l,o,a,d,p,m⟩
  |brk=>exact g
  |ret v=>exact g
 |false =>
  rw[zI yC];exact rN ⟨e,t,y,i⟩
end
structure It where
 go:Nat->Hp->Prop
 yld:Nat->Hp->V->Hp->Prop
 stop:Nat->Hp->Prop
def FpOk(X:Cx)(pins:PN)(H:Hp)(b:Addr):Prop:=
 H b=none/\b≠X.env.locals/\b∉X.fs/\(b∈X.ex\/X.s₀.heap.objs.size<=b)/\(∀x c,X.env.cells.lookup x=some c->c≠b)/\∀p∈X.pn++pins,p.1≠b
theorem Inv.fpOk{X:Cx}{d:PN}{σ:St}{H H':Hp}{s:Shared}{b:Addr}(I:Inv X d σ H s)(a:s.heap.objs.size<=b)(g:H' b=none):FpOk X d H' b:=by
 refine⟨g,rV (zF I.lt a),I.nofs a,.inr (yA I.sz a),λx c e z=>?_,λp f z=>?_⟩
 ·obtain⟨v,q⟩:=I.cell x c e;exact absurd (zF q.lt (by rw[z];exact a)) (xH _)
 ·exact absurd (zF (zO (I.pin p f).1) (by rw[z];exact a)) (xH _)
structure Turn(P:Program)(w:World)(K:Frag)(tg:Expr)(J:It)(fp:LA)(it:Addr)(tn:Nat->Heap->Prop):Prop where
 mem:it∈fp
 obj:∀i h,tn i h->∀b∈fp,∃o,h.get? b=some o/\∀v,o.data≠.cell v
 keep:∀i h h',tn i h->(∀b∈fp,∀o,h.get? b=some o->h'.get? b=some o)->tn i h'
 item:∀(X:Cx),X.prog=P->X.w=w->X.K=K->X.calm=true->∀(i:Nat)(pins:PN)(s:Shared)(σ:St)(H:Hp)(E:VP),Inv X pins σ H s->(∀b∈fp,FpOk X pins H b)->tn i s.heap->J.go i H ->
  wpAny (model P w) X.A (pyNext (.ref it)) (λr s1=>∃u,r=some u /\
   wpAny (model P w) X.A (letOwnedTupleGo tg (.ref it) u) (λ_ s2=>∃x H',Inv X pins σ H' s2/\RelV x u/\J.yld i H x H'/\tn (i+1) s2.heap/\∀b∈fp,H' b=none) E s1) E s
 done:∀(X:Cx),X.prog=P->X.w=w->X.K=K->X.calm=true->∀(i:Nat)(pins:PN)(s:Shared)(σ:St)(H:Hp)(E:VP),Inv X pins σ H s->(∀b∈fp,FpOk X pins H b)->tn i s.heap->J.stop i H ->
  wpAny (model P w) X.A (pyNext (.ref it)) (λr s1=>r=none/\Inv X pins σ H s1) E s
 self:∀(A:Around)(i:Nat)(s:Shared)(Q:VP)(E:VP),tn i s.heap->Q (.ref it) s->wpAny (model P w) A (pyIter (.ref it)) Q E s
abbrev TI:=St->Hp->(It->Hp->Prop)->Prop
def PIE(X:Cx)(pins:PN)(σ:St)(tg:Expr)(R:It->Hp->Prop)(itv:Value)(s2:Shared):Prop:=
 ∃(it:Addr)(fp:LA)(tn:Nat->Heap->Prop)(J:It)(H':Hp),itv=.ref it/\Inv X pins σ H' s2/\Turn X.prog X.w X.K tg J fp it tn/\tn 0 s2.heap/\(∀b∈fp,FpOk X pins H' b)/\R J H'
def PI(X:Cx)(tg iter:Expr)(wi:TI):Prop:=
 ∀(pins:PN)(s:Shared)(σ:St)(H:Hp)(R:It->Hp->Prop),Inv X pins σ H s->wi σ H R ->
  wpAny (model X.prog X.w) X.A (eval iter X.env) (λv s1=>wpAny (model X.prog X.w) X.A (pyIter v) (PIE X pins σ tg R) X.xe s1) X.xe s
theorem Bw {M:Model}{A:Around}{E:VP}{s:Shared}{c:Expr}{b:Addr}{u:Value}{o:Obj}{n:String}{vs:Array Value}{Q:Unit->Shared->Prop}(f:s.heap.get? b=some o)(d:o.cls=.type n)(e:o.data=.fields vs)
    (g:["enumerate","zip","dict_itemiterator","dict_reverseitemiterator","odict_iterator","itertools.zip_longest","itertools.pairwise"].contains n=false)(a:Q () s):wpAny M A (letOwnedTupleGo c (.ref b) u) Q E s:=by
  unfold letOwnedTupleGo;cases c <;> first
    |exact zB a
    |(cases u <;> first
        |exact zB a
        | (refine zA (wpAny_load f ?_)
           rw[d,e];show wpAny M A (if(["enumerate","zip","dict_itemiterator","dict_reverseitemiterator","odict_iterator","itertools.zip_longest","itertools.pairwise"].contains n && vs[0]? == some (rawInt _))=true then _ else _) Q E s;rw[zI (by intro h;rw[g,Bool.false_and]at h;cases h)];exact zB a))
noncomputable def Itl(K:Frag)(a:Addr):It:=
 ⟨λi H=>∃xs x,SqL K H a xs/\xs[i]?=some x,λi H x H'=>H'=H/\∀xs,SqL K H a xs->xs[i]?=some x,λi H=>∃xs,SqL K H a xs/\xs.length<=i⟩
noncomputable def Itt(K:Frag)(a:Addr):It:=
 ⟨λi H=>∃xs x,SqT K H a xs/\xs[i]?=some x,λi H x H'=>H'=H/\∀xs,SqT K H a xs->xs[i]?=some x,λi H=>∃xs,SqT K H a xs/\xs.length<=i⟩
noncomputable def Itr(lo:Int)(n:Nat):It:=⟨λi _=>i<n,λi H x H'=>H'=H/\x=.int (lo+i),λi _=>n<=i⟩
theorem Nk{P:Program}{w:World}{K:Frag}{Y:Expr}(a g:Addr):Turn P w K Y (Itl K a) [g] g (λi h=>h.IsListIter g a i) where
 mem:=by simp
 obj:=λi h st b f=>by
  have e:b=g:=by simpa using f
  subst e;obtain⟨o,e,c,d⟩:=st;exact⟨o,e,λv z=>by rw[d]at z;cases z⟩
 keep:=λi h h' st k=>st.at λo e=>k g (by simp) o e
 item:=by
  intro X q m G N i M s σ H E I l st F;subst q m G;obtain⟨xs,x,j,n⟩:=F;obtain⟨its,C,p,T⟩:=I.list j;obtain⟨u,U,V⟩:=C.get n;obtain⟨t,D,R,J,r,y⟩:=l g (by simp);refine wpAny_pyNext_list_item st p.isList (x:=u) (by simpa using U) λh' L S=>?_;have Z:Inv X M σ H {s with heap:=h'}:=I.turned (t':=s.toks) (λb o f e=>(S.2 b f).trans e) t D J r y;obtain⟨o,e,c,d⟩:=id L;exact⟨u,rfl,Bw (s:={s with heap:=h'}) e c d ∅ ⟨x,H,Z,V,⟨rfl,λys W=>by rw[I.list_inj W j];exact n⟩,L,λb f=>(l b f).1⟩⟩
 done:=by
  intro X q m G N i M s σ H E I l st F;subst q m G;obtain⟨xs,j,n⟩:=F;obtain⟨its,C,p,T⟩:=I.list j;obtain⟨t,D,R,J,r,y⟩:=l g (by simp);have hl:=C.length;exact wpAny_pyNext_list_end (I.ok.hd N) st p.isList (by simp;omega) λh' O=>⟨rfl,I.turned (t':=s.toks) (λb o f e=>O b o f e) t D J r y⟩
 self:=λ_ _ _ _ _ st h=>wpAny_pyIter_listiter st h
theorem Nj{P:Program}{w:World}{K:Frag}{Y:Expr}(a g:Addr):Turn P w K Y (Itt K a) [g] g (λi h=>h.IsTupleIter g a i) where
 mem:=by simp
 obj:=λi h st b f=>by
  have e:b=g:=by simpa using f
  subst e;obtain⟨o,e,c,d⟩:=st;exact⟨o,e,λv z=>by rw[d]at z;cases z⟩
 keep:=λi h h' st k=>st.at λo e=>k g (by simp) o e
 item:=by
  intro X q m G N i M s σ H E I l st F;subst q m G;obtain⟨xs,x,j,n⟩:=F;obtain⟨its,C,p,T⟩:=I.tuple j;obtain⟨u,U,V⟩:=C.get n;obtain⟨t,D,R,J,r,y⟩:=l g (by simp);refine wpAny_pyNext_tuple_item st (show s.heap.IsTuple a its.toArray from p) (x:=u) (by simpa using U) λh' L S=>?_;have Z:Inv X M σ H {s with heap:=h'}:=I.turned (t':=s.toks) (λb o f e=>(S.2 b f).trans e) t D J r y;obtain⟨o,e,c,d⟩:=id L;exact⟨u,rfl,Bw (s:={s with heap:=h'}) e c d ∅ ⟨x,H,Z,V,⟨rfl,λys W=>by rw[I.tuple_inj W j];exact n⟩,L,λb f=>(l b f).1⟩⟩
 done:=by
  intro X q m G N i M s σ H E I l st F;subst q m G;obtain⟨xs,j,n⟩:=F;obtain⟨its,C,p,T⟩:=I.tuple j;obtain⟨t,D,R,J,r,y⟩:=l g (by simp);have hl:=C.length;exact wpAny_pyNext_tuple_end (I.ok.hd N) st (show s.heap.IsTuple a its.toArray from p) (by simp;omega) λh' O=>⟨rfl,I.turned (t':=s.toks) (λb o f e=>O b o f e) t D J r y⟩
 self:=λ_ _ _ _ _ st h=>wpAny_pyIter_tupleiter st h
theorem Ni{P:Program}{w:World}{K:Frag}{M:Expr}(a:Addr)(lo:Int)(n:Nat):Turn P w K M (Itr lo n) [a] a (λi h=>IsRangeIter h a (lo+(i:Nat)*1) ((n:Int)-(i:Nat)) 1) where
 mem:=by simp
 obj:=λi h st b c=>by
  have e:b=a:=by simpa using c
  subst e;exact⟨_,st,λv z=>by
   have F:Data.fields _=Data.cell v:=z;cases F⟩
 keep:=λi h h' st k=>k a (by simp) _ st
 item:=by
  intro X g f t p i y s σ H E I d st r;subst g f t;obtain⟨l,q,D,u,j,m⟩:=d a (by simp);have J:=Walks.range (prog:=X.prog) (w:=X.w) (I.ok.hd p) a lo 1 n;refine J.item i s _ _ r st λv h' tk G x O=>?_;obtain⟨N,rfl⟩:=G;have L:Inv X y σ H {s with heap:=h',toks:=tk}:=I.turned (λb o c e=>O b o (by simpa using c) e) l q u j m;refine⟨_,rfl,Bw (s:={s with heap:=h',toks:=tk}) (n:= "range_iterator") x rfl rfl ∅ ⟨.int (lo+i),H,L,⟨N,?_⟩,⟨rfl,rfl⟩,x,λb c=>(d b c).1⟩⟩;rw[tL]
 done:=by
  intro X g f t p i y s σ H E I d st r;subst g f t;obtain⟨l,q,D,u,j,m⟩:=d a (by simp);exact wpAny_pyNext_range_end (I.ok.hd p) st (by have:n<=i:=r;omega) λh' C=>⟨rfl,I.turned (t':=s.toks) (λb o c e=>C b o c e) l q u j m⟩
 self:=λ_ _ _ _ _ st h=>wpAny_pyIter_rangeiter st h
section
variable {X:Cx} {tg:Expr}
theorem Nh{c:PN}{σ:St}{H:Hp}{s:Shared}{R:It->Hp->Prop}{E:VP}{lo hi:Int}{a u v:Tok}{tk:Nat}(I:Inv X c σ H s)(k:-(2^62)<=lo)(l:lo<2^62)(j:-(2^62)<=hi)(f:hi<2^62)
  (q:R (Itr lo (hi-lo).toNat) H):wpAny (model X.prog X.w) X.A (pyIter (.ref s.heap.objs.size)) (PIE X c σ tg R) E {s with heap:=s.heap.push {cls:=.type "range",data:=.fields #[.int lo a,.int hi u,.int 1 v]},toks:=tk}:=by
 refine wpAny_pyIter_range (IsRange.new ..) (small_one k l j f) ?_;have d:Inv X c σ H {s with heap:=s.heap.push {cls:=.type "range",data:=.fields #[.int lo a,.int hi u,.int 1 v]},toks:=tk}:=I.kept λb o e=>zD _ e;refine⟨(s.heap.push {cls:=.type "range",data:=.fields #[.int lo a,.int hi u,.int 1 v]}).objs.size,[(s.heap.push {cls:=.type "range",data:=.fields #[.int lo a,.int hi u,.int 1 v]}).objs.size],_,_,H,rfl,
  d.kept (t':=tk) λb o e=>zD _ e,Ni _ lo (hi-lo).toNat,?_,λb i=>?_,q⟩
 ·have e1:lo+((0:Nat):Int)*1=lo:=by simp
  have g:(((hi-lo).toNat:Nat):Int)-((0:Nat):Int)=Builtin.Range.rangeSize lo hi 1:=by rw[rangeSize_one];split <;> omega
  show IsRangeIter _ _ (lo+((0:Nat):Int)*1) ((((hi-lo).toNat:Nat):Int)-((0:Nat):Int)) 1;rw[e1,g];exact zQ _ rfl
 ·have e:b=(s.heap.push {cls:=.type "range",data:=.fields #[.int lo a,.int hi u,.int 1 v]}).objs.size:=by simpa using i
  subst e;exact d.fpOk (zE _) (d.hok.fresh (zE _))
def mD(ta:TA):TI:=λσ H R=>ta σ H λvs H1=>∃j:Int,vs=[.int j]/\-(2^62)<=j/\j<2^62/\R (Itr 0 j.toNat) H1
theorem mU{a:Expr}{ta:TA}{p c:Pos}(o:Gl X "range")(f:X.mg "range"=none)(m:PA X [a] ta)(n:starEach [a] X.env=[(false,eval a X.env)]:=by rfl):PI X tg (.Call (.Name "range" p) [a] [] c) (mD ta):=by
 intro k s σ H R I h;refine Call_ (gO I o f boot_range (wR (thn (m c k s σ H _ I h) ?_) n rfl));rintro us u ⟨vs,t,l,d,b⟩;obtain⟨j,e,b,i,q⟩:=b;subst e;cases d with
 |cons r g =>
  cases g;obtain⟨v,rfl⟩:=r;exact call_range_1 (Nh l ⋯ ⋯ b i (by simpa using q))
def tFor(wi:TI)(g:TG)(tb:TS):TS:=λD σ H=>wi σ H λJ H1=>∃W:Nat->Nat->St->Hp->Prop,(∃m,W 0 m σ H1)/\∀i m σ H,W i m σ H ->
 (J.stop i H/\D.nx σ H)\/(J.go i H/\∃N:St->Hp->Prop,(∀σ' H',N σ' H'->∃m',m'<m/\W (i+1) m' σ' H')/\∀x H',J.yld i H x H'->g x σ H' λσ2 H2=>tb {D with nx:=N,ct:=N,bk:=D.nx} σ2 H2)
noncomputable def dH(fp:LA)(h:Heap):PN:=fp.filterMap λb=>(h.get? b).map λo=>(b,o)
theorem bH{a:LA}{h:Heap}{b:Addr}{o:Obj}(c:b∈a)(e:h.get? b=some o):(b,o)∈dH a h:=List.mem_filterMap.mpr ⟨b,c,by rw[e];rfl⟩
theorem Ng{a:LA}{h:Heap}{p:Addr×Obj}(f:p∈dH a h):p.1∈a/\h.get? p.1=some p.2:=by
 obtain⟨b,d,e⟩:=List.mem_filterMap.mp f;cases q:h.get? b with
 |none=>rw[q]at e;cases e
 |some o =>
  rw[q]at e;have c:(b,o)=p:=zU e;subst c;exact⟨d,q⟩
theorem Inv.pinned{c:PN}{σ:St}{H:Hp}{s:Shared}{a:LA}(I:Inv X c σ H s)(i:∀b∈a,FpOk X c H b)(k:∀b∈a,∃o,s.heap.get? b=some o/\∀v,o.data≠.cell v):Inv X (c++dH a s.heap) σ H s:=
 I.pins_of λp j=>(pY.mp j).elim (λz=>I.pin p (yN _ z)) λz=>by
  obtain⟨g,e⟩:=Ng z;obtain⟨n,m,l,_⟩:=i p.1 g;obtain⟨o,f,d⟩:=k p.1 g;rw[e]at f;cases f;exact⟨e,n,m,l,d⟩
theorem Inv.unpinned{a pl:PN}{σ:St}{H:Hp}{s:Shared}(I:Inv X (a++pl) σ H s):Inv X a σ H s:=I.pins_of λp b=>I.pin p (yN _ (wC _ b))
theorem lC{G:Expr}{body:List Stmt}{L:TI}{g:TG}{tb:TS}{c4:Pos}(q:PassesOwn (model X.prog X.w) X.A X.env X.xe)(V:X.calm=true)(hi:PI X tg G L)(c2:PG X tg g)(c:PSs X body tb)
  (b3:∀x,foldedSetIterable G X.env x=pure x:=by intro _;rfl):PS X (.For tg G body [] c4) (tFor L g tb):=by
 intro p s σ H D I h;refine wpAny_For (thn (hi p s σ H _ I h) λv d4 c0=>thn c0 λd6 d5 d0=>?_) b3;obtain⟨d7,y,S,d8,b4,e,d1,T,b1,O,W,⟨c9,a3⟩,turn⟩:=d0;subst e
 -- what stays true of the iterator's objects through the loop
 have F:∀{H':Hp},(∀b∈y,H' b=none)->∀b∈y,FpOk X p H' b:=λa5 b c=>⟨a5 b c,(O b c).2⟩;refine codeAny_forLoop_any (λn U=>∃i t H',Inv X p t H' U/\S i U.heap/\(∀b∈y,H' b=none)/\W i n t H') ?_ c9 ⟨0,σ,b4,d1,b1,λb c=>(O b c).1,a3⟩;rintro n R ⟨i,w,C,Y,M,Z,a9⟩;rcases turn i n w C a9 with⟨stop,a2⟩|⟨go,N,a4,step⟩
 ·refine vP q (thn (T.done X rfl rfl rfl V i p R w C X.xe Y (F Z) M stop) ?_);rintro r c7 ⟨hr,b0⟩;subst hr;exact rN ⟨w,C,b0,a2⟩
 ·refine vP q (thn (T.item X rfl rfl rfl V i p R w C X.xe Y (F Z) M go) ?_);rintro r c7 ⟨u,hr,c3⟩;subst hr;refine vP q (thn c3 ?_);rintro _ P ⟨x,a1,b8,c5,c1,J,b2⟩;have c8:=b8.pinned (F b2) (T.obj _ _ J);refine vP q (thn (c2 _ P w a1 x u _ c8 c5 (step x a1 c1)) ?_);rintro _ b5 ⟨b6,a7,d2,b9⟩;refine vP q (thn (c _ b5 b6 a7 _ d2 b9) λf K l=>?_);have a0:∀{a:St}{k:Hp},Inv X (p++dH y P.heap) a k K->N a k->∃m,m<n/\∃i t H',Inv X p t H' K/\S i K.heap/\(∀b∈y,H' b=none)/\W i m t H':=λ{a k}j z=>by
   obtain⟨a8,c6,b7⟩:=a4 a k z;refine⟨a8,c6,i+1,a,k,j.unpinned,T.keep _ _ _ J λb c o e=>(j.pin (b,o) (yN _ (yN _ (bH c e)))).1,λb c=>?_,b7⟩;obtain⟨o,e,d⟩:=T.obj _ _ J b c;exact(j.pin (b,o) (yN _ (yN _ (bH c e)))).2.1
  cases f with
  |next=>obtain⟨a,k,j,z⟩:=l;exact a0 j z
  |cont=>obtain⟨a,k,j,z⟩:=l;exact a0 j z
  |brk=>obtain⟨a,k,j,l⟩:=l;exact⟨a,k,j.unpinned,l⟩
  |ret v=>obtain⟨a6,a,k,j,d3,l⟩:=l;exact⟨a6,a,k,j.unpinned,d3,l⟩
end
theorem Nf{K:Frag}{a:Addr}{xs:List V}{g:TG}{tb:TS}{D:Ends}{σ:St}{H:Hp}(b:Nat->St->Hp->Prop)(r:b 0 σ H)(hl:∀i σ H,i<=xs.length->b i σ H->SqL K H a xs)
  (t:∀i x σ H,xs[i]?=some x->b i σ H->g x σ H λf c=>tb {D with nx:=b (i+1),ct:=b (i+1),bk:=D.nx} f c)(n:∀σ H,b xs.length σ H->D.nx σ H):
  ∃d:Nat->Nat->St->Hp->Prop,(∃m,d 0 m σ H)/\∀i m σ H,d i m σ H ->
   ((Itl K a).stop i H/\D.nx σ H)\/((Itl K a).go i H/\∃N:St->Hp->Prop,(∀j H',N j H'->∃l,l<m/\d (i+1) l j H')/\∀x H',(Itl K a).yld i H x H'->g x σ H' λf c=>tb {D with nx:=N,ct:=N,bk:=D.nx} f c):=by
 refine⟨λi m σ H=>m=xs.length-i/\i<=xs.length/\b i σ H,⟨xs.length,by simp,yV _,r⟩,?_⟩;rintro i m σ H ⟨rfl,hi,p⟩;have q:=hl i σ H hi p
 by_cases k:i<xs.length
 ·refine .inr ⟨⟨xs,xs[i],q,by simp[k]⟩,b (i+1),λj H' o=>⟨xs.length-(i+1),⋯,rfl,k,o⟩,λx H' y=>?_⟩;obtain⟨e,y⟩:=y;subst e;exact t i x σ _ (y xs q) p
 ·have e:i=xs.length:=⋯
  subst e;exact .inl ⟨⟨xs,q,zE _⟩,n σ H p⟩
theorem Nd{K:Frag}{a:Addr}{xs:List V}{g:TG}{tb:TS}{D:Ends}{σ:St}{H:Hp}(b:Nat->St->Hp->Prop)(r:b 0 σ H)(hl:∀i σ H,i<=xs.length->b i σ H->SqT K H a xs)
  (t:∀i x σ H,xs[i]?=some x->b i σ H->g x σ H λf c=>tb {D with nx:=b (i+1),ct:=b (i+1),bk:=D.nx} f c)(n:∀σ H,b xs.length σ H->D.nx σ H):
  ∃d:Nat->Nat->St->Hp->Prop,(∃m,d 0 m σ H)/\∀i m σ H,d i m σ H ->
   ((Itt K a).stop i H/\D.nx σ H)\/((Itt K a).go i H/\∃N:St->Hp->Prop,(∀j H',N j H'->∃l,l<m/\d (i+1) l j H')/\∀x H',(Itt K a).yld i H x H'->g x σ H' λf c=>tb {D with nx:=N,ct:=N,bk:=D.nx} f c):=by
 refine⟨λi m σ H=>m=xs.length-i/\i<=xs.length/\b i σ H,⟨xs.length,by simp,yV _,r⟩,?_⟩;rintro i m σ H ⟨rfl,hi,p⟩;have q:=hl i σ H hi p
 by_cases k:i<xs.length
 ·refine .inr ⟨⟨xs,xs[i],q,by simp[k]⟩,b (i+1),λj H' o=>⟨xs.length-(i+1),⋯,rfl,k,o⟩,λx H' y=>?_⟩;obtain⟨e,y⟩:=y;subst e;exact t i x σ _ (y xs q) p
 ·have e:i=xs.length:=⋯
  subst e;exact .inl ⟨⟨xs,q,zE _⟩,n σ H p⟩
theorem Nc{lo:Int}{n:Nat}{g:TG}{tb:TS}{D:Ends}{σ:St}{H:Hp}(a:Nat->St->Hp->Prop)(o:a 0 σ H)
  (r:∀i σ H,i<n->a i σ H->g (.int (lo+i)) σ H λj b=>tb {D with nx:=a (i+1),ct:=a (i+1),bk:=D.nx} j b)(q:∀σ H,a n σ H->D.nx σ H):
  ∃d:Nat->Nat->St->Hp->Prop,(∃m,d 0 m σ H)/\∀i m σ H,d i m σ H ->
   ((Itr lo n).stop i H/\D.nx σ H)\/((Itr lo n).go i H/\∃N:St->Hp->Prop,(∀c H',N c H'->∃k,k<m/\d (i+1) k c H')/\∀x H',(Itr lo n).yld i H x H'->g x σ H' λj b=>tb {D with nx:=N,ct:=N,bk:=D.nx} j b):=by
 refine⟨λi m σ H=>m=n-i/\i<=n/\a i σ H,⟨n,by simp,yV _,o⟩,?_⟩;rintro i m σ H ⟨rfl,hi,p⟩
 by_cases f:i<n
 ·refine .inr ⟨f,a (i+1),λc H' l=>⟨n-(i+1),⋯,rfl,f,l⟩,λx H' y=>?_⟩;obtain⟨e,y⟩:=y;subst e y;exact r i σ _ f p
 ·have e:i=n:=⋯
  subst e;exact .inl ⟨zE _,q σ H p⟩
abbrev R2:=V->V->Hp->VK->Prop
def OpR(X:Cx)(f:Value->Value->Sem Value)(r:R2):Prop:=
 ∀(pins:PN)(s:Shared)(σ:St)(H:Hp)(x y:V)(v u:Value)(Q:VK),Inv X pins σ H s->RelV x v->RelV y u->r x y H Q ->
  wpAny (model X.prog X.w) X.A (f v u) (EP X pins σ Q) X.xe s
def UnR(X:Cx)(f:Value->Sem Value)(r:V->Hp->VK->Prop):Prop:=
 ∀(pins:PN)(s:Shared)(σ:St)(H:Hp)(x:V)(v:Value)(Q:VK),Inv X pins σ H s->RelV x v->r x H Q ->
  wpAny (model X.prog X.w) X.A (f v) (EP X pins σ Q) X.xe s
def kI(X:Cx)(f:Value)(r:List V->Hp->VK->Prop):Prop:=
 ∀(pins:PN)(s:Shared)(σ:St)(H:Hp)(xs:List V)(us:LW)(Q:VK),Inv X pins σ H s->Vals xs us->r xs H Q ->
  wpAny (model X.prog X.w) X.A (call f us) (EP X pins σ Q) X.xe s
def tOp(r:R2)(ta tb:TE):TE:=λσ H Q=>ta σ H λx H1=>tb σ H1 λy H2=>r x y H2 Q
def tUn(r:V->Hp->VK->Prop)(ta:TE):TE:=λσ H Q=>ta σ H λx H1=>r x H1 Q
def rI(C:Int->Int->Prop)(g:Int->Int->V):R2:=λx y H Q=>∃i j,x=.int i/\y=.int j/\C i j/\Q (g i j) H
def rI0(g:Int->Int->V):R2:=λx y H Q=>∃i j,x=.int i/\y=.int j/\Q (g i j) H
def rU(g:Int->V):V->Hp->VK->Prop:=λx H Q=>∃i,x=.int i/\Q (g i) H
section
variable {X:Cx} {a b c:Expr} {ta tb tc:TE} {pos:Pos}
theorem binT(z:PE X a ta)(q:PE X b tb){e:PN}{s:Shared}{σ:St}{H:Hp}{R:V->V->Hp->Prop}(I:Inv X e σ H s)
  (h:ta σ H λx i=>tb σ i λy d=>R x y d){Q:VP}{f:Value->Value->Sem Value}
  (k:∀v u g x y d,Inv X e σ d g->RelV x v->RelV y u->R x y d->wpAny (model X.prog X.w) X.A (f v u) Q X.xe g):
  wpAny (model X.prog X.w) X.A (eval a X.env) (λv w=>wpAny (model X.prog X.w) X.A (eval b X.env) (λu t=>wpAny (model X.prog X.w) X.A (f v u) Q X.xe t) X.xe w) X.xe s:=by
 refine thn (z e s σ H _ I h) ?_;rintro v m ⟨x,i,r,j,o⟩;refine thn (q e m σ i _ r o) ?_;rintro u g ⟨y,d,l,n,p⟩;exact k v u g x y d l j n p
theorem oP{op:Operator}{r:R2}(e:OpR X (binaryOp op) r)(l:PE X a ta)(g:PE X b tb):PE X (.BinOp a op b pos) (tOp r ta tb):=by
 intro f s σ H Q I h;exact wpAny_BinOp (binT l g I h λv u k x y d j m i q=>e f k σ d x y v u Q j m i q)
theorem iV{op:UnaryOp}{r:V->Hp->VK->Prop}(i:UnR X (unaryOp op) r)(l:PE X a ta):PE X (.UnaryOp op a pos) (tUn r ta):=by
 intro d s σ H Q I h;exact UnaryOp_ (thn (l d s σ H _ I h) λv g⟨x,f,k,e,j⟩=>i d g σ f x v Q k e j)
theorem opI{f:Value->Value->Sem Value}{C:Int->Int->Prop}{g:Int->Int->Int}
  (k:∀(i j:Int)(d u:Tok)(s:Shared)(Q:VP)(E:VP),C i j->Q (.int (g i j) s.toks) {s with toks:=s.toks+1}->wpAny (model X.prog X.w) X.A (f (.int i d) (.int j u)) Q E s):
  OpR X f (rI C λi j=>.int (g i j)):=by
 intro n s σ H x y v u Q I m l h;obtain⟨i,j,rfl,rfl,e,q⟩:=h;obtain⟨d,rfl⟩:=m;obtain⟨t',rfl⟩:=l;exact k i j d t' s _ _ e ⟨.int (g i j),H,I.tok _,⟨_,rfl⟩,q⟩
theorem opI0{f:Value->Value->Sem Value}{g:Int->Int->Int}
  (e:∀(i j:Int)(d u:Tok)(s:Shared)(Q:VP)(E:VP),Q (.int (g i j) s.toks) {s with toks:=s.toks+1}->wpAny (model X.prog X.w) X.A (f (.int i d) (.int j u)) Q E s):
  OpR X f (rI0 λi j=>.int (g i j)):=by
 intro m s σ H x y v u Q I l k h;obtain⟨i,j,rfl,rfl,q⟩:=h;obtain⟨d,rfl⟩:=l;obtain⟨t',rfl⟩:=k;exact e i j d t' s _ _ ⟨.int (g i j),H,I.tok _,⟨_,rfl⟩,q⟩
theorem opB0{f:Value->Value->Sem Value}{g:Int->Int->Bool}
  (e:∀(i j:Int)(d u:Tok)(s:Shared)(Q:VP)(E:VP),Q (.bool (g i j)) s->wpAny (model X.prog X.w) X.A (f (.int i d) (.int j u)) Q E s):
  OpR X f (rI0 λi j=>.bl (g i j)):=by
 intro m s σ H x y v u Q I l k h;obtain⟨i,j,rfl,rfl,q⟩:=h;obtain⟨d,rfl⟩:=l;obtain⟨t',rfl⟩:=k;exact e i j d t' s _ _ ⟨.bl (g i j),H,I,rfl,q⟩
def CMul(i j:Int):Prop:=(-(2^64)<i/\i<2^64)\/(-(2^64)<j/\j<2^64)
theorem mY:OpR X (binaryOp .Add) (rI0 λi j=>.int (i+j)):=opI0 λ_ _ _ _ _ _ _ q=>add_int q
theorem iJ:OpR X (binaryOp .Sub) (rI0 λi j=>.int (i-j)):=opI0 λ_ _ _ _ _ _ _ q=>sub_int q
theorem mL:OpR X (binaryOp .Mod) (rI (λ_ j=>j≠0) λi j=>.int (i.fmod j)):=opI λ_ _ _ _ _ _ _ d q=>mod_int' d q
theorem unI{f:Value->Sem Value}{g:Int->Int}
  (e:∀(i:Int)(d:Tok)(s:Shared)(Q:VP)(E:VP),Q (.int (g i) s.toks) {s with toks:=s.toks+1}->wpAny (model X.prog X.w) X.A (f (.int i d)) Q E s):
  UnR X f (rU λi=>.int (g i)):=by
 intro k s σ H x v Q I j h;obtain⟨i,rfl,q⟩:=h;obtain⟨d,rfl⟩:=j;exact e i d s _ _ ⟨.int (g i),H,I.tok _,⟨_,rfl⟩,q⟩
theorem iW:UnR X (unaryOp .USub) (rU λi=>.int (-i)):=unI λ_ _ _ _ _ q=>neg_int q
theorem Nb{f:PN}{σ:St}{H:Hp}{s:Shared}{Q:VK}{k d:Bool}(I:Inv X f σ H s)(q:Q (.bl k) H)(e:k=d):EP X f σ Q (.bool d) s:=by
 subst e;exact⟨.bl k,H,I,rfl,q⟩
theorem bJ:OpR X (compareOp .Lt) (rI0 λi j=>.bl (decide (i<j))):=opB0 λ_ _ _ _ _ _ _ q=>lt_int q
theorem bK:OpR X (compareOp .Gt) (rI0 λi j=>.bl (decide (j<i))):=opB0 λ_ _ _ _ _ _ _ q=>gt_int q
theorem Fl:OpR X (compareOp .Is) (λx y H Q=>y=.non/\Q (.bl (decide (x=.non))) H):=by
 intro f s σ H x y v u Q I d e h;obtain⟨rfl,q⟩:=h;cases e;refine is_none_gen (Nb I q ?_);cases x <;> first
  |(cases d;rfl)
  |(obtain⟨g,rfl⟩:=d;rfl)
theorem nM(b:Expr){op:CmpOp}(h:op≠.In:=by decide)(d:op≠.NotIn:=by decide):behindInMarks op b=false:=by
 have e1:(op == CmpOp.In)=false:=by cases op <;> first|rfl|exact absurd rfl h
 have e:(op == CmpOp.NotIn)=false:=by cases op <;> first|rfl|exact absurd rfl d
 cases b <;> simp[behindInMarks,e1,e]
theorem gP{op:CmpOp}{r:R2}(f:OpR X (compareOp op) r)(m:PE X a ta)(i:PE X b tb)(e:behindInMarks op b=false):PE X (.Compare a [op] [b] pos) (tOp r ta tb):=by
 intro g s σ H Q I h;exact wpAny_Compare1 (binT m i I h λv u l x y d k n j q=>f g l σ d x y v u Q k n j q) e
def fN(t:TE):TT:=λσ H Q=>t σ H λx H'=>∃k,x=.bl k/\Q k H'
theorem nN{op:CmpOp}{r:R2}(o:OpR X (compareOp op) r)(l:PE X a ta)(i:PE X b tb)(w:behindInMarks op b=false):PT X (.Compare a [op] [b] pos) (fN (tOp r ta tb)):=by
 intro d s σ H Q I h;refine wpAny_isTrue_Compare1 (thn (l d s σ H _ I h) λv f⟨x,C,q,m,g⟩=>thn (i d f σ C _ q g) λu j⟨y,n,K,p,G⟩ =>
  thn (o d j σ n x y v u _ K m p G) λc L⟨z,D,F,t,k,e,J⟩=>?_) w
 subst e;cases t;exact uO ⟨D,F,J⟩
theorem bL:(sizeLine:Nat)<2^63:=by rw[sizeLine_eq];decide
theorem jV{x:V}{us:LW}(r:Vals [x] us):∃u,us=[u]/\RelV x u:=by
 cases r with
 |cons d e=>cases e;exact⟨_,rfl,d⟩
theorem fO:kI X (.builtin "abs") (λxs H Q=>∃i,xs=[.int i]/\Q (.int (if i<0 then -i else i)) H):=by
 intro d s σ H xs us Q I r h;obtain⟨i,rfl,q⟩:=h;obtain⟨u,rfl,e,rfl⟩:=jV r;exact call_abs_int λu tk=>⟨.int (if i<0 then -i else i),H,I.tok _,⟨_,rfl⟩,q⟩
theorem Bv:kI X (.type "int") (λxs H Q=>(∃i,xs=[.int i]/\Q (.int i) H)\/∃k,xs=[.bl k]/\Q (.int (if k then 1 else 0)) H):=by
 intro e s σ H xs us Q I r h;rcases h with⟨i,rfl,q⟩|⟨k,rfl,q⟩
 ·obtain⟨u,rfl,f,rfl⟩:=jV r;exact call_int_int ⟨.int i,H,I,⟨_,rfl⟩,q⟩
 ·obtain⟨u,rfl,d⟩:=jV r;cases d;exact call_int_bool ⟨.int (if k then 1 else 0),H,I.tok _,⟨_,rfl⟩,q⟩
end
structure ObjM(h:Heap)(x dx C:Addr)(mA:MT):Prop where
 obj:h.get? x=some (PySem.W.instObj C dx)
 ns:h.Ns1 dx mA
 ne:dx≠x
theorem Na{h:Heap}{c:Addr}{b:MT}(n:h.Ns1 c b):∃d,h.get? c=some d/\∀name,PySem.W.lookIn name d=some (b name):=by
 obtain⟨o,es,ep,i,m,k,_,g⟩:=n;refine⟨o,i,λname=>?_⟩;have e:=g name;unfold nsFind findBy at e;rw[←Array.find?_toList]at e;unfold PySem.W.lookIn;rw[m];dsimp only;split
 ·rename_i y q;rw[q]at e;exact wH some e
 ·rename_i q;rw[q]at e;have a:es.toList.any (·.refKey)=false:=by
   rw[sK];intro y l;obtain⟨z,p,f⟩:=k y (Array.mem_toList_iff.mp l);simp[DictEntry.refKey,f]
  have j:¬ es.toList.any (·.refKey)=true:=by rw[a];exact yC
  rw[zI j];exact wH some e
theorem ObjM.look{h:Heap}{x b C:Addr}{c:MT}(I:ObjM h x b C c):∃a,PySem.W.InstAt h x (PySem.W.instObj C b) C (some a)/\∀name,PySem.W.lookIn name a=some (c name):=
 let ⟨a,d,hl⟩:=Na I.ns
 ⟨a,⟨I.obj,rfl,rfl,d⟩,hl⟩
section
variable {prog:Program} {w:World} {A:Around} {E:VP} {s:Shared} {K:Frag} {x dx C f:Addr} {mA:MT} {name:Str} {v:Value}
theorem Oz{b:Bool}{Q:VP}(X:K.In s.heap)(I:ObjM s.heap x dx C mA)(g:PySem.W.plainGet K C name=true)(hh:PySem.W.hasDictIn K C=true)
  (e:PySem.W.findIn K (.ref C) name=some none)(d:mA name=some v)(a:PySem.W.handedIn v=true)(h:Q v {s with toks:=s.toks+1}):
  wpAny (model prog w) A (getAttr (.ref x) name b) Q E s:=by
 obtain⟨i,c,hl⟩:=I.look;exact PySem.W.get_value X c (rZ g).1 (PySem.W.findObj_own hh e rfl (by rw[hl,d])) a h
theorem Oy{pl:Sem Bool}{Q:Value×LW->Shared->Prop}(X:K.In s.heap)(I:ObjM s.heap x dx C mA)(a:PySem.W.plainGet K C name=true)
  (b:PySem.W.findIn K (.ref C) name=some (some (.ref f)))(g:PySem.W.isFn K (.ref f)=true)(e:mA name=none)(h:Q (.ref f,[.ref x]) s):
  wpAny (model prog w) A (getMethod (.ref x) name pl) Q E s:=by
 obtain⟨d,c,hl⟩:=I.look;exact PySem.W.method_fn X c (rZ a).1 (rZ a).2 b (pU.mp g) (by show(PySem.W.lookIn name d).map (·.isSome)=some false;rw[hl,e];rfl) h
theorem Ox{ns:List Str}{Q:Unit->Shared->Prop}(X:K.In s.heap)(I:ObjM s.heap x dx C mA)
  (k:PySem.W.findIn K (.ref C) "__setattr__"=some (some (.builtin "object.__setattr__")))(i:PySem.W.plainOver K C=true)(p:PySem.W.takerIn K C name=some none)(hh:PySem.W.hasDictIn K C=true)
  (g:PySem.Within mA ns)(hsz:ns.length<=sizeLine)
  (h:∀h',ObjM h' x dx C (λy=>if y=name then some v else mA y)->Heap.SameBut dx s.heap h'->Q () {s with heap:=h',toks:=s.toks+2}):
  wpAny (model prog w) A (setAttr (.ref x) name v) Q E s:=by
 obtain⟨t,a,hl⟩:=I.look;refine PySem.W.set_plain X a k (PySem.W.osa_open (s:={s with toks:=s.toks+1}) (r:=none) X a i p λb=>?_);obtain⟨q,e,l⟩:=PySem.W.any_some hh;have j:s.heap.get? x=some ⟨.ref C,some dx,.plain,#[]⟩:=I.obj;refine zA (zB (zA (zA (wpAny_loadPart j (zA (PySem.W.Looks.here (s:={s with toks:=s.toks+1}) (PySem.W.looks_clsIn X e) ?_))))));rw[l];refine zB (a:=some dx) (zA (zB (zA ?_)));refine wpAny_nsSet1 (s:={s with toks:=s.toks+1}) I.ns λh' c d=>?_;obtain⟨z,u,r,n,m,o⟩:=c.count (PySem.Within.cons name v g);refine zA (wpAny_lookBehind n (by rw[m];exact pastItsLine_dict (yA o (by rw[yE];omega))) ?_);exact zB (h _ ⟨(d.2 _ (zW I.ne)).trans I.obj,c,I.ne⟩ d)
theorem Ow{R:Result->Shared->Prop}{vs:LW}{a:List (Str×Value)}(X:K.In s.heap)(e:PySem.W.makesIn K C=true)
  (hi:PySem.W.findIn K (.ref C) "__init__"=some (some (.ref f)))(c:PySem.W.typeIn K (.ref f)=some (.type "function"))
  (h:codeAny (model prog w) (A.under (.builtin "type.__call__" ⟨.ref C:: vs,a⟩)) (.call (.ref f) ⟨.ref (s.heap.objs.size+1):: vs,a⟩) (PySem.W.InitBack (s.heap.objs.size+1) R)
   {s with heap:=(s.heap.push PySem.W.emptyDict).push (PySem.W.instObj C s.heap.objs.size)}):
  codeAny (model prog w) A (.call (.ref C) ⟨vs,a⟩) R s:=by
 obtain⟨hh,g,d,j,i⟩:=s;exact PySem.W.make_core (PySem.W.makes_of X e) (tD X hi) (λb=>PySem.W.bind_fn X b c) (.inl rfl) h
end
noncomputable def putF(f:Str)(v:V):List (Str×V)->List (Str×V)
 |[]=>[(f,v)]
 |(g,x):: r=>if g=f then(g,v):: r else(g,x):: putF f v r
theorem Fk(f g:Str)(v:V):∀fs:List (Str×V),(putF f v fs).lookup g=if g=f then some v else fs.lookup g
 |[]=>by
  show List.lookup g [(f,v)]=_
  by_cases h:g=f
  ·have a:(g == f)=true:=pU.mpr h;simp only[List.lookup,a,if_pos h]
  ·have a:(g == f)=false:=pV.mpr h;simp only[List.lookup,a,if_neg h]
 | (k,x):: r=>by
  have c:=Fk f g v r;rw[show putF f v ((k,x):: r)=(if k=f then(k,v):: r else(k,x):: putF f v r) from rfl]
  by_cases b:k=f
  ·rw[zJ b]
   by_cases h:g=k
   ·have a:(g == k)=true:=pU.mpr h;simp only[List.lookup,a,if_pos (h.trans b)]
   ·have a:(g == k)=false:=pV.mpr h;simp only[List.lookup,a,if_neg (λe:g=f=>h (e.trans b.symm))]
  ·rw[zI b]
   by_cases h:g=k
   ·have a:(g == k)=true:=pU.mpr h;simp only[List.lookup,a,if_neg (λe:g=f=>b (h.symm.trans e))]
   ·have a:(g == k)=false:=pV.mpr h;simp only[List.lookup,a];exact c
theorem Bu(f:Str)(v:V):∀fs:List (Str×V),f∈(putF f v fs).map (·.1)/\∀g,g∈fs.map (·.1)->g∈(putF f v fs).map (·.1)
 |[]=>⟨by simp[putF],λg h=>by simp at h⟩
 | (k,x):: r=>by
  obtain⟨b,c⟩:=Bu f v r;rw[show putF f v ((k,x):: r)=(if k=f then(k,v):: r else(k,x):: putF f v r) from rfl]
  by_cases a:k=f
  ·rw[zJ a];subst a;exact⟨by simp,λg h=>by simpa using h⟩
  ·rw[zI a];refine⟨?_,λg h=>?_⟩
   ·rw[zK];exact zM _ b
   ·rw[zK]at h ⊢;rcases xE.mp h with e|e
    ·exact xE.mpr (.inl e)
    ·exact zM _ (c g e)
theorem Fj(f:Str)(v:V):∀fs:List (Str×V),(putF f v fs).length<=fs.length+1
 |[]=>by simp[putF]
 |(k,x):: r=>by
  have b:=Fj f v r;rw[show putF f v ((k,x):: r)=(if k=f then(k,v):: r else(k,x):: putF f v r) from rfl]
  by_cases a:k=f
  ·rw[zJ a,yE,yE];omega
  ·rw[zI a,yE,yE];omega
theorem RelO.some_of{v:V}{o:Option Value}(r:RelO (some v) o):∃u,o=some u/\RelV v u:=by
 cases o with
 |none=>exact(show False from r).elim
 |some u=>exact⟨u,rfl,r⟩
theorem RelO.none_of{o:Option Value}(r:RelO none o):o=none:=by
 cases o with
 |none=>rfl
 |some u=>exact(show False from r).elim
theorem Ov{v:V}{u:Value}(r:RelV v u):PySem.W.handedIn u=true:=by
 cases v with
 |non=>cases(show u=Value.none from r);rfl
 |bl b=>cases(show u=Value.bool b from r);rfl
 |int i=>obtain⟨t,e⟩:=(show∃t,u=Value.int i t from r);cases e;rfl
 |str x=>obtain⟨t,e⟩:=(show∃t,u=Value.str x t from r);cases e;rfl
 |byt b=>obtain⟨t,e⟩:=(show∃t,u=Value.bytes b t from r);cases e;rfl
 |flt b=>obtain⟨t,e⟩:=(show∃t,u=Value.float b t from r);cases e;rfl
 |ref a=>cases(show u=Value.ref a from r);rfl
 |ty n=>cases(show u=Value.type n from r);rfl
section
variable {P:Program} {w:World} {H H':Hp} {h h':Heap} {a C dx:Addr} {fs fs':List (Str×V)}
theorem bN(i:HOk P w H h)(e:H a=some (.ins C dx fs)):∃b,ObjM h a dx C b/\(∀f,RelO (fs.lookup f) (b f))/\PySem.Within b (fs.map (·.1))/\fs.length<=1000/\H dx=some (.own a):=by
 obtain⟨d,z,c,g,b,n,r,q⟩:=(show mK P w H h a (.ins C dx fs) from i a _ e);exact⟨b,⟨g,n,c⟩,r,q,z,d⟩
end
structure Cls(K:Frag)(C:Addr):Prop where
 pg:PySem.W.plainGet K C Str.empty=true
 hd:PySem.W.hasDictIn K C=true
 po:PySem.W.plainOver K C=true
 sa:PySem.W.findIn K (.ref C) "__setattr__"=some (some (.builtin "object.__setattr__"))
theorem Cls.get{K:Frag}{C:Addr}(c:Cls K C)(f:Str):PySem.W.plainGet K C f=true:=c.pg
def gQ(K:Frag)(C:Addr)(f:Str):Prop:=PySem.W.findIn K (.ref C) f=some none
theorem gQ.taker{K:Frag}{C:Addr}{f:Str}(n:gQ K C f):PySem.W.takerIn K C f=some none:=by
 unfold PySem.W.takerIn;rw[show PySem.W.findIn K (.ref C) f=some none from n];rfl
structure Meth(K:Frag)(C:Addr)(m:Str)(f:Addr):Prop where
 at_:PySem.W.findIn K (.ref C) m=some (some (.ref f))
 fn:PySem.W.isFn K (.ref f)=true
 kp:PySem.W.keepIn K (.ref f)=true
section
variable {X:Cx} {pins:PN} {σ:St} {H:Hp} {s:Shared} {a C dx:Addr} {fs:List (Str×V)} {f:Str} {v:V} {A:Around} {E:VP}
theorem Ou{b:Bool}{Q:VP}(I:Inv X pins σ H s)(e:H a=some (.ins C dx fs))(c:Cls X.K C)(n:gQ X.K C f)(l:fs.lookup f=some v)
  (h:∀u g,Inv X pins σ H g->RelV v u->Q u g):wpAny (model X.prog X.w) A (getAttr (.ref a) f b) Q E s:=by
 obtain⟨i,O,r,_,_,_⟩:=bN I.hok e;obtain⟨u,j,d⟩:=RelO.some_of (v:=v) (o:=i f) (by rw[←l];exact r f);exact Oz I.kIn O (c.get f) c.hd n j (Ov d) (h u _ (I.tok _) d)
theorem Fi{m:Str}{g:Addr}{pl:Sem Bool}{Q:Value×LW->Shared->Prop}(I:Inv X pins σ H s)(e:H a=some (.ins C dx fs))(c:Cls X.K C)(k:Meth X.K C m g)(l:fs.lookup m=none)
  (h:Q (.ref g,[.ref a]) s):wpAny (model X.prog X.w) A (getMethod (.ref a) m pl) Q E s:=by
 obtain⟨d,O,r,_,_,_⟩:=bN I.hok e;have b:d m=none:=RelO.none_of (by rw[←l];exact r m);exact Oy I.kIn O (c.get m) k.at_ k.fn b h
theorem Ot{y:V}{u:Value}{Q:Unit->Shared->Prop}(I:Inv X pins σ H s)(e:H a=some (.ins C dx fs))(c:Cls X.K C)(n:gQ X.K C f)(hl:fs.length<1000)(t:RelV y u)
  (h:∀l,Inv X pins σ (upd H a (.ins C dx (putF f y fs))) l->Q () l):wpAny (model X.prog X.w) A (setAttr (.ref a) f u) Q E s:=by
 obtain⟨i,O,r,j,_,k⟩:=bN I.hok e;have D:(fs.map (·.1)).length<=sizeLine:=by rw[yL,sizeLine_eq];omega
 refine Ox I.kIn O c.sa c.po n.taker c.hd j D λh' d x=>h _ ?_;have w:∃o,h'.get? dx=some o:=let ⟨o,_,_,m,_⟩:=d.ns;⟨o,m⟩
 refine I.write (x:=a) (e:=dx) (by rw[e];exact True.intro) (.inr k) (λb q p z=>(x.2 b p).trans z) w ?_;refine⟨by rw[oU O.ne];exact k,?_,O.ne,d.obj,_,d.ns,λg=>?_,λg F=>?_⟩
 ·have:=Fj f y fs;omega
 ·show RelO ((putF f y fs).lookup g) (if g=f then some u else i g);rw[Fk]
  by_cases q:g=f
  ·rw[zJ q,zJ q];exact t
  ·rw[zI q,zI q];exact r g
 ·by_cases q:g=f
  ·rw[q];exact(Bu f y fs).1
  ·refine(Bu f y fs).2 g (j g λz=>F ?_);show(if g=f then some u else i g)=none;rw[zI q];exact z
theorem Inv.made(I:Inv X pins σ H s):Inv X pins σ (upd (upd H s.heap.objs.size (.own (s.heap.objs.size+1))) (s.heap.objs.size+1) (.ins C s.heap.objs.size []))
  {s with heap:=(s.heap.push PySem.W.emptyDict).push (PySem.W.instObj C s.heap.objs.size)}:=by
 have e1:(s.heap.push PySem.W.emptyDict).get? s.heap.objs.size=some PySem.W.emptyDict:=zQ s.heap rfl;have g:((s.heap.push PySem.W.emptyDict).push (PySem.W.instObj C s.heap.objs.size)).get? (s.heap.objs.size+1)=some (PySem.W.instObj C s.heap.objs.size):=by
  have:=zQ (s.heap.push PySem.W.emptyDict) (o:=PySem.W.instObj C s.heap.objs.size) rfl
  rwa[wA]at this
 have j:(s.heap.push PySem.W.emptyDict).Ns s.heap.objs.size (λ_=>none):=⟨PySem.W.emptyDict,#[],_,e1,rfl,(λe d=>absurd d (by simp)),λ_=>rfl⟩;have i:=I.laid (a:=s.heap.objs.size) (o:=.own (s.heap.objs.size+1)) (h':=s.heap.push PySem.W.emptyDict) (t':=s.toks) (λb u q=>zD _ q) (zE _) ⟨_,e1⟩;refine i.laid (a:=s.heap.objs.size+1) (o:=.ins C s.heap.objs.size []) (t':=s.toks) (λb u q=>zD _ q) (rL (wA _ _)) ?_;have c:s.heap.objs.size≠s.heap.objs.size+1:=yD (vJ _);refine⟨by rw[oU c,oQ],yV _,c,g,λ_=>none,(Heap.Ns1.of_empty j).at λo q=>zD _ q,λ_=>True.intro,λy k=>absurd rfl k⟩
theorem Os{prog:Program}{w:World}{env:Env}{e:Expr}{f:Str}{d:Pos}{s:Shared}{Q:VP}(c:attributeBase e f env (eval e env)=eval e env)
  (h:wpAny (model prog w) A (eval e env) (λo b=>wpAny (model prog w) A (getAttr o f true) Q E b) E s):wpAny (model prog w) A (eval (.Attribute e f d) env) Q E s:=
 Attribute_any_ h (by rw[arm_eval_Attribute,c])
end
def tFld(K:Frag)(ta:TE)(f:Str):TE:=λσ H Q=>ta σ H λx H1=>∃a C dx fs v,x=.ref a/\H1 a=some (.ins C dx fs)/\Cls K C/\gQ K C f/\fs.lookup f=some v/\Q v H1
def sFld(K:Frag)(ta tv:TE)(f:Str):TS:=λD σ H=>tv σ H λy H1=>ta σ H1 λx H2=>∃a C dx fs,x=.ref a/\H2 a=some (.ins C dx fs)/\Cls K C/\gQ K C f/\fs.length<1000 /\
 D.nx σ (upd H2 a (.ins C dx (putF f y fs)))
section
variable {X:Cx} {o e value:Expr} {f:Str} {pos pos' tpos:Pos} {ta tv:TE}
theorem fP(d:PE X e ta)(k:attributeBase e f X.env (eval e X.env)=eval e X.env):PE X (.Attribute e f pos) (tFld X.K ta f):=by
 intro j s σ H Q I h;refine Os k (thn (d j s σ H _ I h) ?_);rintro u y ⟨x,i,m,t,a,C,w,fs,v,r,g,c,n,l,q⟩;subst r;obtain rfl:u=Value.ref a:=t;exact Ou m g c n l λz D p b=>⟨v,i,p,b,q⟩
theorem dI(k:PE X o ta)(j:PE X value tv)(m:swapsWith value (some (.Attribute o f pos')) pos.line X.env=pure false):PS X (.Assign [.Attribute o f pos'] value pos) (sFld X.K ta tv f):=by
 intro b s σ H D I h;refine plainObj_wpAny_Assign_Attribute (thn (j b s σ H _ I h) λu d⟨y,w,p,g,q⟩=>thn (k b d σ w _ p q) ?_) m;rintro t K ⟨x,M,G,r,a,C,L,fs,i,v,c,n,l,F⟩;subst i;obtain rfl:t=Value.ref a:=r;exact Ot G v c n l g λJ z=>⟨σ,_,z,F⟩
end
section
variable {X:Cx} {pins:PN} {σ:St} {H:Hp} {s:Shared} {A:Around} {E:VP} {Q:VP} {c:Value} {b:Bool}
inductive TyOf(K:Frag)(H:Hp):V->Value->Prop where
 |non:TyOf K H .non (.type "NoneType")
 |bl (x:Bool):TyOf K H (.bl x) (.type "bool")
 |int (i:Int):TyOf K H (.int i) (.type "int")
 |str (x:Str):TyOf K H (.str x) (.type "str")
 |flt (x:UInt64):TyOf K H (.flt x) (.type "float")
 |lst {a:Addr} {xs:List V} (e:H a=some (.lst xs)):TyOf K H (.ref a) (.type "list")
 |frz {a:Addr} {o:Obj} {xs:List V} (e:H a=some (.frz o (.lst xs))):TyOf K H (.ref a) (.type "list")
 |tup {a:Addr} {xs:List V} (e:H a=some (.tup xs)):TyOf K H (.ref a) (.type "tuple")
 |dK {a:Addr} {kvs:List (Key×V)} (e:H a=some (.dK kvs)):TyOf K H (.ref a) (.type "dict")
 |dT {a:Addr} {kvs:List (List Key×V)} (e:H a=some (.dT kvs)):TyOf K H (.ref a) (.type "dict")
 | ins {a C dx:Addr} {fs:List (Str×V)} (e:H a=some (.ins C dx fs)) (cl:Cls K C) (ha:PySem.W.findIn K (.ref C) "__class__"=some (some (.builtin "object.__class__")))
   (hn:PySem.W.specialIn K (.builtin "object.__class__") "__get__"=some (some (.builtin "getset_descriptor.__get__"))) (htk:PySem.W.takesIn K (.builtin "object.__class__")=some true)
   (hm:PySem.W.mroIn K C (.type "object")=some true):TyOf K H (.ref a) (.ref C)
theorem Oq{x:V}{u f:Value}(I:Inv X pins σ H s)(g:RelV x u)(ty:TyOf X.K H x f)(e:PySem.W.kitOne X.K f c=some b)(h:∀tk,Q (.bool b) {s with toks:=tk}):
  wpAny (model X.prog X.w) A (call (.builtin "isinstance") [u,c]) Q E s:=by
 cases ty with
 |non=>cases(show u=Value.none from g);exact xT PySem.W.kitx_none I.kIn True.intro e (λz=>nomatch z) h
 |bl y=>cases(show u=Value.bool y from g);exact xT PySem.W.kitx_bool I.kIn True.intro e (λz=>nomatch z) h
 |int i=>obtain⟨f,q⟩:=(show∃f,u=Value.int i f from g);cases q;exact xT PySem.W.kitx_int I.kIn True.intro e (λz=>nomatch z) h
 |str y=>obtain⟨f,q⟩:=(show∃f,u=Value.str y f from g);cases q;exact xT PySem.W.kitx_str I.kIn True.intro e (λz=>nomatch z) h
 |flt y=>obtain⟨f,q⟩:=(show∃f,u=Value.float y f from g);cases q;exact xT PySem.W.kitx_float I.kIn True.intro e (λz=>nomatch z) h
 |@lst a xs d =>
  cases(show u=Value.ref a from g);obtain⟨_,_,n,_,j⟩:=(show mK X.prog X.w H s.heap a (.lst xs) from I.hok a _ d);exact xT PySem.W.kitx_list I.kIn ⟨_,j,rfl⟩ e (λz=>nomatch z) h
 |@frz a t xs d =>
  cases(show u=Value.ref a from g);obtain⟨_,_,_,n,_,j⟩:=(show mK X.prog X.w H s.heap a (.frz t (.lst xs)) from I.hok a _ d);exact xT PySem.W.kitx_list I.kIn ⟨_,j,rfl⟩ e (λz=>nomatch z) h
 |@tup a xs d =>
  cases(show u=Value.ref a from g);obtain⟨_,_,_,p⟩:=(show mK X.prog X.w H s.heap a (.tup xs) from I.hok a _ d);obtain⟨o,j,k,_⟩:=p;exact xT PySem.W.kitx_tuple I.kIn ⟨o,j,k⟩ e (λz=>nomatch z) h
 |@dK a kvs d =>
  cases(show u=Value.ref a from g);obtain⟨_,_,vs,_,p⟩:=(show mK X.prog X.w H s.heap a (.dK kvs) from I.hok a _ d);obtain⟨o,es,ep,j,k,_⟩:=p;exact xT PySem.W.kitx_dict I.kIn ⟨o,j,k.1⟩ e (λz=>nomatch z) h
 |@dT a kvs d =>
  cases(show u=Value.ref a from g);obtain⟨_,_,xs,_,o,es,ep,j,k,_⟩:=(show mK X.prog X.w H s.heap a (.dT kvs) from I.hok a _ d);exact xT PySem.W.kitx_dict I.kIn ⟨o,j,k.1⟩ e (λz=>nomatch z) h
 |@ins a C G fs d l D v w m =>
  cases(show u=Value.ref a from g);obtain⟨F,O,_⟩:=bN I.hok d;obtain⟨J,r,_⟩:=O.look;exact xT (PySem.W.kitx_own (l.get _) l.hd D v w m) I.kIn r e (λz=>nomatch z) h
end
structure Room(k:Nat)(A:Around):Prop where
 hd:A.handled=none
 dp:A.depth+3*k+5<recursionLimit
 un:A.units+16*k+200<cLine
theorem Room.mono{j k:Nat}{A:Around}(r:Room k A)(h:j<=k):Room j A:=⟨r.hd,by have:=r.dp;omega,by have:=r.un;omega⟩
theorem Room.mo{j k:Nat}{A:Around}(r:Room k A)(h:j<=k:=by first|decide|omega):Room j A:=r.mono h
theorem Room.deeper{k:Nat}{A:Around}(r:Room (k+1) A)(env:Env):Room k (A.deeper env):=
 ⟨r.hd,by have:=r.dp;show A.depth+1+3*k+5<_;omega,by have:=r.un;show A.units+3+16*k+200<_;omega⟩
theorem Op{A:Around}{C:Addr}{us:LW}{a:List (Str×Value)}:(A.under (.builtin "type.__call__" ⟨.ref C:: us,a⟩)).depth=A.depth+1:=by
 first|rfl|simp[Around.under,Code.weight,Code.isCreation,Code.isGuard,Code.isCaller,Code.frames,Code.isFrame,guardIds]
theorem Oo{A:Around}{C:Addr}{us:LW}{a:List (Str×Value)}:(A.under (.builtin "type.__call__" ⟨.ref C:: us,a⟩)).units=A.units+1:=by
 first|rfl|simp[Around.under,Code.cUnits,Code.frames,Code.isFrame]
theorem Room.make{k:Nat}{A:Around}(r:Room (k+1) A)(C:Addr)(us:LW)(a:List (Str×Value)):Room k (A.under (.builtin "type.__call__" ⟨.ref C:: us,a⟩)):=
 ⟨r.hd,by have:=r.dp;rw[Op];omega,by have:=r.un;rw[Oo];omega⟩
theorem Room.depth{k:Nat}{A:Around}(r:Room k A):A.depth<recursionLimit:=by have:=r.dp;omega
theorem Room.units{k:Nat}{A:Around}(r:Room k A):A.units+64<cLine:=by have:=r.un;omega
def tNil:TA:=λ_ H Q=>Q [] H
def oW(ta:TE)(tr:TA):TA:=λσ H Q=>ta σ H λx H1=>tr σ H1 λxs H2=>Q (x:: xs) H2
section
variable {X:Cx} {e:Expr} {es:List Expr} {te:TE} {t:TA} {pos:Pos}
theorem oK:PA X [] tNil:=λ_ _ _ _ H Q I h=>Calls.spliced_nil ⟨[],H,I,.nil,h⟩
theorem oJ(m:PE X e te)(hr:PA X es t)(n:starEach (e:: es) X.env=(false,eval e X.env):: starEach es X.env:=by rfl):PA X (e:: es) (oW te t):=by
 intro pos a s σ H Q I h;rw[n];show wpAny _ _ (spliced ((false,eval e X.env):: backTo pos (starEach es X.env))) _ _ s;refine Calls.spliced_cons (thn (m a s σ H _ I h) ?_);rintro u f ⟨x,d,k,b,i⟩;exact thn (hr pos a f σ d _ k i) λus o⟨xs,c,l,g,j⟩=>⟨x:: xs,c,l,.cons b g,j⟩
def tTup(t:TA):TE:=λσ H Q=>t σ H λxs H1=>xs.length<=sizeLine/\∀p,H1 p=none->Q (.ref p) (upd H1 p (.tup xs))
def tLst(t:TA):TE:=λσ H Q=>t σ H λxs H1=>xs.length<=sizeLine/\∀p,H1 p=none->Q (.ref p) (upd H1 p (.lst xs))
theorem mO{g}(h:PA X es t):PE X (.Tuple es g pos) (tTup t):=by
 intro i s σ H Q I j;refine wpAny_Tuple_spliced (thn (h pos i s σ H _ I j) λus a⟨xs,c,d,r,z,q⟩=>⟨by rw[←r.length];exact z,?_⟩);have f:c a.heap.objs.size=none:=d.hok.fresh (zE _);refine⟨.ref a.heap.objs.size,upd c a.heap.objs.size (.tup xs),d.laid (t':=a.toks) (λb u e=>zD _ e) (zE _) ?_,rfl,q _ f⟩;exact⟨z,us,r,⟨_,zQ _ rfl,rfl,_,rfl⟩⟩
theorem lH(h:PA X es t):PE X (.List es pos) (tLst t):=by
 intro g s σ H Q I i;refine wpAny_List_spliced (thn (h pos g s σ H _ I i) λus a⟨xs,c,d,r,z,q⟩=>⟨by rw[←r.length];exact z,?_⟩);have f:c a.heap.objs.size=none:=d.hok.fresh (zE _);refine⟨.ref a.heap.objs.size,upd c a.heap.objs.size (.lst xs),d.laid (t':=a.toks) (λb u e=>zD _ e) (zE _) ?_,rfl,q _ f⟩;exact⟨z,us,0,r,zQ _ rfl⟩
end
abbrev Sp:=List V->Hp->VK->XK->Prop
abbrev CXT:=List Env->Hp->Shared->XK->VP
structure Env0(P:Program)(w:World)(K:Frag)(mg:MT)(base:Heap)(A:Around)(outer:List Env)(s:Shared)(H:Hp):Prop where
 frames:A.frames=some outer
 mod:Mod K mg base
 bs:∀b o,base.get? b=some o->s.heap.get? b=some o/\H b=none
 bsz:base.objs.size<=s.heap.objs.size
 funs:s.heap.FunFrames base outer
 frf:∀b∈frs outer,H b=none
 hok:HOk P w H s.heap
 bare:AllBare s.gens
def CE(outer:List Env)(P:Program)(w:World)(H:Hp)(s:Shared)(Q:VK)(u:Value)(s':Shared):Prop:=
 ∃v H',s'.os=s.os/\AllBare s'.gens/\Un (frs outer) [] H H' s.heap s'.heap/\HOk P w H' s'.heap/\RelV v u/\Q v H'
def CR(CX:CXT)(outer:List Env)(P:Program)(w:World)(H:Hp)(s:Shared)(Q:VK)(E:XK)(r:Result)(s':Shared):Prop:=
 match r with
 |.ok (.ret u)=>CE outer P w H s Q u s'
 |.ok _=>False
 |.error e=>CX outer H s E e s'
structure FnOk(P:Program)(w:World)(K:Frag)(mg:MT)(base:Heap)(CX:CXT)(k:Nat)(f:Addr)(fd:FuncData)(ps:List Str)(sp:Sp):Prop where
 len:∀vs H Q E,sp vs H Q E->vs.length=ps.length
 run:∀(A:Around)(outer:List Env)(s:Shared)(H:Hp)(args:Args)(us:LW)(vs:List V)(Q:VK)(E:XK),Room k A->Env0 P w K mg base A outer s H->BindsTo s fd args (ps.zip us)->Vals vs us->sp vs H Q E ->
  codeAny (model P w) A (.call (.ref f) args) (CR CX outer P w H s Q E) s
theorem Env0.make{P:Program}{w:World}{K:Frag}{b:MT}{a:Heap}{A:Around}{outer:List Env}{s:Shared}{H:Hp}(e:Env0 P w K b a A outer s H)(C:Addr)(us:LW)(c:List (Str×Value)):
  Env0 P w K b a (A.under (.builtin "type.__call__" ⟨.ref C:: us,c⟩)) outer s H:=⟨by first|exact e.frames|(simpa [Around.under,Code.envs,Code.isFrame,pushEnvs]using e.frames),e.mod,e.bs,e.bsz,e.funs,e.frf,e.hok,e.bare⟩
section
variable {X:Cx} {pins:PN} {σ:St} {H:Hp} {s s':Shared}
theorem Inv.env0(I:Inv X pins σ H s):Env0 X.prog X.w X.K X.mg X.base X.A X.stack s H:=
 ⟨I.ok.frames,I.ok.mod,I.bs,yA I.ok.bsz I.sz,I.stack,I.stkFree,I.hok,I.bare⟩
theorem Inv.after{Q:VK}{u:Value}(I:Inv X pins σ H s)(h:CE X.stack X.prog X.w H s Q u s'):EP X pins σ Q u s':=by
 obtain⟨v,H',c,e,un,a,r,q⟩:=h;obtain⟨hh,g,d,f,i⟩:=s';obtain rfl:i=s.os:=c;exact⟨v,H',I.call (h':=hh) (g':=g) (d':=d) (t':=f) (ch:=[]) un a e (λb z=>absurd z (by simp)),r,q⟩
end
def mJ(sp:Sp)(dvs:List V)(E:XK)(t:TA):TE:=λσ H Q=>t σ H λvs H1=>sp (vs++dvs) H1 Q E
def jK(C:Addr)(m:Str)(sp:Sp)(dvs:List V)(E:XK)(ta:TE)(t:TA):TE:=λσ H Q=>ta σ H λx H1=>∃a dx fs,x=.ref a/\H1 a=some (.ins C dx fs)/\fs.lookup m=none /\
 t σ H1 λvs H2=>sp (x:: (vs++dvs)) H2 Q E
def bO(C:Addr)(sp:Sp)(dvs:List V)(E:XK)(t:TA):TE:=λσ H Q=>t σ H λvs H1=>∀x dx,H1 x=none->H1 dx=none->dx≠x ->
 sp (.ref x:: (vs++dvs)) (upd (upd H1 dx (.own x)) x (.ins C dx [])) (λv H2=>v=.non/\Q (.ref x) H2) E
def lI(K:Frag)(fd:FuncData)(ps:List Str)(ds:LW):Prop:=
 ∀(s:Shared)(us:LW),K.In s.heap->(us++ds).length=ps.length->BindsTo s fd ⟨us,[]⟩ (ps.zip (us++ds))
theorem lI.all{K:Frag}{a:FuncData}{ps:List Str}(h:∀us:LW,us.length=ps.length->bindArgs a ⟨us,[]⟩=pure (ps.zip us)):lI K a ps []:=λs us _ hl=>by
 rw[uJ]at hl ⊢;exact .of_eq (h us hl)
def iX(CX:CXT)(X:Cx)(E:XK):Prop:=∀(pins:PN)(σ:St)(H:Hp)(s:Shared)(e:Value)(s':Shared),Inv X pins σ H s->CX X.stack H s E e s'->X.xe e s'
section
variable {X:Cx} {CX:CXT} {k:Nat} {f C:Addr} {fd:FuncData} {ps:List Str} {sp:Sp} {dvs:List V} {ds:LW} {E:XK} {x m:Str} {p pos apos:Pos} {e o:Expr} {es:List Expr} {ta:TE} {t:TA}
theorem Bt{b:PN}{σ:St}{H:Hp}{s:Shared}{Q:VK}{us:LW}{vs:List V}(F:FnOk X.prog X.w X.K X.mg X.base CX k f fd ps sp)(hr:Room k X.A)(j:lI X.K fd ps ds)(d:Vals dvs ds)(g:iX CX X E)
  (I:Inv X b σ H s)(r:Vals vs us)(h:sp (vs++dvs) H Q E):wpAny (model X.prog X.w) X.A (call (.ref f) us) (EP X b σ Q) X.xe s:=by
 have c:Vals (vs++dvs) (us++ds):=r.append d;have hl:(us++ds).length=ps.length:=by rw[←c.length];exact F.len _ _ _ _ h
 refine wpAny_call (qU (F.run X.A X.stack s H ⟨us,[]⟩ (us++ds) (vs++dvs) Q E hr I.env0 (j s us I.kIn hl) c h) λr i a=>?_);cases r with
 |error e=>exact g b σ H s e i I a
 |ok fl =>
  cases fl with
  |ret u=>exact I.after a
  |next=>exact False.elim a
  |brk=>exact False.elim a
  |cont=>exact False.elim a
theorem jW(F:FnOk X.prog X.w X.K X.mg X.base CX k f fd ps sp)(hr:Room k X.A)(w:Gl X x)(c:X.mg x=some (.ref f))(n:PySem.W.keepIn X.K (.ref f)=true)(l:lI X.K fd ps ds)(d:Vals dvs ds)(g:iX CX X E)
  (v:PA X (e:: es) t)(i:(x == ("__debug__" :Str))=false:=by decide)(b:starEach (e:: es) X.env=(false,eval e X.env):: starEach es X.env:=by rfl)(u:(backTo pos (starEach es X.env)).any (·.1)=false:=by rfl):
  PE X (.Call (.Name x p) (e:: es) [] pos) (mJ sp dvs E t):=by
 intro j s σ H Q I h;refine uH (bF I w c ?_ i);refine qI (h₀:=X.base) I.ok.mod.kin n (thn (v pos j s σ H _ I h) λus z⟨vs,y,a,r,q⟩=>⟨a.kIn,?_⟩) b u;exact Bt F hr l d g a r q
theorem Fh{pl:Sem Bool}(z:PE X o ta)(c:Cls X.K C)(i:Meth X.K C m f)(F:FnOk X.prog X.w X.K X.mg X.base CX k f fd ps sp)(hr:Room k X.A)(w:lI X.K fd ps ds)(P:Vals dvs ds)(v:iX CX X E)(J:PA X (e:: es) t)
  (L:starEach (e:: es) X.env=(false,eval e X.env):: starEach es X.env:=by rfl)(D:(backTo pos (starEach es X.env)).any (·.1)=false:=by rfl)
  (y:eval (.Call (.Attribute o m apos) (e:: es) [] pos) X.env=(do
   let g ←eval o X.env
   standAt apos.atName
   let (f,first) ←holding [g] (getMethod g m pl)
   callWith pos f first (backTo pos (starEach (e:: es) X.env)) (backToKw pos (keywordEach [] X.env))):=by rfl):
  PE X (.Call (.Attribute o m apos) (e:: es) [] pos) (jK C m sp dvs E ta t):=by
 intro b s σ H Q I h;refine PySem.W.methodCall_KW (pl:=pl) (thn (z b s σ H _ I h) ?_) y;rintro u n ⟨x,N,d,K,a,S,fs,G,M,l,q⟩;subst G;obtain rfl:u=Value.ref a:=K;refine Fi d M c i l ?_;refine qI (first:=[.ref a]) (h₀:=X.base) I.ok.mod.kin i.kp (thn (J pos b n σ N _ d q) λus R⟨vs,T,j,r,O⟩=>⟨j.kIn,?_⟩) L D;exact Bt (us:=.ref a:: us) (vs:=.ref a:: vs) F hr w P v j (.cons rfl r) O
theorem gR{pl:Sem Bool}(i:PE X o ta)(c:Cls X.K C)(d:Meth X.K C m f)(F:FnOk X.prog X.w X.K X.mg X.base CX k f fd ps sp)(hr:Room k X.A)(w:lI X.K fd ps ds)(y:Vals dvs ds)(n:iX CX X E)
  (D:eval (.Call (.Attribute o m apos) [] [] pos) X.env=(do
   let g ←eval o X.env
   standAt apos.atName
   let (f,first) ←holding [g] (getMethod g m pl)
   callWith pos f first (backTo pos (starEach [] X.env)) (backToKw pos (keywordEach [] X.env))):=by rfl):
  PE X (.Call (.Attribute o m apos) [] [] pos) (jK C m sp dvs E ta tNil):=by
 intro v s σ H Q I h;refine PySem.W.methodCall_KW (pl:=pl) (thn (i v s σ H _ I h) ?_) D;rintro u J ⟨x,K,b,r,a,G,fs,z,j,l,q⟩;subst z;obtain rfl:u=Value.ref a:=r;refine Fi b j c d l ?_;exact PySem.W.callWith_K0 (first:=[.ref a]) b.kIn d.kp (Bt (us:=[.ref a]) (vs:=[.ref a]) F hr w y n b (.cons rfl .nil) q)
structure Mk(K:Frag)(C f:Addr):Prop where
 makes:PySem.W.makesIn K C=true
 init:PySem.W.findIn K (.ref C) "__init__"=some (some (.ref f))
 fn:PySem.W.isFn K (.ref f)=true
 kp:PySem.W.keepIn K (.ref C)=true
theorem On{d:PN}{σ:St}{H:Hp}{s:Shared}{Q:VK}{us:LW}{vs:List V}(M:Mk X.K C f)(F:FnOk X.prog X.w X.K X.mg X.base CX k f fd ps sp)(hr:Room (k+1) X.A)(z:lI X.K fd ps ds)(l:Vals dvs ds)
  (q:iX CX X E)(I:Inv X d σ H s)(r:Vals vs us)
  (h:∀x b,H x=none->H b=none->b≠x->sp (.ref x:: (vs++dvs)) (upd (upd H b (.own x)) x (.ins C b [])) (λv j=>v=.non/\Q (.ref x) j) E):
  wpAny (model X.prog X.w) X.A (call (.ref C) us) (EP X d σ Q) X.xe s:=by
 have g:=h (s.heap.objs.size+1) s.heap.objs.size (I.hok.fresh (pE _)) (I.hok.fresh (zE _)) (yD (vJ _));have c:=Inv.made (C:=C) I;have i:Vals (V.ref (s.heap.objs.size+1):: (vs++dvs)) (Value.ref (s.heap.objs.size+1):: (us++ds)):=.cons rfl (r.append l);have hl:(Value.ref (s.heap.objs.size+1):: us++ds).length=ps.length:=by
  have e:=i.length;rw[F.len _ _ _ _ g]at e;exact e.symm
 refine wpAny_call (Ow (f:=f) I.kIn M.makes M.init (pU.mp M.fn) (qU (F.run _ X.stack _ _ ⟨Value.ref (s.heap.objs.size+1):: us,[]⟩ (Value.ref (s.heap.objs.size+1):: (us++ds)) _ _ E (hr.make C us [])
  (c.env0.make C us []) (z _ (Value.ref (s.heap.objs.size+1):: us) c.kIn hl) i g) λr y a=>?_))
 cases r with
 |error e=>exact q d σ _ _ e y c a
 | ok fl =>
  cases fl with
  |ret u =>
   obtain⟨v,H',n,w,D,G⟩:=c.after a;subst D;exact⟨w,⟨V.ref (s.heap.objs.size+1),H',n,rfl,G⟩⟩
  |next=>exact False.elim a
  |brk=>exact False.elim a
  |cont=>exact False.elim a
theorem Bs(M:Mk X.K C f)(F:FnOk X.prog X.w X.K X.mg X.base CX k f fd ps sp)(hr:Room (k+1) X.A)(v:Gl X x)(c:X.mg x=some (.ref C))(l:lI X.K fd ps ds)(d:Vals dvs ds)(g:iX CX X E)
  (u:PA X (e:: es) t)(i:(x == ("__debug__" :Str))=false:=by decide)(b:starEach (e:: es) X.env=(false,eval e X.env):: starEach es X.env:=by rfl)(n:(backTo pos (starEach es X.env)).any (·.1)=false:=by rfl):
  PE X (.Call (.Name x p) (e:: es) [] pos) (bO C sp dvs E t):=by
 intro j s σ H Q I h;refine uH (bF I v c ?_ i);refine qI (h₀:=X.base) I.ok.mod.kin M.kp (thn (u pos j s σ H _ I h) λus y⟨vs,w,a,r,q⟩=>⟨a.kIn,?_⟩) b n;exact On M F hr l d g a r q
end
section
variable {X:Cx} {CX:CXT} {k:Nat} {f C:Addr} {fd:FuncData} {ps ks:List Str} {sp:Sp} {E:XK} {x m:Str} {p pos apos kpos:Pos} {e o:Expr} {es:List Expr} {kws:List Keyword} {te ta:TE} {t tk:TA} {nm:Option Str}
variable {g:LW->LW->LW} {gV:List V->List V->List V}
end
structure oY(N P:List Str)(sc:Scope):Prop where
 kind:sc.kind=.function
 co:sc.isCoroutine=false
 gen:sc.isGenerator=false
 nd:N.Nodup
 pre:N.take P.length=P
 par:∀x∈P,sc.names.lookup x=some .local\/sc.names.lookup x=some .cell
 nofree:∀y∈sc.names,y.2≠.free
theorem Fg{a:Str->Option NameKind}{x:Str}:∀{binds:List (Str×Value)}{m:MT},(∀v,(x,v)∉binds)->bindL a binds m x=m x
 |[],_,_=>rfl
 | (n,v):: r,m,h=>by
  unfold bindL;rw[Fg λw b=>h w (zM _ b)];split
  ·have:x≠n:=by rintro rfl;exact h v zV
   simp[this]
  ·rfl
theorem Ff{a:Str->Option NameKind}{x:Str}:∀{binds:List (Str×Value)}{m:MT},(∀v,(x,v)∉binds)->bindC a binds m x=m x
 |[],_,_=>rfl
 | (n,v):: r,m,h=>by
  unfold bindC;rw[Ff λw b=>h w (zM _ b)];split
  ·rfl
  ·have:x≠n:=by rintro rfl;exact h v zV
   simp[this]
theorem Fe{b:Str->Option NameKind}{x:Str}{v:Value}:∀{P:List Str}{vs:LW}{i:Nat}{m:MT},P.Nodup->P[i]?=some x->vs[i]?=some v->b x=some .local ->
  bindL b (P.zip vs) m x=some v
 |[],_,_,_,_,h,_,_=>by simp at h
 |_:: _,[],_,_,_,_,h,_=>by simp at h
 |p:: P,w:: vs,0,m,e,a,c,d=>by
  simp at a c;subst a;subst c;show bindL b ((p,w):: P.zip vs) m p=_;unfold bindL;rw[Fg λv f=>(rM.mp e).1 (rO f).1,zJ d];simp
 |p:: P,w:: vs,i+1,m,e,a,c,d=>by
  show bindL b ((p,w):: P.zip vs) m x=_;unfold bindL;exact Fe (i:=i) (rM.mp e).2 (by simpa using a) (by simpa using c) d
theorem Fd{b:Str->Option NameKind}{x:Str}{v:Value}:∀{P:List Str}{vs:LW}{i:Nat}{m:MT},P.Nodup->P[i]?=some x->vs[i]?=some v->b x≠some .local ->
  bindC b (P.zip vs) m x=some v
 |[],_,_,_,_,h,_,_=>by simp at h
 |_:: _,[],_,_,_,_,h,_=>by simp at h
 |p:: P,w:: vs,0,m,e,a,c,d=>by
  simp at a c;subst a;subst c;show bindC b ((p,w):: P.zip vs) m p=_;unfold bindC;rw[Ff λv f=>(rM.mp e).1 (rO f).1,zI d];simp
 |p:: P,w:: vs,i+1,m,e,a,c,d=>by
  show bindC b ((p,w):: P.zip vs) m x=_;unfold bindC;exact Fd (i:=i) (rM.mp e).2 (by simpa using a) (by simpa using c) d
noncomputable def jX(N:List Str)(vs:List V):St:=vs.map some++List.replicate (N.length-vs.length) none
noncomputable def cxOf(CX:CXT)(P:Program)(w:World)(K:Frag)(mg:MT)(base:Heap)(N:List Str)(qual:Str)(scope:Scope)(f:Addr)(cd:Value)(A:Around)(outer:List Env)(s:Shared)(H:Hp)(E:XK):Cx where
 prog:=P
 w:=w
 K:=K
 mg:=mg
 base:=base
 A:=A.deeper (envOfC qual scope s.heap.objs.size f cd)
 N:=N
 s₀:=s
 H₀:=H
 env:=envOfC qual scope s.heap.objs.size f cd
 outer:=outer
 stack:=envOfC qual scope s.heap.objs.size f cd:: outer
 ex:=[]
 calm:=true
 fn:=λ_=>true
 pn:=[]
 xe:=λe s'=>wpAny (model P w) (A.deeper (envOfC qual scope s.heap.objs.size f cd)) (leaving (envOfC qual scope s.heap.objs.size f cd) e) (λ_ s''=>CX outer H s E e s'') (λe' s''=>CX outer H s E e' s'') s'
theorem Fc{sc:Scope}{n:Nat}{x:Str}(h:sc.names.lookup x=some .cell):∃c,(cellsFrom n sc.names []).lookup x=some c:=by
 have q:=PySem.W.cellsFrom_some sc.names n [] (.inl h);exact Option.isSome_iff_exists.mp q
theorem Om{O:CXT}{P:Program}{w:World}{K:Frag}{D:MT}{G:Heap}{N ps:List Str}{o:Str}{j:Scope}{f:Addr}{C:Value}{A:Around}{outer:List Env}{s I:Shared}{H:Hp}{E:XK}{us:LW}{vs:List V}
  (m:oY N ps j)(T:A.handled=none)(g:Env0 P w K D G A outer s H)(hl:vs.length=ps.length)(r:Vals vs us)
  (x:InCallC s s.heap.objs.size (bindL (envOfC o j s.heap.objs.size f C).kindOf (ps.zip us) λ_=>none) (cellsFrom (s.heap.objs.size+1) j.names []) (bindC (envOfC o j s.heap.objs.size f C).kindOf (ps.zip us) λ_=>none) I):
  Inv (cxOf O P w K D G N o j f C A outer s H E) [] (jX N vs) H I:=by
 have W:ps.length<=N.length:=by have:=wH List.length m.pre;rw[xF]at this;omega
 obtain⟨t,tk,rfl,J⟩:=x.done;have F:∀b:Addr,b∉(cxOf O P w K D G N o j f C A outer s H E).ex:=λb z=>absurd (show b∈([]:LA) from z) (by simp);refine⟨⟨g.mod,m.kind,rfl,rfl,zE _,λy z c t d=>?_,λy l=>?_,λy c _ h=>?_,λ_=>T,Around.frames_deeper g.frames,.inr ⟨rfl,rfl⟩,λb z=>absurd z (F b),g.bs,g.bsz,λb _ _=>F b,λb z=>absurd z (F b),g.funs,g.frf⟩,
  rfl,g.bare,Un.kept J,⟨_,x.toInCall.ns,λi y v t d U=>?_⟩,λy c h=>⟨_,x.cell y c h⟩,g.hok.fresh (zE _),λy c h=>?_,λp n=>absurd (show p∈([]:PN) from n) (by simp),g.hok.kept J,?_⟩
 ·exact name_of_addr x.apart (vH t) (vH d)
 ·have l:j.names.lookup y=some .cell\/j.names.lookup y=some .free:=l;rcases l with l|l
  ·exact Fc l
  ·exact absurd rfl (m.nofree _ (vH l))
 ·exact xX (x.above y c (vH h))
 ·have hi:i<vs.length:=by
   unfold jX at d
   by_cases hi:i<vs.length
   ·exact hi
   ·rw[zZ (by simpa using hi)]at d;rw[vG]at d;split at d <;> cases d
  have R:vs[i]?=some v:=by
   unfold jX at d;rw[yI (by simpa using hi),zC]at d;cases e:vs[i]? with
   |none=>rw[e]at d;cases d
   |some a=>rw[e]at d;cases d;rfl
  obtain⟨u,L,S⟩:=r.get R;have n:ps[i]?=some y:=by
   rw[←m.pre,List.getElem?_take_of_lt ⋯];exact t
  have M:ps.Nodup:=by rw[←m.pre];exact m.nd.sublist (List.take_sublist _ _)
  refine⟨u,S,?_⟩;rcases m.par y (yK n) with k|k
  ·exact .inl ⟨k,Fe M n L k⟩
  ·obtain⟨c,e⟩:=Fc (n:=s.heap.objs.size+1) k;refine .inr ⟨.inl k,c,e,?_⟩;have q:=x.cell y c e;rw[Fd M n L (by show j.names.lookup y≠_;rw[k];decide)]at q;exact q
 ·exact g.hok.fresh (xX (x.above y c (vH h)))
 ·unfold jX;show _=N.length;rw[zS,yL,xM];omega
theorem Br{p:CXT}{P:Program}{w:World}{K:Frag}{l:MT}{m:Heap}{k:Nat}{f:Addr}{name d:Str}{L:Arguments}{body:List Stmt}{a:Scope}{J kV M R cdv O a6:Value}{S a4:Option Addr}
  {X:Array (Option Value)}{N ps:List Str}{sp:Sp}(a2:K.lookup f=some ⟨a6,a4,.func (PySem.W.fnOf name d L body a J kV M R S cdv O),X⟩)(Z:PySem.W.codeIn K cdv d=true)(j:oY N ps a)
  (len:∀vs H Q E,sp vs H Q E->vs.length=ps.length)
  (a3:∀(A:Around)(outer:List Env)(s:Shared)(H:Hp)(vs:List V)(Q:VK)(E:XK),Room k (A.deeper (envOfC d a s.heap.objs.size f cdv))->sp vs H Q E ->
   ∃D,PSs (cxOf p P w K l m N d a f cdv A outer s H E) body D/\D {nx:=λ_ H'=>Q .non H',rt:=Q} (jX N vs) H):
  FnOk P w K l m p (k+1) f (PySem.W.fnOf name d L body a J kV M R S cdv O) ps sp:=by
 refine⟨len,λA outer s H a8 us vs Q E hr i W r T=>?_⟩;have hl:=len _ _ _ _ T;have KX:K.In s.heap:=i.mod.kin.keeps λb o e=>(i.bs b o e).1;have a7:s.heap.NoLimit:=i.mod.nolimit.keeps λb o e=>(i.bs b o e).1;have U:∀y∈ps.zip us,a.names.lookup y.1=some .local\/(a.names.lookup y.1=some .cell/\((cellsFrom (s.heap.objs.size+1) a.names []).lookup y.1).isSome=true):=λ⟨n,v⟩a5=>by
  rcases j.par n (rO a5).1 with q|q
  ·exact .inl q
  ·exact .inr ⟨q,PySem.W.cellsFrom_some _ _ _ (.inl q)⟩
 refine codeAny_call_function hr.depth (KX _ _ a2) rfl j.co j.gen rfl (PySem.W.codeRec_of KX Z) (W _ _ _ _ ?_);refine wpAny_newFunctionEnv_cells j.kind U λenv a1 G x=>?_;subst a1;refine⟨a7.keeps x.toInCall.keep,codeAny_func ?_⟩;obtain⟨D,a0,Y⟩:=a3 A outer s H vs Q E (hr.deeper _) T;have I:Inv (cxOf p P w K l m N d a f cdv A outer s H E) [] (jX N vs) H G:=Om j hr.hd i hl r x;refine xS (a0 [] G (jX N vs) H _ I Y) (λfl z g=>?_) λe z g=>g;have F:∀{t:St}{H':Hp}{v:V}{u:Value},Inv (cxOf p P w K l m N d a f cdv A outer s H E) [] t H' z->RelV v u->Q v H'->CE outer P w H s Q u z:=
  λ{t H' v u}c C q=>⟨v,H',c.os,c.bare,c.base,c.hok,C,q⟩
 cases fl with
 |ret u =>
  obtain⟨v,t,H',c,C,q⟩:=g;exact F c C q
 |next =>
  obtain⟨t,H',c,q⟩:=g;exact F (v:=V.non) (u:=Value.none) c rfl q
 |brk =>
  obtain⟨_,_,_,q⟩:=g;exact False.elim q
 |cont =>
  obtain⟨_,_,_,q⟩:=g;exact False.elim q
section
variable {X:Cx} {x:Str} {p pos:Pos} {e:Expr} {es:List Expr} {t:TA} {id T:String} {r:List V->Hp->VK->Prop}
def tCB(r:List V->Hp->VK->Prop)(t:TA):TE:=λσ H Q=>t σ H λvs H1=>r vs H1 Q
theorem lJ(d:kI X (.builtin id) r)(u:Gl X x)(g:X.mg x=none)(o:bootBuiltins x=some (.builtin id))(q:PA X (e:: es) t)(n:x≠"__name__" := by decide)(k:(x == ("__debug__" :Str))=false:=by decide)
  (c:starEach (e:: es) X.env=(false,eval e X.env):: starEach es X.env:=by rfl)(f:(backTo pos (starEach es X.env)).any (·.1)=false:=by rfl):PE X (.Call (.Name x p) (e:: es) [] pos) (tCB r t):=by
 intro a s σ H Q I h;refine uH (gO I u g o ?_ n k);exact PyProof.Rows.callWith_builtin1 (thn (q pos a s σ H _ I h) λus j⟨vs,i,m,b,l⟩=>d a j σ i vs us Q m b l) c f
theorem mP(d:kI X (.type T) r)(u:Gl X x)(g:X.mg x=none)(o:bootBuiltins x=some (.type T))(q:PA X (e:: es) t)(n:x≠"__name__" := by decide)(k:(x == ("__debug__" :Str))=false:=by decide)
  (c:starEach (e:: es) X.env=(false,eval e X.env):: starEach es X.env:=by rfl)(f:(backTo pos (starEach es X.env)).any (·.1)=false:=by rfl):PE X (.Call (.Name x p) (e:: es) [] pos) (tCB r t):=by
 intro a s σ H Q I h;refine uH (gO I u g o ?_ n k);exact wR (thn (q pos a s σ H _ I h) λus j⟨vs,i,m,b,l⟩=>d a j σ i vs us Q m b l) c f
end
end L2
namespace HT
open PySem PyProof.Rows
section
open PySem.SeqAt
open PySem.AutoSeq1 (wpAny_loadPart')
open PySem.MeetsSeq PySem.MeetsSeq2 PySem.MeetsSeq3
end
section
variable {prog:Program} {w:World} {A:Around} {E:VP} {s:Shared}
noncomputable def sIx(n d:Nat):Option Int->Nat
 |none=>d
 |some v=>if v<0 then(v+(n:Int)).toNat else min v.toNat n
theorem sIx_none(n d:Nat):sIx n d none=d:=rfl
theorem sIx_nat(n d k:Nat):sIx n d (some (k:Int))=min k n:=by
 show(if(k:Int)<0 then((k:Int)+(n:Int)).toNat else min (k:Int).toNat n)=min k n;rw[zI ⋯,zR]
theorem Ol(n d:Nat)(b:d<=n)(o:Option Int):sIx n d o<=n:=by
 cases o with
 |none=>exact b
 |some v =>
  show(if v<0 then(v+(n:Int)).toNat else min v.toNat n)<=n
  by_cases a:v<0
  ·rw[zJ a];omega
  ·rw[zI a];exact Nat.min_le_right _ _
theorem Fb(v:Int)(n d:Nat):(if v<0 then max (v+(n:Int)) 0 else min v (n:Int))=((sIx n d (some v):Nat):Int):=by
 show(if v<0 then max (v+(n:Int)) 0 else min v (n:Int))=(((if v<0 then(v+(n:Int)).toNat else min v.toNat n):Nat):Int)
 by_cases a:v<0
 ·simp only[if_pos a];omega
 ·simp only[if_neg a];omega
theorem Oj(lo hi:Option Int)(n:Nat):Builtin.Slice.sliceAdjust lo hi 1 (n:Int)=(((sIx n 0 lo:Nat):Int),((sIx n n hi:Nat):Int)):=by
 have a:¬ ((1:Int)<0):=⋯
 unfold Builtin.Slice.sliceAdjust;simp only[a,if_false];refine Prod.ext ?_ ?_
 ·cases lo with
  |none=>rfl
  |some v=>exact Fb v n 0
 ·cases hi with
  |none=>rfl
  |some v=>exact Fb v n n
theorem Oi(i j:Nat):Builtin.Slice.slicePlaces (i:Int) (j:Int) 1=j-i:=by
 unfold Builtin.Slice.slicePlaces;have a:(1:Int) > 0:=⋯
 simp only[a,if_true,Int.ediv_one];split <;> omega
theorem Fa{v:Value}{o:Option Int}{Q:Option Int->Shared->Prop}(p:IsPart v o)(h:Q o s):wpAny (model prog w) A (Builtin.Slice.slicePartIndex v) Q E s:=by
 cases p with
 |none=>exact slicePart_none h
 |int i t=>exact slicePart_int h
theorem Oh{e:Addr}{b a:Value}{lo hi:Option Int}{n:Nat}{Q:Int×Int×Nat->Shared->Prop}(g:s.heap.IsSliceOf e b a .none)(pl:IsPart b lo)(f:IsPart a hi)
  (h:Q (((sIx n 0 lo:Nat):Int),1,sIx n n hi-sIx n 0 lo) s):wpAny (model prog w) A (Builtin.Slice.sliceApplied (.ref e) (pure (n:Int))) Q E s:=by
 obtain⟨j,c,i,d⟩:=id g;unfold Builtin.Slice.sliceApplied Builtin.Slice.sliceFields;refine zA (zA (xZ c d (x:=b) rfl (zA (xZ c d (x:=a) rfl (zA (xZ c d (x:=.none) rfl (zB ?_)))))));refine zA (slicePart_none ?_);show wpAny _ _ (if((1:Int) == 0)=true then _ else _) _ _ s;rw[zI ∅];refine zA (Fa pl (zA (Fa f (zA (zB ?_)))));show wpAny _ _ (match Builtin.Slice.sliceAdjust lo hi 1 (n:Int) with|(lo,hi)=>pure (lo,(1:Int),Builtin.Slice.slicePlaces lo hi 1)) _ _ s;rw[Oj lo hi n];show wpAny _ _ (pure (((sIx n 0 lo:Nat):Int),(1:Int),Builtin.Slice.slicePlaces ((sIx n 0 lo:Nat):Int) ((sIx n n hi:Nat):Int) 1)) _ _ s;rw[Oi];exact zB h
theorem Og(xs:Array Value)(i k:Nat):((List.range k).filterMap λ(m:Nat)=>xs[((i:Int)+(m:Int)*1).toNat]?).toArray=((xs.toList.drop i).take k).toArray:=by
 have e:(λ(m:Nat)=>xs[((i:Int)+(m:Int)*1).toNat]?)=λm=>xs[i+m]?:=by
  funext m
  have:((i:Int)+(m:Int)*1).toNat=i+m:=⋯
  rw[this]
 rw[e];have:=pick_run xs i k;rw[List.filterMap_map]at this;have a:((λx=>xs[x]?)∘ λx=>i+x)=λm=>xs[i+m]?:=rfl;rw[a]at this;rw[this]
theorem getItem_tuple_cut{d c:Addr}{items:Array Value}{f e:Value}{lo hi:Option Int}{Q:VP}(b:IsTup s.heap d items)(g:s.heap.IsSliceOf c f e .none)(pl:IsPart f lo)(i:IsPart e hi)
  (j:¬ (sIx items.size 0 lo=0/\sIx items.size items.size hi=items.size))
  (h:Q (.ref s.heap.objs.size) {s with heap:=s.heap.push {cls:=.type "tuple",data:=.seq ((items.toList.drop (sIx items.size 0 lo)).take (sIx items.size items.size hi-sIx items.size 0 lo)).toArray}})
  (hsz:items.size<=sizeLine):wpAny (model prog w) A (getItem (.ref d) (.ref c)) Q E s:=by
 have a:sizeOk (.seq ((items.toList.drop (sIx items.size 0 lo)).take (sIx items.size items.size hi-sIx items.size 0 lo)).toArray):=by
  show((items.toList.drop (sIx items.size 0 lo)).take (sIx items.size items.size hi-sIx items.size 0 lo)).toArray.size<=sizeLine;rw[zX,xF,tG,zN];omega
 have u:sIx items.size items.size hi<=items.size:=Ol _ _ (zE _) hi;obtain⟨m,n,k,t⟩:=id g;have l:s.TypeIs (.ref c) "slice" := ⟨m,n,k⟩;unfold getItem
 try with_reducible refine xU ?_
 first|refine zA (zB ?_)|skip
 refine zA (wpAny_sequenceKey b.typeIs ∅ ?_);refine zA (xP (name:=Str.ofString "__getitem__") b.typeIs PyProof.Rows.slot_tuple_getitem
  (xJ PyProof.Rows.slot_tuple_getitem b.typeIs entry_tuple_getitem ?_ (args_tuple_getitem _ _)))
 show wpAny _ _ (Builtin.Tuple.tupleItemsOf (.ref d) >>= _) _ _ s;refine zA (tupleItemsOf_ b ?_);refine zA (tW l ?_);rw[zJ ∅];refine zA (Oh g pl i ?_);have o:¬ ((((sIx items.size 0 lo:Nat):Int) == 0 && (1:Int) == 1 && (sIx items.size items.size hi-sIx items.size 0 lo) == items.size)=true):=by
  intro q;rw[zT,zT]at q;have p:((sIx items.size 0 lo:Nat):Int)=0:=yS q.1.1;have r:sIx items.size items.size hi-sIx items.size 0 lo=items.size:=yS q.2;exact j ⟨⋯,⋯⟩
 show wpAny _ _ (if(((sIx items.size 0 lo:Nat):Int) == 0 && (1:Int) == 1 && (sIx items.size items.size hi-sIx items.size 0 lo) == items.size)=true then _ else _) _ _ s;rw[zI o,Og]
 first
  |exact zA (m:=Builtin.Tuple.tupleExact _) (yX (zB ⟨_,rfl,zB h⟩) a)
  |exact zA (m:=Builtin.Tuple.tupleExact _) (yX (zA (zB (zB ⟨_,rfl,zB h⟩))) a)
  |exact zA (zA (m:=Builtin.Tuple.tupleExact _) (yX (zB (zB ⟨_,rfl,zB h⟩)) a))
  |exact zA (zA (m:=Builtin.Tuple.tupleExact _) (yX (zB ⟨_,rfl,zB h⟩) a))
end
end HT
namespace L2
open PySem PySem.Spec PyProof.Rows
open PySem.W (Frag)
abbrev TO:=St->Hp->(Option Int->Hp->Prop)->Prop
def PO(X:Cx)(e:Option Expr)(t:TO):Prop:=
 ∀(pins:PN)(s:Shared)(σ:St)(H:Hp)(Q:Option Int->Hp->Prop),Inv X pins σ H s->t σ H Q ->
  wpAny (model X.prog X.w) X.A (evalPart e X.env) (λu s'=>∃o H',Inv X pins σ H' s'/\IsPart u o/\Q o H') X.xe s
def Bq:TO:=λ_ H Q=>Q none H
def Bp(t:TE):TO:=λσ H Q=>t σ H λx H1=>∃i,x=.int i/\Q (some i) H1
section
variable {X:Cx} {e:Expr} {te:TE} {lo hi:Option Expr} {tl th:TO} {pos p2:Pos}
theorem Gz:PO X none Bq:=by
 intro a s σ H Q I h;rw[evalPart_none];exact zB ⟨none,H,I,.none,h⟩
theorem iY(h:PE X e te):PO X (some e) (Bp te):=by
 intro f s σ H Q I b;rw[evalPart_some];refine thn (h f s σ H _ I b) ?_;rintro u k ⟨x,c,j,a,d⟩;obtain⟨i,rfl,q⟩:=d;obtain⟨g,rfl⟩:=a;exact⟨some i,c,j,.int i g,q⟩
def SlR(X:Cx)(r:V->Option Int->Option Int->Hp->VK->Prop):Prop:=
 ∀(pins:PN)(s:Shared)(σ:St)(H:Hp)(x:V)(v vl vu:Value)(lo hi:Option Int)(sl:Addr)(Q:VK),Inv X pins σ H s->RelV x v->s.heap.IsSliceOf sl vl vu .none->IsPart vl lo->IsPart vu hi->r x lo hi H Q ->
  ∃T id,typeLookup (.type T) "__getitem__"=pure (some (.builtin id))/\s.TypeIs v T/\wpAny (model X.prog X.w) X.A (getItem v (.ref sl)) (EP X pins σ Q) X.xe s
def tSl(r:V->Option Int->Option Int->Hp->VK->Prop)(te:TE)(tl th:TO):TE:=λσ H Q=>te σ H λx H1=>tl σ H1 λl H2=>th σ H2 λu H3=>r x l u H3 Q
theorem dJ{r:V->Option Int->Option Int->Hp->VK->Prop}(hr:SlR X r)(n:PE X e te)(hl:PO X lo tl)(p:PO X hi th):PE X (.Subscript e (.Slice lo hi none p2) pos) (tSl r te tl th):=by
 intro c s σ H Q I h;refine Subscript_ (thn (n c s σ H _ I h) ?_);rintro v i ⟨x,D,z,w,j⟩;refine wpAny_Slice (thn (hl c i σ D _ z j) λd k⟨l,t,K,pl,G⟩=>thn (p c k σ t _ K G) ?_);rintro f a ⟨u,g,F,y,J⟩;rw[evalPart_none];refine zB ?_;have o:Inv X c σ g {a with heap:=a.heap.push {cls:=.type "slice",data:=.fields #[d,f,.none]}}:=F.kept (t':=a.toks) λb M q=>zD _ q;obtain⟨T,id,L,m,C⟩:=hr c {a with heap:=a.heap.push {cls:=.type "slice",data:=.fields #[d,f,.none]}} σ g x v d f l u a.heap.objs.size Q o w (Heap.IsSliceOf.new ..) pl y J;show wpAny (model X.prog X.w) X.A (subscriptTail e (.Slice lo hi none p2) v (.ref a.heap.objs.size)) (EP X c σ Q) X.xe {a with heap:=a.heap.push {cls:=.type "slice",data:=.fields #[d,f,.none]}};exact tail_any (ops:=[.ref a.heap.objs.size,v]) m L C (by with_unfolding_all rfl)
def cutV(xs:List V)(lo hi:Option Int):List V:=(xs.drop (HT.sIx xs.length 0 lo)).take (HT.sIx xs.length xs.length hi-HT.sIx xs.length 0 lo)
theorem Gy(xs:List V)(lo hi:Option Int):(cutV xs lo hi).length<=xs.length:=by
 unfold cutV;rw[xF,tG];omega
def rSlT(K:Frag):V->Option Int->Option Int->Hp->VK->Prop:=λx lo hi H Q=>∃a xs,x=.ref a/\SqT K H a xs /\
 ¬ (HT.sIx xs.length 0 lo=0/\HT.sIx xs.length xs.length hi=xs.length)/\∀p,H p=none->Q (.ref p) (upd H p (.tup (cutV xs lo hi)))
theorem Of:SlR X (rSlT X.K):=by
 intro p s σ H x v o m lo hi n Q I l k pl g h;obtain⟨a,xs,rfl,j,i,q⟩:=h;cases l;obtain⟨its,r,f,d⟩:=I.tuple j;have c:its.toArray.size=xs.length:=by rw[zX];exact r.length.symm
 refine⟨"tuple",_,PyProof.Rows.slot_tuple_getitem.lookup,f.typeIs,?_⟩;refine HT.getItem_tuple_cut f k pl g (by rw[c];exact i) ?_ (by rw[c];exact d);rw[c];refine⟨.ref s.heap.objs.size,_,I.laid (t':=s.toks) (o:=.tup (cutV xs lo hi)) (λb t q=>zD _ q) (zE _) ?_,rfl,q _ (I.hok.fresh (zE _))⟩;exact⟨yA (Gy xs lo hi) d,_,(r.drop (HT.sIx xs.length 0 lo)).take (HT.sIx xs.length xs.length hi-HT.sIx xs.length 0 lo),IsTup.new _ _⟩
end
noncomputable def ixN(n:Nat)(i:Int):Option Nat:=if 0<=i then(if i<n then some i.toNat else none) else if -(n:Int)<=i then some (i+n).toNat else none
def atI{α:Type}(xs:List α)(i:Int):Option α:=(ixN xs.length i).bind λj=>xs[j]?
theorem Gx{n:Nat}{i:Int}{j:Nat}(h:ixN n i=some j):seqIndex? i n=some j/\j<n/\-(n:Int)<=i/\i<n:=by
 unfold ixN at h
 by_cases b:0<=i
 ·rw[zJ b]at h
  by_cases a:i<n
  ·rw[zJ a]at h;have e:i.toNat=j:=zU h;exact⟨by rw[seqIndex_of b a,e],⋯,⋯,a⟩
  ·rw[zI a]at h;cases h
 ·rw[zI b]at h
  by_cases a:-(n:Int)<=i
  ·rw[zJ a]at h;have e:(i+n).toNat=j:=zU h;exact⟨by rw[pI ⋯ a,e],⋯,a,⋯⟩
  ·rw[zI a]at h;cases h
theorem Gw{a:Type}{xs:List a}{i:Int}{v:a}(h:atI xs i=some v):∃j,seqIndex? i xs.length=some j/\xs[j]?=some v/\j<xs.length/\-(xs.length:Int)<=i/\i<xs.length:=by
 unfold atI at h;cases e:ixN xs.length i with
 |none=>rw[e]at h;cases h
 |some j =>
  rw[e]at h;obtain⟨d,f,c,b⟩:=Gx e;exact⟨j,d,h,f,c,b⟩
theorem Oe{a:Type}{xs:List a}{j:Nat}{v:a}(h:xs[j]?=some v):atI xs (j:Int)=some v:=by
 have b:j<xs.length:=(oB.mp h).1;have e:ixN xs.length (j:Int)=some j:=by
  unfold ixN;rw[zJ ⋯,zJ ⋯];simp
 unfold atI;rw[e];exact h
def Od(b:Expr):Prop:=∀o i,subscripted b false o i=operate [o,i] (getItem o i)
def IxR(X:Cx)(r:R2):Prop:=
 ∀(value slice:Expr)(pins:PN)(s:Shared)(σ:St)(H:Hp)(x y:V)(v u:Value)(Q:VK),Inv X pins σ H s->RelV x v->RelV y u->r x y H Q ->
  subscripted slice false v u=operate [v,u] (getItem v u)->wpAny (model X.prog X.w) X.A (subscriptTail value slice v u) (EP X pins σ Q) X.xe s
def MtR(X:Cx)(id:String)(r:V->List V->Hp->VK->Prop):Prop:=
 ∀(pins:PN)(s:Shared)(σ:St)(H:Hp)(x:V)(xs:List V)(v:Value)(us:LW)(Q:VK),Inv X pins σ H s->RelV x v->Vals xs us->r x xs H Q ->
  wpAny (model X.prog X.w) X.A (call (.builtin id) (v:: us)) (EP X pins σ Q) X.xe s
section
variable {X:Cx} {a b:Expr} {ta tb:TE} {pos:Pos}
theorem mC{r:R2}(hr:IxR X r)(j:PE X a ta)(e:PE X b tb)(l:Od b):PE X (.Subscript a b pos) (tOp r ta tb):=by
 intro d s σ H Q I h;exact Subscript_ (binT j e I h λv u i x y c g k f q=>hr a b d i σ c x y v u Q g k f q (l _ _))
def rIxL(K:Frag):R2:=λx y H Q=>∃p xs i v,x=.ref p/\y=.int i/\SqL K H p xs/\atI xs i=some v/\Q v H
def rIxT(K:Frag):R2:=λx y H Q=>∃p xs i v,x=.ref p/\y=.int i/\SqT K H p xs/\atI xs i=some v/\Q v H
theorem Oc:IxR X (rIxL X.K):=by
 intro P K f s σ H x y v u Q I F t h g;obtain⟨p,xs,i,z,rfl,rfl,m,n,q⟩:=h;cases F;obtain⟨O,rfl⟩:=t;obtain⟨its,r,pl,N⟩:=I.list m;obtain⟨j,c,J,L,G,D⟩:=Gw n;obtain⟨w,k,C⟩:=r.get J;have hl:=r.length;have M:=bL;have e:EP X f σ Q w s:=⟨z,H,I,C,q⟩
 by_cases l:0<=i
 ·have d:i.toNat=j:=by
   rw[seqIndex_of l D]at c;exact zU c
  exact item_listR pl.isList l ⋯ (by rw[d];simpa using k) e g
 ·have d:(i+(its.toArray.size:Int)).toNat=j:=by
   rw[pI ⋯ G]at c;rw[zX,←hl];exact zU c
  exact sV (x:=w) pl.isList.typeIs slot_list_getitem.lookup
   (wpAny_getItem_list_neg (Q:=λr o=>r=w/\EP X f σ Q r o) pl.isList ⋯ (by rw[zX] <;> omega) ⋯ (by rw[d];simpa using k) ⟨rfl,e⟩) g
theorem Ob:IxR X (rIxT X.K):=by
 intro N D c s σ H x y v u Q I o k h l;obtain⟨p,xs,i,z,rfl,rfl,e,f,q⟩:=h;cases o;obtain⟨M,rfl⟩:=k;obtain⟨its,r,pl,J⟩:=I.tuple e;obtain⟨j,n,C,F,L,K⟩:=Gw f;obtain⟨w,t,m⟩:=r.get C;have hl:=r.length;have G:=bL;have d:EP X c σ Q w s:=⟨z,H,I,m,q⟩;exact sV (x:=w) pl.typeIs slot_tuple_getitem.lookup
  (getItem_tuple (j:=j) (Q:=λr g=>r=w/\EP X c σ Q r g) pl ⋯ ⋯ (by rw[zX,←hl];exact n) (by simpa using t) ⟨rfl,d⟩) l
theorem Oa(its:LW)(n j:Nat)(u:Value):Obj.mapSeq (·.setIfInBounds j u) {cls:=.type "list",data:=.seq its.toArray n}={cls:=.type "list",data:=.seq (its.set j u).toArray n}:=by
 simp[Obj.mapSeq]
theorem Inv.lst{c:PN}{σ:St}{H:Hp}{s:Shared}{p:Addr}{xs:List V}(I:Inv X c σ H s)(h:H p=some (.lst xs)):
  ∃(its:LW)(n:Nat),Vals xs its/\s.heap.get? p=some {cls:=.type "list",data:=.seq its.toArray n}/\xs.length<=sizeLine:=by
 obtain⟨z,its,n,r,e⟩:=I.hok p _ h;exact⟨its,n,r,e,z⟩
theorem Inv.lstUpd{g:PN}{σ:St}{H:Hp}{s:Shared}{p:Addr}{xs ys:List V}{its its':LW}{n c:Nat}{f:Obj->Obj}(I:Inv X g σ H s)(h:H p=some (.lst xs))
  (i:s.heap.get? p=some {cls:=.type "list",data:=.seq its.toArray n})(d:f {cls:=.type "list",data:=.seq its.toArray n}={cls:=.type "list",data:=.seq its'.toArray c})(r:Vals ys its')(l:ys.length<=sizeLine)(k:Nat):
  Inv X g σ (upd H p (.lst ys)) {s with heap:=s.heap.update p f,toks:=k}:=by
 have e:(s.heap.update p f).get? p=some {cls:=.type "list",data:=.seq its'.toArray c}:=by
  rw[vB f i (by rw[d] <;> rfl),d]
 refine I.write (x:=p) (e:=p) (by rw[h];trivial) (.inl rfl) (λb u j q=>(uL _ _ (zW j)).trans q) ⟨_,e⟩ ?_;exact⟨l,its',c,r,e⟩
def Bo:V->V->V->Hp->(Hp->Prop)->Prop:=λo i v H Q=>∃p xs k j,o=.ref p/\i=.int k/\H p=some (.lst xs)/\ixN xs.length k=some j/\Q (upd H p (.lst (xs.set j v)))
theorem Gv:PSet X Bo:=by
 intro w s σ H o i v J G u Q I y C z h;obtain⟨p,xs,k,j,rfl,rfl,f,D,q⟩:=h;cases y;obtain⟨K,rfl⟩:=C;obtain⟨its,n,r,e,x⟩:=I.lst f;obtain⟨c,L,g,l⟩:=Gx D;have hl:=r.length;have F:=bL;have m:Inv X w σ (upd H p (.lst (xs.set j v))) {s with heap:=s.heap.update p (Obj.mapSeq (·.setIfInBounds j u))}:=
  I.lstUpd f e (Oa its n j u) (r.set z j) (by rw[List.length_set];exact x) s.toks
 by_cases t:0<=k
 ·have d:k.toNat=j:=by
   rw[seqIndex_of t l]at c;exact zU c
  exact PySem.W.ki_setAt e t ⋯ (by rw[zX,←hl];exact l) (by rw[d];exact⟨_,m,q⟩)
 ·have d:(k+(its.toArray.size:Int)).toNat=j:=by
   rw[pI ⋯ g]at c;rw[zX,←hl];exact zU c
  exact PySem.W.ki_setBack e ⋯ (by rw[zX,←hl];exact g) ⋯ (by rw[d];exact⟨_,m,q⟩)
theorem Pz(lo hi:Option Int)(n:Nat):(sliceBounds lo hi none n).1=((HT.sIx n 0 lo:Nat):Int)/\(sliceBounds lo hi none n).2.1=((HT.sIx n n hi:Nat):Int)/\(sliceBounds lo hi none n).2.2=1:=by
 refine⟨?_,?_,rfl⟩
 ·cases lo with
  |none=>simp[sliceBounds,HT.sIx]
  |some i =>
   simp only[sliceBounds,HT.sIx,Option.getD_none,show(1:Int) > 0 by decide,if_true]
   by_cases h:i<0
   ·simp only[h,if_true] <;> omega
   ·simp only[h,if_false] <;> omega
 ·cases hi with
  |none=>simp[sliceBounds,HT.sIx]
  |some i =>
   simp only[sliceBounds,HT.sIx,Option.getD_none,show(1:Int) > 0 by decide,if_true]
   by_cases h:i<0
   ·simp only[h,if_true] <;> omega
   ·simp only[h,if_false] <;> omega
theorem Py(its:LW)(lo hi:Option Int):slicePick its.toArray lo hi none=((its.drop (HT.sIx its.length 0 lo)).take (HT.sIx its.length its.length hi-HT.sIx its.length 0 lo)).toArray:=by
 obtain⟨e,c,d⟩:=Pz lo hi its.toArray.size;unfold slicePick;rw[e,c,d];simp only[sliceRange_one,pick_run,List.size_toArray] <;> rfl
def rSlL(K:Frag):V->Option Int->Option Int->Hp->VK->Prop:=λx lo hi H Q=>∃a xs,x=.ref a/\SqL K H a xs/\∀p,H p=none->Q (.ref p) (upd H p (.lst (cutV xs lo hi)))
theorem Px:SlR X (rSlL X.K):=by
 intro n s σ H x v m k lo hi l Q I g f pl d h;obtain⟨a,xs,rfl,e,q⟩:=h;cases g;obtain⟨its,r,c,i⟩:=I.list e;have j:=r.length;refine⟨"list",_,slot_list_getitem.lookup,c.isList.typeIs,?_⟩;refine wpAny_getItem_list_slice c.isList f pl d .none (by simp) ?_ (by rw[List.size_toArray] <;> omega);rw[Py,←j];refine⟨.ref s.heap.objs.size,_,I.laid (t':=s.toks) (o:=.lst (cutV xs lo hi)) (λb o q=>zD _ q) (zE _) ?_,rfl,q _ (I.hok.fresh (zE _))⟩;exact⟨yA (Gy xs lo hi) i,_,0,(r.drop (HT.sIx xs.length 0 lo)).take (HT.sIx xs.length xs.length hi-HT.sIx xs.length 0 lo),zQ _ rfl⟩
noncomputable def iZ:V->Bool
 |.non=>true
 |.bl _=>true
 |.int _=>true
 |.str _=>true
 |_=>false
noncomputable def eqV:V->V->Bool
 |.non,.non=>true
 |.bl a,.bl b=>a == b
 |.bl a,.int b=>(if a then 1 else 0) == b
 |.int a,.bl b=>a == (if b then 1 else 0)
 |.int a,.int b=>a == b
 |.str a,.str b=>a == b
 |_,_=>false
theorem Pw{A:Around}{s:Shared}{y x:V}{u v:Value}(e:RelV y u)(c:RelV x v)(g:iZ y=true)(f:iZ x=true):SeqAt.EqAt A s u v (eqV y x):=by
 cases y with
 |non =>
  cases e;cases x with
  |non=>cases c;exact SeqAt.EqAt.same _
  |bl b=>cases c;exact SeqAt.EqAt.none_bool b
  |int b=>obtain⟨d,rfl⟩:=c;exact SeqAt.EqAt.none_int b d
  |str b=>obtain⟨d,rfl⟩:=c;exact SeqAt.EqAt.none_str b d
  |_=>exact absurd (show false=true from f) yC
 |bl a =>
  cases e;cases x with
  |non=>cases c;exact SeqAt.EqAt.bool_none a
  |bl b=>cases c;exact SeqAt.EqAt.bool_bool a b
  |int b=>obtain⟨d,rfl⟩:=c;exact SeqAt.EqAt.bool_int a b d
  |str b=>obtain⟨d,rfl⟩:=c;exact SeqAt.EqAt.bool_str a b d
  |_=>exact absurd (show false=true from f) yC
 |int a =>
  obtain⟨t',rfl⟩:=e;cases x with
  |non=>cases c;exact SeqAt.EqAt.int_none a t'
  |bl b=>cases c;exact SeqAt.EqAt.int_bool a t' b
  |int b=>obtain⟨d,rfl⟩:=c;exact SeqAt.EqAt.int_int a t' b d
  |str b=>obtain⟨d,rfl⟩:=c;exact SeqAt.EqAt.int_str a t' b d
  |_=>exact absurd (show false=true from f) yC
 |str a =>
  obtain⟨t',rfl⟩:=e;cases x with
  |non=>cases c;exact SeqAt.EqAt.str_none a t'
  |bl b=>cases c;exact SeqAt.EqAt.str_bool a t' b
  |int b=>obtain⟨d,rfl⟩:=c;exact SeqAt.EqAt.str_int a t' b d
  |str b=>obtain⟨d,rfl⟩:=c;exact SeqAt.EqAt.str_str a t' b d
  |_=>exact absurd (show false=true from f) yC
 |_=>exact absurd (show false=true from g) yC
def eqU(x:V)(u:Value):Bool:=match u with
 |.none=>eqV .non x
 |.bool b=>eqV (.bl b) x
 |.int i _=>eqV (.int i) x
 |.str z _=>eqV (.str z) x
 |_=>false
theorem Gu{x y:V}{u:Value}(r:RelV y u)(f:iZ y=true):eqU x u=eqV y x:=by
 cases y with
 |non=>cases r;rfl
 |bl b=>cases r;rfl
 |int i=>obtain⟨t,rfl⟩:=r;rfl
 |str z=>obtain⟨t,rfl⟩:=r;rfl
 |_=>exact absurd (show false=true from f) yC
theorem Bn{x:V}:∀{xs:List V}{us:LW},Vals xs us->xs.all iZ=true->us.any (eqU x)=xs.any λy=>eqV y x
 |_,_,.nil,_=>rfl
 |y:: xs,u:: us,.cons r t,f=>by
  rw[xG,zT]at f;rw[tH,tH,Gu r f.1,Bn t f.2]
theorem Bm{A:Around}{s:Shared}{x:V}{v:Value}(e:RelV x v)(d:iZ x=true):∀{xs:List V}{us:LW},Vals xs us->xs.all iZ=true->∀u∈us,SeqAt.EqAt A s u v (eqU x u)
 |_,_,.nil,_=>λu c=>by cases c
 |y:: xs,u:: us,.cons r i,f=>λg c=>by
  rw[xG,zT]at f;rcases xE.mp c with rfl|c
  ·rw[Gu r f.1];exact Pw r e f.1 d
  ·exact Bm e d i f.2 g c
def inV(x:V)(xs:List V):Bool:=xs.any λy=>eqV y x
def rIn(K:Frag)(neg:Bool):R2:=λx y H Q=>∃p xs,y=.ref p/\(SqL K H p xs\/SqT K H p xs)/\iZ x=true/\xs.all iZ=true/\Q (.bl (if neg then !inV x xs else inV x xs)) H
theorem bP:OpR X (compareOp .NotIn) (rIn X.K true):=by
 intro j s σ H x y v u Q I f g h;obtain⟨p,xs,rfl,c,e,fs,q⟩:=h;cases g;rcases c with c|c
 ·obtain⟨its,r,pl,i⟩:=I.list c;refine SeqAt.notIn_listAt (eqU x) pl.isList (λw d=>Bm f e r fs w (by simpa using d)) ⟨.bl _,H,I,rfl,?_⟩;rw[show its.toArray.any (eqU x)=its.any (eqU x) by simp,Bn r fs];exact q
 ·obtain⟨its,r,pl,i⟩:=I.tuple c;refine SeqAt.notIn_tupleAt (eqU x) pl (λw d=>Bm f e r fs w (by simpa using d)) ⟨.bl _,H,I,rfl,?_⟩;rw[show its.toArray.any (eqU x)=its.any (eqU x) by simp,Bn r fs];exact q
theorem Pu:kI X (.builtin "len") (λxs H Q=>∃p ys,xs=[.ref p]/\(SqL X.K H p ys\/SqT X.K H p ys)/\Q (.int ys.length) H):=by
 intro i s σ H xs us Q I r h;obtain⟨p,ys,rfl,c,q⟩:=h;obtain⟨u,rfl,f⟩:=jV r;cases f;have j:=bL;rcases c with c|c
 ·obtain⟨its,d,pl,g⟩:=I.list c;have e:=d.length;exact Calls.call_len_list pl.isList (by simp only[List.size_toArray] <;> omega) ⟨.int ys.length,H,I.tok _,⟨s.toks+1,by rw[zX,e]⟩,q⟩
 ·obtain⟨its,d,pl,g⟩:=I.tuple c;have e:=d.length;exact len_tuple pl (by simp only[List.size_toArray] <;> omega) ⟨.int ys.length,H,I.tok _,⟨s.toks+1,by rw[zX,e]⟩,q⟩
theorem Pt:kI X (.type "list") (λxs H Q=>∃p ys,xs=[.ref p]/\(SqL X.K H p ys\/SqT X.K H p ys)/\∀l,H l=none->Q (.ref l) (upd H l (.lst ys))):=by
 intro w s σ H xs us Q I r h;obtain⟨p,ys,rfl,g,q⟩:=h;obtain⟨u,rfl,x⟩:=jV r;cases x;have v:∀(its:LW),Vals ys its->ys.length<=sizeLine->∀(h':Heap)(c:Nat),(∀b t,s.heap.get? b=some t->h'.get? b=some t) ->
   h'.get? s.heap.objs.size=some {cls:=.type "list",dict:=none,data:=.seq its.toArray c,slots:=#[]}->EP X w σ Q (.ref s.heap.objs.size) {s with heap:=h'}:=λits d i h' c f e =>
  ⟨.ref s.heap.objs.size,_,I.laid (t':=s.toks) f (zE _) (show mK X.prog X.w _ h' _ (.lst ys) from⟨i,its,c,d,e⟩),rfl,q _ (I.hok.fresh (zE _))⟩
 rcases g with g|g
 ·obtain⟨its,d,pl,i⟩:=I.list g;have y:=d.length;obtain⟨o,m,j,n,k⟩:=pl.isList;exact call_list_seq p (.inl rfl) m j k (λh' c f e=>v its d i h' c f e) (by simp only[List.size_toArray] <;> omega)
 ·obtain⟨its,d,pl,i⟩:=I.tuple g;have y:=d.length;obtain⟨o,m,j,n,k⟩:=pl;exact call_list_seq p (.inr rfl) m j k (λh' c f e=>v its d i h' c f e) (by simp only[List.size_toArray] <;> omega)
theorem Ps:kI X (.type "tuple") (λxs H Q=>∃p ys,xs=[.ref p]/\((SqL X.K H p ys/\∀l,H l=none->Q (.ref l) (upd H l (.tup ys)))\/(SqT X.K H p ys/\Q (.ref p) H))):=by
 intro f s σ H xs us Q I r h;obtain⟨p,ys,rfl,h⟩:=h;obtain⟨u,rfl,m⟩:=jV r;cases m;rcases h with⟨d,q⟩|⟨d,q⟩
 ·obtain⟨its,c,pl,i⟩:=I.list d;have n:=c.length;refine call_tuple_list pl.isList (λh' j=>?_) (by simp only[List.size_toArray] <;> omega);have g:Inv X f σ H {s with heap:=h'}:=I.kept (t':=s.toks) j;have k:Inv X f σ (upd H h'.objs.size (.tup ys)) {s with heap:=h'.push {cls:=.type "tuple",data:=.seq its.toArray}}:=
   g.laid (t':=s.toks) (λb o e=>zD _ e) (zE _) (show mK X.prog X.w _ _ _ (.tup ys) from⟨i,its,c,IsTup.new _ _⟩)
  exact⟨.ref h'.objs.size,_,k,rfl,q _ (g.hok.fresh (zE _))⟩
 ·obtain⟨its,c,pl,i⟩:=I.tuple d;exact call_tuple_same pl ⟨.ref p,H,I,rfl,q⟩
def tyV(K:Frag)(T:String)(x:V)(H:Hp):Prop:=match x with
 |.str _=>T="str"
 |.int _=>T="int"
 | .ref p=>(T="list" /\ ∃xs,SqL K H p xs)\/(T="tuple" /\ ∃o,K.lookup p=some o/\o.cls=.type "tuple" /\ o.dict=none) \/
   (T="dict" /\ ((∃kvs,H p=some (.dK kvs))\/∃kvs,H p=some (.dT kvs)))\/(T="set" /\ ∃S n,H p=some (.set S n))
 |_=>False
theorem Gs{q:PN}{σ:St}{H:Hp}{s:Shared}{T:String}{x:V}{v:Value}(I:Inv X q σ H s)(r:RelV x v)(ty:tyV X.K T x H):
  s.TypeIs v T/\∀a,v=.ref a->∃l,s.heap.get? a=some l/\l.dict=none:=by
 cases x with
 |str z =>
  obtain⟨k,rfl⟩:=r;cases(show T="str" from ty);exact⟨typeIs_str s z k,λ_ e=>nomatch e⟩
 |int i =>
  obtain⟨k,rfl⟩:=r;cases(show T="int" from ty);exact⟨typeIs_int s i k,λ_ e=>nomatch e⟩
 | ref p =>
  cases r;rcases ty with⟨rfl,xs,t⟩|⟨rfl,o,d,m,g⟩|⟨rfl,d⟩|⟨rfl,u,n,d⟩
  ·obtain⟨its,_,pl,_⟩:=I.list t;refine⟨pl.isList.typeIs,λa e=>?_⟩;cases e;obtain⟨o,n,e,c,g,_⟩:=pl;exact⟨o,e,g⟩
  ·refine⟨⟨o,I.kIn p o d,m⟩,λa e=>?_⟩;cases e;exact⟨o,I.kIn _ o d,g⟩
  ·have z:∃o,s.heap.get? p=some o/\o.ExactDict:=by
    rcases d with⟨kvs,d⟩|⟨kvs,d⟩
    ·obtain⟨_,_,_,_,o,_,_,e,f,_⟩:=I.hok p _ d;exact⟨o,e,f⟩
    ·obtain⟨_,_,_,_,o,_,_,e,f,_⟩:=I.hok p _ d;exact⟨o,e,f⟩
   obtain⟨o,e,f⟩:=z;refine⟨⟨o,e,f.1⟩,λa j=>?_⟩;cases j;exact⟨o,e,f.2.1⟩
  ·obtain⟨o,_,_,_,e,f,_⟩:=I.hok p _ d;refine⟨⟨o,e,f.1⟩,λa j=>?_⟩;cases j;exact⟨o,e,f.2.1⟩
 |_=>exact False.elim ty
def tBM0(K:Frag)(T:String)(r:V->List V->Hp->VK->Prop)(to:TE):TE:=λσ H Q=>to σ H λx H1=>tyV K T x H1/\r x [] H1 Q
def tBM(K:Frag)(T:String)(r:V->List V->Hp->VK->Prop)(to:TE)(t:TA):TE:=λσ H Q=>to σ H λx H1=>tyV K T x H1/\t σ H1 λxs H2=>r x xs H2 Q
variable {o e:Expr} {es:List Expr} {to:TE} {t:TA} {name:Str} {apos cpos:Pos} {T id:String} {r:V->List V->Hp->VK->Prop}
theorem Gq(y:PlainAttrs T)(q:Slot T name id)(i:typeOf (.builtin id)=pure (.type "method_descriptor"))(j:MtR X id r)(m:PE X o to)
  (g:attributeBase o name X.env (eval o X.env)=eval o X.env:=by rfl)(n:(apos.endLine == cpos.line)=true:=by rfl):PE X (.Call (.Attribute o name apos) [] [] cpos) (tBM0 X.K T r to):=by
 intro d s σ H Q I h;refine wpAny_Call_method0_late g n (thn (m d s σ H _ I h) ?_);rintro v l ⟨x,k,f,c,ty,p⟩;obtain⟨u,w⟩:=Gs f c ty;exact⟨T,id,y,q,i,u,w,uM rfl (PySem.evalArgs_none (j d l σ k x [] v [] Q f c .nil p))⟩
theorem iK(p:PlainAttrs T)(n:Slot T name id)(F:typeOf (.builtin id)=pure (.type "method_descriptor"))(G:MtR X id r)(z:PE X o to)(q:PA X (e:: es) t)
  (i:attributeBase o name X.env (eval o X.env)=eval o X.env:=by rfl)
  (l:((backTo cpos (starEach (e:: es) X.env)).all (λx=>!x.1) && (backToKw cpos (keywordEach [] X.env)).all (λx=>x.1.isSome)
   && decide ((e:: es).length+([]:List Keyword).length+(if([]:List Keyword).isEmpty then 0 else 1)<30))=true:=by rfl)
  (K:(apos.endLine == cpos.line)=true:=by rfl)(u:starEach (e:: es) X.env=(false,eval e X.env):: starEach es X.env:=by rfl)(y:(backTo cpos (starEach es X.env)).any (·.1)=false:=by rfl):
  PE X (.Call (.Attribute o name apos) (e:: es) [] cpos) (tBM X.K T r to t):=by
 intro c s σ H Q I h;refine wpAny_Call_method_late i l K rfl (thn (z c s σ H _ I h) ?_);rintro v j ⟨x,J,f,d,ty,k⟩;obtain⟨D,M⟩:=Gs f d ty;refine⟨T,id,p,n,F,D,M,?_⟩;have g:=q cpos c j σ J _ f k;rw[u]at g ⊢;refine uM (by show(false || (backTo cpos (starEach es X.env)).any (·.1))=false;rw[y] <;> rfl) (rP ?_);exact thn g λus m⟨vs,w,N,C,L⟩=>G c m σ w x vs v us Q N d C L
end
def MtM(X:Cx)(id:String)(r:V->List V->Hp->VK->Prop):Prop:=
 ∀(pins:PN)(s:Shared)(σ:St)(H:Hp)(x:V)(xs:List V)(v:Value)(us:LW)(Q:VK),Inv X pins σ H s->RelV x v->Vals xs us->r x xs H Q ->
  wpAny (model X.prog X.w) X.A (call (.builtin id) (v:: us)) (EP X pins σ Q) X.xe s
theorem Vals.one{x:V}{us:LW}(h:Vals [x] us):∃u,us=[u]/\RelV x u:=by
 cases h with|cons r h=>cases h;exact⟨_,rfl,r⟩
theorem Vals.two{x y:V}{us:LW}(h:Vals [x,y] us):∃u v,us=[u,v]/\RelV x u/\RelV y v:=by
 cases h with|cons r h=>obtain⟨v,rfl,q⟩:=Vals.one h;exact⟨_,_,rfl,r,q⟩
theorem Vals.zero:∀{us:LW},Vals [] us->us=[]
 |_,.nil=>rfl
theorem Vals.rep{xs:List V}{us:LW}(h:Vals xs us):∀k:Nat,Vals (List.replicate k xs).flatten (List.replicate k us).flatten
 |0=>.nil
 |k+1=>by
  rw[wS,wS,sQ,sQ];exact Vals.append h (Vals.rep h k)
theorem Gp(its:LW):∀(k:Nat)(acc:LW),
  List.foldl (λa c=>a++c) acc.toArray (List.replicate k its.toArray)=(acc++(List.replicate k its).flatten).toArray
 |0,acc=>by simp
 | k+1,acc=>by
  have e:acc.toArray++its.toArray=(acc++its).toArray:=by simp
  have b:(acc++its)++(List.replicate k its).flatten=acc++(List.replicate (k+1) its).flatten:=by
   rw[wS,sQ,yU]
  rw[←b,←Gp its k (acc++its),←e,wS,wQ]
section
variable {X:Cx} {pins:PN} {σ:St} {H:Hp} {s:Shared} {l b:Addr} {xs ys zs:List V}
theorem Inv.lset{its its':LW}{n:Nat}{f:Array Value->Array Value}{t':Nat}(I:Inv X pins σ H s)(d:H l=some (.lst xs))
  (e:s.heap.get? l=some {cls:=.type "list",data:=.seq its.toArray n})(a:f its.toArray=its'.toArray)(i:Vals ys its')(j:ys.length<=sizeLine):
  Inv X pins σ (upd H l (.lst ys)) {s with heap:=s.heap.update l (Obj.mapSeq f),toks:=t'}:=by
 have q:=PySem.IsL.update e f;rw[a]at q;refine I.write (x:=l) (e:=l) (by rw[d];exact trivial) (.inl rfl) (λk u c g=>(uL s.heap (Obj.mapSeq f) (zW c)).trans g) ⟨_,q⟩ ?_;exact⟨j,its',_,i,q⟩
theorem Inv.lnew{its:LW}{t':Nat}(I:Inv X pins σ H s)(a:Vals ys its)(c:ys.length<=sizeLine):
  Inv X pins σ (upd H s.heap.objs.size (.lst ys)) {s with heap:=s.heap.push {cls:=.type "list",data:=.seq its.toArray},toks:=t'}:=
 I.laid (λ_ _ q=>zD _ q) (zE _) ⟨c,its,0,a,zQ _ rfl⟩
theorem Inv.fresh(I:Inv X pins σ H s):H s.heap.objs.size=none:=I.hok.fresh (zE _)
theorem Inv.lstM(I:Inv X pins σ H s)(a:H l=some (.lst xs)):xs.length<=sizeLine/\∃(its:LW)(n:Nat),Vals xs its/\xs.length=its.length/\s.heap.get? l=some {cls:=.type "list",data:=.seq its.toArray n}:=by
 obtain⟨z,its,n,r,e⟩:=I.hok l _ a;exact⟨z,its,n,r,r.length,e⟩
theorem Pr{n:Nat}(h:n<=sizeLine):Builtin.List.listTooLong n=false:=by
 unfold Builtin.List.listTooLong;exact zP ⋯
end
section
variable {X:Cx}
def Go:V->List V->Hp->VK->Prop:=λx vs H Q=>∃l xs y,x=.ref l/\vs=[y]/\H l=some (.lst xs)/\xs.length<sizeLine/\Q .non (upd H l (.lst (xs++[y])))
theorem jY:MtM X "list.append" Go:=by
 intro f s σ H x vs v us Q I d c h;obtain⟨l,xs,y,rfl,rfl,a,g,q⟩:=h;cases d;obtain⟨u,rfl,b⟩:=c.one;obtain⟨z,its,n,r,hl,e⟩:=I.lstM a;refine pG F.slot_list_append ⟨_,e,rfl⟩ F.entry_list_append (F.args_list_append_2 _ _) (PySem.list_append l its.toArray n u (by rw[zX];omega)) ⟨e,?_⟩;refine⟨.non,_,I.lset (its':=its++[u]) a e (by simp) (r.append (.cons b .nil)) ?_,rfl,q⟩;rw[zS,List.length_singleton];omega
def Pq:V->List V->Hp->VK->Prop:=λx vs H Q=>∃l xs,x=.ref l/\vs=[]/\H l=some (.lst xs)/\Q .non (upd H l (.lst []))
theorem Gn:MtM X "list.clear" Pq:=by
 intro f s σ H x vs v us Q I d c h;obtain⟨l,xs,rfl,rfl,a,q⟩:=h;cases d;have b:=c.zero;subst b;obtain⟨z,its,n,r,hl,e⟩:=I.lstM a;refine pG F.slot_list_clear ⟨_,e,rfl⟩ F.entry_list_clear (F.args_list_clear_1 _) (AutoSeq1.list_clear_list_0 l its.toArray n (by rw[zX];omega)) ⟨e,?_⟩;exact⟨.non,_,I.lset (its':=[]) (ys:=[]) a e rfl .nil (yV _),rfl,q⟩
def rCat:R2:=λx y H Q=>∃l b xs zs,x=.ref l/\y=.ref b/\H l=some (.lst xs)/\H b=some (.lst zs)/\xs.length+zs.length<=sizeLine/\∀p,H p=none->Q (.ref p) (upd H p (.lst (xs++zs)))
theorem dL:OpR X (binaryOp .Add) rCat:=by
 intro p s σ H x y v u Q I k g h;obtain⟨l,b,xs,zs,rfl,rfl,j,i,w,q⟩:=h;cases k;cases g;obtain⟨z,its,n,r,hl,e⟩:=I.lstM j;obtain⟨m,a,o,f,t,d⟩:=I.lstM i;refine PySem.P.add_list e d ?_ (by rw[zX,zX];omega);have c:its.toArray++a.toArray=(its++a).toArray:=by simp
 rw[c];exact⟨.ref _,_,I.lnew (t':=s.toks) (r.append f) (by rw[zS];omega),rfl,q _ I.fresh⟩
def rRep:R2:=λx y H Q=>∃l k xs,x=.ref l/\y=.int k/\H l=some (.lst xs)/\-(2^63)<=k/\k<2^63/\xs.length*k.toNat<=sizeLine /\
 ∀p,H p=none->Q (.ref p) (upd H p (.lst (List.replicate k.toNat xs).flatten))
theorem Pp{b:Type}(xs:List b)(k:Nat):(List.replicate k xs).flatten.length=k*xs.length:=by
 induction k with
 |zero=>simp
 |succ k a=>rw[wS,sQ,zS,a,rY,Nat.add_comm]
theorem Po:OpR X (binaryOp .Mult) rRep:=by
 intro L s σ H x y v u Q I J w h;obtain⟨l,k,xs,rfl,rfl,D,C,t,f,q⟩:=h;cases J;obtain⟨b,rfl⟩:=w;obtain⟨z,its,n,r,hl,e⟩:=I.lstM D;have i:its.toArray.size*k.toNat<=sizeLine:=by rw[zX,←hl];exact f
 have j:¬ its.toArray.size*k.toNat > (2^63-1)/8:=by
  have:(sizeLine:Nat)<=(2^63-1)/8:=∅
  omega
 have g:¬ (!Builtin.List.listFitsIndex k)=true:=by
  rw[fitsIndex_both C t];exact yC
 have o:¬ Builtin.List.listTooLong (its.toArray.size*k.toNat)=true:=by
  rw[Pr i];exact yC
 have K:List.foldl (λd c=>d++c) #[] (List.replicate (if its.toArray.isEmpty=true then 0 else k.toNat) its.toArray)=(List.replicate k.toNat its).flatten.toArray:=by
  have G:∀m:Nat,List.foldl (λd c=>d++c) #[] (List.replicate m its.toArray)=(List.replicate m its).flatten.toArray:=λm=>by
   have:=Gp its m [];rw[List.nil_append]at this;exact this
  rw[G];cases its with
  |nil=>simp
  |cons a M=>rw[zI (by simp)]
 refine wpAny_binaryOp_repeat_ref (T:= "list") (U:= "int") ∅ ⟨_,e,rfl⟩ (λp=>typeIs_int p k b) noFill_list_mul F.fills_int_mul F.slot_int_rmul repeat_list F.slot_int_index.lookup
  (pG F.slot_int_rmul (typeIs_int s k b) F.entry_int_rmul (F.args_int_rmul_2 _ _) (int___rmul___int_list k b l its.toArray n)
   ⟨e,rfl,⟨_,e,rfl⟩,pG F.slot_list_mul ⟨_,e,rfl⟩ F.entry_list_mul (F.args_list_mul_2 _ _) (AutoListH.list___mul___list_int_3 l its.toArray n k b g j o) ⟨e,?_⟩⟩)
 rw[K];exact⟨.ref _,_,I.lnew (t':=s.toks) (r.rep k.toNat) (by rw[Pp,qX];exact f),rfl,q _ I.fresh⟩
end
section
variable {prog:Program} {w:World} {A:Around} {E:VP} {s:Shared}
set_option maxRecDepth 100000 in
end
end L2
namespace Att
open PySem PySem.W PySem.Calls PyProof.Rows
theorem Pn{P:Params}{h:Heap}:∀(ns:LI')(vs:LW),WellAll P h vs (ns.map WData.int)->IntsAre vs ns:=by
 intro ns
 induction ns with
 |nil =>
  intro vs w;rw[List.map_nil]at w;cases w;exact .nil
 | cons n ns c =>
  intro vs w;rw[zK]at w;cases w with
  |cons a b =>
   cases a;exact .cons _ _ (c _ b)
theorem Pm{l:OpenLaw}{n:Nat}(v:l.most=some n){P:Params}{h:Heap}{args:List WData}{vals:LW}
  (f:l.row.toRowW.claim.pre args=true)(i:WellAll P h vals args):
  ∃a vs ns,vals=[Value.ref a]/\args=[WData.list (ns.map WData.int)]/\h.get? a=some {cls:=.type "list",data:=.seq vs.toArray}/\IntsAre vs ns/\ns.length<=n:=by
 have j:WShape.hasAll [] args [.list .int]=true:=(pre_splitW f).1;have e:l.pre.holds [] {args:=args}=true:=(pre_splitW f).2;obtain⟨d,r,rfl,u,p⟩:=hasAllW_cons j;obtain rfl:=hasAllW_nil p;obtain⟨xs,rfl,t⟩:=hasW_list u;obtain⟨ns,rfl⟩:=items_int t;have x:ns.length<=n:=by
  unfold OpenLaw.pre at e;have b:(WTm.not (.lt (.lit (.int (n:Int))) (.len (.arg 0)))).holds [] {args:=[.list (ns.map .int)]}=true:=by
   have b:=(holds_andW e).1;rw[v]at b;exact b
  have c:=condW_of b (w_not (w_lt w_lit (w_len_list (w_arg rfl))));rw[yL]at c;refine Nat.le_of_not_lt λq=>?_;have o:(n:Int)<((ns.length:Nat):Int):=⋯
  first
   |(rw[zL o]at c;exact absurd c ∅)
   |(simp at c;omega)
 cases i with
 |cons w g =>
  cases g;cases w with
  |list k m=>exact⟨_,_,ns,rfl,rfl,k,Pn ns _ m,x⟩
theorem Pl(l:OpenLaw)(args:List WData):l.row.toRowW.claim.post args (.bool true) args=true:=
 postW_of (r:=l.row.toRowW) (X:=(true == true))
  (show WShape.has [] (.bool true) .bool=true by first|rfl|decide|simp[WShape.has,WShape.arms,WShape.armsAll])
  (show(WTm.eq .res (.lit (.bool true))).value [] {args:=args,res:=some (.bool true),after:=args}=some (.bool (true == true)) from w_eq_bool (w_res rfl) w_lit) rfl
section
variable {prog:Program} {w:World} {A:Around} {E:VP} {s:Shared} {K:Frag}
noncomputable def u_c(h:Heap)(L d:Addr):PN:=(List.range h.objs.size).filterMap λa=>if a=L\/a=d then none else(h.get? a).map λo=>(a,o)
end
end Att
namespace L2
open PySem PySem.Spec PyProof.Rows
open PySem.W (Frag)
theorem Gm:∀{vs:LW}{ns:LI'},IntsAre vs ns->Vals (ns.map V.int) vs
 |_,_,.nil=>.nil
 |_,_,.cons n t h=>.cons ⟨t,rfl⟩ (Gm h)
def Only(H:Hp):Prop:=∀b,H b=none\/∃o xs,H b=some (.frz o (.lst xs))
theorem Pk{P:Program}{w:World}{K:Frag}{i C:MT}{S:CXT}{k:Nat}{y a:Addr}{L:FuncData}{x:Str}{sp:Sp}{c:Shared}{vs:LW}{ns:LI'}
  (KX:K.In c.heap)(T:c.heap.Ns mainGlobals i)(f:c.heap.Ns builtinsNs C)(W:∀x:Str,x≠"__name__" -> C x=bootBuiltins x)(a1:c.heap.NoLimit)(a9:c.gens=#[])
  (p:c.heap.get? a=some {cls:=.type "list",data:=.seq vs.toArray})(hi:IntsAre vs ns)(hl:ns.length<=sizeLine)(hr:Room k callerA)
  (F:∀t:Heap,K.In t->t.Ns mainGlobals i->FnOk P w K i t S k y L [x] sp)(b0:∀(s:Shared)(u:Value),BindsTo s L ⟨[u],[]⟩ [(x,u)])
  (b5:∀H:Hp,Only H->SqL K H a (ns.map V.int)->sp [.ref a] H (λv _=>v=.bl true) λ_ _ _=>False)
  (U:∀H e g,S [] H c (λ_ _ _=>False) e g->False):
  codeAny (model P w) callerA (.call (.ref y) ⟨[.ref a],[]⟩) (λr g=>r=.ok (.ret (.bool true))/\OldK c.heap g.heap/\g.os=c.os/\AllBare g.gens) c:=by
 have M:=Gm hi;have X:=hi.length
 -- from an abstract heap in which nothing but the script may be tracked
 have R:∀H:Hp,Only H->SqL K H a (ns.map V.int)->HOk P w H c.heap->(∀b,H b≠none->b=a)->(H a≠none->K.lookup a=none) ->
   codeAny (model P w) callerA (.call (.ref y) ⟨[.ref a],[]⟩) (λr g=>r=.ok (.ret (.bool true))/\OldK c.heap g.heap/\g.os=c.os/\AllBare g.gens) c:=by
  intro H I Y N O b1;have J:∀{b:Addr}{o:Obj},c.heap.get? b=some o->H b=none->(hidT c.heap H).get? b=some o:=λe n=>Nw e n;have Z:∀{b:Addr}{o:Obj}{es:Array DictEntry}{ep:Nat},c.heap.get? b=some o->o.data=.dict es ep->H b=none:=λ{b o es ep}e d=>by
   cases q:H b with
   |none=>rfl
   |some u =>
    have D:b=a:=O b (by rw[q];simp);subst D;rw[p]at e;cases e;have d':Data.seq vs.toArray _=Data.dict es ep:=d;cases d'
  have l:∀{b:Addr}{m:MT},c.heap.Ns b m->(hidT c.heap H).Ns b m:=λ{b m}⟨o,es,ep,e,d,r⟩=>⟨o,es,ep,J e (Z e d),d,r⟩;have G:K.In (hidT c.heap H):=λb o e=>J (KX b o e) (by
   cases q:H b with
   |none=>rfl
   |some u =>
    have D:b=a:=O b (by rw[q];simp);subst D;rw[b1 (by rw[q];simp)]at e;cases e)
  have b2:Mod K i (hidT c.heap H):=⟨G,l T,⟨C,l f,W⟩,let ⟨b7,a6,b6⟩:=a1;⟨b7,l a6,b6⟩⟩;have a8:Env0 P w K i (hidT c.heap H) callerA [] c H:=⟨rfl,b2,λb o e=>Nv e,rL (Nx _ _),trivial,λb f=>absurd (show b∈([]:LA) from f) (by simp),N,.of_eq a9⟩;refine qU ((F _ G (l T)).run callerA [] c H ⟨[.ref a],[]⟩ [.ref a] [.ref a] _ _ hr a8 (b0 c (.ref a)) (.cons rfl .nil) (b5 H I Y)) λr g h=>?_;cases r with
  |error e=>exact(U H e g h).elim
  | ok fl =>
   cases fl with
   |next=>exact False.elim h
   |brk=>exact False.elim h
   |cont=>exact False.elim h
   | ret u =>
    obtain⟨v,H',a3,a4,un,a7,b4,q⟩:=h;have a5:v=.bl true:=q;subst a5;obtain rfl:u=Value.bool true:=b4;refine⟨rfl,OldK.of_keep λb o e=>?_,a3,a4⟩;cases q:H b with
    |none=>exact un.keep b o e q (by intro z;exact absurd (show b∈([]:LA) from z) (by simp)) (by simp)
    |some u =>
     rcases I b with z|⟨b3,xs,z⟩
     ·rw[q]at z;cases z
     ·have a2:=un.frzs b b3 _ z;obtain⟨e1,_⟩:=N b _ z;obtain⟨a0,_⟩:=a7 b _ a2;rw[e]at e1;cases e1;exact a0
 cases hk:K.lookup a with
 |some o =>
  -- the script is one of the module's own objects
  have e:=KX a o hk;rw[p]at e;cases e;refine R (λ_=>none) (λ_=>.inl rfl) (.inr ⟨_,vs.toArray,_,hk,rfl,rfl,rfl,by rw[zX,X];exact hl,by simpa using M⟩) (λb u z=>by have j:(none:Option HO)=some u:=z;cases j) (λb z=>absurd rfl z) λz=>absurd rfl z
 | none =>
  refine R (λb=>if b=a then some (.frz {cls:=.type "list",data:=.seq vs.toArray} (.lst (ns.map V.int))) else none) (λb=>?_) (.inl (.inr ⟨{cls:=.type "list",data:=.seq vs.toArray},zJ rfl⟩)) (λb u z=>?_) (λb z=>?_) λ_=>hk
  ·by_cases f:b=a
   ·exact .inr ⟨_,_,zJ f⟩
   ·exact .inl (zI f)
  ·by_cases f:b=a
   ·have j:=(zJ f).symm.trans z;cases j;subst f;exact⟨p,by rw[yL];exact hl,vs,_,M,p⟩
   ·have j:=(zI f).symm.trans z;cases j
  ·by_cases f:b=a
   ·exact f
   ·exact absurd (zI f) z
noncomputable abbrev KOf{K:Frag}{h:Heap}(_:K.In h):Frag:=K
noncomputable def dM(s:Stmt)(j:Nat):Stmt:=match s with
 |.ClassDef _ _ _ body _ _ _ _ _ _ _=>body.getD j (.Pass ⟨0,0,0,0⟩)
 |_=>.Pass ⟨0,0,0,0⟩
noncomputable def jL(s:Stmt):Arguments:=match s with
 |.FunctionDef _ a _ _ _ _ _ _ _ _=>a
 |_=>{posonlyargs:=[],args:=[],vararg:=none,kwonlyargs:=[],kw_defaults:=[],kwarg:=none,defaults:=[]}
noncomputable def kD(s:Stmt):List Stmt:=match s with
 |.FunctionDef _ _ b _ _ _ _ _ _ _=>b
 |_=>[]
noncomputable def oN(s:Stmt):Scope:=match s with
 |.FunctionDef _ _ _ _ _ _ sc _ _ _=>sc
 |_=>{kind:=.function,names:=[],isGenerator:=false,isCoroutine:=false}
abbrev CX0:CXT:=λ_ _ _ _ _ _=>False
abbrev E0:XK:=λ_ _ _=>False
theorem kM{X:Cx}:iX CX0 X E0:=λ_ _ _ _ _ _ _ h=>h.elim
structure Fun(K:Frag)(x qual:Str)(st:Stmt)(f:Addr)(fd:FuncData):Prop where
 ex:∃(oc:Value)(od:Option Addr)(kV doc pm:Value)(an:Option Addr)(cdv ct:Value)(osl:Array (Option Value)),
  fd=PySem.W.fnOf x qual (jL st) (kD st) (oN st) .none kV doc pm an cdv ct/\K.lookup f=some ⟨oc,od,.func fd,osl⟩/\PySem.W.codeIn K cdv qual=true
 kp:PySem.W.keepIn K (.ref f)=true
section
variable {P:Program} {w:World} {K:Frag} {mg:MT} {base:Heap}
theorem Fun.ok{x b:Str}{st:Stmt}{f:Addr}{c:FuncData}{N ps:List Str}{k:Nat}{sp:Sp}(F:Fun K x b st f c)(i:oY N ps (oN st))(len:∀vs H Q E,sp vs H Q E->vs.length=ps.length)
  (e:∀(cdv:Value)(A:Around)(outer:List Env)(s:Shared)(H:Hp)(vs:List V)(Q:VK)(E:XK),Room k (A.deeper (envOfC b (oN st) s.heap.objs.size f cdv))->sp vs H Q E ->
   ∃a,PSs (cxOf CX0 P w K mg base N b (oN st) f cdv A outer s H E).nox (kD st) a/\a {nx:=λ_ H'=>Q .non H',rt:=Q} (jX N vs) H):FnOk P w K mg base CX0 (k+1) f c ps sp:=by
 obtain⟨o,p,kV,m,l,r,cdv,n,t,rfl,d,g⟩:=F.ex;refine Br d g i len λA outer s H vs Q E hr j=>?_;obtain⟨a,h,q⟩:=e cdv A outer s H vs Q E hr j;exact⟨a,h.nox,q⟩
theorem Fun.binds{x e:Str}{st:Stmt}{f:Addr}{g:FuncData}{ps:List Str}(F:Fun K x e st f g)
  (h:∀(kV d a:Value)(c:Option Addr)(cdv b:Value)(us:LW),us.length=ps.length->bindArgs (PySem.W.fnOf x e (jL st) (kD st) (oN st) .none kV d a c cdv b) ⟨us,[]⟩=pure (ps.zip us)):lI K g ps []:=by
 obtain⟨j,l,kV,d,a,c,cdv,b,m,rfl,i,k⟩:=F.ex;exact .all (h kV d a c cdv b)
theorem fun_mk{x a:Str}{st:Stmt}{f:Addr}{i:Value}{j e:Option Addr}{m:Array (Option Value)}{kV g b cdv d:Value}(l:K.lookup f=some ⟨i,j,.func (PySem.W.fnOf x a (jL st) (kD st) (oN st) .none kV g b e cdv d),m⟩)
  (c:PySem.W.codeIn K cdv a=true)(k:PySem.W.keepIn K (.ref f)=true):Fun K x a st f (PySem.W.fnOf x a (jL st) (kD st) (oN st) .none kV g b e cdv d):=⟨⟨i,j,kV,g,b,e,cdv,d,m,rfl,l,c⟩,k⟩
end
theorem dN{n:Nat}(h:n<=1000):n<sizeLine:=yJ h ∅
section
variable {X:Cx}
theorem pv(i:Nat){x:Str}{a:Pos}(c:X.N[i]?=some x:=by rfl)(e:Vis X.env.scope x:=by first|exact Or.inl rfl|exact Or.inr (Or.inl rfl)|exact Or.inr (Or.inr rfl))(d:(x == ("__debug__" :Str))=false:=by decide)
  (b:(x == ("__classdict__" :Str))=false:=by decide):PE X (.Name x a) (tVar i):=Ft c e d b
end
theorem iteF{A B:Prop}(h:B):if false=true then A else B:=by
 rw[zI yC];exact h
theorem iteT{A B:Prop}(h:A):if true=true then A else B:=by
 rw[zJ rfl];exact h
theorem ite2{c A B:Prop}[Decidable c](b:c->A)(a:¬ c->B):if c then A else B:=by
 by_cases h:c
 ·rw[zJ h];exact b h
 ·rw[zI h];exact a h
def Same(H H':Hp):Prop:=∀b o,H b=some o->H' b=some o
theorem Same.refl(H:Hp):Same H H:=λ_ _ h=>h
theorem Same.trans{H e d:Hp}(a:Same H e)(b:Same e d):Same H d:=λc o h=>b c o (a c o h)
theorem Same.seq{K:Frag}{H H':Hp}{a:Addr}{xs:List V}(e:Same H H')(h:SqL K H a xs):SqL K H' a xs:=by
 rcases h with(h|⟨o,h⟩)|h
 ·exact .inl (.inl (e _ _ h))
 ·exact .inl (.inr ⟨o,e _ _ h⟩)
 ·exact .inr h
end L2
set_option maxHeartbeats 4000000
namespace L2
open PySem PySem.Spec PyProof.Rows
open PySem.W (Frag)
inductive E1{T0:Type}(P:T0->Prop):Prop
 |mk (x0:T0):P x0->E1 P
inductive E2{T0 T1:Type}(P:T0->T1->Prop):Prop
 |mk (x0:T0) (x1:T1):P x0 x1->E2 P
inductive E3{T0 T1 T2:Type}(P:T0->T1->T2->Prop):Prop
 |mk (x0:T0) (x1:T1) (x2:T2):P x0 x1 x2->E3 P
inductive E4{T0 T1 T2 T3:Type}(P:T0->T1->T2->T3->Prop):Prop
 |mk (x0:T0) (x1:T1) (x2:T2) (x3:T3):P x0 x1 x2 x3->E4 P
inductive E5{T0 T1 T2 T3 T4:Type}(P:T0->T1->T2->T3->T4->Prop):Prop
 |mk (x0:T0) (x1:T1) (x2:T2) (x3:T3) (x4:T4):P x0 x1 x2 x3 x4->E5 P
inductive E6{T0 T1 T2 T3 T4 T5:Type}(P:T0->T1->T2->T3->T4->T5->Prop):Prop
 |mk (x0:T0) (x1:T1) (x2:T2) (x3:T3) (x4:T4) (x5:T5):P x0 x1 x2 x3 x4 x5->E6 P
inductive E7{T0 T1 T2 T3 T4 T5 T6:Type}(P:T0->T1->T2->T3->T4->T5->T6->Prop):Prop
 |mk (x0:T0) (x1:T1) (x2:T2) (x3:T3) (x4:T4) (x5:T5) (x6:T6):P x0 x1 x2 x3 x4 x5 x6->E7 P
inductive E8{T0 T1 T2 T3 T4 T5 T6 T7:Type}(P:T0->T1->T2->T3->T4->T5->T6->T7->Prop):Prop
 |mk (x0:T0) (x1:T1) (x2:T2) (x3:T3) (x4:T4) (x5:T5) (x6:T6) (x7:T7):P x0 x1 x2 x3 x4 x5 x6 x7->E8 P
inductive E9{T0 T1 T2 T3 T4 T5 T6 T7 T8:Type}(P:T0->T1->T2->T3->T4->T5->T6->T7->T8->Prop):Prop
 |mk (x0:T0) (x1:T1) (x2:T2) (x3:T3) (x4:T4) (x5:T5) (x6:T6) (x7:T7) (x8:T8):P x0 x1 x2 x3 x4 x5 x6 x7 x8->E9 P
inductive E11{T0 T1 T2 T3 T4 T5 T6 T7 T8 T9 T10:Type}(P:T0->T1->T2->T3->T4->T5->T6->T7->T8->T9->T10->Prop):Prop
 |mk (x0:T0) (x1:T1) (x2:T2) (x3:T3) (x4:T4) (x5:T5) (x6:T6) (x7:T7) (x8:T8) (x9:T9) (x10:T10):P x0 x1 x2 x3 x4 x5 x6 x7 x8 x9 x10->E11 P
inductive E12{T0 T1 T2 T3 T4 T5 T6 T7 T8 T9 T10 T11:Type}(P:T0->T1->T2->T3->T4->T5->T6->T7->T8->T9->T10->T11->Prop):Prop
 |mk (x0:T0) (x1:T1) (x2:T2) (x3:T3) (x4:T4) (x5:T5) (x6:T6) (x7:T7) (x8:T8) (x9:T9) (x10:T10) (x11:T11):P x0 x1 x2 x3 x4 x5 x6 x7 x8 x9 x10 x11->E12 P
inductive A3(a b c:Prop):Prop|mk:a->b->c->A3 a b c
inductive A4(a b c d:Prop):Prop|mk:a->b->c->d->A4 a b c d
inductive A5(a b c d e:Prop):Prop|mk:a->b->c->d->e->A5 a b c d e
inductive A6(a b c d e f:Prop):Prop|mk:a->b->c->d->e->f->A6 a b c d e f
inductive A7(a b c d e f g:Prop):Prop|mk:a->b->c->d->e->f->g->A7 a b c d e f g
inductive A8(a b c d e f g h:Prop):Prop|mk:a->b->c->d->e->f->g->h->A8 a b c d e f g h
inductive A9(a b c d e f g h i:Prop):Prop|mk:a->b->c->d->e->f->g->h->i->A9 a b c d e f g h i
inductive A10(a b c d e f g h i j:Prop):Prop|mk:a->b->c->d->e->f->g->h->i->j->A10 a b c d e f g h i j
inductive A11(a b c d e f g h i j k:Prop):Prop|mk:a->b->c->d->e->f->g->h->i->j->k->A11 a b c d e f g h i j k
inductive A13(a b c d e f g h i j k l m:Prop):Prop|mk:a->b->c->d->e->f->g->h->i->j->k->l->m->A13 a b c d e f g h i j k l m
inductive A14(a b c d e f g h i j k l m n:Prop):Prop|mk:a->b->c->d->e->f->g->h->i->j->k->l->m->n->A14 a b c d e f g h i j k l m n
inductive A15(a b c d e f g h i j k l m n o:Prop):Prop|mk:a->b->c->d->e->f->g->h->i->j->k->l->m->n->o->A15 a b c d e f g h i j k l m n o
inductive A16(a b c d e f g h i j k l m n o p:Prop):Prop|mk:a->b->c->d->e->f->g->h->i->j->k->l->m->n->o->p->A16 a b c d e f g h i j k l m n o p
inductive A20(a b c d e f g h i j k l m n o p q r s t:Prop):Prop|mk:a->b->c->d->e->f->g->h->i->j->k->l->m->n->o->p->q->r->s->t->A20 a b c d e f g h i j k l m n o p q r s t
noncomputable def clOf(env:Env):List (Str×NameKind)->List (Str×Addr)->List (Str×Addr)
 |[],cs=>cs
 |(n,k):: r,cs=>clOf env r (if k == .free then(n,(env.cells.lookup n).getD 0):: cs else cs)
theorem Gk{env:Env}{n:Str}{c:Addr}:∀{l:List (Str×NameKind)}{cs:List (Str×Addr)},(∀y∈l,y.2=.free->∃c,env.cells.lookup y.1=some c) ->
  (clOf env l cs).lookup n=some c->cs.lookup n=some c\/env.cells.lookup n=some c
 |[],_,_,h=>.inl h
 | (m,k):: r,cs,hl,h=>by
  have hr:∀y∈r,y.2=.free->∃c,env.cells.lookup y.1=some c:=λy g=>hl y (zM _ g);rcases Gk hr h with q|q
  ·by_cases a:(k == NameKind.free)=true
   ·rw[zJ a]at q;obtain⟨d,e⟩:=hl (m,k) zV (by simpa using a);rw[xN]at q;cases hm:n == m with
    |true =>
     rw[hm]at q;have b:(env.cells.lookup m).getD 0=c:=zU q;have i:n=m:=by simpa using hm
     rw[e]at b;have f:d=c:=b;rw[i,e,f];exact .inr rfl
    |false =>
     rw[hm]at q;exact .inl q
   ·rw[zI a]at q;exact .inl q
  ·exact .inr q
theorem Bl{env:Env}{n:Str}:∀{l:List (Str×NameKind)}{cs:List (Str×Addr)},((n,NameKind.free)∈l\/∃c,cs.lookup n=some c)->∃c,(clOf env l cs).lookup n=some c
 |[],_,h=>by
  rcases h with h|h
  ·simp at h
  ·exact h
 | (m,k):: r,cs,h=>by
  refine Bl (l:=r) ?_
  by_cases a:(n,NameKind.free)∈r
  ·exact .inl a
  ·refine .inr ?_;rcases h with h|⟨c,h⟩
   ·rcases xE.mp h with e|e
    ·cases e;rw[zJ ∅];exact⟨(env.cells.lookup n).getD 0,by rw[xN];simp⟩
    ·exact absurd e a
   ·by_cases b:(k == NameKind.free)=true
    ·rw[zJ b,xN];cases hm:n == m with
     |true=>exact⟨_,rfl⟩
     |false=>exact⟨c,h⟩
    ·rw[zI b];exact⟨c,h⟩
theorem Gj{b:Scope}{env:Env}(h:∀y∈b.names,y.2=.free->∃c,env.cells.lookup y.1=some c):closureFor b env=pure (clOf env b.names []):=by
 have go:∀(l:List (Str×NameKind))(cs:List (Str×Addr)),(∀y∈l,y.2=.free->∃c,env.cells.lookup y.1=some c) ->
   (forIn l cs (λ(x:Str×NameKind)(r:List (Str×Addr))=>if x.2 == NameKind.free then(do let a ←cellOf env x.1;pure (ForInStep.yield ((x.1,a):: r))) else(pure (ForInStep.yield r):Sem _)):Sem _)=pure (clOf env l cs):=by
  intro l
  induction l with
  |nil=>intro cs _;rfl
  | cons y r f =>
   intro cs hl;obtain⟨n,k⟩:=y;have hr:∀y∈r,y.2=.free->∃c,env.cells.lookup y.1=some c:=λy g=>hl y (zM _ g);rw[uG]
   by_cases d:(k == NameKind.free)=true
   ·obtain⟨c,e⟩:=hl (n,k) zV (by simpa using d);have e1:cellOf env n=pure c:=by unfold cellOf;rw[show env.cells.lookup n=some c from e]
    dsimp only;rw[zJ d,e1];simp only[pure_bind];rw[f _ hr];show _=pure (clOf env r _);rw[zJ d,show env.cells.lookup n=some c from e]
    all_goals rfl
   ·dsimp only;rw[zI d];simp only[pure_bind];rw[f _ hr];show _=pure (clOf env r _);rw[zI d]
 have e:closureFor b env=(forIn b.names ([]:List (Str×Addr)) (λ(x:Str×NameKind)(r:List (Str×Addr))=>if x.2 == NameKind.free then(do let a ←cellOf env x.1;pure (ForInStep.yield ((x.1,a):: r))) else(pure (ForInStep.yield r):Sem _)):Sem _):=by
  unfold closureFor
  first
   |rfl
   |(simp only[bind_pure];rfl)
   |(simp;done)
 rw[e];exact go _ _ h
theorem Gi{env:Env}:∀{b:List (Str×NameKind)}{x:Str},b.lookup x=some .free ->
  (b.map λ(n,k)=>if(k == NameKind.free && env.scope.kind == .function && env.kindOf n == some .cell) then(n,NameKind.cell) else(n,k)).lookup x=some .cell \/
  (b.map λ(n,k)=>if(k == NameKind.free && env.scope.kind == .function && env.kindOf n == some .cell) then(n,NameKind.cell) else(n,k)).lookup x=some .free
 |[],_,h=>by simp at h
 | (n,k):: r,x,h=>by
  have c:=@Gi env r x;cases hx:x == n with
  |true =>
   simp only[List.lookup_cons,hx]at h;cases h
   by_cases a:(NameKind.free == NameKind.free && env.scope.kind == .function && env.kindOf n == some .cell)=true
   ·refine .inl ?_;rw[zK];dsimp only;rw[zJ a,xN,hx]
   ·refine .inr ?_;rw[zK];dsimp only;rw[zI a,xN,hx]
  |false =>
   simp only[List.lookup_cons,hx]at h;rw[zK];dsimp only
   by_cases a:(k == NameKind.free && env.scope.kind == .function && env.kindOf n == some .cell)=true
   ·rw[zJ a,xN,hx];exact c h
   ·rw[zI a,xN,hx];exact c h
structure u_d(X:Cx)(scope:Scope)(x:Str)(fr:List (Str×Nat)):Prop where
 kind:scope.kind=.function
 cell:∀y∈scope.names,y.2≠.cell
 free:∀y∈scope.names,y.2=.free->X.env.kindOf y.1=some .cell\/X.env.kindOf y.1=some .free
 loc:∀y∈scope.names,y.2=.local->scope.names.lookup y.1=some .local
 name:scope.names.lookup x=some .local
 nd:(x:: fr.map (·.1)).Nodup
 fr:∀p∈fr,X.N[p.2]?=some p.1/\scope.names.lookup p.1=some .free
noncomputable def lK(fr:List (Str×Nat))(σ:St):St:=fr.map λp=>σ.getD p.2 none
section
variable {X:Cx} {scope:Scope} {x:Str} {fr:List (Str×Nat)}
def Gh(i:Nat)(te:TE):TS:=λD σ H=>te σ H λv H1=>D.nx (σ.set i (some v)) H1
end
theorem mK.there{P:Program}{w:World}{H:Hp}{h:Heap}{a:Addr}{o:HO}(x:mK P w H h a o):∃b,h.get? a=some b:=by
 cases o with
 |lst xs=>obtain⟨_,_,_,_,e⟩:=x;exact⟨_,e⟩
 |tup xs=>obtain⟨_,_,_,b,e,_⟩:=x;exact⟨b,e⟩
 |dK kvs=>obtain⟨_,_,_,_,o,_,_,e,_⟩:=x;exact⟨_,e⟩
 |dT kvs=>obtain⟨_,_,_,_,o,_,_,e,_⟩:=x;exact⟨_,e⟩
 |set g n=>obtain⟨o,_,_,_,e,_⟩:=x;exact⟨_,e⟩
 |ins C c fs=>obtain⟨_,_,_,e,_⟩:=x;exact⟨_,e⟩
 |own y=>exact x
 |xd fs=>obtain⟨_,⟨_,_,_,e,_⟩,_⟩:=x;exact⟨_,e⟩
 |rng lo hi=>obtain⟨_,_,_,e⟩:=x;exact⟨_,e⟩
 |frz b u=>exact⟨_,x.1⟩
 |tbl ps=>exact⟨_,x⟩
 |met f y=>exact⟨_,x⟩
 |ext d=>exact x.2.1
abbrev Cov(fs:LA)(h₀:Heap)(H:Hp)(h B:Heap):Prop:=∀b o,h.get? b=some o->b∉fs->((∃o',h₀.get? b=some o')\/∃u,H b=some u)->B.get? b=some o
def CX1(P:Program)(w:World):CXT:=λouter H s E ev s'=>∃e C H' B a0,ev=.ref e/\s'.os=s.os/\AllBare s'.gens/\Un (frs outer) [] H H' s.heap s'.heap/\HOk P w H' s'.heap /\
 Heap.FlyingW B outer e C a0 s'.heap/\Cov (frs outer) s.heap H' s'.heap B/\E C none H'
abbrev XE:=St->Value->Hp->Prop
def Gg(X:Cx)(EX:XE):Prop:=∀(pins:PN)(σ:St)(H:Hp)(s:Shared)(h':Heap)(e:Addr)(C:Value)(vs:LW),Inv X pins σ H s->Heap.MadeExcOf s.heap h' e C vs->EX σ C H->X.xe (.ref e) {s with heap:=h'}
theorem Pj{X:Cx}{y:PN}{σ:St}{H:Hp}{s:Shared}{g B:Heap}(I:Inv X y σ H s)(G:X.stack=X.env:: X.outer)(D:X.env.frame=some X.env.locals)(C:X.ex=[])
  (stay:B.StaysIn g)(sm:s.heap.UpToSlots g)(w:Cov (frs X.stack) X.s₀.heap H s.heap B):
  Un X.fs [] X.H₀ H X.s₀.heap g/\HOk X.prog X.w H g/\Cov X.fs X.s₀.heap H g B:=by
 have u:=I.base;rw[C]at u;have J:frs X.stack=X.env.locals:: X.fs:=by
  rw[G];unfold frs;rw[tN,D];rfl
 have old:∀b o,X.s₀.heap.get? b=some o->b∉X.fs->b∉frs X.stack:=λb o e c l=>by
  rw[J]at l;rcases xE.mp l with z|z
  ·exact absurd (zF (zO e) I.ok.above) (by rw[z];exact xH _)
  ·exact c z
 have trk:∀b v,H b=some v->b∉frs X.stack:=λb v e l=>by
  have:=I.stkFree b l;rw[e]at this;cases this
 have j:∀b o,s.heap.get? b=some o->b∉frs X.stack->((∃f,X.s₀.heap.get? b=some f)\/∃v,H b=some v)->g.get? b=some o:=λb o e c r=>stay b o (w b o e c r);have frm:∀b,b∈X.fs->∀o,s.heap.get? b=some o->∃t,g.get? b=some {o with slots:=t}:=λb c o e=>by
  obtain⟨_,f,d,x⟩:=I.funs.mem c;rw[e]at d;cases d;exact sm b o e x
 refine⟨⟨λb o e n c k=>?_,λb o e n c k=>?_,u.free,λb o e k=>?_,u.tups,u.frzs,u.tbls⟩,λa o p=>?_,λb o e c r=>?_⟩
 ·exact j b o (u.keep b o e n c k) (old b o e c) (.inl ⟨o,e⟩)
 ·obtain⟨t,e1⟩:=u.slot b o e n c k;obtain⟨F,m⟩:=frm b c _ e1;exact⟨F,m⟩
 ·obtain⟨i,e1⟩:=u.there b o e k
  by_cases c:b∈X.fs
  ·obtain⟨t,m⟩:=frm b c _ e1;exact⟨_,m⟩
  ·exact⟨i,j b i e1 (old b o e c) (.inl ⟨o,e⟩)⟩
 ·refine(I.hok a o p).stay (λb v c q=>?_) (λ_ q=>q) λ_ _ q=>q;rcases c with c|c
  ·subst c;exact j b v q (trk b o p) (.inr ⟨o,p⟩)
  ·exact j b v q (trk b _ c) (.inr ⟨_,c⟩)
 ·rcases r with⟨f,d⟩|⟨v,d⟩
  ·obtain⟨i,e1⟩:=u.there b f d (by simp);have q:=j b i e1 (old b f d c) (.inl ⟨f,d⟩);rw[e]at q;cases q;exact w b o e1 (old b f d c) (.inl ⟨f,d⟩)
  ·obtain⟨i,e1⟩:=(I.hok b v d).there;have q:=j b i e1 (trk b v d) (.inr ⟨v,d⟩);rw[e]at q;cases q;exact w b o e1 (trk b v d) (.inr ⟨v,d⟩)
section
variable {P:Program} {w:World} {K:Frag} {mg:MT} {base:Heap} {N:List Str} {qual:Str} {scope:Scope} {f:Addr} {cd:Value} {A:Around} {outer:List Env} {s₀:Shared} {H₀:Hp} {E:XK}
theorem fQ:Gg (cxOf (CX1 P w) P w K mg base N qual scope f cd A outer s₀ H₀ E) (λ_ C H=>E C none H):=by
 intro p σ H s h' e C vs I M i;have l:=I.stack;have g:=PySem.W.funFrames_hide (as:=frs (cxOf (CX1 P w) P w K mg base N qual scope f cd A outer s₀ H₀ E).stack) l (λenv d a m=>List.mem_filterMap.mpr ⟨env,d,m⟩);refine wpAny_leaves_madeW (s:={s with heap:=h'}) (h:=s.heap) I.ok.frames rfl (λb o q=>PySem.W.of_hideAll _ q) g M λn r c _ _ sm=>?_;obtain⟨un,ok,k⟩:=Pj I rfl rfl rfl c.1 ((Heap.UpToSlots.of_keeps M.keeps).trans sm) λb o q j _=>PySem.W.hideAll_get _ q j;exact⟨e,C,H,_,_,rfl,I.os,I.bare,un,ok,c,k,i⟩
end
section
variable {X:Cx} {EX:XE} {k:Nat} {f:Addr} {fd:FuncData} {ps:List Str} {sp:Sp} {dvs:List V} {ds:LW} {x:Str} {p pos:Pos} {e:Expr} {es:List Expr} {t:TA}
def t_g(sp:Sp)(dvs:List V)(EX:XE)(t:TA):TE:=λσ H Q=>t σ H λvs H1=>sp (vs++dvs) H1 Q λC _ H'=>EX σ C H'
theorem hJ{P:Program}{w:World}{Y:Cx}:iX (CX1 P w) Y E0:=λ_ _ _ _ _ _ _ h=>by
 obtain⟨_,_,_,_,_,_,_,_,_,_,_,_,q⟩:=h;exact q.elim
end
theorem Pi{K:Frag}{h:Heap}{C:Addr}{d:LW}{g:String}(KX:K.In h)(a:PySem.W.excIn K C d g=true):
  ∃bm N nm b bs c sn sub ab col dd k0 k1 k2 k3 k5 mN,h.get? C=some (excClassObj nm b C N bs bm c sn sub ab col dd k0 k1 k2 k3 k5 g)/\h.Ns N mN/\mN "__init__"=none/\OwnTail h d bm:=by
 revert a
 unfold PySem.W.excIn;split
 ·next dd w e m =>
  split
  ·next v bm k0 k1 k2 k3 r k5 o es =>
   intro a;simp only[Bool.and_eq_true,beq_iff_eq,Bool.not_eq_true']at a;obtain⟨⟨⟨⟨⟨e1,n⟩,u⟩,x⟩,f⟩,i⟩:=a;subst e1 n;cases w with
   | mk nm bs q ns b c sn sub ab col k =>
    have j:q=Value.ref v:: bm:=o;have p:k=false:=u;subst j p;have t:e=#[k0,k1,k2,k3,some (Value.builtin r),k5]:=by
     cases e with
     |mk l=>exact wH Array.mk es
    subst t;exact⟨bm,ns,nm,b,bs,c,sn,sub,ab,col,dd,k0,k1,k2,k3,k5,_,KX _ _ m,Heap.Ns.of_isNs (PySem.W.isNs_of_in KX f),PySem.W.nsMap_none_of_in KX f i,PySem.W.tail_of_in KX x⟩
  ·intro z;cases z
 ·intro z;cases z
section
variable {X:Cx} {EX:XE} {C:Addr} {x:Str} {np cpos pos:Pos} {e₀:Expr} {rest:List Expr} {t:TA} {bmB:LW} {B newId initId:String}
def iL(C:Addr)(EX:XE)(t:TA):TS:=λ_ σ H=>t σ H λvs H1=>vs.length<=sizeLine/\EX σ (.ref C) H1
theorem fR(n:X.calm=true)(g:Gg X EX)(v:Gl X x)(w:X.mg x=some (.ref C))(o:PySem.W.excIn X.K C bmB newId=true)(f:ExcBaseFacts B newId initId bmB)(l:PA X (e₀:: rest) t)
  (p:(x == ("__debug__" :Str))=false:=by decide)(d:starEach (e₀:: rest) X.env=(false,eval e₀ X.env):: starEach rest X.env:=by rfl)(k:(backTo cpos (starEach rest X.env)).any (·.1)=false:=by rfl):
  PS X (.Raise (some (.Call (.Name x np) (e₀:: rest) [] cpos)) none pos) (iL C EX t):=by
 intro c s σ H D I h;obtain⟨bm,N,nm,q,bs,j,sn,sub,ab,col,dd,k0,k1,k2,k3,k5,mN,G,J,u,T⟩:=Pi I.mod.kin o;have F:(backTo cpos (starEach (e₀:: rest) X.env)).any (·.1)=false:=by
  rw[d];show(false || (backTo cpos (starEach rest X.env)).any (·.1))=false;rw[k];rfl
 refine wpAny_Raise_call_subT (C:=C) (nm:=nm) (q:=q) (N:=N) (bs:=bs) (bm:=bm) (hdct:=j) (sn:=sn) (sub:=sub) (ab:=ab) (col:=col) (dd:=dd) (k0:=k0) (k1:=k1) (k2:=k2) (k3:=k3) (k5:=k5) f (mN:=mN) (T.hasType f.hasBase) (I.ok.hd n) F u
  (bF I v w ⟨rfl,?_⟩ p)
 have b:=l cpos c s σ H _ I h;rw[d]at b ⊢;refine rP (thn b λus i⟨vs,m,a,r,z,y⟩=>⟨rfl,?_,a.bk _ _ G,J.keeps a.bk,T.keeps a.bk,λh' e M=>g c σ m i h' e _ us a M y⟩);show us.length<=sizeLine;rw[←r.length];exact z
end
section
variable {X:Cx} {pins:PN} {σ:St} {H:Hp} {s:Shared}
noncomputable def Gf(e:Addr)(C:Value):HO:=.ext λh=>∃o,h.get? e=some o/\o.cls=C
end
noncomputable abbrev Cx.body(X:Cx)(pn:PN)(E:VP):Cx:={X with pn:=pn,xe:=E}
noncomputable abbrev Cx.suite(X:Cx)(e:Addr):Cx:={X with A:=X.A.mark (some (.ref e)),calm:=false,xe:=λ_ _=>False}
section
variable {X:Cx}
theorem nT:OpR X (binaryOp .Mult) (rI (λi j=>IntMulOk i j) λi j=>.int (i*j)):=opI λ_ _ _ _ _ _ _ a q=>mul_int q a
def kE(_ j:Int):Prop:=j≠0/\j.natAbs.log2<9000
theorem lD:OpR X (binaryOp .FloorDiv) (rI kE λi j=>.int (i.fdiv j)):=opI λ_ _ _ _ _ _ _ a q=>floordiv_int a.1 q (.inl (PyProof.noPylong_of_log2 a.2))
end
mutual
inductive Dt(K:Frag)(H:Hp):V->PyData->Prop
 |non:Dt K H .non .none
 |bl (b):Dt K H (.bl b) (.bool b)
 |int (i):Dt K H (.int i) (.int i)
 |str (x):Dt K H (.str x) (.str x)
 |lst {a xs ds}:SqL K H a xs->Dts K H xs ds->Dt K H (.ref a) (.list ds)
 |tup {a xs ds}:SqT K H a xs->Dts K H xs ds->Dt K H (.ref a) (.tuple ds)
inductive Dts(K:Frag)(H:Hp):List V->List PyData->Prop
 |nil:Dts K H [] []
 |cons {x xs d ds}:Dt K H x d->Dts K H xs ds->Dts K H (x:: xs) (d:: ds)
end
theorem Dts.ints{K:Frag}{H:Hp}:∀(ns:LI'),Dts K H (ns.map V.int) (ns.map PyData.int)
 |[]=>.nil
 |n:: r=>.cons (.int n) (Dts.ints r)
section
variable {X:Cx} {pins:PN} {σ:St} {H:Hp} {s:Shared}
mutual
theorem Dt.reads(I:Inv X pins σ H s):∀{x:V}{d:PyData}{u:Value},Dt X.K H x d->RelV x u->∃as,Reads s.heap u d as
 |_,_,_,.non,r=>by cases(show _=Value.none from r);exact⟨_,.none⟩
 |_,_,_,.bl b,r=>by cases(show _=Value.bool b from r);exact⟨_,.bool b⟩
 |_,_,_,.int i,r=>by obtain⟨f,e⟩:=(show∃f,_=Value.int i f from r);cases e;exact⟨_,.int i f⟩
 |_,_,_,.str x,r=>by obtain⟨f,e⟩:=(show∃f,_=Value.str x f from r);cases e;exact⟨_,.str x f⟩
 |_,_,_,.lst (a:=a) h g,r=>by
  cases(show _=Value.ref a from r);obtain⟨its,j,⟨o,n,e,c,_,dd⟩,_⟩:=I.list h;obtain⟨as,q⟩:=Dts.reads I g j;exact⟨_,.list e c dd (by simpa using q)⟩
 |_,_,_,.tup (a:=a) h g,r=>by
  cases(show _=Value.ref a from r);obtain⟨its,j,⟨o,e,c,n,dd⟩,_⟩:=I.tuple h;obtain⟨as,q⟩:=Dts.reads I g j;exact⟨_,.tuple e c dd (by simpa using q)⟩
theorem Dts.reads(I:Inv X pins σ H s):∀{xs:List V}{ds:List PyData}{us:LW},Dts X.K H xs ds->Vals xs us->∃as,ReadsAll s.heap us ds as
 |_,_,_,.nil,r=>by cases r;exact⟨_,.nil⟩
 | _,_,_,.cons h e,r=>by
  cases r with
  |cons a b =>
   obtain⟨as,c⟩:=Dt.reads I h a;obtain⟨bs,d⟩:=Dts.reads I e b;exact⟨_,.cons c d⟩
end
end
section
variable {X:Cx}
def rEqD(K:Frag):R2:=λx y H Q=>∃d d',Dt K H x d/\Dt K H y d'/\SeqAt.shaped d=true/\SeqAt.shaped d'=true/\SeqAt.noMix d d'=true/\Q (.bl (same d d')) H
def rNeD(K:Frag):R2:=λx y H Q=>∃d d',Dt K H x d/\Dt K H y d'/\SeqAt.shaped d=true/\SeqAt.shaped d'=true/\SeqAt.noMix d d'=true/\Q (.bl (!same d d')) H
theorem Ge(i:X.A.units+64<cLine):OpR X (compareOp .Eq) (rEqD X.K):=by
 intro m s σ H x y v u Q I l f h;obtain⟨d,d',g,j,b,k,e,q⟩:=h;obtain⟨as,a⟩:=g.reads I l;obtain⟨bs,c⟩:=j.reads I f;exact eq_dataH_same a c b k i e ⟨.bl (same d d'),H,I,rfl,q⟩
theorem bQ(i:X.A.units+64<cLine):OpR X (compareOp .NotEq) (rNeD X.K):=by
 intro m s σ H x y v u Q I l f h;obtain⟨d,d',g,j,b,k,e,q⟩:=h;obtain⟨as,a⟩:=g.reads I l;obtain⟨bs,c⟩:=j.reads I f;exact ne_dataH_same a c b k i e ⟨.bl (!same d d'),H,I,rfl,q⟩
end
structure Bk(K:Frag)(C:Addr):Prop where
 ga:PySem.W.findIn K (.ref C) "__getattribute__"=some (some (.builtin "BaseException.__getattribute__"))
 gt:PySem.W.findIn K (.ref C) "__getattr__"=some none
 ca:PySem.W.findIn K (.ref C) "__class__"=some (some (.builtin "object.__class__"))
 cg:PySem.W.specialIn K (.builtin "object.__class__") "__get__"=some (some (.builtin "getset_descriptor.__get__"))
 tk:PySem.W.takesIn K (.builtin "object.__class__")=some true
 ob:PySem.W.mroIn K C (.type "object")=some true
 bx:PySem.W.mroIn K C (.type "BaseException")=some true
 cl:(PySem.W.clsIn K C).isSome=true
theorem Ph{prog:Program}{w:World}{A:Around}{E:VP}{s:Shared}{K:Frag}{x C:Addr}{Q:Option Value->Shared->Prop}(F:Bk K C)(KX:K.In s.heap)(c:∃o,s.heap.get? x=some o/\o.cls=.ref C)
  (h:Q (some (.ref C)) {s with toks:=s.toks+1}):wpAny (model prog w) A (getAttr? (.ref x) "__class__") Q E s:=by
 obtain⟨hh,g,d,e,y⟩:=s;obtain⟨o,c,a⟩:=c;have b:PySem.W.Looks (model prog w) hh (typeOf (.ref x)) (.ref C):=a ▸ (PySem.W.Looks.ld c).andThen .now;have m:=tD (M:=model prog w) KX F.ga;have u:=tD (M:=model prog w) KX F.gt;have p:=tD (M:=model prog w) KX F.ca;have l:=PySem.W.looks_specialIn (M:=model prog w) KX F.cg;have r:=PySem.W.looks_takesIn (M:=model prog w) KX F.tk;have i:=PySem.W.looks_mroIn (M:=model prog w) KX F.ob;have j:=PySem.W.looks_mroIn (M:=model prog w) KX F.bx;unfold getAttr? getAttrBy? getAttrBy;refine zA (wpAny_mkText (zA (vA (xU (zA (b.at (zA (m.at ?_))))))));show wpAny _ _ (getAttrByItsOwn _ _ _ _ _ _) _ _ _;unfold getAttrByItsOwn;refine zA (show wpAny _ _ (hookBefore (.ref C)) _ _ _ from u.at ?_);refine zA (vA (xU ?_));show wpAny _ _ (boundAndCalled _ _ _) _ _ _;unfold boundAndCalled;rw[PySem.F.attr_ValueError.ga.bind (.ref x)];refine zA (zB (wpAny_call ?_));refine codeAny_call_builtin PySem.F.attr_ValueError.ga.plain PySem.F.entry_bexc_ga ?_;have q:builtinKind "BaseException.__getattribute__"=some .slot:=nofun
 have f:splitId "BaseException.__getattribute__"=some ("BaseException","__getattribute__"):=nofun
 have v:=PySem.F.args_bexc_ga (.ref x) (.str "__class__" e);have n:PySem.W.Looks (model prog w) hh (isInstance (.ref x) (.type "BaseException")) true:=b.andThen j;show wpAny _ _ (checkBuiltinCall "BaseException.__getattribute__" ⟨[.ref x,.str "__class__" e],[]⟩) _ _ _;simp only[checkBuiltinCall,q,f];refine zA (n.at ?_)
 repeat wp_step
 rw[a];refine p.at ?_;refine zA (show wpAny _ _ (Builtin.ObjectAttr.getOf (some (.builtin "object.__class__"))) _ _ _ from l.at ?_);have k:PySem.W.Looks (model prog w) hh (Builtin.ObjectAttr.dataDescriptor? (some (.builtin "object.__class__")) (some (.builtin "getset_descriptor.__get__"))) (some (.builtin "getset_descriptor.__get__",.builtin "object.__class__")):=r.andThen .now;refine zA (k.at ?_)
 repeat wp_step
 have t:PySem.W.Looks (model prog w) hh (isInstance (.ref x) (.type "object")) true:=b.andThen i;refine codeAny_call_builtin PySem.W.KF.slot_gs.plain PySem.W.KF.entry_gs (PySem.W.KF.slot_gs.check _ _ _ _ _ _ _ _ PySem.W.KF.type_class (PySem.W.KF.args_gs _ _ _) ?_)
 (unfold Builtin.«getset_descriptor.__get__» Builtin.Getset_descriptor.descrGet;rw[PySem.W.dga_obj];refine zA (zB ?_))
 (unfold Builtin.Getset_descriptor.descrGetter Builtin.Getset_descriptor.descrCheckInstance Builtin.Getset_descriptor.descrNameAndClass;simp only[PySem.W.KF.owner_class])
 refine zA (zA (zB (zA (t.at (zB ?_)))))
 repeat wp_step
 refine⟨Code.quiet_builtin _ (nofun),tP PySem.W.KF.entry_class ?_⟩
 (unfold Builtin.«object.__class__» shownTypeOf;repeat wp_step)
 rw[a];exact zB (zB h)
theorem Pg{K:Frag}{x C:Addr}(F:Bk K C):PySem.W.KitX K (.ref x) (.ref C) (λh=>∃o,h.get? x=some o/\o.cls=.ref C) where
 ty:=λM h _⟨o,g,c⟩=>c ▸ (PySem.W.Looks.ld g).andThen .now
 it:=λM h KX _=>by
  have q:=F.cl;unfold PySem.W.clsIn at q;split at q
  ·next a =>
   intro j m i r k z
   (unfold isType loadHead;exact zA (wpAny_loadPart (k _ _ (KX _ _ a)) (zB z)))
  ·cases q
 ne:=λh d dd its n l KX f=>by
  have q:=F.cl;refine Bool.eq_false_iff.mpr λz=>?_;have e:C=d:=Value.ref.inj (pU.mp z);subst e;unfold PySem.W.clsIn at q;split at q
  ·next a=>exact absurd ((KX _ _ a).symm.trans f) (by intro b;cases b)
  ·cases q
 ca:=λKX p k=>Ph F KX p k
inductive TyX(K:Frag)(H:Hp):V->Value->Prop where
 |ty {x:V} {t:Value} (h:TyOf K H x t):TyX K H x t
 |exc {e C:Addr} (h:H e=some (Gf e (.ref C))) (F:Bk K C):TyX K H (.ref e) (.ref C)
 |tupS {a:Addr} {xs:List V} (h:SqT K H a xs):TyX K H (.ref a) (.type "tuple")
noncomputable def clsV:V->Value
 |.ty n=>.type n
 |.ref a=>.ref a
 |_=>.none
noncomputable def Pf:V->Bool
 |.ty _=>true
 |.ref _=>true
 |_=>false
def rIsi(K:Frag):List V->Hp->VK->Prop:=λvs H Q=>∃x c t b,vs=[x,c]/\TyX K H x t/\Pf c=true/\PySem.W.kitOne K t (clsV c)=some b/\Q (.bl b) H
theorem bU{X:Cx}:kI X (.builtin "isinstance") (rIsi X.K):=by
 intro l s σ H xs us Q I j h;obtain⟨x,c,p,b,rfl,ty,i,e,q⟩:=h;obtain⟨u,w,rfl,a,k⟩:=j.two;have f:w=clsV c:=by
  cases c <;> first|exact k|cases i
 subst f;have d:∀tk,EP X l σ Q (.bool b) {s with toks:=tk}:=λtk=>⟨.bl b,H,I.tok tk,rfl,q⟩;cases ty with
 |ty h=>exact Oq I a h e d
 |exc h F =>
  obtain rfl:u=_:=a;obtain⟨g,_,_⟩:=(show mK X.prog X.w H s.heap _ (Gf _ _) from I.hok _ _ h);exact xT (Pg F) I.kIn g e (λz=>nomatch z) d
 |tupS h =>
  obtain rfl:u=_:=a;obtain⟨its,_,⟨o,m,n,_⟩,_⟩:=I.tuple h;exact xT PySem.W.kitx_tuple I.kIn ⟨o,m,n⟩ e (λz=>nomatch z) d
structure Pe(k:Nat)(A:Around):Prop where
 dp:A.depth+3*k+5<recursionLimit
 un:A.units+16*k+200<cLine
structure u_e(P:Program)(w:World)(K:Frag)(mg:MT)(base:Heap)(k:Nat)(f:Addr)(fd:FuncData)(ps:List Str)(sp:Sp):Prop where
 len:∀vs H Q E,sp vs H Q E->vs.length=ps.length
 run:∀(A:Around)(outer:List Env)(s:Shared)(H:Hp)(args:Args)(us:LW)(vs:List V)(Q:VK)(E:XK),Pe k A->Env0 P w K mg base A outer s H->BindsTo s fd args (ps.zip us)->Vals vs us->sp vs H Q E ->
  codeAny (model P w) A (.call (.ref f) args) (CR CX0 outer P w H s Q E) s
section
variable {X:Cx}
theorem lZ:OpR X (compareOp .Eq) (rI0 λi j=>.bl (decide (i=j))):=opB0 λi j _ _ _ _ _ q=>eq_int (by rw[Bool.beq_eq_decide_eq];exact q)
theorem jM:OpR X (compareOp .NotEq) (rI0 λi j=>.bl (!decide (i=j))):=opB0 λi j _ _ _ _ _ q=>ne_int (by rw[bne,Bool.beq_eq_decide_eq];exact q)
theorem PS.nox{st:Stmt}{a:TS}(h:PS X.nox st a):PS X st a:=λb s σ H D I c =>
 xS (h b s σ H D (I.wish _) c) (λ_ _ q=>q.unwish) λ_ _ z=>z.elim
end
section
variable {P:Program} {w:World} {K:Frag} {mg:MT} {base:Heap}
theorem Fun.okX{x a:Str}{st:Stmt}{f:Addr}{c:FuncData}{N ps:List Str}{k:Nat}{sp:Sp}(F:Fun K x a st f c)(i:oY N ps (oN st))(len:∀vs H Q E,sp vs H Q E->vs.length=ps.length)
  (e:∀(cdv:Value)(A:Around)(outer:List Env)(s:Shared)(H:Hp)(vs:List V)(Q:VK)(E:XK),Room k (A.deeper (envOfC a (oN st) s.heap.objs.size f cdv))->sp vs H Q E ->
   ∃b,PSs (cxOf (CX1 P w) P w K mg base N a (oN st) f cdv A outer s H E) (kD st) b/\b {nx:=λ_ H'=>Q .non H',rt:=Q} (jX N vs) H):FnOk P w K mg base (CX1 P w) (k+1) f c ps sp:=by
 obtain⟨o,p,kV,m,l,q,cdv,n,r,rfl,d,g⟩:=F.ex;exact Br d g i len λA outer s H vs Q E hr j=>e cdv A outer s H vs Q E hr j
end
end L2
namespace Att
open PySem PySem.W PySem.Calls PyProof.Rows
theorem Gc:∀ns:LI',ofPys (ns.map PyData.int)=ns.map WData.int
 |[]=>rfl
 |n:: r=>by
  show ofPy (.int n):: ofPys (r.map PyData.int)=_;rw[Gc r];rfl
theorem Pd{ns:LI'}(h:(WData.list (ns.map WData.int)).layable=true):∀n∈ns,Builtin.Int.intBits n<=1048576:=λn a=>by
 have e:ofPy (.list (ns.map PyData.int))=WData.list (ns.map WData.int):=by
  show WData.list (ofPys (ns.map PyData.int))=_;rw[Gc]
 have b:PySem.Spec.Shape.has (.list .int) (.list (ns.map PyData.int))=true:=by
  simp[PySem.Spec.Shape.has]
 exact intBits_le_of_item a (layable0_of_all (lay0_ofPy (s:=.list .int) rfl b (by rw[e];exact h)))
theorem attach_callB{l:OpenLaw}{n:Nat}{q:Program}{k:List Str}{t:(MT)->Heap->Prop}{u:World->Heap->Prop}{d:DefRec}(F:l.most=some n)(x:d.params.defaults=[])
  (call:∀(w:World)(i b:Shared)(c j:MT)(g:Addr)(a:Addr)(vs:LW)(ns:LI'),Ground q k [] t w i c j b.heap->u w b.heap->c d.name=some (.ref g) ->
   b.heap.get? a=some {cls:=.type "list",data:=.seq vs.toArray}->IntsAre vs ns->ns.length<=n->(∀m∈ns,Builtin.Int.intBits m<=1048576)->b.gens=#[] ->
   codeAny (model l.prog w) callerA (.call (.ref g) ⟨[.ref a],[]⟩) (λr e=>r=.ok (.ret (.bool true))/\OldK b.heap e.heap/\e.os=b.os/\AllBare e.gens) b):
  WalkO q k t u l.row.toRowW d [] (λf vs=>PySem.call f vs):=by
 intro w i b c j G N g o X a0 U y kV Y a2 V p I K Z vals as S J a1 P W;obtain rfl:y=.none:=Dflts.none p x;obtain rfl:kV=.none:=Dflts.noKw p;obtain⟨a,vs,ns,rfl,rfl,v,M,T⟩:=Pm F S P;have z:=Pd (layableW_arg J _ zV);refine enter_call (qU (call w i b c j g a vs ns G N I v M T z K) λr e D=>?_);obtain⟨rfl,R,C,L⟩:=D;exact⟨.inl ⟨.bool true,.bool true,[],rfl,λ_=>rfl,.bool true,Pl l _,λ_=>⟨List.Pairwise.nil,λ_ O=>(nomatch O)⟩⟩,R,C,L⟩
end Att
namespace L2
open PySem PySem.Spec PyProof.Rows
open PySem.W (Frag)
def Gb(K:Frag):Sp:=λvs H Q _=>∃(a:Addr)(ns:LI'),vs=[.ref a]/\SqL K H a (ns.map V.int)/\ns.length<=63/\(∀m∈ns,Builtin.Int.intBits m<=1048576)/\∀H',Q (.bl true) H'
theorem walkB{l:PySem.W.OpenLaw}{k:Nat}{q:Program}{n:List Str}{N:(MT)->Heap->Prop}{j:World->Heap->Prop}{d:DefRec}{K:Params->Frag}{x:Str}
  (t:l.most=some 63)(p:d.params.defaults=[])(hr:Room k callerA)(C:∀(w:World)(h:Heap),j w h->(K w.params).In h)
  (F:∀(w:World)(b:MT)(c:Addr)(h:Heap),(K w.params).In h->h.Ns mainGlobals b->b d.name=some (.ref c) ->
   ∃i:FuncData,(∀(s:Shared)(u:Value),BindsTo s i ⟨[u],[]⟩ [(x,u)])/\∀g:Heap,(K w.params).In g->g.Ns mainGlobals b->FnOk l.prog w (K w.params) b g CX0 k c i [x] (Gb (K w.params))):
  PySem.W.WalkO q n N j l.row.toRowW d [] (λf vs=>PySem.call f vs):=by
 refine Att.attach_callB t p λw O R b S c a vs ns G L y o J m r D=>?_;have KX:=C w _ L;obtain⟨i,M,I⟩:=F w b c _ KX G.T.g y;exact Pk KX G.T.g G.T.b G.T.builtins G.T.nolimit D o J (yA m ∅) hr I M (λH _ v=>⟨a,ns,rfl,v,m,r,λ_=>rfl⟩) λH e P z=>z
theorem lF{c:TI}{g:TG}{tb:TS}{D:Ends}{σ:St}{H:Hp}(h:∀B:TS,B=tb->c σ H λa j=>∃b:Nat->Nat->St->Hp->Prop,(∃m,b 0 m σ j)/\∀i m σ H,b i m σ H ->
  (a.stop i H/\D.nx σ H)\/(a.go i H/\∃N:St->Hp->Prop,(∀d H',N d H'->∃e,e<m/\b (i+1) e d H')/\∀x H',a.yld i H x H'->g x σ H' λk f=>B {D with nx:=N,ct:=N,bk:=D.nx} k f)):tFor c g tb D σ H:=h _ rfl
theorem Ga{c:TT}{tb:TS}{D:Ends}{σ:St}{H:Hp}(h:∀B:TS,B=tb->∃a:Nat->St->Hp->Prop,(∃m,a m σ H)/\∀m σ H,a m σ H ->
  c σ H λb e=>if b=true then∃N:St->Hp->Prop,(∀d H',N d H'->∃f,f<m/\a f d H')/\B {D with nx:=N,ct:=N,bk:=D.nx} σ e else D.nx σ e):Fm c tb D σ H:=h _ rfl
theorem st{b u:TS}{D:Ends}{σ:St}{H:Hp}(h:∀a:St->Hp->Prop,a=u D->b {D with nx:=a} σ H):tSeq b u D σ H:=h _ rfl
section
variable {g:Int->Int->V} {C:Int->Int->Prop} {f:Int->V} {i j:Int} {H:Hp} {Q:VK}
theorem Pc:rI0 g (.int i) (.int j) H Q=Q (g i j) H:=propext ⟨λ⟨_,_,e1,a,q⟩=>by cases e1;cases a;exact q,λq=>⟨_,_,rfl,rfl,q⟩⟩
theorem Pb:rI C g (.int i) (.int j) H Q=(C i j/\Q (g i j) H):=propext ⟨λ⟨_,_,e1,a,q⟩=>by cases e1;cases a;exact q,λq=>⟨_,_,rfl,rfl,q⟩⟩
theorem t_P:rU f (.int i) H Q=Q (f i) H:=propext ⟨λ⟨_,e1,q⟩=>by cases e1;exact q,λq=>⟨_,rfl,q⟩⟩
end
theorem Same.new{H:Hp}{a:Addr}{o:HO}(h:H a=none):Same H (upd H a o):=λb u e=>by rw[oU (mI e h)];exact e
theorem Same.over{H c:Hp}{a:Addr}{o:HO}(h:H a=none)(s:Same H c):Same H (upd c a o):=λb u e=>by rw[oU (mI e h)];exact s b u e
theorem Same.tup{K:Frag}{H H':Hp}{a:Addr}{xs:List V}(e:Same H H')(h:SqT K H a xs):SqT K H' a xs:=by
 rcases h with(h|⟨o,h⟩)|h
 ·exact .inl (.inl (e _ _ h))
 ·exact .inl (.inr ⟨o,e _ _ h⟩)
 ·exact .inr h
section
variable {K:Frag} {a b:Addr} {xs:List V} {te:TE} {fr:List (Str×Nat)} {σ:St} {H:Hp} {Q:VK}
def u_f(H:Hp)(a:Addr)(R:Nat->V->Prop)(i:Nat)(H1:Hp):Prop:=Same H H1/\∃ys:List V,H1 a=some (.lst ys)/\ys.length=i/\∀j y,ys[j]?=some y->R j y
end
theorem nW{b a:Type}{ys:List a}{xs:List b}{f:b->a}(hl:ys.length=xs.length)(h:∀(j:Nat)(y:a),ys[j]?=some y->∃x,xs[j]?=some x/\y=f x):ys=xs.map f:=by
 refine xY (by simpa using hl) λi e k=>?_;obtain⟨x,e1,c⟩:=h i ys[i] (by simp[e]);obtain⟨g,d⟩:=oB.mp e1;rw[vZ,c,d]
noncomputable def jB(sc scope:Scope):Scope:={scope with names:=scope.names.map λ(n,k)=>if(k == .free && sc.kind == .function && sc.names.lookup n == some .cell) then(n,.cell) else(n,k)}
theorem Pa{a sc:Scope}{env:Env}(h:env.scope=sc):relabel a env=jB sc a:=by subst h;rfl
theorem dO:∀(a:List (Str×NameKind))(n:Nat)(acc:List (Str×Addr)),cellsFrom n a acc=cellsFrom n a []++acc
 |[],_,_=>rfl
 |(x,k):: r,n,acc=>by
  unfold cellsFrom;split
  ·rw[dO r (n+1) ((x,n):: acc),dO r (n+1) [(x,n)],yU];rfl
  ·exact dO r n acc
theorem Bj{y:Str}{b:Addr}:∀{a:List (Str×NameKind)}{n:Nat}{acc:List (Str×Addr)},(y,b)∈cellsFrom n a acc->(y,b)∈acc\/(y,NameKind.cell)∈a
 |[],_,_,h=>.inl h
 | (x,k):: r,n,acc,h=>by
  unfold cellsFrom at h;split at h
  ·rename_i d;rcases Bj h with q|q
   ·rcases xE.mp q with e|e
    ·have c:k=.cell:=by simpa using d
     cases e;exact .inr (by rw[c];exact zV)
    ·exact .inl e
   ·exact .inr (zM _ q)
  ·rcases Bj h with q|q
   ·exact .inl q
   ·exact .inr (zM _ q)
theorem dP{y:Str}:∀{a:List (Str×NameKind)}{n:Nat}{acc:List (Str×Addr)},((y,NameKind.cell)∈a\/∃b,acc.lookup y=some b)->∃b,(cellsFrom n a acc).lookup y=some b
 |[],_,_,h=>by
  rcases h with h|h
  ·simp at h
  ·exact h
 | (x,k):: r,n,acc,h=>by
  unfold cellsFrom;split
  ·rename_i c;refine dP ?_;rcases h with h|⟨b,h⟩
   ·rcases xE.mp h with e|e
    ·cases e;exact .inr ⟨n,by rw[xN];simp⟩
    ·exact .inl e
   ·rw[xN];cases hx:y == x with
    |true=>exact .inr ⟨n,rfl⟩
    |false=>exact .inr ⟨b,h⟩
  ·rename_i c;refine dP ?_;rcases h with h|h
   ·rcases xE.mp h with e|e
    ·cases e;simp at c
    ·exact .inl e
   ·exact .inr h
theorem Bi{env:Env}{q:NameKind}:∀{c:List (Str×NameKind)}{x:Str},
  (c.map λ(n,k)=>if(k == NameKind.free && env.scope.kind == .function && env.kindOf n == some .cell) then(n,NameKind.cell) else(n,k)).lookup x=some q ->
  (q=.cell\/q=.free)->(x,NameKind.free)∈c\/(x,NameKind.cell)∈c
 |[],_,h,_=>by simp at h
 | (n,k):: r,x,h,f=>by
  have g:=@Bi env q r x;rw[zK]at h;dsimp only at h
  by_cases d:(k == NameKind.free && env.scope.kind == .function && env.kindOf n == some .cell)=true
  ·rw[zJ d,xN]at h;cases hx:x == n with
   | true =>
    have b:x=n:=by simpa using hx
    have a:k=.free:=by
     have:=(zT _ _ ▸ ((zT _ _ ▸ d).1)).1;simpa using this
    rw[b,a];exact .inl zV
   |false =>
    rw[hx]at h;exact(g h f).imp (zM _) (zM _)
  ·rw[zI d,xN]at h;cases hx:x == n with
   |true =>
    rw[hx]at h;have b:x=n:=by simpa using hx
    have a:k=q:=zU h;rcases f with e|e
    ·rw[b,a,e];exact .inr zV
    ·rw[b,a,e];exact .inl zV
   |false =>
    rw[hx]at h;exact(g h f).imp (zM _) (zM _)
theorem key_one{c:Type}{x:Str}{k b:c}:∀{l:List (Str×c)},(l.map (·.1)).Nodup->(x,k)∈l->(x,b)∈l->k=b
 |(n,q):: r,g,h,h'=>by
  obtain⟨d,f⟩:=rM.mp g;rcases xE.mp h with e|e <;> rcases xE.mp h' with a|a
  ·cases e;cases a;rfl
  ·cases e;exact absurd (pZ.mpr ⟨_,a,rfl⟩) d
  ·cases a;exact absurd (pZ.mpr ⟨_,e,rfl⟩) d
  ·exact key_one f e a
theorem Qz{M:Model}{A:Around}{E:VP}{s:Shared}{a:Scope}{c:Addr}{d:List (Str×Addr)}{f:Str}{b:Option Addr}{e:Value}{env:Env}{bl:Addr}{Q:Env->Shared->Prop}
  (h:Q (newEnv a s.heap.objs.size c (cellsFrom (s.heap.objs.size+1) a.names d) f b e (some env) bl) {s with heap:=pushCells (s.heap.push {cls:=.type "dict",data:=.dict #[]}) a.names}):
  wpAny M A (newFunctionEnv a c d [] f b e (some env) bl) Q E s:=by
 simp only[newFunctionEnv,Option.isSome_some,if_true];refine zA (wpAny_alloc ?_);refine zA (wpAny_layCells _ (λname g cells=>by cases hkc:g == NameKind.cell <;> simp[hkc]) _ _ _ _ ?_);rw[show({s with heap:=s.heap.push {cls:=.type "dict",data:=.dict #[]}}:Shared).heap.objs.size=s.heap.objs.size+1 from wA ..];exact zB h
def mQ(X:Cx)(scope:Scope)(N:List Str)(s:Shared)(H:Hp)(fp:LA):Cx:=
 {X with N:=N,s₀:=s,H₀:=H,env:=compEnvC scope (cellsFrom (s.heap.objs.size+1) scope.names (clOf X.env scope.names [])) s.heap.objs.size X.env,outer:=X.stack,ex:=fp,fn:=λy=>scope.names.lookup y == some .cell,pn:=[],xe:=λ_ _=>False}
structure jN(X:Cx)(sc scope:Scope)(xs:List Str)(fr:List (Str×Nat)):Prop where
 hsc:X.env.scope=sc
 kind:scope.kind=.function
 nn:(scope.names.map (·.1)).Nodup
 free:∀y∈scope.names,y.2=.free->sc.names.lookup y.1=some .cell\/sc.names.lookup y.1=some .free
 loc:∀y∈scope.names,y.2=.local->scope.names.lookup y.1=some .local
 fr:∀p∈fr,X.N[p.2]?=some p.1/\scope.names.lookup p.1=some .free
section
variable {X:Cx} {sc scope:Scope} {xs:List Str} {fr:List (Str×Nat)}
theorem jN.free'(c:jN X sc scope xs fr):∀y∈scope.names,y.2=.free->X.env.kindOf y.1=some .cell\/X.env.kindOf y.1=some .free:=λy a b=>by
 unfold Env.kindOf;rw[c.hsc];exact c.free y a b
theorem jN.cells{a:PN}{σ:St}{H:Hp}{s:Shared}(c:jN X sc scope xs fr)(I:Inv X a σ H s):∀y∈scope.names,y.2=.free->∃c,X.env.cells.lookup y.1=some c:=
 λy b d=>I.ok.has y.1 (c.free' y b d)
theorem jN.was{a:PN}{σ:St}{H:Hp}{s:Shared}(c:jN X sc scope xs fr)(I:Inv X a σ H s){y:Str}{b:Addr}(h:(clOf X.env scope.names []).lookup y=some b):X.env.cells.lookup y=some b:=by
 rcases Gk (c.cells I) h with q|q
 ·simp at q
 ·exact q
theorem fS{a:List (Str×NameKind)}{n:Nat}{d:List (Str×Addr)}{y:Str}{b:Addr}(h:(cellsFrom n a d).lookup y=some b):(cellsFrom n a []).lookup y=some b\/((cellsFrom n a []).lookup y=none/\d.lookup y=some b):=by
 rw[dO,List.lookup_append]at h;cases q:(cellsFrom n a []).lookup y with
 |none=>rw[q]at h;exact .inr ⟨rfl,h⟩
 |some c=>rw[q]at h;exact .inl h
theorem Qy{t:PN}{σ:St}{H:Hp}{s:Shared}{G:LA}(c:jN X sc scope xs fr)(I:Inv X t σ H s)
  (x:∀b∈G,FpOk X t H b/\∃o,s.heap.get? b=some o):
  Inv (mQ X scope (xs++fr.map (·.1)) s H G) [] (xs.map (λ_=>none)++lK fr σ) H {s with heap:=pushCells (s.heap.push {cls:=.type "dict",data:=.dict #[]}) scope.names}:=by
 have k:∀b o,s.heap.get? b=some o->(pushCells (s.heap.push {cls:=.type "dict",data:=.dict #[]}) scope.names).get? b=some o:=λb o e=>pC _ _ b o (zD _ e);have F:(pushCells (s.heap.push {cls:=.type "dict",data:=.dict #[]}) scope.names).Ns s.heap.objs.size (λ_=>none):=(Heap.Ns.new s.heap (.type "dict")).keeps (pC _ _);have ok:=cellsFrom_ok scope.names (s.heap.push {cls:=.type "dict",data:=.dict #[]}) (s.heap.objs.size+1) [] ⟨λ_ _ f=>(nomatch f),List.Pairwise.nil⟩ (by rw[wA];exact zE _);rw[wA]at ok;have n:Inv X t σ H {s with heap:=pushCells (s.heap.push {cls:=.type "dict",data:=.dict #[]}) scope.names}:=I.kept (t':=s.toks) k;generalize hh:pushCells (s.heap.push {cls:=.type "dict",data:=.dict #[]}) scope.names=V at k F ok n;have old:∀{y:Str}{b:Nat},(clOf X.env scope.names []).lookup y=some b->b<s.heap.objs.size:=λ{y b}e=>by
  obtain⟨v,z⟩:=I.cell y b (c.was I e);exact z.lt
 have own:∀{y:Str}{b:Nat},(cellsFrom (s.heap.objs.size+1) scope.names []).lookup y=some b->V.IsCell b none/\s.heap.objs.size+1<=b:=λ{y b}e=>ok.empty y b (mem_of_lookup e);refine⟨⟨I.ok.mod,c.kind,I.ok.glob,I.ok.blt,zE _,λy z b r a=>?_,λy l=>?_,λy b Y r=>?_,I.ok.hd,I.ok.frames,.inl rfl,λb g=>?_,λb o e=>?_,?_,λb o e g=>?_,λb g T=>?_,?_,λb g=>?_⟩,
  rfl,I.bare,Un.kept k,⟨_,F,λi y v r a a1=>?_⟩,λy b h=>?_,?_,λy b h=>?_,λp M=>absurd (show p∈([]:PN) from M) (by simp),n.hok,?_⟩
 ·rcases fS r with e1|⟨_,e1⟩ <;> rcases fS a with d|⟨_,d⟩
  ·exact name_of_addr ok.apart (mem_of_lookup e1) (mem_of_lookup d)
  ·exact absurd (zF (old d) (qR (own e1).2)) (xH _)
  ·exact absurd (zF (old e1) (qR (own d).2)) (xH _)
  ·exact I.ok.inj y z b (c.was I e1) (c.was I d)
 ·show∃b,(cellsFrom (s.heap.objs.size+1) scope.names (clOf X.env scope.names [])).lookup y=some b;have f:(y,NameKind.free)∈scope.names\/(y,NameKind.cell)∈scope.names:=by
   rcases l with l|l
   ·exact Bi l (.inl rfl)
   ·exact Bi l (.inr rfl)
  rcases f with f|f
  ·exact dP (.inr (Bl (.inl f)))
  ·exact dP (.inl f)
 ·have l:scope.names.lookup y=some .cell:=by
   have L:(scope.names.lookup y == some NameKind.cell)=true:=Y;simpa using L
  rcases fS r with e1|⟨e1,_⟩
  ·have:=(own e1).2;show s.heap.objs.size<=b;omega
  ·obtain⟨C,e⟩:=dP (n:=s.heap.objs.size+1) (acc:=[]) (.inl (mem_of_lookup l));rw[e1]at e;cases e
 ·obtain⟨⟨_,_,_,_,S,_⟩,o,e⟩:=x b g;refine⟨yD (zO e),λy C h=>?_⟩;rcases fS h with e1|⟨_,e1⟩
  ·exactλz=>absurd (zF (zO e) (qR (z ▸ (own e1).2))) (xH _)
  ·exact S y C (c.was I e1)
 ·exact I.bs b o e
 ·exact yA I.ok.bsz I.sz
 ·obtain⟨⟨_,_,_,N,_,_⟩,_⟩:=x b g;rcases N with z|z
  ·exact I.ok.noex b o e z
  ·exact absurd (zF (zO e) (yA I.ok.bsz z)) (xH _)
 ·obtain⟨⟨_,O,Z,_,_,_⟩,_⟩:=x b g;rcases xE.mp (I.stkSub b T) with z|z
  ·exact O z
  ·exact Z z
 ·exact I.stack
 ·exact I.stkFree b g
 ·have m:(xs++fr.map (·.1))[i]?=some y:=r
  by_cases hi:i<xs.length
  ·rw[yI (by simpa using hi),zC]at a;cases q:xs[i]? with
   |none=>rw[q]at a;cases a
   |some z=>rw[q]at a;cases zU a
  ·rw [zZ ⋯]at m;rw[zZ (by simpa using hi),yL]at a;generalize i-xs.length=j at m a;rw[zC]at m;unfold lK at a;rw[zC]at a;cases e:fr[j]? with
   |none=>rw[e]at m;cases m
   | some p =>
    rw[e]at m a;have e1:p.1=y:=zU m;have d:σ.getD p.2 none=some v:=zU a;obtain⟨P,D⟩:=c.fr p (yK e);have W:σ[p.2]?=some (some v):=by
     rw[tI]at d;cases q:σ[p.2]? with
     |none=>rw[q]at d;cases d
     |some o=>rw[q]at d;have a0:o=some v:=d;rw[a0]
    subst e1;have f:(p.1,NameKind.free)∈scope.names:=vH D;have kd:=c.free' _ f rfl;obtain⟨a2,_,hl⟩:=n.loc;obtain⟨u,U,R⟩:=hl p.2 p.1 v P W (.inr kd);refine⟨u,U,.inr ⟨Gi D,?_⟩⟩;rcases R with⟨k1,_⟩|⟨_,b,q,z⟩
    ·rcases kd with kd|kd <;> (rw[kd]at k1;cases k1)
    ·obtain⟨C,J⟩:=Bl (env:=X.env) (l:=scope.names) (cs:=[]) (.inl f);have K:=c.was I J;rw[q]at K;cases K;refine⟨b,?_,z⟩;show(cellsFrom (s.heap.objs.size+1) scope.names (clOf X.env scope.names [])).lookup p.1=some b;rw[dO,List.lookup_append];cases w:(cellsFrom (s.heap.objs.size+1) scope.names []).lookup p.1 with
     |none=>exact J
     |some b2 =>
      rcases Bj (mem_of_lookup w) with w|w
      ·simp at w
      ·cases key_one c.nn f w
 ·rcases fS h with e1|⟨_,e1⟩
  ·exact⟨none,(own e1).1⟩
  ·exact n.cell y b (c.was I e1)
 ·exact I.hok.fresh (zE _)
 ·rcases fS h with e1|⟨_,e1⟩
  ·exact I.hok.fresh (by have:=(own e1).2;omega)
  ·exact n.freeC y b (c.was I e1)
 ·show(xs.map (λ_=>none)++lK fr σ).length=(xs++fr.map (·.1)).length;simp[lK]
end
abbrev TOx:=St->Hp->(Option V->Hp->Prop)->Prop
def tEl(te:TE):TOx:=λσ H Q=>te σ H λy H'=>Q (some y) H'
def iM(tc:TT)(te:TE):TOx:=λσ H Q=>tc σ H λb H1=>if b=true then te σ H1 (λy H'=>Q (some y) H') else Q none H1
def dQ(elt:Expr)(ifs:List Expr)(env:Env)(M:Model)(A:Around)(Q:Option Value->Shared->Prop)(E:VP)(s:Shared):Prop:=
 match ifs with
 |[]=>wpAny M A (eval elt env) (λx s1=>Q (some x) s1) E s
 |[c]=>wpAny M A (isTrue c env (eval c env)) (λb s1=>if b=true then wpAny M A (eval elt env) (λx s2=>Q (some x) s2) E s1 else Q none s1) E s
 |_=>False
def POx(X:Cx)(elt:Expr)(ifs:List Expr)(t:TOx):Prop:=∀(pins:PN)(s:Shared)(σ:St)(H:Hp)(Q:Option V->Hp->Prop),Inv X pins σ H s->t σ H Q ->
 dQ elt ifs X.env (model X.prog X.w) X.A (λo s'=>∃v H',Inv X pins σ H' s'/\(match o,v with|some u,some y=>RelV y u|none,none=>True|_,_=>False)/\Q v H') X.xe s
theorem lU{X:Cx}{a:Expr}{te:TE}(h:PE X a te):POx X a [] (tEl te):=λf s σ H Q I c =>
 thn (h f s σ H _ I c) λu i⟨y,d,g,b,e⟩=>⟨some y,d,g,b,e⟩
theorem Hz{X:Cx}{f c:Expr}{d:TT}{te:TE}(k:PT X c d)(h:PE X f te):POx X f [c] (iM d te):=λg s σ H Q I l=>by
 refine thn (k g s σ H _ I l) ?_;rintro b m ⟨e,i,a⟩;cases b with
 |true =>
  rw[zJ rfl]at a ⊢;exact thn (h g m σ e _ i a) λu q⟨y,j,p,n,o⟩=>⟨some y,j,p,n,o⟩
 |false =>
  rw[zI yC]at a ⊢;exact⟨none,e,i,trivial,a⟩
theorem Qx{prog:Program}{w:World}{A:Around}{R:Result->Shared->Prop}{s:Shared}{e d g:Expr}{k:List Expr}{i:Scope}{l:Pos}{a acc:Value}{env:Env}(I:Nat->Shared->Prop)
  (turn:∀n s,I n s->wpAny (model prog w) A (pyNext a) (λr q=>match r with
   |none=>R (.ok .next) q
   | some v=>wpAny (model prog w) A (letOwnedTupleGo d a v) (λ_ F=>wpAny (model prog w) A (assign d env v) (λ_ u=>dQ e k env (model prog w) A (λo p=>match o with
     |some x=>wpAny (model prog w) A (call (.builtin "list.append") [acc,x]) (λ_ y=>∃m,m<n/\I m y) (λ_ _=>False) p
     |none=>∃m,m<n/\I m p)
     (λ_ _=>False) u) (λ_ _=>False) F) (λ_ _=>False) q) (λ_ _=>False) s)
  (n:Nat)(h:I n s)(D:k.length<=1):
  codeAny (model prog w) A (.compLoop (.ListComp e [⟨d,g,k,0⟩] i l) 0 a acc env) R s:=by
 refine codeAny_loop rfl I (λn s G=>?_) n h;show wpAny _ _ ((compTurn (.ListComp e [⟨d,g,k,0⟩] i l) 0 a acc env).onRaise (λx=>do noteFrame x env;theTreesLotGoes x)) _ _ s;refine wpAny_noted ?_;have T:=turn n s G
 match k,D,T with
 | [],_,T =>
  rw[compTurn_list1];refine zA (tJ (zA (xS T (λr q j=>?_) λ_ _ h'=>h'.elim)));cases r with
  |none=>exact zB j
  | some v =>
   refine zA (xS j (λ_ F C=>?_) λ_ _ h'=>h'.elim);exact zA (xS C (λ_ u t=>zA (zA (xS (show wpAny _ _ _ _ _ _ from t) (λx p f=>zA (xS f
    (λ_ y z=>zB (zB ⟨rfl,z⟩)) λ_ _ h'=>h'.elim)) λ_ _ h'=>h'.elim))) λ_ _ h'=>h'.elim)
 | [c],_,T =>
  have e1:compTurn (.ListComp e [⟨d,g,[c],0⟩] i l) 0 a acc env=(standAt g.pos >>= λ_=>pyNext a >>= λr=>match r with
   |none=>pure (.done .next)
   | some v=>letOwnedTupleGo d a v >>= λ_=>assign d env v >>= λ_=>isTrue c env (eval c env) >>= λok =>
    (if ok=true then(eval e env >>= λx=>call (.builtin "list.append") [acc,x] >>= λ_=>pure ()) >>= λ_=>again (.compLoop (.ListComp e [⟨d,g,[c],0⟩] i l) 0 a acc env)
     else again (.compLoop (.ListComp e [⟨d,g,[c],0⟩] i l) 0 a acc env))):=by
   unfold compTurn;simp only[List.forIn_cons,List.forIn_nil,if_true,bind_assoc,pure_bind,List.getElem?_cons_zero];rfl
  rw[e1];refine zA (tJ (zA (xS T (λr q j=>?_) λ_ _ h'=>h'.elim)));cases r with
  |none=>exact zB j
  | some v =>
   refine zA (xS j (λ_ F C=>?_) λ_ _ h'=>h'.elim);refine zA (xS C (λ_ u t=>zA (xS (show wpAny _ _ _ _ _ _ from t) (λb p f=>?_) λ_ _ h'=>h'.elim)) λ_ _ h'=>h'.elim);cases b with
   |true =>
    rw[zJ rfl]at f ⊢;exact zA (zA (xS f (λx y z=>zA (xS z (λ_ K J=>zB (zB ⟨rfl,J⟩)) λ_ _ h'=>h'.elim)) λ_ _ h'=>h'.elim))
   |false =>
    rw[zI yC]at f ⊢;exact zB ⟨rfl,f⟩
 |_:: _:: _,D,T =>
  exact absurd D (by simp)
def Qw(a:Addr)(N:Hp->Prop):Option V->Hp->Prop
 |some y,H=>∃zs,H a=some (.lst zs)/\zs.length<sizeLine/\N (upd H a (.lst (zs++[y])))
 |none,H=>N H
abbrev kA(J:It)(g:TG)(tt:TOx)(n:Nat)(fr:List (Str×Nat))(σ:St)(a:Addr)(H:Hp)(Q:VK):Prop:=
 ∃ W:Nat->Nat->Hp->Prop,(∃m,W 0 m (upd H a (.lst [])))/\∀i m H2,W i m H2->(J.stop i H2/\Q (.ref a) H2) \/
  (J.go i H2/\∃N:Hp->Prop,(∀H',N H'->∃m',m'<m/\W (i+1) m' H')/\∀(ys:St) x H3,ys.length=n->J.yld i H2 x H3 ->
   g x (ys++lK fr σ) H3 λσ4 H4=>(∃ys':St,ys'.length=n/\σ4=ys'++lK fr σ)/\tt σ4 H4 (Qw a N))
def mE(wi:TI)(g:TG)(tt:TOx)(n:Nat)(fr:List (Str×Nat)):TE:=λσ H Q=>wi σ H λJ H1=>∀a,H1 a=none->kA J g tt n fr σ a H1 Q
section
variable {X:Cx} {sc scope:Scope} {xs:List Str} {fr:List (Str×Nat)} {elt tg iter:Expr} {ifs:List Expr} {g:TG} {tt:TOx}
theorem Hy{D:PN}{σ:St}{H:Hp}{s:Shared}{b9:Pos}{c6:It}{k:LA}{Y:Addr}{O:Nat->Heap->Prop}{Q:VK}{RR:Value->Addr->Result->Shared->Prop}{E:VP}
  (c:jN X sc scope xs fr)(b6:X.calm=true)(R:ifs.length<=1)(I:Inv X D σ H s)(T:Turn X.prog X.w X.K tg c6 k Y O)(a7:O 0 s.heap)(a3:∀b∈k,FpOk X D H b)
  (e7:∀(v:Shared)(F:Hp)(k:LA),(mQ X scope (xs++fr.map (·.1)) v F k).env.scope=jB sc scope->PG (mQ X scope (xs++fr.map (·.1)) v F k) tg g)
  (g1:∀(v:Shared)(F:Hp)(k:LA),(mQ X scope (xs++fr.map (·.1)) v F k).env.scope=jB sc scope->POx (mQ X scope (xs++fr.map (·.1)) v F k) elt ifs tt)
  (f8:∀a,H a=none->kA c6 g tt xs.length fr σ a H Q)
  (e3:∀a C H' t m,t.heap.Ns C m->Inv X D σ H' t->FpOk X D H' C->Q (.ref a) H'->RR (.ref a) C (.ok .next) t):
  wpAny (model X.prog X.w) X.A (newList []) (λacc v=>wpAny (model X.prog X.w) X.A (newFunctionEnv scope X.env.globals (clOf X.env scope.names []) [] X.env.qual none .none (some X.env)) (λa9 f3 =>
   codeAny (model X.prog X.w) X.A (.compStart (.ListComp elt [⟨tg,iter,ifs,0⟩] scope b9) 0 (.ref Y) acc {a9 with scope:=relabel scope X.env}) (RR acc a9.locals) f3) E v) E s:=by
 obtain⟨a8,⟨e2,d2⟩,turn⟩:=f8 s.heap.objs.size I.fresh;refine yX (Qz ?_);have c5:Inv X D σ (upd H s.heap.objs.size (.lst [])) {s with heap:=s.heap.push {cls:=.type "list",dict:=none,data:=.seq ([]:LW).toArray}}:=I.lnew (ys:=[]) (its:=[]) (t':=s.toks) .nil (yV _);have U:∀b o,s.heap.get? b=some o->(s.heap.push {cls:=.type "list",dict:=none,data:=.seq ([]:LW).toArray}).get? b=some o:=λb o e=>zD _ e;have b3:Un (frs X.stack) k H (upd H s.heap.objs.size (.lst [])) s.heap (s.heap.push {cls:=.type "list",dict:=none,data:=.seq ([]:LW).toArray}):=Un.laid U (zE _) I.fresh;dsimp only;generalize hH2:s.heap.push {cls:=.type "list",dict:=none,data:=.seq ([]:LW).toArray}=l at c5 U b3 ⊢;have hsz:s.heap.objs.size<=l.objs.size:=by rw[←hH2,wA];exact pE _
 have b7:∀b∈k,∃o,s.heap.get? b=some o:=λb j=>let ⟨o,e,_⟩:=T.obj _ _ a7 b j;⟨o,e⟩
 have e0:∀b∈k,b≠s.heap.objs.size:=λb j=>let ⟨_,e⟩:=b7 b j;yD (zO e)
 have d1:∀b∈k,FpOk X D (upd H s.heap.objs.size (.lst [])) b/\∃o,l.get? b=some o:=λb j=>by
  obtain⟨o,e⟩:=b7 b j;exact⟨⟨by rw[oU (e0 b j)];exact(a3 b j).1,(a3 b j).2⟩,o,U b o e⟩
 have W:=Qy c c5 d1;have d6:∀b o,l.get? b=some o->(pushCells (l.push {cls:=.type "dict",data:=.dict #[]}) scope.names).get? b=some o:=λb o e=>pC _ _ b o (zD _ e);have c3:O 0 (pushCells (l.push {cls:=.type "dict",data:=.dict #[]}) scope.names):=T.keep 0 _ _ a7 λb j o e=>d6 b o (U b o e);have c4:∀(v:Shared)(F:Hp)(k:LA),(mQ X scope (xs++fr.map (·.1)) v F k).env.scope=jB sc scope:=λ_ _ _=>Pa c.hsc;have Z:∀{H':Hp},(∀b∈k,H' b=none)->∀b∈k,FpOk (mQ X scope (xs++fr.map (·.1)) {s with heap:=l} (upd H s.heap.objs.size (.lst [])) k) [] H' b:=λf1 b j=>by
  obtain⟨e1,g3⟩:=W.ok.exf b j;exact⟨f1 b j,e1,W.ok.exfs b j,.inl j,g3,λp f9=>absurd (show p∈([]:PN) from f9) (by simp)⟩
 have c0:codeAny (model X.prog X.w) X.A (.compLoop (.ListComp elt [⟨tg,iter,ifs,0⟩] scope b9) 0 (.ref Y) (.ref s.heap.objs.size) (compEnvC scope (cellsFrom (l.objs.size+1) scope.names (clOf X.env scope.names [])) l.objs.size X.env))
   (RR (.ref s.heap.objs.size) l.objs.size) {s with heap:=pushCells (l.push {cls:=.type "dict",data:=.dict #[]}) scope.names}:=by
  refine Qx (λn t=>∃i,∃ys:St,∃H',ys.length=xs.length/\Inv (mQ X scope (xs++fr.map (·.1)) {s with heap:=l} (upd H s.heap.objs.size (.lst [])) k) [] (ys++lK fr σ) H' t/\O i t.heap/\(∀b∈k,H' b=none)/\a8 i n H')
   ?_ e2 ⟨0,xs.map λ_=>none,_,by simp,W,c3,λb j=>(d1 b j).1.1,d2⟩ R
  rintro n c8 ⟨i,ys,P,f4,b1,c1,d0,g2⟩;rcases turn i n P g2 with⟨stop,f7⟩|⟨go,N,f0,step⟩
  ·refine thn (T.done (mQ X scope (xs++fr.map (·.1)) {s with heap:=l} (upd H s.heap.objs.size (.lst [])) k) rfl rfl rfl b6 i [] c8 _ P (λ_ _=>False) b1 (Z d0) c1 stop) ?_;rintro r a1 ⟨hr,J⟩;subst hr;obtain⟨f6,d9,_⟩:=J.loc;have a6:Inv X D σ P a1:=I.call' J.os (b3.trans J.base) J.hok J.bare λb j=>let f:=a3 b j;⟨f.2.2.2.1,f.2.1,f.2.2.2.2.1,f.2.2.2.2.2⟩
   exact e3 _ _ P a1 f6 d9 a6 (I.fpOk hsz J.free) f7
  ·refine thn (T.item (mQ X scope (xs++fr.map (·.1)) {s with heap:=l} (upd H s.heap.objs.size (.lst [])) k) rfl rfl rfl b6 i [] c8 _ P (λ_ _=>False) b1 (Z d0) c1 go) ?_;rintro r a1 ⟨u,hr,g6⟩;subst hr;refine thn g6 ?_;rintro _ b2 ⟨y,c7,a6,g7,f5,a0,g4⟩;have d3:=a6.pinned (Z g4) (T.obj _ _ a0);refine thn (e7 _ _ _ (c4 _ _ _) _ b2 _ c7 y u _ d3 g7 (step ys y c7 f4 f5)) ?_;rintro _ g5 ⟨h0,g0,d5,⟨c2,d4,e9⟩,e5⟩;subst e9;have b0:∀(K:Shared)(w:Hp),Inv (mQ X scope (xs++fr.map (·.1)) {s with heap:=l} (upd H s.heap.objs.size (.lst [])) k) ([]++dH k b2.heap) (c2++lK fr σ) w K->N w ->
     ∃m,m<n/\∃i,∃ys:St,∃H',ys.length=xs.length/\Inv (mQ X scope (xs++fr.map (·.1)) {s with heap:=l} (upd H s.heap.objs.size (.lst [])) k) [] (ys++lK fr σ) H' K/\O i K.heap/\(∀b∈k,H' b=none)/\a8 i m H':=by
    intro K w M a2;obtain⟨f2,g8,d8⟩:=f0 w a2;refine⟨f2,g8,i+1,c2,w,d4,M.unpinned,T.keep _ _ _ a0 λb j o e=>(M.pin (b,o) (yN _ (yN _ (bH j e)))).1,λb j=>?_,d8⟩;obtain⟨o,e,d⟩:=T.obj _ _ a0 b j;exact(M.pin (b,o) (yN _ (yN _ (bH j e)))).2.1
   have e8:=g1 _ _ _ (c4 _ _ _) _ g5 _ g0 _ d5 e5;have mono:∀{Q a4:Option Value->Shared->Prop}{E:VP}{t:Shared}{env:Env},(∀o S,Q o S->a4 o S)->dQ elt ifs env (model X.prog X.w) X.A Q E t->dQ elt ifs env (model X.prog X.w) X.A a4 E t:=by
    intro Q a4 E t env V G;unfold dQ at G ⊢
    match ifs,R,G with
    |[],_,G=>exact xS G (λx S q=>V _ _ q) λ_ _ e=>e
    |[c],_,G =>
     refine xS G (λb S q=>?_) λ_ _ e=>e;split at q
     ·rename_i j;rw[zJ j];exact xS q (λx g9 q=>V _ _ q) λ_ _ e=>e
     ·rename_i j;rw[zI j];exact V _ _ q
    |_:: _:: _,R,_=>exact absurd R (by simp)
   refine mono (?_) e8;rintro o c9 ⟨L,b8,b5,a5,b4⟩;cases o with
   |none =>
    cases L with
    |none=>exact b0 c9 b8 b5 b4
    |some z=>exact a5.elim
   | some e6 =>
    cases L with
    |none=>exact a5.elim
    |some L =>
     obtain⟨zs,e4,hl,d7⟩:=b4;exact thn (jY _ c9 _ b8 (.ref s.heap.objs.size) [L] (.ref s.heap.objs.size) [e6] (λ_ w=>N w) b5 rfl (.cons a5 .nil) ⟨_,zs,L,rfl,rfl,e4,hl,d7⟩) λ_ K⟨_,w,M,_,a2⟩=>b0 K w M a2
 exact codeAny_compStart_list c0 (T.self _ 0 _ _ _ c3 c0)
variable {wi:TI}
theorem kQ{G:Pos}(c:jN X sc scope xs fr)(y:X.calm=true)(hi:PI X tg iter wi)
  (F:∀(i:Shared)(j:Hp)(d:LA),(mQ X scope (xs++fr.map (·.1)) i j d).env.scope=jB sc scope->PG (mQ X scope (xs++fr.map (·.1)) i j d) tg g)
  (t:∀(i:Shared)(j:Hp)(d:LA),(mQ X scope (xs++fr.map (·.1)) i j d).env.scope=jB sc scope->POx (mQ X scope (xs++fr.map (·.1)) i j d) elt ifs tt)
  (D:ifs.length<=1:=by exact Nat.le_of_ble_eq_true rfl)(w:∀x,foldedSetIterable iter X.env x=pure x:=by intro _;rfl):PE X (.ListComp elt [⟨tg,iter,ifs,0⟩] scope G) (mE wi g tt xs.length fr):=by
 intro k s σ H Q I h;rw[eval_ListComp];refine wpAny_comprehension_free (use:=none) rfl w (Gj (c.cells I)) c.kind c.loc (thn (hi k s σ H _ I h) λv O z=>thn z λS P M=>?_);obtain⟨V,d,R,W,U,e,N,T,L,n,l⟩:=M;subst e;refine Hy (RR:=λacc C=>compPost (model X.prog X.w) X.A X.xe none (EP X k σ Q) acc C) c y D N T L n F t l ?_;intro a C H' u m r K f q;exact⟨m,r,λh' J=>⟨.ref a,H',K.turned (t':=u.toks) (λb o p e=>(J.2 b p).trans e) f.1 f.2.1 f.2.2.2.1 f.2.2.2.2.1 f.2.2.2.2.2,rfl,q⟩⟩
theorem gS{t u d:Pos}{y:Str}{i:Nat}(c:jN X sc scope xs fr)(U:X.calm=true)(z:X.N.Nodup)(V:X.N[i]?=some y)(hl:X.env.scope.names.lookup y=some .local)(hi:PI X tg iter wi)
  (Z:∀(l:Shared)(n:Hp)(j:LA),(mQ X scope (xs++fr.map (·.1)) l n j).env.scope=jB sc scope->PG (mQ X scope (xs++fr.map (·.1)) l n j) tg g)
  (R:∀(l:Shared)(n:Hp)(j:LA),(mQ X scope (xs++fr.map (·.1)) l n j).env.scope=jB sc scope->POx (mQ X scope (xs++fr.map (·.1)) l n j) elt ifs tt)
  (L:swapsWith (.ListComp elt [⟨tg,iter,ifs,0⟩] scope t) (some (.Name y d)) u.line X.env=pure true:=by rfl)
  (Y:ifs.length<=1:=by exact Nat.le_of_ble_eq_true rfl)(S:∀x,foldedSetIterable iter X.env x=pure x:=by intro _;rfl):PS X (.Assign [.Name y d] (.ListComp elt [⟨tg,iter,ifs,0⟩] scope t) u) (Gh i (mE wi g tt xs.length fr)):=by
 intro p s σ H D I h;rw[exec_Assign_Name_used _ _ _ _ L];refine zA (tJ (zA ?_));show wpAny _ _ (do let _ ←comprehension (.ListComp elt [⟨tg,iter,ifs,0⟩] scope t) scope X.env _ (newList []) false (eval iter X.env) (some (assign (.Name y d) X.env))) _ _ s;refine zA (xS (wpAny_comprehension_free (use:=some (assign (.Name y d) X.env)) (Q:=λ_ k=>SP X p D .next k) rfl S (Gj (c.cells I)) c.kind c.loc
  (thn (hi p s σ H _ I h) λv a5 W=>thn W λa8 a6 a3=>?_)) (λ_ k N=>zB (zB N)) λ_ _ e=>e)
 obtain⟨b0,j,a7,b1,a9,e,a4,T,a2,F,w⟩:=a3;subst e;refine Hy (RR:=λacc C=>compPost (model X.prog X.w) X.A X.xe (some (assign (.Name y d) X.env)) (λ_ k=>SP X p D .next k) acc C) (Q:=λv a1=>D.nx (σ.set i (some v)) a1) c U Y a4 T a2 F Z R w ?_;intro a C H' k m M K f q;show wpAny _ _ (assign (.Name y d) X.env (.ref a)) _ _ _;refine wpAny_assign_Name (Fu K z V (.inl hl) (show RelV (.ref a) (.ref a) from rfl) (λJ G⟨b,P,r⟩=>?_) (.inr hl));have O:C≠b:=by
  rcases r with e|e
  ·rw[e];exact f.2.1
  ·exact zW (f.2.2.2.2.1 y b e)
 refine⟨m,M.sameBut P O,λh' a0=>?_⟩;exact⟨_,H',G.turned (t':=J.toks) (λb o r e=>(a0.2 b r).trans e) f.1 f.2.1 f.2.2.2.1 f.2.2.2.2.1 f.2.2.2.2.2,q⟩
end
noncomputable def bV(sc:Scope)(N:List Str)(scope:Scope)(fr:List (Str×Nat)):Bool:=
 decide (scope.kind=.function) && decide ((scope.names.map (·.1)).Nodup) && decide (∀y∈scope.names,y.2=.free->sc.names.lookup y.1=some .cell\/sc.names.lookup y.1=some .free) &&
 decide (∀y∈scope.names,y.2=.local->scope.names.lookup y.1=some .local) && decide (∀p∈fr,N[p.2]?=some p.1/\scope.names.lookup p.1=some .free)
theorem lL{X:Cx}{sc a:Scope}{N xs:List Str}{fr:List (Str×Nat)}(e:X.env.scope=sc)(f:X.N=N)(h:bV sc N a fr=true):jN X sc a xs fr:=by
 unfold bV at h;simp only[Bool.and_eq_true,decide_eq_true_eq]at h;obtain⟨⟨⟨⟨e1,c⟩,d⟩,b⟩,g⟩:=h;subst f;exact⟨e,e1,c,d,b,g⟩
noncomputable def bW(sc:Scope)(N:List Str)(i:Nat)(x:Str):Bool:=decide (N.Nodup) && decide (N[i]?=some x) && (decide (sc.names.lookup x=some .local))
theorem kR{X:Cx}{sc:Scope}{N:List Str}{i:Nat}{x:Str}{b:Pos}(c:X.env.scope=sc)(a:X.N=N)(h:bW sc N i x=true):PG X (.Name x b) (oV i):=by
 unfold bW at h;simp only[Bool.and_eq_true,decide_eq_true_eq]at h;subst c a;exact nL h.1.1 h.1.2 (.inl h.2) (.inr h.2)
theorem jC{X:Cx}{sc:Scope}{N:List Str}{i:Nat}{x:Str}{b:Pos}(c:X.env.scope=sc)(a:X.N=N)(h:(decide (N.Nodup) && decide (N[i]?=some x) && (decide (sc.names.lookup x=some .cell)))=true)(d:X.fn x=true):PG X (.Name x b) (oV i):=by
 simp only[Bool.and_eq_true,decide_eq_true_eq]at h;subst c a;exact nL h.1.1 h.1.2 (.inr h.2) (.inl d)
def SqB(b:Bool)(K:Frag)(H:Hp)(a:Addr)(xs:List V):Prop:=match b with|false=>SqL K H a xs|true=>SqT K H a xs
def ItB(b:Bool)(h:Heap)(it a:Addr)(i:Nat):Prop:=match b with|false=>h.IsListIter it a i|true=>h.IsTupleIter it a i
def seqB(b:Bool)(h:Heap)(a:Addr)(its:Array Value):Prop:=match b with|false=>h.IsList a its|true=>h.IsTuple a its
noncomputable def nmB(b:Bool):String:=match b with|false => "list_iterator" |true => "tuple_iterator"
theorem ItB.at{b:Bool}{h h':Heap}{c a:Addr}{i:Nat}(x:ItB b h c a i)(e:∀o,h.get? c=some o->h'.get? c=some o):ItB b h' c a i:=by
 cases b
 ·exact Heap.IsListIter.at x e
 ·exact Heap.IsTupleIter.at x e
theorem seqB.at{b:Bool}{h h':Heap}{a:Addr}{its:Array Value}(x:seqB b h a its)(e:∀o,h.get? a=some o->h'.get? a=some o):seqB b h' a its:=by
 cases b
 ·exact Heap.IsList.at x e
 ·obtain⟨o,c,r⟩:=x;exact⟨o,e o c,r⟩
theorem ItB.lt{b:Bool}{h:Heap}{f a:Addr}{i:Nat}(x:ItB b h f a i):∃o,h.get? f=some o/\∀v,o.data≠.cell v:=by
 cases b
 ·obtain⟨o,e,c,d⟩:=x;exact⟨o,e,λv z=>by rw[d]at z;cases z⟩
 ·obtain⟨o,e,c,d⟩:=x;exact⟨o,e,λv z=>by rw[d]at z;cases z⟩
section
variable {prog:Program} {w:World} {A:Around} {E:VP} {s:Shared}
theorem Qv{b a:Addr}{i:Nat}{items}{x:Value}{Q:VP}(e:s.heap.IsTupleIter b a i)(m:s.heap.IsTuple a items)(j:items[i]?=some x)
  (l:∀h',h'.IsTupleIter b a (i+1)->Heap.SameBut b s.heap h'->Q x {s with heap:=h'}):wpAny (model prog w) A (Builtin.SmallTypes.nextOf (.ref b)) Q E s:=by
 obtain⟨o,d,f,c⟩:=id e;obtain⟨p,k,_,n,g⟩:=m;unfold Builtin.SmallTypes.nextOf;refine zA (xP (name:=Str.ofString "__next__") e.typeIs vR
  (xJ vR e.typeIs F.entry_tuple_iterator_next ?_ (F.args_tuple_iterator_next_1 _)))
 show wpAny _ _ (field (.ref b) 0 >>= _) _ _ s;refine zA (xZ d c (x:=.ref a) rfl ?_);show wpAny _ _ (if(Value.ref a == Value.none)=true then _ else _) _ _ s;rw[zI (show¬ ((Value.ref a == Value.none)=true) from yC)];show wpAny _ _ (field (.ref b) 1 >>= _) _ _ s;refine zA (xZ d c (x:=.int i 0) rfl ?_);show wpAny _ _ (seqItems? (.ref a) >>= _) _ _ s;refine zA (wM k g ?_);simp only[Int.toNat_natCast,j];refine zA (uU d c (by simp) (zB ⟨x,rfl,zB (l _ ?_ (wF ..))⟩));exact⟨_,vB _ d (rF (vL c _)),(qO ..).trans f,by
  rw[vL c];simp[rawInt]⟩
theorem Qu{b a:Addr}{i:Nat}{items}{Q:VP}(hh:A.handled=none)(f:s.heap.IsTupleIter b a i)(m:s.heap.IsTuple a items)(k:items[i]?=none)
  (j:∀h' e,Heap.ExtBut b s.heap h'->(∃o,h'.get? e=some o/\o.cls=.type "StopIteration")->E (.ref e) {s with heap:=h'}):wpAny (model prog w) A (Builtin.SmallTypes.nextOf (.ref b)) Q E s:=by
 obtain⟨o,c,n,d⟩:=id f;obtain⟨q,l,_,p,g⟩:=m;unfold Builtin.SmallTypes.nextOf;refine zA (xP (name:=Str.ofString "__next__") f.typeIs vR
  (xJ vR f.typeIs F.entry_tuple_iterator_next ?_ (F.args_tuple_iterator_next_1 _)))
 show wpAny _ _ (field (.ref b) 0 >>= _) _ _ s;refine zA (xZ c d (x:=.ref a) rfl ?_);show wpAny _ _ (if(Value.ref a == Value.none)=true then _ else _) _ _ s;rw[zI (show¬ ((Value.ref a == Value.none)=true) from yC)];show wpAny _ _ (field (.ref b) 1 >>= _) _ _ s;refine zA (xZ c d (x:=.int i 0) rfl ?_);show wpAny _ _ (seqItems? (.ref a) >>= _) _ _ s;refine zA (wM l g ?_);simp only[Int.toNat_natCast,k];refine zA (wX (zA (uU c d (by simp) ?_)));show wpAny _ _ (newExc (.type "StopIteration") [] >>= _) _ _ _;refine zA ?_;simp only[newExc,newTuple];refine zA (yX ?_ (by size_fits));refine zA (m:=firstArgMember _ _) (wpAny_of_eq (a:=Value.none) (by first|rfl|(simp only[firstArgMember];rfl)) ?_);refine yX ?_ (by size_fits);simp only[raiseNew];refine zA (pH ?_)
 first|rw[show A.in1.handled=none from hh]|rw[hh]
 refine zA (zB (wpAny_throw ?_));exact j _ _ (((wF ..).extBut.push _).push _) ⟨_,zQ _ rfl,rfl⟩
theorem bX{b:Bool}{a l:Addr}{i:Nat}{items:Array Value}{x:Value}{Q:VP}(c:ItB b s.heap a l i)(hl:seqB b s.heap l items)(e:items[i]?=some x)
  (d:∀h',ItB b h' a l (i+1)->Heap.SameBut a s.heap h'->Q x {s with heap:=h'}):wpAny (model prog w) A (Builtin.SmallTypes.nextOf (.ref a)) Q E s:=by
 cases b
 ·exact wpAny_nextOf_list_item c hl e d
 ·exact Qv c hl e d
theorem Bh{b:Bool}{a l:Addr}{i:Nat}{items:Array Value}{Q:VP}(hh:A.handled=none)(c:ItB b s.heap a l i)(hl:seqB b s.heap l items)(f:items[i]?=none)
  (d:∀h' e,Heap.ExtBut a s.heap h'->(∃o,h'.get? e=some o/\o.cls=.type "StopIteration")->E (.ref e) {s with heap:=h'}):wpAny (model prog w) A (Builtin.SmallTypes.nextOf (.ref a)) Q E s:=by
 cases b
 ·exact wpAny_nextOf_list_end hh c hl f d
 ·exact Qu hh c hl f d
theorem Hx{b:Bool}{l:Addr}{items:Array Value}{Q:VP}(hl:seqB b s.heap l items)
  (a:Q (.ref s.heap.objs.size) {s with heap:=s.heap.push {cls:=.type (nmB b),data:=.fields #[.ref l,.int 0 0]}}):wpAny (model prog w) A (pyIter (.ref l)) Q E s:=by
 cases b
 ·exact sH hl a
 ·exact uE hl a
theorem Hw{b:Bool}{h:Heap}{l:Addr}:ItB b (h.push {cls:=.type (nmB b),data:=.fields #[.ref l,.int 0 0]}) h.objs.size l 0:=by
 cases b
 ·exact⟨_,zQ _ rfl,rfl,rfl⟩
 ·exact⟨_,zQ _ rfl,rfl,rfl⟩
theorem Hv(b:Bool)(hh:A.handled=none)(a l:Addr)(f:l≠a)(items:Array Value):
  Draws prog w A a [a,l] items.size (λi v=>items[i]?=some v) (λi h=>ItB b h a l i/\seqB b h l items) where
 live:=λ_ _ st=>let ⟨o,k,_⟩:=st.1.lt;⟨o,k⟩
 frame:=λ_ _ _ st d=>⟨st.1.at λo e=>d a (by simp) o e,st.2.at λo e=>d l (by simp) o e⟩
 item:=λi s Q E hi st m=>by
  refine bX st.1 st.2 (x:=items[i]) (by simp[hi]) λh' g c=>?_;exact m _ h' s.toks (by simp[hi]) ⟨g,st.2.at λo e=>(c.2 l f).trans e⟩ c
 done:=λs Q E st j=>Bh hh st.1 st.2 (by simp) j
theorem Qt{b1 b2:Bool}{z TI TO g f l1 l2:Addr}{k1 k2:Nat}{xs ys:Array Value}{x y a b:Value}{Q:Option Value->Shared->Prop}(D:ZipApart z TI TO g f l1 l2)
  (k:IsZip s.heap z TI TO .none)(a5:IsPair s.heap TI (.ref g) (.ref f))(b4:IsPair s.heap TO a b)
  (b0:ItB b1 s.heap g l1 k1)(b5:ItB b2 s.heap f l2 k2)(X:seqB b1 s.heap l1 xs)(a8:seqB b2 s.heap l2 ys)(U:xs[k1]?=some x)(a9:ys[k2]?=some y)
  (a3:∀h',IsZip h' z TI TO (rawInt s.heap.objs.size)->IsPair h' TO x y->ItB b1 h' g l1 (k1+1)->ItB b2 h' f l2 (k2+1)->IsPair h' s.heap.objs.size x y->h'.objs.size=s.heap.objs.size+1 ->
   (∀c o,c≠z->c≠TO->c≠g->c≠f->s.heap.get? c=some o->h'.get? c=some o)->Q (some (.ref s.heap.objs.size)) {s with heap:=h'}):
  wpAny (model prog w) A (pyNext (.ref z)) Q E s:=by
 have T:s.TypeIs (.ref z) "zip" := ⟨_,k,rfl⟩;unfold pyNext;refine zA (vA (xP (name:=Str.ofString "__next__") T rS (xJ rS T F.entry_zip_next ?_ (F.args_zip_next_1 _))));show wpAny _ _ (field (.ref z) 2 >>= _) _ _ _;refine zA (xZ k rfl (x:=.bool false) rfl ?_);show wpAny _ _ (field (.ref z) 3 >>= _) _ _ _;refine zA (xZ k rfl (x:=.ref TI) rfl ?_);refine zA (wM a5 rfl ?_);show wpAny _ _ (Builtin.SmallTypes.ownedTupleIsFree (.ref z) >>= _) _ _ _;refine zA ?_;unfold Builtin.SmallTypes.ownedTupleIsFree;refine zA (xZ k rfl (x:=.none) rfl (zB ?_));simp only[if_true];refine zA (wX ?_);refine zA (xZ k rfl (x:=.ref TO) rfl ?_);refine zA (vM k (by simp) λa6 K i=>?_);replace K:IsZip a6 z TI TO .ellipsis:=K;refine zA ?_;simp only[List.zipIdx_cons,List.zipIdx_nil,List.forIn_cons,List.forIn_nil];refine zA (zA (qN ?_));show wpAny _ _ (Builtin.SmallTypes.nextOf (.ref g) >>= _) _ _ _;refine zA (bX (b0.at λo e=>i.extBut _ _ D.i1z e) (X.at λo e=>i.extBut _ _ D.l1z e) U λZ a0 l=>zB ?_);have N:IsPair Z TO a b:=l.extBut _ _ D.TOi1 (i.extBut _ _ D.TOz b4);refine zA (wM N rfl ?_);refine zA (rR N λV I m=>?_);replace I:IsPair V TO x b:=I;refine zA (wpAny_letGo (zB ?_));refine zA (zA (qN ?_));show wpAny _ _ (Builtin.SmallTypes.nextOf (.ref f) >>= _) _ _ _;refine zA (bX (b5.at λo e=>m.extBut _ _ D.TOi2.symm (l.extBut _ _ D.i12.symm (i.extBut _ _ D.i2z e)))
  (a8.at λo e=>m.extBut _ _ D.l2TO (l.extBut _ _ D.l2i1 (i.extBut _ _ D.l2z e))) a9 λa2 a4 q=>zB ?_)
 have M:IsPair a2 TO x b:=q.extBut _ _ D.TOi2 I;refine zA (wM M rfl ?_);refine zA (rR M λd r p=>?_);replace r:IsPair d TO x y:=r;refine zA (wpAny_letGo (zB (zB ?_)));refine zA (wM r rfl ?_);refine zA (wpAny_newTuple ?_);have hsz:d.objs.size=s.heap.objs.size:=by rw[p.1,q.1,m.1,l.1,i.1]
 have O:IsZip d z TI TO .ellipsis:=p.extBut _ _ D.TOz.symm (q.extBut _ _ D.i2z.symm (m.extBut _ _ D.TOz.symm (l.extBut _ _ D.i1z.symm K)));have a7:∀c o,c≠z->c≠TO->c≠g->c≠f->s.heap.get? c=some o->d.get? c=some o:=λc o j u J v e =>
  p.extBut _ _ u (q.extBut _ _ v (m.extBut _ _ u (l.extBut _ _ J (i.extBut _ _ j e))))
 have Y:ItB b1 d g l1 (k1+1):=a0.at λo e=>p.extBut _ _ D.TOi1.symm (q.extBut _ _ D.i12 (m.extBut _ _ D.TOi1.symm e));have W:ItB b2 d f l2 (k2+1):=a4.at λo e=>p.extBut _ _ D.TOi2.symm e;have P:z<d.objs.size:=zO O;show wpAny _ _ (Builtin.SmallTypes.ownedTupleHandOut (.ref z) (.ref d.objs.size) >>= _) _ _ _;refine zA ?_;unfold Builtin.SmallTypes.ownedTupleHandOut;have a1:IsZip (d.push {cls:=.type "tuple",data:=.seq #[x,y]}) z TI TO .ellipsis:=zD _ O;refine zA (vM a1 (by simp) λb3 L C=>?_);replace L:IsZip b3 z TI TO (rawInt d.objs.size):=L;refine vM L (by simp) λn t G=>?_;replace t:IsZip n z TI TO (rawInt d.objs.size):=t;have up:∀c o,c≠z->d.get? c=some o->n.get? c=some o:=λc o j e=>G.extBut _ _ j (C.extBut _ _ j (zD _ e));have S:IsPair n d.objs.size x y:=G.extBut _ _ (rV P) (C.extBut _ _ (rV P) (zQ _ rfl));have R:n.objs.size=d.objs.size+1:=by rw[G.1,C.1,wA]
 rw[hsz]at t S R;refine zB ⟨_,rfl,zB ?_⟩;show Q (some (.ref d.objs.size)) _;rw[hsz];exact a3 n t (up _ _ D.TOz r) (Y.at λo e=>up _ o D.i1z e) (W.at λo e=>up _ o D.i2z e) S R λc o j u J v e=>up c o j (a7 c o j u J v e)
theorem Qs{b1 b2:Bool}{z TI TO n k l1 l2:Addr}{k1 k2:Nat}{xs ys:Array Value}{a b:Value}{Q:Option Value->Shared->Prop}(hh:A.handled=none)(D:ZipApart z TI TO n k l1 l2)
  (j:IsZip s.heap z TI TO .none)(S:IsPair s.heap TI (.ref n) (.ref k))(Z:IsPair s.heap TO a b)
  (L:ItB b1 s.heap n l1 k1)(a0:ItB b2 s.heap k l2 k2)(C:seqB b1 s.heap l1 xs)(V:seqB b2 s.heap l2 ys)(X:xs[k1]?=none\/ys[k2]?=none)
  (J:∀h',(∀c o,c≠z->c≠TO->c≠n->c≠k->s.heap.get? c=some o->h'.get? c=some o)->Q none {s with heap:=h'}):wpAny (model prog w) A (pyNext (.ref z)) Q E s:=by
 have O:s.TypeIs (.ref z) "zip" := ⟨_,j,rfl⟩;unfold pyNext;refine zA (vA (xP (name:=Str.ofString "__next__") O rS (xJ rS O F.entry_zip_next (Q:=_) ?_ (F.args_zip_next_1 _))));show wpAny _ _ (field (.ref z) 2 >>= _) _ _ _;refine zA (xZ j rfl (x:=.bool false) rfl ?_);show wpAny _ _ (field (.ref z) 3 >>= _) _ _ _;refine zA (xZ j rfl (x:=.ref TI) rfl ?_);refine zA (wM S rfl ?_);show wpAny _ _ (Builtin.SmallTypes.ownedTupleIsFree (.ref z) >>= _) _ _ _;refine zA ?_;unfold Builtin.SmallTypes.ownedTupleIsFree;refine zA (xZ j rfl (x:=.none) rfl (zB ?_));simp only[if_true];refine zA (wX ?_);refine zA (xZ j rfl (x:=.ref TO) rfl ?_);refine zA (vM j (by simp) λT p d=>?_);replace p:IsZip T z TI TO .ellipsis:=p;refine zA ?_;simp only[List.zipIdx_cons,List.zipIdx_nil,List.forIn_cons,List.forIn_nil];refine zA (zA (qN ?_));show wpAny _ _ (Builtin.SmallTypes.nextOf (.ref n) >>= _) _ _ _;cases hx:xs[k1]? with
 |none =>
  refine zA (Bh hh (L.at λo e=>d.extBut _ _ D.i1z e) (C.at λo e=>d.extBut _ _ D.l1z e) hx λq e f u=>?_);obtain⟨r,g,l⟩:=u;have G:IsZip q z TI TO .ellipsis:=f _ _ D.i1z.symm p;have t:e≠z:=λx=>by subst x;rw[G]at g;cases g;simp at l
  refine vM G (by simp) λy _ i=>?_;refine zA (vI (T:= "StopIteration") (b:=true) ⟨r,i.extBut _ _ t g,l⟩ qC ?_);exact zB (J y λc o m _ v _ x=>i.extBut _ _ m (f _ _ v (d.extBut _ _ m x)))
 | some x =>
  have W:ys[k2]?=none:=by rcases X with h|h;rw[hx]at h;cases h;exact h
  refine zA (bX (L.at λo e=>d.extBut _ _ D.i1z e) (C.at λo e=>d.extBut _ _ D.l1z e) hx λq a1 f=>zB ?_);have I:IsPair q TO a b:=f.extBut _ _ D.TOi1 (d.extBut _ _ D.TOz Z);refine zA (wM I rfl ?_);refine zA (rR I λy a2 i=>?_);refine zA (wpAny_letGo (zB ?_));refine zA (zA (qN ?_));show wpAny _ _ (Builtin.SmallTypes.nextOf (.ref k) >>= _) _ _ _;refine zA (Bh hh (a0.at λo e=>i.extBut _ _ D.TOi2.symm (f.extBut _ _ D.i12.symm (d.extBut _ _ D.i2z e)))
   (V.at λo e=>i.extBut _ _ D.l2TO (f.extBut _ _ D.l2i1 (d.extBut _ _ D.l2z e))) W λR e M u=>?_)
  obtain⟨r,g,l⟩:=u;have N:IsZip R z TI TO .ellipsis:=M _ _ D.i2z.symm (i.extBut _ _ D.TOz.symm (f.extBut _ _ D.i1z.symm p));have t:e≠z:=λx=>by subst x;rw[N]at g;cases g;simp at l
  refine vM N (by simp) λU _ K=>?_;refine zA (vI (T:= "StopIteration") (b:=true) ⟨r,K.extBut _ _ t g,l⟩ qC ?_);exact zB (J U λc o m Y v P x=>K.extBut _ _ m (M _ _ P (i.extBut _ _ Y (f.extBut _ _ v (d.extBut _ _ m x)))))
end
abbrev zB1(b1:Bool)(h:Heap)(l1:Addr):Heap:=h.push {cls:=.type (nmB b1),data:=.fields #[.ref l1,.int 0 0]}
abbrev zB2(b1 b2:Bool)(h:Heap)(l1 l2:Addr):Heap:=(zB1 b1 h l1).push {cls:=.type (nmB b2),data:=.fields #[.ref l2,.int 0 0]}
abbrev zB3(b1 b2:Bool)(h:Heap)(l1 l2:Addr):Heap:=(zB2 b1 b2 h l1 l2).push {cls:=.type "tuple",data:=.seq #[.ref h.objs.size,.ref (zB1 b1 h l1).objs.size]}
abbrev zB4(b1 b2:Bool)(h:Heap)(l1 l2:Addr):Heap:=(zB3 b1 b2 h l1 l2).push {cls:=.type "tuple",data:=.seq #[.none,.none]}
abbrev zB5(b1 b2:Bool)(h:Heap)(l1 l2:Addr):Heap:=(zB4 b1 b2 h l1 l2).push {cls:=.type "zip",data:=.fields #[.none,.bool false,.bool false,.ref (zB2 b1 b2 h l1 l2).objs.size,.ref (zB3 b1 b2 h l1 l2).objs.size]}
theorem Qr(b1 b2:Bool)(l1 l2:Addr)(xs ys:Array Value):
  Meets (Builtin.«zip.__new__» ⟨[.type "zip",.ref l1,.ref l2],[]⟩) (λ_ R s=>seqB b1 s.heap l1 xs/\seqB b2 s.heap l2 ys /\
   R (.ok (.ret (.ref (zB4 b1 b2 s.heap l1 l2).objs.size))) {s with heap:=zB5 b1 b2 s.heap l1 l2}):=
 .of_wp λprog w A R s h=>by
  obtain⟨a,g,d,tk,b⟩:=s;obtain⟨f,i,h⟩:=h;have k:=sub_zip;have c:seqB b1 (Shared.heap ⟨a,g,d,tk,b⟩) l1 xs:=f;have j:seqB b2 (Shared.heap ⟨a.push {cls:=.type (nmB b1),data:=.fields #[.ref l1,.int 0 0]},g,d,tk,b⟩) l2 ys:=i.at λo e=>zD _ e
  wp_walk using Hx c,Hx j
  exact⟨_,rfl,h⟩
theorem Qq{prog:Program}{w:World}{A:Around}{E:VP}{s:Shared}{b1 b2:Bool}{l1 l2:Addr}{xs ys:Array Value}{Q:VP}(m:seqB b1 s.heap l1 xs)(p:seqB b2 s.heap l2 ys)
  (h:∀h',IsZip h' (s.heap.objs.size+4) (s.heap.objs.size+2) (s.heap.objs.size+3) .none->IsPair h' (s.heap.objs.size+2) (.ref s.heap.objs.size) (.ref (s.heap.objs.size+1)) ->
   IsPair h' (s.heap.objs.size+3) .none .none->ItB b1 h' s.heap.objs.size l1 0->ItB b2 h' (s.heap.objs.size+1) l2 0 ->
   (∀c o,s.heap.get? c=some o->h'.get? c=some o)->Q (.ref (s.heap.objs.size+4)) {s with heap:=h'}):
  wpAny (model prog w) A (call (.type "zip") [.ref l1,.ref l2]) Q E s:=by
 refine callType_new F.called_zip ∅ (F.typeCall_zip_2 _ _) (F.newCall_zip_2 _ _) (λq=>F.args_object_init_3 q _ _) F.entry_zip_new
  (Qr b1 b2 l1 l2 xs ys) ⟨m,p,?_⟩
 have d:(zB1 b1 s.heap l1).objs.size=s.heap.objs.size+1:=wA ..;have a:(zB2 b1 b2 s.heap l1 l2).objs.size=s.heap.objs.size+2:=by rw[wA,d]
 have g:(zB3 b1 b2 s.heap l1 l2).objs.size=s.heap.objs.size+3:=by rw[wA,a]
 have l:(zB4 b1 b2 s.heap l1 l2).objs.size=s.heap.objs.size+4:=by rw[wA,g]
 have f:(zB5 b1 b2 s.heap l1 l2).get? (zB4 b1 b2 s.heap l1 l2).objs.size=some _:=zQ _ rfl;have j:(zB5 b1 b2 s.heap l1 l2).get? (zB3 b1 b2 s.heap l1 l2).objs.size=some _:=zD _ (zQ _ rfl);have k:(zB5 b1 b2 s.heap l1 l2).get? (zB2 b1 b2 s.heap l1 l2).objs.size=some _:=zD _ (zD _ (zQ _ rfl));have b:∀c o,(zB2 b1 b2 s.heap l1 l2).get? c=some o->(zB5 b1 b2 s.heap l1 l2).get? c=some o:=λc o e=>zD _ (zD _ (zD _ e));have i:ItB b2 (zB5 b1 b2 s.heap l1 l2) (zB1 b1 s.heap l1).objs.size l2 0:=Hw.at λo e=>b _ o e;have n:ItB b1 (zB5 b1 b2 s.heap l1 l2) s.heap.objs.size l1 0:=Hw.at λo e=>b _ o (zD _ e);show _/\_;rw[a,g,l]at f;rw[d,a]at k;rw[g]at j;rw[d]at i;rw[l];exact⟨⟨_,f,rfl⟩,h _ f k j n i λc o x=>b c o (zD _ (zD _ x))⟩
section
variable {X:Cx} {pins:PN} {σ:St} {H:Hp} {s:Shared} {h':Heap}
theorem Inv.seqB{b:Bool}{a:Addr}{xs:List V}(I:Inv X pins σ H s)(h:SqB b X.K H a xs):∃its:LW,Vals xs its/\L2.seqB b s.heap a its.toArray:=by
 cases b
 ·obtain⟨its,c,p,_⟩:=I.list h;exact⟨its,c,p.isList⟩
 ·obtain⟨its,c,p,_⟩:=I.tuple h;exact⟨its,c,p⟩
theorem Inv.seqB_inj{b:Bool}{a:Addr}{xs ys:List V}(I:Inv X pins σ H s)(h:SqB b X.K H a xs)(c:SqB b X.K H a ys):xs=ys:=by
 cases b
 ·exact I.list_inj h c
 ·exact I.tuple_inj h c
theorem Inv.seq_ne{b:Bool}{a f:Addr}{xs:List V}(I:Inv X pins σ H s)(h:SqB b X.K H a xs)(d:FpOk X pins H f):a≠f:=by
 have g:∀u,Rd H a u->a≠f:=λu r z=>by
  subst z;rcases r with r|⟨o,r⟩ <;> (rw[d.1]at r;cases r)
 have i:∀o,X.K.lookup a=some o->a≠f:=λo e z=>by
  subst z;have q:=I.mod.kin a o e;rcases d.2.2.2.1 with w|w
  ·exact I.ok.noex _ _ q w
  ·exact absurd (zF (zO q) (yA I.ok.bsz w)) (xH _)
 cases b
 ·rcases h with h|⟨o,its,n,c,_⟩
  ·exact g _ h
  ·exact i _ c
 ·rcases h with h|⟨o,its,n,c,_⟩
  ·exact g _ h
  ·exact i _ c
theorem Inv.turnedNew{d:LA}{n:Addr}{u:HO}{t':Nat}(I:Inv X pins σ H s)(i:∀b∈d,FpOk X pins H b)(k:∀b o,b∉d->s.heap.get? b=some o->h'.get? b=some o)(l:s.heap.objs.size<=n)
  (new:mK X.prog X.w (upd H n u) h' n u):Inv X pins σ (upd H n u) {s with heap:=h',toks:=t'}:=by
 have f:=I.hok.fresh l;have j:∀b v,H b=some v->b∉d:=λb v e z=>by rw[(i b z).1]at e;cases e
 have w:X.env.locals∉d:=λz=>(i _ z).2.1 rfl;refine I.step (g':=s.gens) (d':=s.drawn) (ch:=d) (λb g=>?_) (λb o _ _ a e _=>k b o a e) (λb o _ _ a e _=>⟨o.slots,k b o a e⟩) (λb o _ e z=>?_)
  (λb o a e=>⟨o,k b o a e⟩) (λb xs e=>?_) (λb o v e=>?_) (λb ps e=>⟨#[],?_⟩) (λm p=>?_) (λb v e=>?_) I.bare
 ·obtain⟨J,C,G,D,y,F⟩:=i b g;exact⟨D,C,y,F⟩
 ·rw[oU (yD (zF (zO e) l))];exact z
 ·rw[oU (mI e f)];exact e
 ·rw[oU (mI e f)];exact e
 ·rw[oU (mI e f),e];simp
 ·obtain⟨o,es,ep,t,r⟩:=p;exact⟨o,es,ep,k _ o w t,r⟩
 ·by_cases g:b=n
  ·subst g;rw[oQ]at e;cases e;exact new
  ·rw[oU g]at e;refine(I.hok b v e).stay (λc x a q=>k c x ?_ q) (λc q=>by rw[oU (mI q f)];exact q) λc xs q=>by rw[oU (mI q f)];exact q
   rcases a with z|z
   ·rw[z];exact j b v e
   ·exact j c _ z
theorem Inv.turnedL{d:LA}{t':Nat}(I:Inv X pins σ H s)(f:∀b∈d,FpOk X pins H b)(k:∀b o,b∉d->s.heap.get? b=some o->h'.get? b=some o):Inv X pins σ H {s with heap:=h',toks:=t'}:=by
 have g:∀b v,H b=some v->b∉d:=λb v e z=>by rw[(f b z).1]at e;cases e
 have l:X.env.locals∉d:=λz=>(f _ z).2.1 rfl;refine I.step (g':=s.gens) (d':=s.drawn) (ch:=d) (λb n=>?_) (λb o _ _ a e _=>k b o a e) (λb o _ _ a e _=>⟨o.slots,k b o a e⟩) (λb o _ e z=>z)
  (λb o a e=>⟨o,k b o a e⟩) (λb xs e=>e) (λb o v e=>e) (λb ps e=>⟨#[],by rw[e];simp⟩) (λm i=>?_) (λb v e=>?_) I.bare
 ·obtain⟨C,t,y,u,p,w⟩:=f b n;exact⟨u,t,p,w⟩
 ·obtain⟨o,es,ep,j,r⟩:=i;exact⟨o,es,ep,k _ o l j,r⟩
 ·refine(I.hok b v e).stay (λc x a q=>k c x ?_ q) (λc q=>q) λc xs q=>q;rcases a with z|z
  ·rw[z];exact g b v e
  ·exact g c _ z
end
def Itz(K:Frag)(b1:Bool)(l1:Addr)(b2:Bool)(l2:Addr):It:=
  ⟨λi H=>∃xs ys x y,SqB b1 K H l1 xs/\SqB b2 K H l2 ys/\xs[i]?=some x/\ys[i]?=some y,
   λi H v H'=>∃p x y,v=.ref p/\H p=none/\H'=upd H p (.tup [x,y])/\(∀xs,SqB b1 K H l1 xs->xs[i]?=some x)/\∀ys,SqB b2 K H l2 ys->ys[i]?=some y,
   λi H=>∃xs ys,SqB b1 K H l1 xs/\SqB b2 K H l2 ys/\(xs[i]?=none\/ys[i]?=none)⟩
theorem Hu{xs:List V}{its:LW}{i:Nat}(r:Vals xs its):xs[i]?=none->its.toArray[i]?=none:=λh=>by
 have:=r.none_of h;simpa using this
theorem Qp{P:Program}{w:World}{K:Frag}{es:List Expr}{k:Nat}{d7:Pos}{b1 b2:Bool}{z TI TO g d l1 l2:Addr}(S:[z,TI,TO,g,d].Nodup):
  Turn P w K (.Tuple es k d7) (Itz K b1 l1 b2 l2) [z,TI,TO,g,d] z (λi h=>IsZip h z TI TO .none/\IsPair h TI (.ref g) (.ref d)/\(∃a b,IsPair h TO a b)/\ItB b1 h g l1 i/\ItB b2 h d l2 i) where
 mem:=by simp
 obj:=λi h⟨p,m,⟨a,b,u⟩,r,C⟩c M=>by
  simp only[List.mem_cons,List.not_mem_nil,or_false]at M;rcases M with e|e|e|e|e <;> subst e
  ·exact⟨_,p,λv q=>by have N:Data.fields _=Data.cell v:=q;cases N⟩
  ·exact⟨_,m,λv q=>by have N:Data.seq _ _=Data.cell v:=q;cases N⟩
  ·exact⟨_,u,λv q=>by have N:Data.seq _ _=Data.cell v:=q;cases N⟩
  ·exact r.lt
  ·exact C.lt
 keep:=λi h h'⟨p,m,⟨a,b,u⟩,r,C⟩O=>⟨O z (by simp) _ p,O TI (by simp) _ m,⟨a,b,O TO (by simp) _ u⟩,r.at λo e=>O g (by simp) o e,C.at λo e=>O d (by simp) o e⟩
 item:=by
  intro X W U a9 M i b9 s σ H E I t st a5;subst W U a9;obtain⟨p,m,⟨a,b,u⟩,r,C⟩:=st;obtain⟨xs,ys,x,y,G,L,e1,c0⟩:=a5;obtain⟨c8,a2,b8⟩:=I.seqB G;obtain⟨c9,a3,Z⟩:=I.seqB L;obtain⟨c3,d5,c6⟩:=a2.get e1;obtain⟨c2,d8,d0⟩:=a3.get c0;have j:∀f∈[z,TI,TO,g,d],l1≠f:=λf F=>I.seq_ne G (t f F);have n:∀f∈[z,TI,TO,g,d],l2≠f:=λf F=>I.seq_ne L (t f F);simp only[List.nodup_cons,List.mem_cons,List.not_mem_nil,or_false,not_or,List.nodup_nil,and_true,not_false_eq_true]at S;obtain⟨⟨a7,b6,b4,b3⟩,⟨b7,a8,a4⟩,⟨Y,b0⟩,a6⟩:=S;have D:ZipApart z TI TO g d l1 l2:=⟨zW a7,zW b6,zW b4,zW b3,b7,a8,a4,Y,b0,a6,j z (by simp),j TO (by simp),j g (by simp),j d (by simp),n z (by simp),n TO (by simp),n g (by simp),n d (by simp)⟩;refine Qt D p m u r C b8 Z (x:=c3) (y:=c2) (by simpa using d5) (by simpa using d8) λh' d1 c4 d9 d4 c5 e0 R=>⟨_,rfl,?_⟩;refine wpAny_letOwnedTupleGo_zip d1 λa1 d3 J=>?_;have up:∀c o,c∉[z,TI,TO,g,d]->s.heap.get? c=some o->a1.get? c=some o:=λc o l e=>by
   simp only[List.mem_cons,List.not_mem_nil,or_false,not_or]at l;obtain⟨T,d6,b5,a0,V⟩:=l;exact J.extBut _ _ T (R c o T b5 a0 V e)
  have c1:s.heap.objs.size≠z:=rV (zO p);have new:mK X.prog X.w (upd H s.heap.objs.size (.tup [x,y])) a1 s.heap.objs.size (.tup [x,y]):=
   ⟨by show 2<=sizeLine;decide,[c3,c2],.cons c6 (.cons d0 .nil),⟨_,J.extBut _ _ c1 c5,rfl,_,rfl⟩⟩
  have c7:Inv X b9 σ (upd H s.heap.objs.size (.tup [x,y])) {s with heap:=a1}:=I.turnedNew (t':=s.toks) t up (zE _) new;refine⟨.ref s.heap.objs.size,_,c7,rfl,⟨_,x,y,rfl,I.fresh,rfl,λe3 q=>by rw[I.seqB_inj q G];exact e1,λe2 q=>by rw[I.seqB_inj q L];exact c0⟩,⟨d3,J.extBut _ _ D.TIz (R _ _ D.TIz D.TITO D.TIi1 D.TIi2 m),⟨_,_,J.extBut _ _ D.TOz c4⟩,d9.at λo e=>J.extBut _ _ D.i1z e,d4.at λo e=>J.extBut _ _ D.i2z e⟩,λc l=>?_⟩;have d2:=(t c l).1;rw[oU]
  ·exact d2
  ·intro e;subst e;simp only[List.mem_cons,List.not_mem_nil,or_false]at l;rcases l with e|e|e|e|e
   ·exact c1 e
   ·exact absurd (zO m) (by rw[←e];exact xH _)
   ·exact absurd (zO u) (by rw[←e];exact xH _)
   ·obtain⟨o,q,_⟩:=r.lt;exact absurd (zO q) (by rw[←e];exact xH _)
   ·obtain⟨o,q,_⟩:=C.lt;exact absurd (zO q) (by rw[←e];exact xH _)
 done:=by
  intro X W U a9 M i b9 s σ H E I t st a5;subst W U a9;obtain⟨p,m,⟨a,b,u⟩,r,C⟩:=st;obtain⟨xs,ys,G,L,e1⟩:=a5;obtain⟨c8,a2,b8⟩:=I.seqB G;obtain⟨c9,a3,Z⟩:=I.seqB L;have j:∀f∈[z,TI,TO,g,d],l1≠f:=λf F=>I.seq_ne G (t f F);have n:∀f∈[z,TI,TO,g,d],l2≠f:=λf F=>I.seq_ne L (t f F);simp only[List.nodup_cons,List.mem_cons,List.not_mem_nil,or_false,not_or,List.nodup_nil,and_true,not_false_eq_true]at S;obtain⟨⟨a7,b6,b4,b3⟩,⟨b7,a8,a4⟩,⟨Y,b0⟩,a6⟩:=S;have D:ZipApart z TI TO g d l1 l2:=⟨zW a7,zW b6,zW b4,zW b3,b7,a8,a4,Y,b0,a6,j z (by simp),j TO (by simp),j g (by simp),j d (by simp),n z (by simp),n TO (by simp),n g (by simp),n d (by simp)⟩;refine Qs (I.ok.hd M) D p m u r C b8 Z (e1.imp (Hu a2) (Hu a3)) λh' R=>⟨rfl,I.turnedL (t':=s.toks) t λc o l e=>?_⟩;simp only[List.mem_cons,List.not_mem_nil,or_false,not_or]at l;obtain⟨T,d6,b5,a0,V⟩:=l;exact R c o T b5 a0 V e
 self:=λ_ _ _ _ _ st h=>wpAny_pyIter_zip st.1 h
section
variable {X:Cx}
def iZip(K:Frag)(ta:TA):TI:=λσ H R=>ta σ H λvs H1=>∃b1 b2 l1 l2,vs=[.ref l1,.ref l2]/\(∃xs,SqB b1 K H1 l1 xs)/\(∃ys,SqB b2 K H1 l2 ys)/\R (Itz K b1 l1 b2 l2) H1
theorem Bg{a b:Expr}{ta:TA}{es:List Expr}{k:Nat}{G p t:Pos}(K:Gl X "zip")(L:X.mg "zip"=none)(C:PA X [a,b] ta)(z:bootBuiltins "zip"=some (.type "zip"):=by decide +kernel)
  (D:starEach [a,b] X.env=[(false,eval a X.env),(false,eval b X.env)]:=by rfl)(o:starEach [b] X.env=[(false,eval b X.env)]:=by rfl):
  PI X (.Tuple es k G) (.Call (.Name "zip" p) [a,b] [] t) (iZip X.K ta):=by
 intro w s σ H R I h;refine Call_ (gO I K L z (wR (thn (C t w s σ H _ I h) ?_) (by rw[D,o]) (by rw[o];rfl)));rintro us d ⟨vs,M,f,F,i⟩;obtain⟨b1,b2,l1,l2,e,⟨xs,i⟩,⟨ys,N⟩,q⟩:=i;subst e;cases F with
 | cons r g =>
  cases g with
  | cons O g =>
   cases g;cases r;cases O;obtain⟨U,T,S⟩:=f.seqB i;obtain⟨V,v2,x⟩:=f.seqB N;refine Qq S x λh' m u P J v y=>?_;refine wpAny_pyIter_zip m ?_;have lt:∀j,j<=4->d.heap.objs.size<=d.heap.objs.size+j:=λj _=>qW _ _;refine⟨d.heap.objs.size+4,[d.heap.objs.size+4,d.heap.objs.size+2,d.heap.objs.size+3,d.heap.objs.size,d.heap.objs.size+1],_,_,M,rfl,f.kept (t':=d.toks) y,Qp (b1:=b1) (b2:=b2) (l1:=l1) (l2:=l2) ?_,⟨m,u,⟨_,_,P⟩,J,v⟩,λc n=>?_,q⟩
   ·simp
   ·have l:d.heap.objs.size<=c:=by
     simp only[List.mem_cons,List.not_mem_nil,or_false]at n;rcases n with e|e|e|e|e <;> subst e <;> first|exact zE _|exact qW _ _
    exact f.fpOk l (f.hok.fresh l)
end
open AutoSeq1 (wpAny_loadPart')
set_option maxRecDepth 100000 in
theorem Qo(l:Addr)(items:Array Value)(n:Nat)(i:Option Addr)(e:Array (Option Value)):
  Meets (Builtin.«enumerate.__new__» ⟨[.type "enumerate",.ref l],[]⟩) (λ_ R s=>s.heap.get? l=some {cls:=.type "tuple",dict:=i,data:=.seq items n,slots:=e} /\
   R (.ok (.ret (.ref (s.heap.push {cls:=.type "tuple_iterator",data:=.fields #[.ref l,.int 0 0]}).objs.size)))
    {s with heap:=(s.heap.push {cls:=.type "tuple_iterator",data:=.fields #[.ref l,.int 0 0]}).push {cls:=.type "enumerate",data:=.fields #[.none,.bool false,.ref s.heap.objs.size,rawInt 0,.none,.none]}}):=
 .of_wp λprog w A R s h=>by
  obtain⟨b,g,d,tk,f⟩:=s;obtain⟨hl,h⟩:=h;have j:=sub_enumerate;have a:Heap.IsTuple (Shared.heap ⟨b,g,d,tk,f⟩) l items:=⟨_,hl,rfl,n,rfl⟩
  wp_walk using uF hl
  refine wpAny_stack_any λst=>zB ?_;split
  ·rename_i c _ _ _ _ _;cases(c == Value.type "enumerate")
   ·wp_walk using uF hl,uE a
    exact⟨_,rfl,h⟩
   ·wp_walk using uF hl,uE a
    exact⟨_,rfl,h⟩
  ·wp_walk using uF hl,uE a
   exact⟨_,rfl,h⟩
theorem Qn{prog:Program}{w:World}{A:Around}{E:VP}{s:Shared}{b:Bool}{l:Addr}{items:Array Value}{Q:VP}(f:seqB b s.heap l items)
  (h:∀h',IsEnum h' (s.heap.objs.size+1) s.heap.objs.size 0 .none->ItB b h' s.heap.objs.size l 0 ->
   (∀b o,s.heap.get? b=some o->h'.get? b=some o)->Q (.ref (s.heap.objs.size+1)) {s with heap:=h'}):
  wpAny (model prog w) A (call (.type "enumerate") [.ref l]) Q E s:=by
 cases b
 ·exact call_enumerate_list f λh' q i r m=>h h' q i m
 ·obtain⟨⟨c,p,dt,k⟩,hl,a,n,d⟩:=f;replace a:c=.type "tuple" := a;replace d:dt=.seq items n:=d;subst a d;refine callType_new F.called_enumerate ∅ (F.typeCall_enumerate_1 _) (F.newCall_enumerate_1 _) (λj=>F.args_object_init_2 j _) F.entry_enumerate_new
   (Qo l items n p k) ⟨hl,?_⟩
  have g:(s.heap.push {cls:=.type "tuple_iterator",data:=.fields #[.ref l,.int 0 0]}).objs.size=s.heap.objs.size+1:=wA ..;show _/\_;rw[g];have e:IsEnum ((s.heap.push {cls:=.type "tuple_iterator",data:=.fields #[.ref l,.int 0 0]}).push
    {cls:=.type "enumerate",data:=.fields #[.none,.bool false,.ref s.heap.objs.size,rawInt 0,.none,.none]}) (s.heap.objs.size+1) s.heap.objs.size 0 .none:=by
   have:=zQ (s.heap.push {cls:=.type "tuple_iterator",data:=.fields #[.ref l,.int 0 0]})
    (o:={cls:=.type "enumerate",data:=.fields #[.none,.bool false,.ref s.heap.objs.size,rawInt 0,.none,.none]}) rfl
   rw[g]at this;exact this
  refine⟨⟨_,e,rfl⟩,h _ e ⟨_,zD _ (zQ _ rfl),rfl,rfl⟩ λb o x=>zD _ (zD _ x)⟩
def Ite(K:Frag)(b:Bool)(l:Addr):It:=
  ⟨λi H=>∃xs x,SqB b K H l xs/\xs[i]?=some x,
   λi H v H'=>∃p x,v=.ref p/\H p=none/\H'=upd H p (.tup [.int i,x])/\∀xs,SqB b K H l xs->xs[i]?=some x,
   λi H=>∃xs,SqB b K H l xs/\xs.length=i⟩
theorem Qm{P:Program}{w:World}{K:Frag}{es:List Expr}{k:Nat}{a8:Pos}{b:Bool}{e a l:Addr}(N:e≠a):
  Turn P w K (.Tuple es k a8) (Ite K b l) [e,a] e (λi h=>(∃old,IsEnum h e a i old)/\ItB b h a l i) where
 mem:=by simp
 obj:=λi h⟨⟨old,g⟩,j⟩c r=>by
  simp only[List.mem_cons,List.not_mem_nil,or_false]at r;rcases r with e|e <;> subst e
  ·exact⟨_,g,λv q=>by have a7:Data.fields _=Data.cell v:=q;cases a7⟩
  ·exact j.lt
 keep:=λi h h'⟨⟨old,g⟩,j⟩V=>⟨⟨old,V e (by simp) _ g⟩,j.at λo q=>V a (by simp) o q⟩
 item:=by
  intro X n C M r i R s σ H E I t st J;subst n C M;obtain⟨⟨old,g⟩,j⟩:=st;obtain⟨xs,x,m,e1⟩:=J;obtain⟨p,G,O⟩:=I.seqB m;obtain⟨S,T,a0⟩:=G.get e1;have y:∀f∈[e,a],l≠f:=λf D=>I.seq_ne m (t f D);have a2:i<p.toArray.size:=by
   have:=(oB.mp T).1;simpa using this
  refine wpAny_pyNext_enum_itemD (Hv b (show X.A.in1.handled=none from I.ok.hd r) a l (y a (by simp)) p.toArray) g ⟨j,O⟩ a2 N (λq=>?_) λu h' tk n a4 W a9 b2 Y=>⟨_,rfl,?_⟩
  ·simp only[List.mem_cons,List.not_mem_nil,or_false]at q;rcases q with q|q
   ·exact N q
   ·exact y e (by simp) q.symm
  have Z:u=S:=by
   have:p.toArray[i]?=some S:=by simpa using T
   rw[this]at n;exact(zU n).symm
  subst Z;refine wpAny_letOwnedTupleGo_enum a4 λF a6 L=>?_;have U:s.heap.objs.size≠e:=rV (zO g);have up:∀c o,c∉[e,a]->s.heap.get? c=some o->F.get? c=some o:=λc o d q=>by
   simp only[List.mem_cons,List.not_mem_nil,or_false,not_or]at d;exact L.extBut _ _ d.1 (Y c o d.1 d.2 q)
  have new:mK X.prog X.w (upd H s.heap.objs.size (.tup [.int i,x])) F s.heap.objs.size (.tup [.int i,x]):=
   ⟨by show 2<=sizeLine;decide,[.int i tk,u],.cons ⟨tk,rfl⟩ (.cons a0 .nil),⟨_,L.extBut _ _ U a9,rfl,_,rfl⟩⟩
  have b0:Inv X R σ (upd H s.heap.objs.size (.tup [.int i,x])) {s with heap:=F,toks:=tk+1}:=I.turnedNew (t':=tk+1) t up (zE _) new;refine⟨.ref s.heap.objs.size,_,b0,rfl,⟨_,x,rfl,I.fresh,rfl,λb1 q=>by rw[I.seqB_inj q m];exact e1⟩,⟨⟨u,by simpa using a6⟩,W.1.at λo q=>L.extBut _ _ (zW N) q⟩,λc d=>?_⟩;have a5:=(t c d).1;rw[oU]
  ·exact a5
  ·intro z;subst z;simp only[List.mem_cons,List.not_mem_nil,or_false]at d;rcases d with z|z
   ·exact U z
   ·obtain⟨o,q,_⟩:=j.lt;exact absurd (zO q) (by rw[←z];exact xH _)
 done:=by
  intro X n C M r i R s σ H E I t st J;subst n C M;obtain⟨⟨old,g⟩,j⟩:=st;obtain⟨xs,m,e1⟩:=J;obtain⟨p,G,O⟩:=I.seqB m;have y:∀f∈[e,a],l≠f:=λf D=>I.seq_ne m (t f D);have a3:p.toArray.size=i:=by rw[zX,←G.length,e1]
  refine wpAny_pyNext_enum_endD (Hv b (show X.A.in1.handled=none from I.ok.hd r) a l (y a (by simp)) p.toArray) g ⟨by rw[a3];exact j,O⟩ λh' a1=>⟨rfl,I.turnedL (t':=s.toks) t λc o d q=>?_⟩;simp only[List.mem_cons,List.not_mem_nil,or_false,not_or]at d;exact a1 c o d.2 q
 self:=λ_ _ _ _ _ st h=>let ⟨⟨_,q⟩,_⟩:=st;wpAny_pyIter_enum q h
section
variable {X:Cx}
def iN(K:Frag)(ta:TA):TI:=λσ H R=>ta σ H λvs H1=>∃b l,vs=[.ref l]/\(∃xs,SqB b K H1 l xs)/\R (Ite K b l) H1
theorem hZ{a:Expr}{ta:TA}{es:List Expr}{k:Nat}{C p n:Pos}(D:Gl X "enumerate")(F:X.mg "enumerate"=none)(x:PA X [a] ta)(w:bootBuiltins "enumerate"=some (.type "enumerate"):=by decide +kernel)
  (y:starEach [a] X.env=[(false,eval a X.env)]:=by rfl):
  PI X (.Tuple es k C) (.Call (.Name "enumerate" p) [a] [] n) (iN X.K ta):=by
 intro u s σ H R I h;refine Call_ (gO I D F w (wR (thn (x n u s σ H _ I h) ?_) y rfl));rintro us d ⟨vs,G,f,z,g⟩;obtain⟨b,l,e,⟨xs,g⟩,q⟩:=g;subst e;cases z with
 | cons r t =>
  cases t;cases r;obtain⟨L,K,J⟩:=f.seqB g;refine Qn J λh' j o v=>?_;refine wpAny_pyIter_enum j ?_;refine⟨d.heap.objs.size+1,[d.heap.objs.size+1,d.heap.objs.size],_,_,G,rfl,f.kept (t':=d.toks) v,Qm (b:=b) (l:=l) (by simp),⟨⟨_,j⟩,o⟩,λc m=>?_,q⟩;have i:d.heap.objs.size<=c:=by
   simp only[List.mem_cons,List.not_mem_nil,or_false]at m;rcases m with e|e <;> subst e <;> first|exact zE _|exact qW _ _
  exact f.fpOk i (f.hok.fresh i)
theorem Ht:∀{ns:LI'}{its:LW},Vals (ns.map V.int) its->∃xs:List (Int×Tok),its=xs.map (λp=>Value.int p.1 p.2)/\xs.map (·.1)=ns
 |[],_,.nil=>⟨[],rfl,rfl⟩
 |n:: r,_,.cons ⟨b,h⟩ q=>by
  obtain⟨xs,e1,a⟩:=Ht (ns:=r) q;exact⟨(n,b):: xs,by rw[h,e1];rfl,by rw[zK,a]⟩
theorem Bf(a:X.calm=true):kI X (.builtin "sum") (λxs H Q=>∃(p:Addr)(ns:LI'),xs=[.ref p]/\SqL X.K H p (ns.map V.int)/\Q (.int ns.sum) H):=by
 intro g s σ H xs us Q I r h;obtain⟨p,ns,rfl,e,q⟩:=h;obtain⟨u,rfl,f⟩:=jV r;cases f;obtain⟨its,c,pl,i⟩:=I.list e;obtain⟨ps,e1,b⟩:=Ht c;have hl:s.heap.IsList p (intItems ps.toArray):=by
  have:=pl.isList;rw[e1]at this;simpa [intItems]using this
 refine sum_intListG (I.ok.hd a) hl λh' tk t' d=>⟨.int ns.sum,H,I.kept (t':=tk) d,⟨t',?_⟩,q⟩;rw[preSum_eq,wV (by simp)];simp[b]
end
theorem SqB.or{b:Bool}{K:Frag}{H:Hp}{a:Addr}{xs:List V}(h:SqB b K H a xs):SqL K H a xs\/SqT K H a xs:=by
 cases b
 ·exact .inl h
 ·exact .inr h
theorem SqB.up{b:Bool}{K:Frag}{H H':Hp}{a:Addr}{xs:List V}(h:SqB b K H a xs)(s:Same H H'):SqB b K H' a xs:=by
 cases b
 ·exact s.seq h
 ·exact s.tup h
theorem SqB.lst{K:Frag}{H:Hp}{a:Addr}{xs:List V}(h:H a=some (.lst xs)):SqB false K H a xs:=SqL.of h
theorem SqB.tup{K:Frag}{H:Hp}{a:Addr}{xs:List V}(h:H a=some (.tup xs)):SqB true K H a xs:=SqT.of h
def Its(K:Frag)(b:Bool)(a:Addr):It:=match b with|false=>Itl K a|true=>Itt K a
theorem Its.go{K:Frag}{b:Bool}{a:Addr}{xs:List V}{x:V}{i:Nat}{H:Hp}(h:SqB b K H a xs)(e:xs[i]?=some x):(Its K b a).go i H:=by
 cases b
 ·exact⟨xs,x,h,e⟩
 ·exact⟨xs,x,h,e⟩
theorem Its.stop{K:Frag}{b:Bool}{a:Addr}{xs:List V}{i:Nat}{H:Hp}(h:SqB b K H a xs)(e:xs.length<=i):(Its K b a).stop i H:=by
 cases b
 ·exact⟨xs,h,e⟩
 ·exact⟨xs,h,e⟩
theorem Its.yld{K:Frag}{b:Bool}{a:Addr}{xs:List V}{i:Nat}{H H':Hp}{x:V}(h:SqB b K H a xs)(y:(Its K b a).yld i H x H'):H'=H/\xs[i]?=some x:=by
 cases b
 ·exact⟨y.1,y.2 xs h⟩
 ·exact⟨y.1,y.2 xs h⟩
section
variable {X:Cx}
def iSeq(K:Frag)(tl:TE):TI:=λσ H R=>tl σ H λx H1=>∃b a,x=.ref a/\(∃xs,SqB b K H1 a xs)/\R (Its K b a) H1
theorem nE{t l:Expr}{j:TE}(hl:PE X l j):PI X t l (iSeq X.K j):=by
 intro r s σ H R I h;refine thn (hl r s σ H _ I h) ?_;rintro v c ⟨x,g,d,k,n⟩;obtain⟨b,a,e,⟨xs,i⟩,q⟩:=n;subst e;cases k;cases b
 ·obtain⟨its,m,p,u⟩:=d.list i;refine sH p.isList ?_;refine⟨c.heap.objs.size,[c.heap.objs.size],_,_,g,rfl,d.kept (t':=c.toks) λb o e=>zD _ e,Nk a _,⟨_,zQ _ rfl,rfl,rfl⟩,λb f=>?_,q⟩;have e:b=c.heap.objs.size:=by simpa using f
  subst e;exact d.fpOk (zE _) (d.hok.fresh (zE _))
 ·obtain⟨its,m,p,u⟩:=d.tuple i;refine uE (show c.heap.IsTuple a its.toArray from p) ?_;refine⟨c.heap.objs.size,[c.heap.objs.size],_,_,g,rfl,d.kept (t':=c.toks) λb o e=>zD _ e,Nj a _,⟨_,zQ _ rfl,rfl,rfl⟩,λb f=>?_,q⟩;have e:b=c.heap.objs.size:=by simpa using f
  subst e;exact d.fpOk (zE _) (d.hok.fresh (zE _))
def rIxB(K:Frag):R2:=λx y H Q=>E5 λ(b:Bool)(p:Addr)(xs:List V)(i:Int)(v:V)=>A5 (x=.ref p) (y=.int i) (SqB b K H p xs) (atI xs i=some v) (Q v H)
theorem ix_B:IxR X (rIxB X.K):=by
 intro l a e s σ H x y v u Q I k f h;obtain⟨b,p,xs,i,c,e1,d,g,j,q⟩:=h;cases b
 ·exact Oc l a e s σ H x y v u Q I k f ⟨p,xs,i,c,e1,d,g,j,q⟩
 ·exact Ob l a e s σ H x y v u Q I k f ⟨p,xs,i,c,e1,d,g,j,q⟩
def jD(K:Frag):List V->Hp->VK->Prop:=λxs H Q=>E3 λ(b:Bool)(p:Addr)(ys:List V)=>A3 (xs=[.ref p]) (SqB b K H p ys) (Q (.int ys.length) H)
theorem Ql:kI X (.builtin "len") (jD X.K):=by
 intro c s σ H xs us Q I r h;obtain⟨b,p,ys,e,a,q⟩:=h;exact Pu c s σ H xs us Q I r ⟨p,ys,e,a.or,q⟩
def dR(K:Frag):List V->Hp->VK->Prop:=λxs H Q=>∃b p ys,xs=[.ref p]/\SqB b K H p ys/\∀l,H l=none->Q (.ref l) (upd H l (.lst ys))
theorem gC:kI X (.type "list") (dR X.K):=by
 intro c s σ H xs us Q I r h;obtain⟨b,p,ys,e,a,q⟩:=h;exact Pt c s σ H xs us Q I r ⟨p,ys,e,a.or,q⟩
def gT(K:Frag):List V->Hp->VK->Prop:=λxs H Q=>∃p ys,xs=[.ref p]/\((SqL K H p ys/\∀l,H l=none->Q (.ref l) (upd H l (.tup ys)))\/(SqT K H p ys/\Q (.ref p) H))
theorem kJ:kI X (.type "tuple") (gT X.K):=Ps
end
theorem Qk{K:Frag}{b:Bool}{a:Addr}{xs:List V}{g:TG}{tb:TS}{D:Ends}{σ:St}{H:Hp}(c:Nat->St->Hp->Prop)(k:c 0 σ H)(hl:∀i σ H,i<=xs.length->c i σ H->SqB b K H a xs)
  (n:∀i x σ H,xs[i]?=some x->c i σ H->g x σ H λf d=>tb {D with nx:=c (i+1),ct:=c (i+1),bk:=D.nx} f d)(j:∀σ H,c xs.length σ H->D.nx σ H):
  ∃e:Nat->Nat->St->Hp->Prop,(∃m,e 0 m σ H)/\∀i m σ H,e i m σ H ->
   ((Its K b a).stop i H/\D.nx σ H)\/((Its K b a).go i H/\∃N:St->Hp->Prop,(∀l H',N l H'->∃o,o<m/\e (i+1) o l H')/\∀x H',(Its K b a).yld i H x H'->g x σ H' λf d=>tb {D with nx:=N,ct:=N,bk:=D.nx} f d):=by
 cases b
 ·exact Nf c k hl n j
 ·exact Nd c k hl n j
theorem Qj{K:Frag}{b:Bool}{a:Addr}{xs:List V}{g:TG}{tb:TS}{D:Ends}{σ:St}{H:Hp}(c:Nat->St->Hp->Prop)(w:c 0 σ H)(hl:∀i σ H,i<=xs.length->c i σ H->SqB b K H a xs)
  (u:∀i x p σ H,xs[i]?=some x->c i σ H->H p=none->g (.ref p) σ (upd H p (.tup [.int i,x])) λj d=>tb {D with nx:=c (i+1),ct:=c (i+1),bk:=D.nx} j d)(o:∀σ H,c xs.length σ H->D.nx σ H):
  ∃f:Nat->Nat->St->Hp->Prop,(∃m,f 0 m σ H)/\∀i m σ H,f i m σ H ->
   ((Ite K b a).stop i H/\D.nx σ H)\/((Ite K b a).go i H/\∃N:St->Hp->Prop,(∀k H',N k H'->∃n,n<m/\f (i+1) n k H')/\∀x H',(Ite K b a).yld i H x H'->g x σ H' λj d=>tb {D with nx:=N,ct:=N,bk:=D.nx} j d):=by
 refine⟨λi m σ H=>m=xs.length-i/\i<=xs.length/\c i σ H,⟨xs.length,by simp,yV _,w⟩,?_⟩;rintro i m σ H ⟨rfl,hi,p⟩;have q:=hl i σ H hi p
 by_cases l:i<xs.length
 ·refine .inr ⟨⟨xs,xs[i],q,by simp[l]⟩,c (i+1),λk H' v=>⟨xs.length-(i+1),⋯,rfl,l,v⟩,λx H' y=>?_⟩;obtain⟨r,x,rfl,hr,rfl,t⟩:=y;exact u i x r σ H (t xs q) p hr
 ·have e:i=xs.length:=⋯
  subst e;exact .inl ⟨⟨xs,q,rfl⟩,o σ H p⟩
def kS(a:Addr)(H H':Hp):Prop:=∀b o,b≠a->H b=some o->H' b=some o
theorem Same.x{a:Addr}{H H':Hp}(s:Same H H'):kS a H H':=λb o _ e=>s b o e
section
variable {J:It} {g:TG} {tt:TOx} {te:TE} {n:Nat} {fr:List (Str×Nat)} {σ:St} {a:Addr} {H:Hp} {Q:VK} {K:Frag}
theorem bY(len:Nat)(P:Nat->List V->Hp->Prop)(u:H a=none)(R:len<=1000)(N:P 0 [] (upd H a (.lst [])))
  (hl:∀i zs c,P i zs c->zs.length<=i)(mono:∀i zs c d,P i zs c->kS a c d->P i zs d)
  (G:∀i c,i<len->Same H c->J.go i c)(z:∀c,Same H c->J.stop len c)
  (F:∀i c zs,i<len->Same H c->c a=some (.lst zs)->P i zs c->∀(ys:St) x r,ys.length=n->J.yld i c x r->∀C:Option V->Hp->Prop,
   (∀y d,Same c d->P (i+1) (zs++[y]) d->C (some y) d)->(∀d,Same c d->P (i+1) zs d->C none d) ->
   g x (ys++lK fr σ) r λw M=>(∃v:St,v.length=n/\w=v++lK fr σ)/\tt w M C)
  (O:∀c ys,Same H c->c a=some (.lst ys)->P len ys c->Q (.ref a) c):kA J g tt n fr σ a H Q:=by
 refine⟨λi m c=>m=len-i/\i<=len/\Same H c/\∃zs,c a=some (.lst zs)/\P i zs c,⟨len,by simp,Nat.zero_le _,Same.new u,[],oQ,N⟩,?_⟩;rintro i m c ⟨rfl,hi,f,zs,l,p⟩
 by_cases k:i<len
 ·refine .inr ⟨G i c k f,λH'=>i+1<=len/\Same H H'/\∃zs,H' a=some (.lst zs)/\P (i+1) zs H',λH' q=>⟨len-(i+1),⋯,rfl,q⟩,λys x r I L=>?_⟩;refine F i c zs k f l p ys x r I L _ (λy d j t=>?_) λd j t=>?_
  ·refine⟨zs,j _ _ l,dN (by have:=hl i zs c p;omega),k,Same.over u (f.trans j),_,oQ,mono _ _ _ _ t λb o D e=>?_⟩;rw[oU D];exact e
  ·exact⟨k,f.trans j,zs,j _ _ l,t⟩
 ·have e:i=len:=⋯
  subst e;exact .inl ⟨z c f,O c zs f l p⟩
theorem bZ(len:Nat)(R:Nat->V->Hp->Prop)(D:H a=none)(t:len<=1000)(mono:∀i y b c,R i y b->kS a b c->R i y c)
  (v:∀i b,i<len->Same H b->J.go i b)(o:∀b,Same H b->J.stop len b)
  (u:∀i b zs,i<len->Same H b->b a=some (.lst zs)->∀(ys:St) x d,ys.length=n->J.yld i b x d->∀m:VK,(∀y c,Same b c->R i y c->m y c) ->
   g x (ys++lK fr σ) d λl M=>(∃k:St,k.length=n/\l=k++lK fr σ)/\te l M m)
  (O:∀b ys,Same H b->b a=some (.lst ys)->ys.length=len->(∀j y,ys[j]?=some y->R j y b)->Q (.ref a) b):kA J g (tEl te) n fr σ a H Q:=by
 refine bY len (λi zs b=>zs.length=i/\∀j y,zs[j]?=some y->R j y b) D t ⟨rfl,λj y e=>by simp at e⟩ (λi zs b p=>rL p.1) (λi zs b c p s=>⟨p.1,λj y e=>mono _ _ _ _ (p.2 j y e) s⟩) v o ?_ λb ys s e p=>O b ys s e p.1 p.2;intro i b zs hi q G p ys x d w I C F _;refine u i b zs hi q G ys x d w I _ λy c f r=>F y c f ⟨by simp[p.1],λj z e=>?_⟩
 by_cases P:j<zs.length
 ·rw[yI P]at e;exact mono _ _ _ _ (p.2 j z e) f.x
 ·rw[zZ ⋯]at e;have L:j-zs.length=0:=by
   by_cases N:j-zs.length=0
   ·exact N
   ·rw[wG (by simp;omega)]at e;cases e
  rw[L]at e;cases zU e;have:j=i:=by have:=p.1;omega
  rw[this];exact r
theorem nQ{b:Bool}{l:Addr}{xs:List V}(R:Nat->V->Hp->Prop)(z:H a=none)(f:SqB b K H l xs)(C:xs.length<=1000)(mono:∀i y c d,R i y c->kS a c d->R i y d)
  (m:∀i x c zs,xs[i]?=some x->Same H c->c a=some (.lst zs)->∀e:VK,(∀y d,Same c d->R i y d->e y d)->te (some x:: lK fr σ) c e)
  (w:∀c ys,Same H c->c a=some (.lst ys)->ys.length=xs.length->(∀j y,ys[j]?=some y->R j y c)->Q (.ref a) c):kA (Its K b l) (oV 0) (tEl te) 1 fr σ a H Q:=by
 refine bZ xs.length R z C mono (λi c hi s=>Its.go (f.up s) (x:=xs[i]) (by simp[hi])) (λc s=>Its.stop (f.up s) (zE _)) ?_ w;intro i c zs hi k t ys x u p v e r;obtain⟨e1,q⟩:=Its.yld (f.up k) v;subst e1
 match ys,p with
 |[o],_=>exact⟨⟨[some x],rfl,rfl⟩,m i x u zs q k t e r⟩
theorem lG{lo:Int}{len:Nat}(R:Nat->V->Hp->Prop)(u:H a=none)(v:len<=1000)(mono:∀i y b c,R i y b->kS a b c->R i y c)
  (e:∀(i:Nat) b zs,i<len->Same H b->b a=some (.lst zs)->∀d:VK,(∀y c,Same b c->R i y c->d y c)->te (some (.int (lo+i)):: lK fr σ) b d)
  (t:∀b ys,Same H b->b a=some (.lst ys)->ys.length=len->(∀j y,ys[j]?=some y->R j y b)->Q (.ref a) b):kA (Itr lo len) (oV 0) (tEl te) 1 fr σ a H Q:=by
 refine bZ len R u v mono (λi b hi s=>hi) (λb s=>zE _) ?_ t;intro i b zs hi l p ys x q k r d m;obtain⟨e1,f⟩:=r;subst e1 f
 match ys,k with
 |[o],_=>exact⟨⟨[_],rfl,rfl⟩,e i q zs hi l p d m⟩
theorem Be{b1 b2:Bool}{l1 l2:Addr}{xs ys:List V}(R:Nat->V->Hp->Prop)(z:H a=none)(l:SqB b1 K H l1 xs)(k:SqB b2 K H l2 ys)(M:xs.length=ys.length)(u:xs.length<=1000)(mono:∀i y b c,R i y b->kS a b c->R i y c)
  (v:∀i x y b zs,xs[i]?=some x->ys[i]?=some y->Same H b->b a=some (.lst zs)->∀d:VK,(∀y c,Same b c->R i y c->d y c)->te (some x:: some y:: lK fr σ) b d)
  (G:∀b zs,Same H b->b a=some (.lst zs)->zs.length=xs.length->(∀j y,zs[j]?=some y->R j y b)->Q (.ref a) b):
  kA (Itz K b1 l1 b2 l2) (gTup K 2 (nR (oV 0) (nR (oV 1) gNil))) (tEl te) 2 fr σ a H Q:=by
 refine bZ xs.length R z u mono (λi b hi s=>⟨xs,ys,xs[i],ys[i],l.up s,k.up s,by simp[hi],by simp⟩) (λb s=>⟨xs,ys,l.up s,k.up s,.inl (by simp)⟩) ?_ G;intro i b zs hi f D F x L w m d C;obtain⟨p,x,y,rfl,e,rfl,q,m⟩:=m;refine⟨p,[x,y],rfl,SqT.of oQ,rfl,x,[y],rfl,y,[],rfl,rfl,?_⟩
 match F,w with
 |[o,I],_ =>
  refine⟨⟨[some x,some y],rfl,rfl⟩,v i x y _ zs (q xs (l.up f)) (m ys (k.up f)) (f.trans (Same.new e)) (Same.new e _ _ D) d λy c t r=>C y c ((Same.new e).trans t) r⟩
theorem Qi{b:Bool}{l:Addr}{xs:List V}(R:Nat->V->Hp->Prop)(z:H a=none)(k:SqB b K H l xs)(u:xs.length<=1000)(mono:∀i y c d,R i y c->kS a c d->R i y d)
  (v:∀i x c zs,xs[i]?=some x->Same H c->c a=some (.lst zs)->∀e:VK,(∀y d,Same c d->R i y d->e y d)->te (some (.int i):: some x:: lK fr σ) c e)
  (I:∀c zs,Same H c->c a=some (.lst zs)->zs.length=xs.length->(∀j y,zs[j]?=some y->R j y c)->Q (.ref a) c):
  kA (Ite K b l) (gTup K 2 (nR (oV 0) (nR (oV 1) gNil))) (tEl te) 2 fr σ a H Q:=by
 refine bZ xs.length R z u mono (λi c hi s=>⟨xs,xs[i],k.up s,by simp[hi]⟩) (λc s=>⟨xs,k.up s,rfl⟩) ?_ I;intro i c zs hi m D F x M w G e C;obtain⟨p,x,rfl,f,rfl,q⟩:=G;refine⟨p,[.int i,x],rfl,SqT.of oQ,rfl,_,[x],rfl,x,[],rfl,rfl,?_⟩
 match F,w with
 |[o,L],_ =>
  refine⟨⟨[some (.int i),some x],rfl,rfl⟩,v i x _ zs (q xs (k.up m)) (m.trans (Same.new f)) (Same.new f _ _ D) e λy d t r=>C y d ((Same.new f).trans t) r⟩
end
def MatB(b1 b2:Bool)(K:Frag)(H:Hp)(a:Addr)(rows:List (LI')):Prop:=∃ps:LA,SqB b1 K H a (ps.map V.ref)/\ps.length=rows.length/\∀(i:Nat)(p:Addr)(r:LI'),ps[i]?=some p->rows[i]?=some r->SqB b2 K H p (r.map V.int)
theorem MatB.up{b1 b2:Bool}{K:Frag}{H H':Hp}{a:Addr}{b:List (LI')}(h:MatB b1 b2 K H a b)(s:Same H H'):MatB b1 b2 K H' a b:=let ⟨ps,e,f,d⟩:=h;⟨ps,e.up s,f,λi p r e1 c=>(d i p r e1 c).up s⟩
def RowR(a:Addr)(f:Nat->LI')(j:Nat)(y:V)(H:Hp):Prop:=∃p,y=.ref p/\p≠a/\H p=some (.lst ((f j).map V.int))
theorem RowR.mono{a:Addr}{f:Nat->LI'}(i:Nat)(y:V)(c b:Hp)(h:RowR a f i y c)(s:kS a c b):RowR a f i y b:=let ⟨p,e,n,q⟩:=h;⟨p,e,n,s _ _ n q⟩
noncomputable def iT:Nat->PyData->Bool
 |_,.int _=>true
 |n+1,.list xs=>xs.all (iT n)
 |n+1,.tuple xs=>xs.all (iT n)
 |_,_=>false
theorem jZ:∀(n:Nat)(d:PyData),iT n d=true->d.canLay0=true/\d.depth<=n
 |0,.int _,_=>by simp[PyData.canLay0,PyData.depth]
 |n+1,.int _,_=>by simp[PyData.canLay0,PyData.depth]
 | n+1,.list xs,h=>by
  have all:∀ys:List PyData,ys.all (iT n)=true->PyData.canLayAll0 ys=true/\PyData.depthAll ys<=n:=by
   intro ys
   induction ys with
   |nil=>intro _;simp[PyData.canLayAll0,PyData.depthAll]
   |cons y r c =>
    intro a;rw[xG,zT]at a;have e:=jZ n y a.1;have b:=c a.2;simp only[PyData.canLayAll0,PyData.depthAll,Bool.and_eq_true];exact⟨⟨e.1,b.1⟩,⋯⟩
  have:=all xs (by simpa [iT]using h);simp only[PyData.canLay0,PyData.depth];exact⟨this.1,⋯⟩
 | n+1,.tuple xs,h=>by
  have all:∀ys:List PyData,ys.all (iT n)=true->PyData.canLayAll0 ys=true/\PyData.depthAll ys<=n:=by
   intro ys
   induction ys with
   |nil=>intro _;simp[PyData.canLayAll0,PyData.depthAll]
   |cons y r c =>
    intro a;rw[xG,zT]at a;have e:=jZ n y a.1;have b:=c a.2;simp only[PyData.canLayAll0,PyData.depthAll,Bool.and_eq_true];exact⟨⟨e.1,b.1⟩,⋯⟩
  have:=all xs (by simpa [iT]using h);simp only[PyData.canLay0,PyData.depth];exact⟨this.1,⋯⟩
theorem aA:∀(n:Nat)(d d':PyData),iT n d=true->iT n d'=true->SeqAt.noMix d d'=true:=by
 intro n
 induction n with
 |zero=>intro d d' h h';cases d <;> simp[iT]at h <;> cases d' <;> simp[iT]at h' <;> simp[SeqAt.noMix]
 | succ n e =>
  have all:∀ys zs:List PyData,ys.all (iT n)=true->zs.all (iT n)=true->SeqAt.noMixAll ys zs=true:=by
   intro ys
   induction ys with
   |nil=>intro zs _ _;cases zs <;> simp[SeqAt.noMixAll]
   | cons y r f =>
    intro zs a b;cases zs with
    |nil=>simp[SeqAt.noMixAll]
    |cons z c =>
     rw[xG,zT]at a b;simp only[SeqAt.noMixAll,Bool.and_eq_true];exact⟨e y z a.1 b.1,f c a.2 b.2⟩
  intro d d' h h';cases d <;> simp only[iT,Bool.false_eq_true]at h <;> cases d' <;> simp only[iT,Bool.false_eq_true]at h' <;> simp only[SeqAt.noMix]
  ·exact all _ _ h h'
  ·exact all _ _ h h'
theorem aB:∀(n:Nat)(d d':PyData),iT n d=true->iT n d'=true->(same d d'=true↔d=d'):=by
 intro n
 induction n with
 |zero=>intro d d' h h';cases d <;> simp[iT]at h <;> cases d' <;> simp[iT]at h' <;> simp[same]
 | succ n e =>
  have all:∀ys zs:List PyData,ys.all (iT n)=true->zs.all (iT n)=true->(sameAll ys zs=true↔ys=zs):=by
   intro ys
   induction ys with
   |nil=>intro zs _ _;cases zs <;> simp[sameAll]
   | cons y r f =>
    intro zs a b;cases zs with
    |nil=>simp[sameAll]
    |cons z c =>
     rw[xG,zT]at a b;simp only[sameAll,Bool.and_eq_true,List.cons.injEq];rw[e y z a.1 b.1,f c a.2 b.2]
  intro d d' h h';cases d <;> simp only[iT,Bool.false_eq_true]at h <;> cases d' <;> simp only[iT,Bool.false_eq_true]at h' <;> simp only[same,beq_iff_eq,PyData.int.injEq,PyData.list.injEq,PyData.tuple.injEq,reduceCtorEq,Bool.false_eq_true]
  ·exact all _ _ h h'
  ·exact all _ _ h h'
theorem aC{n:Nat}{d:PyData}(a:n<=64)(h:iT n d=true):SeqAt.shaped d=true:=by
 have:=jZ n d h;unfold SeqAt.shaped;rw[zT];exact⟨this.1,zL ⋯⟩
section
variable {K:Frag} {H:Hp} {x y:V} {d d':PyData} {Q:VK}
theorem Hs(n:Nat)(f:n<=64)(g:Dt K H x d)(i:Dt K H y d')(a:iT n d=true)(c:iT n d'=true){b:Bool}(j:b=true↔d=d')(q:Q (.bl b) H):rEqD K x y H Q:=by
 refine⟨d,d',g,i,aC f a,aC f c,aA n d d' a c,?_⟩;have:=aB n d d' a c;have e:same d d'=b:=by
  cases hs:same d d' <;> cases b <;> simp_all
 rw[e];exact q
theorem aD(n:Nat)(f:n<=64)(g:Dt K H x d)(i:Dt K H y d')(a:iT n d=true)(c:iT n d'=true){b:Bool}(j:b=true↔d=d')(q:Q (.bl (!b)) H):rNeD K x y H Q:=by
 refine⟨d,d',g,i,aC f a,aC f c,aA n d d' a c,?_⟩;have:=aB n d d' a c;have e:same d d'=b:=by
  cases hs:same d d' <;> cases b <;> simp_all
 rw[e];exact q
end
noncomputable def seqD(b:Bool)(ds:List PyData):PyData:=match b with|false=>.list ds|true=>.tuple ds
def kU(b:Bool)(ns:LI'):PyData:=seqD b (ns.map PyData.int)
def matD(b1 b2:Bool)(rows:List (LI')):PyData:=seqD b1 (rows.map (kU b2))
theorem Hr{b:Bool}{xs ys:List PyData}:seqD b xs=seqD b ys↔xs=ys:=by cases b <;> simp[seqD]
theorem Bd{a c:Type}{f:a->c}(b:∀x y,f x=f y->x=y):∀{xs ys:List a},xs.map f=ys.map f↔xs=ys
 |[],[]=>by simp
 |[],_:: _=>by simp
 |_:: _,[]=>by simp
 |x:: r,y:: d=>by
  rw[zK,zK,yO,yO,Bd b];exact⟨λh=>⟨b _ _ h.1,h.2⟩,λh=>⟨by rw[h.1],h.2⟩⟩
theorem Bc{b:Bool}{ns ms:LI'}:kU b ns=kU b ms↔ns=ms:=by
 unfold kU;rw[Hr,Bd λx y h=>by injection h]
theorem Qh{b1 b2:Bool}{A B:List (LI')}:matD b1 b2 A=matD b1 b2 B↔A=B:=by
 unfold matD;rw[Hr,Bd λx y h=>Bc.mp h]
theorem Bb(b:Bool)(n:Nat)(ns:LI'):iT (n+1) (kU b ns)=true:=by
 have:(ns.map PyData.int).all (iT n)=true:=by
  rw[wI];intro d a;obtain⟨i,_,rfl⟩:=pZ.mp a;cases n <;> rfl
 cases b <;> simpa [kU,seqD,iT]using this
theorem Dt.seqB{b:Bool}{K:Frag}{H:Hp}{a:Addr}{xs:List V}{ds:List PyData}(h:SqB b K H a xs)(c:Dts K H xs ds):Dt K H (.ref a) (seqD b ds):=by
 cases b
 ·exact .lst h c
 ·exact .tup h c
theorem Dt.intsB{b:Bool}{K:Frag}{H:Hp}{a:Addr}{ns:LI'}(h:SqB b K H a (ns.map V.int)):Dt K H (.ref a) (kU b ns):=Dt.seqB h (Dts.ints ns)
theorem Dt.matB{b1 b2:Bool}{K:Frag}{H:Hp}{a:Addr}{b:List (LI')}(h:MatB b1 b2 K H a b):Dt K H (.ref a) (matD b1 b2 b):=by
 obtain⟨ps,e,c,d⟩:=h;refine Dt.seqB e ?_;clear e
 induction ps generalizing b with
 |nil =>
  cases b with
  |nil=>exact .nil
  |cons r g=>simp at c
 | cons p ps j =>
  cases b with
  |nil=>simp at c
  |cons r g =>
   refine .cons (Dt.intsB (d 0 p r rfl rfl)) (j (by simpa using c) λi q z e1 f=>d (i+1) q z (by simpa using e1) (by simpa using f))
section
variable {wi:TI} {g:TG} {tt:TOx} {te:TE} {tc:TT} {n:Nat} {fr:List (Str×Nat)} {σ:St} {H:Hp} {Q:VK}
theorem nC(h:∀B:TE,B=te->wi σ H λc b=>∀a,b a=none->kA c g (tEl B) n fr σ a b Q):mE wi g (tEl te) n fr σ H Q:=h _ rfl
theorem Hq(h:∀(C:TT)(B:TE),C=tc->B=te->wi σ H λc b=>∀a,b a=none->kA c g (iM C B) n fr σ a b Q):mE wi g (iM tc te) n fr σ H Q:=h _ _ rfl rfl
end
noncomputable def seqO(b:Bool)(xs:List V):HO:=match b with|false=>.lst xs|true=>.tup xs
def rSlB(K:Frag):V->Option Int->Option Int->Hp->VK->Prop:=λx lo hi H Q=>∃b a xs,x=.ref a/\SqB b K H a xs /\
 (b=true->¬ (HT.sIx xs.length 0 lo=0/\HT.sIx xs.length xs.length hi=xs.length))/\∀p,H p=none->Q (.ref p) (upd H p (seqO b (cutV xs lo hi)))
theorem sl_B{X:Cx}:SlR X (rSlB X.K):=by
 intro i s σ H x v g c lo hi f Q I k l pl d h;obtain⟨b,a,xs,e,j,m,q⟩:=h;cases b
 ·exact Px i s σ H x v g c lo hi f Q I k l pl d ⟨a,xs,e,j,q⟩
 ·exact Of i s σ H x v g c lo hi f Q I k l pl d ⟨a,xs,e,j,m rfl,q⟩
def MatL(H:Hp)(a:Addr)(rows:List (LI')):Prop:=∃ps:LA,H a=some (.lst (ps.map V.ref))/\ps.length=rows.length/\∀(i:Nat)(p:Addr)(r:LI'),ps[i]?=some p->rows[i]?=some r->p≠a/\H p=some (.lst (r.map V.int))
theorem MatL.b{K:Frag}{H:Hp}{a:Addr}{b:List (LI')}(h:MatL H a b):MatB false false K H a b:=let ⟨ps,e,f,d⟩:=h;⟨ps,SqB.lst e,f,λi p r e1 c=>SqB.lst (d i p r e1 c).2⟩
theorem MatL.up{H H':Hp}{a:Addr}{b:List (LI')}(h:MatL H a b)(s:Same H H'):MatL H' a b:=let ⟨ps,e,f,d⟩:=h;⟨ps,s _ _ e,f,λi p r e1 c=>⟨(d i p r e1 c).1,s _ _ (d i p r e1 c).2⟩⟩
theorem MatL.of{H:Hp}{a:Addr}{f:Nat->LI'}{ys:List V}(h:H a=some (.lst ys))(hr:∀(j:Nat) y,ys[j]?=some y->RowR a f j y H):MatL H a ((List.range ys.length).map f):=by
 have d:∃ps:LA,ys=ps.map V.ref:=by
  clear h;have:∀(zs:List V)(k:Nat),(∀(j:Nat) y,zs[j]?=some y->RowR a f (j+k) y H)->∃ps:LA,zs=ps.map V.ref:=by
   intro zs
   induction zs with
   |nil=>intro k _;exact⟨[],rfl⟩
   | cons z r g =>
    intro k c;obtain⟨p,e,_⟩:=c 0 z rfl;obtain⟨ps,b⟩:=g (k+1) λj y q=>by
     have:=c (j+1) y (by simpa using q)
     rwa[rA,Nat.add_comm 1 k]at this
    exact⟨p:: ps,by rw[e,b];rfl⟩
  exact this ys 0 hr
 obtain⟨ps,rfl⟩:=d;refine⟨ps,h,by simp,λi p r e1 b=>?_⟩;obtain⟨l,e,n,q⟩:=hr i (.ref p) (by simp[e1]);cases e;have hi:i<ps.length:=(oB.mp e1).1;have:r=f i:=by
  rw[zC,yL,yR hi]at b;exact(zU b).symm
 rw[this];exact⟨n,q⟩
theorem MatB.row{b1 b2:Bool}{K:Frag}{H:Hp}{a:Addr}{b:List (LI')}(h:MatB b1 b2 K H a b){i:Nat}{r:LI'}(e:b[i]?=some r):∃ps:LA,∃p,SqB b1 K H a (ps.map V.ref)/\(ps.map V.ref)[i]?=some (.ref p)/\(ps.map V.ref).length=b.length/\SqB b2 K H p (r.map V.int):=by
 obtain⟨ps,f,c,d⟩:=h;have hi:i<ps.length:=by have:=(oB.mp e).1;omega
 exact⟨ps,ps[i],f,by simp[hi],by simp[c],d i _ r (by simp[hi]) e⟩
theorem MatB.walk{b1 b2:Bool}{K:Frag}{H:Hp}{a:Addr}{b:List (LI')}(h:MatB b1 b2 K H a b):∃xs:List V,SqB b1 K H a xs/\xs.length=b.length/\∀(i:Nat) x,xs[i]?=some x->∃p r,x=.ref p/\b[i]?=some r/\SqB b2 K H p (r.map V.int):=by
 obtain⟨ps,f,c,d⟩:=h;refine⟨_,f,by simp[c],λi x e=>?_⟩;rw[zC]at e;cases q:ps[i]? with
 |none=>rw[q]at e;cases e
 |some p =>
  rw[q]at e;have hi:i<b.length:=by have:=(oB.mp q).1;omega
  exact⟨p,b[i],(zU e).symm,by simp[hi],d i p _ q (by simp[hi])⟩
theorem mZ{a:Type}{xs:List a}{k:Nat}{x:a}{i:Int}(h:xs[k]?=some x)(hi:i=k):atI xs i=some x:=by
 subst hi;exact Oe h
theorem mS{ns:LI'}{i:Nat}{x:V}(h:(ns.map V.int)[i]?=some x):∃n,ns[i]?=some n/\x=.int n:=by
 rw[zC]at h;cases e:ns[i]? with
 |none=>rw[e]at h;cases h
 |some n=>rw[e]at h;exact⟨n,rfl,(zU h).symm⟩
theorem kB{ns:LI'}{i:Nat}{n:Int}(h:ns[i]?=some n):(ns.map V.int)[i]?=some (.int n):=by rw[zC,h];rfl
theorem Qg{ns:LI'}{k:Nat}{n:Int}(h:ns[k]?=some n):ns.getD k 0=n:=by rw[tI,h];rfl
theorem getD_at{ns:LI'}{k:Nat}(h:k<ns.length):ns[k]?=some (ns.getD k 0):=by simp[h]
theorem getD_mem{ns:LI'}{k:Nat}(h:k<ns.length):ns.getD k 0∈ns:=by
 rw[show ns.getD k 0=ns[k] by simp[h]];exact xO h
noncomputable def colI(k:Nat)(rows:List (LI')):LI':=rows.map λr=>r.getD k 0
noncomputable def dotI(ms ns:LI'):Int:=(List.zipWith (·*·) ms ns).sum
def gD(w:Nat)(rows:List (LI')):List (LI'):=(List.range w).map λk=>colI k rows
def mulM(w:Nat)(A B:List (LI')):List (LI'):=A.map λr=>(List.range w).map λk=>dotI r (colI k B)
section
variable {K:Frag} {g:TG} {tb:TS} {σ:St} {H:Hp} {nx:St->Hp->Prop} {rt:VK}
abbrev aE(J:It)(g:TG)(tb:TS)(nx:St->Hp->Prop)(rt:VK)(σ:St)(H:Hp):Prop:=∃W:Nat->Nat->St->Hp->Prop,(∃m,W 0 m σ H)/\∀i m σ H,W i m σ H ->
 (J.stop i H/\nx σ H)\/(J.go i H/\∃N:St->Hp->Prop,(∀σ' H',N σ' H'->∃m',m'<m/\W (i+1) m' σ' H')/\∀x H',J.yld i H x H'->g x σ H' λσ2 H2=>tb {nx:=N,rt:=rt,bk:=nx,ct:=N} σ2 H2)
theorem Ho{lo:Int}{n:Nat}(a:Nat->St->Hp->Prop)(d:a 0 σ H)
  (f:∀i σ H,i<n->a i σ H->g (.int (lo+i)) σ H λc b=>tb {nx:=a (i+1),rt:=rt,bk:=nx,ct:=a (i+1)} c b)(e:∀σ H,a n σ H->nx σ H):aE (Itr lo n) g tb nx rt σ H:=
 Nc (D:={nx:=nx,rt:=rt,bk:=nx,ct:=nx}) a d f e
theorem kX{b:Bool}{a:Addr}{xs:List V}(c:Nat->St->Hp->Prop)(f:c 0 σ H)(hl:∀i σ H,i<=xs.length->c i σ H->SqB b K H a xs)
  (k:∀i x σ H,xs[i]?=some x->c i σ H->g x σ H λe d=>tb {nx:=c (i+1),rt:=rt,bk:=nx,ct:=c (i+1)} e d)(j:∀σ H,c xs.length σ H->nx σ H):aE (Its K b a) g tb nx rt σ H:=
 Qk (D:={nx:=nx,rt:=rt,bk:=nx,ct:=nx}) c f hl k j
theorem fT{b:Bool}{a:Addr}{xs:List V}(c:Nat->St->Hp->Prop)(f:c 0 σ H)(hl:∀i σ H,i<=xs.length->c i σ H->SqB b K H a xs)
  (k:∀i x p σ H,xs[i]?=some x->c i σ H->H p=none->g (.ref p) σ (upd H p (.tup [.int i,x])) λe d=>tb {nx:=c (i+1),rt:=rt,bk:=nx,ct:=c (i+1)} e d)(j:∀σ H,c xs.length σ H->nx σ H):aE (Ite K b a) g tb nx rt σ H:=
 Qj (D:={nx:=nx,rt:=rt,bk:=nx,ct:=nx}) c f hl k j
end
theorem aF{b1 b2:Bool}{K:Frag}{H:Hp}{a:Addr}{b:List (LI')}{i k:Nat}{r:LI'}{x:Int}{I c:Int}{Q:VK}(h:MatB b1 b2 K H a b)(e:b[i]?=some r)(f:r[k]?=some x)(hi:I=i)(j:c=k)(q:Q (.int x) H):
  rIxB K (.ref a) (.int I) H λv g=>rIxB K v (.int c) g Q:=by
 obtain⟨ps,p,k1,k2,k3,d⟩:=h.row e;exact⟨b1,a,_,_,_,rfl,rfl,k1,mZ k2 hi,b2,p,_,_,_,rfl,rfl,d,mZ (kB f) j,q⟩
theorem Qf{b1 b2:Bool}{K:Frag}{H:Hp}{a:Addr}{b:List (LI')}{i:Nat}{r:LI'}{I:Int}{Q:VK}(h:MatB b1 b2 K H a b)(e:b[i]?=some r)(hi:I=i)(q:∀p,SqB b2 K H p (r.map V.int)->Q (.ref p) H):
  rIxB K (.ref a) (.int I) H Q:=by
 obtain⟨ps,p,k1,k2,k3,c⟩:=h.row e;exact⟨b1,a,_,_,_,rfl,rfl,k1,mZ k2 hi,q p c⟩
theorem iA{b1 b2:Bool}{K:Frag}{H:Hp}{a:Addr}{b:List (LI')}{Q:VK}(h:MatB b1 b2 K H a b)(q:Q (.int b.length) H):jD K [.ref a] H Q:=by
 obtain⟨ps,d,c,e⟩:=h;refine⟨b1,a,_,rfl,d,?_⟩;rw[yL,c];exact q
theorem lO{b:Bool}{K:Frag}{H:Hp}{a:Addr}{ns:LI'}{Q:VK}(h:SqB b K H a (ns.map V.int))(q:Q (.int ns.length) H):jD K [.ref a] H Q:=by
 refine⟨b,a,_,rfl,h,?_⟩;rw[yL];exact q
noncomputable def Itq(lo st:Int)(n:Nat):It:=⟨λi _=>i<n,λi H x H'=>H'=H/\x=.int (lo+i*st),λi _=>n<=i⟩
section
variable {g:TG} {tb:TS} {σ:St} {H:Hp} {nx:St->Hp->Prop} {rt:VK}
theorem fr_step{lo st:Int}{n:Nat}(a:Nat->St->Hp->Prop)(k:a 0 σ H)
  (l:∀i σ H,i<n->a i σ H->g (.int (lo+i*st)) σ H λj c=>tb {nx:=a (i+1),rt:=rt,bk:=nx,ct:=a (i+1)} j c)(d:∀σ H,a n σ H->nx σ H):aE (Itq lo st n) g tb nx rt σ H:=by
 refine⟨λi m σ H=>m=n-i/\i<=n/\a i σ H,⟨n,by simp,yV _,k⟩,?_⟩;rintro i m σ H ⟨rfl,hi,p⟩
 by_cases b:i<n
 ·refine .inr ⟨b,a (i+1),λo H' f=>⟨n-(i+1),⋯,rfl,b,f⟩,λx H' y=>?_⟩;obtain⟨e,y⟩:=y;subst e y;exact l i σ _ b p
 ·have e:i=n:=⋯
  subst e;exact .inl ⟨zE _,d σ H p⟩
end
def kK(a:Addr)(H:Hp)(zs:List V)(M:List (LI')):Prop:=∃ps:LA,zs=ps.map V.ref/\ps.length=M.length/\∀(j:Nat)(p:Addr)(r:LI'),ps[j]?=some p->M[j]?=some r->p≠a/\H p=some (.lst (r.map V.int))
theorem kK.nil{a:Addr}{H:Hp}:kK a H [] []:=⟨[],rfl,rfl,λj p r e=>by simp at e⟩
theorem kK.len{a:Addr}{H:Hp}{zs:List V}{M:List (LI')}(h:kK a H zs M):zs.length=M.length:=let ⟨ps,e,l,_⟩:=h;by rw[e,yL,l]
theorem kK.mono{a:Addr}{H H':Hp}{zs:List V}{M:List (LI')}(h:kK a H zs M)(s:kS a H H'):kK a H' zs M:=let ⟨ps,e,l,q⟩:=h;⟨ps,e,l,λj p r e1 b=>⟨(q j p r e1 b).1,s _ _ (q j p r e1 b).1 (q j p r e1 b).2⟩⟩
theorem kK.snoc{a p:Addr}{H:Hp}{zs:List V}{M:List (LI')}{r:LI'}(h:kK a H zs M)(e:p≠a)(d:H p=some (.lst (r.map V.int))):kK a H (zs++[.ref p]) (M++[r]):=by
 obtain⟨ps,rfl,c,f⟩:=h;refine⟨ps++[p],by simp,by simp[c],λi q z e1 b=>?_⟩
 by_cases hi:i<ps.length
 ·rw[yI hi]at e1;rw[yI ⋯]at b;exact f i q z e1 b
 ·have g:i=ps.length:=by
   have:=(oB.mp e1).1;simp at this;omega
  subst g;rw[zZ (zE _)]at e1;rw[c,zZ (zE _)]at b;simp at e1 b;subst e1 b;exact⟨e,d⟩
theorem kK.mat{a:Addr}{H:Hp}{zs:List V}{M:List (LI')}(h:H a=some (.lst zs))(r:kK a H zs M):MatL H a M:=by
 obtain⟨ps,rfl,b,c⟩:=r;exact⟨ps,h,b,c⟩
theorem dS(ns:LI')(lo hi:Option Int):cutV (ns.map V.int) lo hi=((ns.drop (HT.sIx ns.length 0 lo)).take (HT.sIx ns.length ns.length hi-HT.sIx ns.length 0 lo)).map V.int:=by
 unfold cutV;rw[yL,List.map_take,List.map_drop]
theorem Qe{ns:LI'}{k:Nat}(h:k<=ns.length):cutV (ns.map V.int) none (some (k:Int))=(ns.take k).map V.int:=by
 rw[dS,HT.sIx_none,HT.sIx_nat,Nat.min_eq_left h];simp
theorem Qd{ns:LI'}{k:Nat}(h:k<=ns.length):cutV (ns.map V.int) (some (k:Int)) none=(ns.drop k).map V.int:=by
 rw[dS,HT.sIx_none,HT.sIx_nat,Nat.min_eq_left h,wV (by simp)]
section
variable {K:Frag} {H:Hp} {a a1:Addr} {M:List (LI')} {σ:St} {Q:VK} {b1 b2:Bool}
def MatT(H:Hp)(a:Addr)(rows:List (LI')):Prop:=∃ps:LA,H a=some (.lst (ps.map V.ref))/\ps.length=rows.length/\∀(i:Nat)(p:Addr)(r:LI'),ps[i]?=some p->rows[i]?=some r->H p=some (.tup (r.map V.int))
theorem Qb(P:MatB b1 false K H a M)(hl:M.length<=1000)(C:H a1=none)(D:∀b,Same H b->MatT b a1 M->Q (.ref a1) b):kA (Its K b1 a) (oV 0) (tEl (tCB (gT K) (oW (tVar 0) tNil))) 1 [] σ a1 H Q:=by
 obtain⟨xs,F,R,O⟩:=P.walk;refine nQ (λj y b=>∃p r,y=.ref p/\M[j]?=some r/\p≠a1/\b p=some (.tup (r.map V.int))) C F ⋯ (λi y b S⟨p,r,e1,c,d,g⟩s=>⟨p,r,e1,c,d,s _ _ d g⟩) ?_ ?_
 ·intro i x b zs G f L U J;obtain⟨p,r,rfl,w,u⟩:=O i x G;exact⟨_,rfl,p,_,rfl,.inl ⟨u.up f,λl k=>J _ _ (Same.new k) ⟨l,r,rfl,w,zW (mI L k),oQ⟩⟩⟩
 ·intro b ys f e1 n o;have N:∃ps:LA,ys=ps.map V.ref:=by
   clear e1 n;have:∀(zs:List V),(∀(j:Nat) y,zs[j]?=some y->∃p:Addr,y=.ref p)->∃ps:LA,zs=ps.map V.ref:=by
    intro zs
    induction zs with
    |nil=>intro _;exact⟨[],rfl⟩
    |cons z r I =>
     intro m;obtain⟨p,e⟩:=m 0 z rfl;obtain⟨ps,c⟩:=I λj y q=>m (j+1) y (by simpa using q);exact⟨p:: ps,by rw[e,c];rfl⟩
   exact this ys λj y e=>let ⟨p,r,e1,_⟩:=o j y e;⟨p,e1⟩
  obtain⟨ps,rfl⟩:=N;refine D b f ⟨ps,e1,by simp at n;omega,λi p r c d=>?_⟩;obtain⟨T,W,g,t,_,v⟩:=o i (.ref p) (by simp[c]);cases g;rw[d]at t;cases t;exact v
theorem MatT.tuple{l:Addr}(h:MatT H a M)(hl:H l=none):∃zs,H a=some (.lst zs)/\MatB true true K (upd H l (.tup zs)) l M:=by
 obtain⟨ps,e,b,c⟩:=h;exact⟨_,e,ps,SqB.tup oQ,b,λi p r e1 d=>SqB.tup (Same.new hl _ _ (c i p r e1 d))⟩
end
theorem Qa{X:Cx}{x:Str}{v:V}{b:Pos}(c:Gl X x)(h:∃u,X.mg x=some u/\RelV v u)(a:(x == ("__debug__" :Str))=false:=by decide):PE X (.Name x b) (tC v):=by
 obtain⟨u,e,r⟩:=h;exact Nt c e r a
def MkI(te:TE)(n:Int):Prop:=∀σ H Q,Q (.int n) H->te σ H Q
def MkIs(ta:TA)(ns:LI'):Prop:=∀σ H Q,Q (ns.map V.int) H->ta σ H Q
def MkR(te:TE)(ns:LI'):Prop:=∀σ H Q,(∀p H',Same H H'->H p=none->H' p=some (.lst (ns.map V.int))->Q (.ref p) H')->te σ H Q
theorem MkR.of{ta:TA}{ns:LI'}(h:MkIs ta ns)(a:ns.length<=1000):MkR (tLst ta) ns:=λσ H Q q=>h σ H _ ⟨by rw[yL];exact xX (dN a),λl hl=>q l _ (Same.new hl) hl oQ⟩
def MkRs(ta:TA)(M:List (LI')):Prop:=∀σ H Q,(∀ps H',Same H H'->RefRowsN H H' ps M->Q (ps.map V.ref) H')->ta σ H Q
where RefRowsN (H H':Hp) (ps:LA) (M:List (LI')):Prop:=ps.length=M.length/\∀(j:Nat)(p:Addr)(r:LI'),ps[j]?=some p->M[j]?=some r->H' p=some (.lst (r.map V.int))
theorem MkRs.nil:MkRs tNil []:=λ_ H Q q=>q [] H (Same.refl _) ⟨rfl,λj p r e=>by simp at e⟩
theorem MkRs.cons{te:TE}{ta:TA}{ns:LI'}{M:List (LI')}(h:MkR te ns)(k:MkRs ta M):MkRs (oW te ta) (ns:: M):=λσ H Q q=>h σ H _ λp d f l e1=>k σ d _ λps c b r=>q (p:: ps) c (f.trans b) ⟨by simp[r.1],λj g i e a=>by
 cases j with
 |zero=>simp at e a;subst e a;exact b _ _ e1
 |succ j=>exact r.2 j g i (by simpa using e) (by simpa using a)⟩
def MkM(te:TE)(M:List (LI')):Prop:=∀σ H Q,(∀p H',Same H H'->H p=none->MatL H' p M->Q (.ref p) H')->te σ H Q
theorem MkM.of{ta:TA}{M:List (LI')}(h:MkRs ta M)(d:M.length<=1000):MkM (tLst ta) M:=λσ H Q q=>h σ H _ λps f b r=>⟨by rw[yL,r.1];exact xX (dN d),λl hl=>by
 have c:H l=none:=by cases e:H l with|none=>rfl|some o=>rw[b _ _ e]at hl;cases hl
 exact q l _ (b.trans (Same.new hl)) c ⟨ps,oQ,r.1,λi p z e1 a=>⟨mI (r.2 i p z e1 a) hl,Same.new hl _ _ (r.2 i p z e1 a)⟩⟩⟩
def Mats(H:Hp)(p:Addr)(Ms:List (List (LI'))):Prop:=∃ps:LA,H p=some (.lst (ps.map V.ref))/\ps.length=Ms.length/\∀(i:Nat)(q:Addr)(M:List (LI')),ps[i]?=some q->Ms[i]?=some M->MatL H q M
theorem Mats.up{H H':Hp}{p:Addr}{a:List (List (LI'))}(h:Mats H p a)(s:Same H H'):Mats H' p a:=let ⟨ps,d,e,c⟩:=h;⟨ps,s _ _ d,e,λi q M e1 b=>(c i q M e1 b).up s⟩
def MkMs(ta:TA)(Ms:List (List (LI'))):Prop:=∀σ H Q,(∀(ps:LA) H',Same H H'->ps.length=Ms.length->(∀(i:Nat)(q:Addr)(M:List (LI')),ps[i]?=some q->Ms[i]?=some M->MatL H' q M)->Q (ps.map V.ref) H')->ta σ H Q
theorem MkMs.nil:MkMs tNil []:=λ_ H Q q=>q [] H (Same.refl _) rfl λj p r e=>by simp at e
theorem MkMs.cons{te:TE}{ta:TA}{M:List (LI')}{b:List (List (LI'))}(h:MkM te M)(m:MkMs ta b):MkMs (oW te ta) (M:: b):=λσ H Q q=>h σ H _ λp f g _ e1=>m σ f _ λps d c l r=>q (p:: ps) d (g.trans c) (by simp[l]) λj i k e a=>by
 cases j with
 |zero=>simp at e a;subst e a;exact e1.up c
 |succ j=>exact r j i k (by simpa using e) (by simpa using a)
theorem MkMs.lst{ta:TA}{b:List (List (LI'))}(h:MkMs ta b)(f:b.length<=1000){σ:St}{H:Hp}{Q:VK}(q:∀p H',Same H H'->Mats H' p b->Q (.ref p) H'):tLst ta σ H Q:=h σ H _ λps g e l r=>⟨by rw[yL,l];exact xX (dN f),λa c =>
 q a _ (e.trans (Same.new c)) ⟨ps,oQ,l,λi q M e1 d=>(r i q M e1 d).up (Same.new c)⟩⟩
theorem Mats.at{K:Frag}{H:Hp}{p:Addr}{a:List (List (LI'))}{i:Nat}{M:List (LI')}{I:Int}{Q:VK}(h:Mats H p a)(e:a[i]?=some M)(hi:I=i)(k:∀q,MatL H q M->Q (.ref q) H):rIxB K (.ref p) (.int I) H Q:=by
 obtain⟨ps,d,f,c⟩:=h;have b:i<ps.length:=by have:=(oB.mp e).1;omega
 exact⟨false,p,_,_,_,rfl,rfl,SqB.lst d,mZ (show(ps.map V.ref)[i]?=some (.ref ps[i]) by simp[b]) hi,k _ (c i _ M (by simp[b]) e)⟩
def MatD(H0 H:Hp)(a:Addr)(rows:List (LI')):Prop:=∃ps:LA,H a=some (.lst (ps.map V.ref))/\ps.length=rows.length/\ps.Nodup/\∀(i:Nat)(p:Addr)(r:LI'),ps[i]?=some p->rows[i]?=some r->p≠a/\H0 p=none/\H p=some (.lst (r.map V.int))
theorem MatD.l{g H:Hp}{a:Addr}{b:List (LI')}(h:MatD g H a b):MatL H a b:=let ⟨ps,e,f,_,d⟩:=h;⟨ps,e,f,λi p r e1 c=>⟨(d i p r e1 c).1,(d i p r e1 c).2.2⟩⟩
section
variable {K:Frag} {H:Hp} {a a1:Addr} {M:List (LI')} {σ:St} {Q:VK} {b1 b2:Bool}
theorem Rz(a2:MatB b1 b2 K H a M)(hl:M.length<=1000)(S:H a1=none)(T:∀b,Same H b->MatD H b a1 M->Q (.ref a1) b):kA (Its K b1 a) (oV 0) (tEl (tCB (dR K) (oW (tVar 0) tNil))) 1 [] σ a1 H Q:=by
 obtain⟨xs,u,a5,a0⟩:=a2.walk;refine bY xs.length (λa3 zs b=>∃ps:LA,zs=ps.map V.ref/\ps.length=a3/\ps.Nodup/\∀(j:Nat)(p:Addr)(r:LI'),ps[j]?=some p->M[j]?=some r->p≠a1/\H p=none/\b p=some (.lst (r.map V.int))) S ⋯ ⟨[],rfl,rfl,uV,λj p r e=>by simp at e⟩
  (λi zs b⟨ps,e,l,_⟩=>by rw[e,yL,l];exact zE _) (λi zs b a6⟨ps,e,l,n,q⟩s=>⟨ps,e,l,n,λj p r e1 d=>⟨(q j p r e1 d).1,(q j p r e1 d).2.1,s _ _ (q j p r e1 d).1 (q j p r e1 d).2.2⟩⟩)
  (λi b hi s=>Its.go (u.up s) (x:=xs[i]) (by simp[hi])) (λb s=>Its.stop (u.up s) (zE _)) ?_ ?_
 ·rintro i b zs hi g X ⟨ps,rfl,v,t,k⟩ ys x a7 P Y C U _;obtain⟨e1,d⟩:=Its.yld (u.up g) Y;subst e1;obtain⟨p,r,rfl,R,I⟩:=a0 i x d
  match ys,P with
  | [o],_ =>
   refine⟨⟨[some (.ref p)],rfl,rfl⟩,_,rfl,b2,p,_,rfl,I.up g,λl c=>U _ _ (Same.new c) ⟨ps++[l],by simp,by simp[v],?_,λj Z a4 f y=>?_⟩⟩
   ·rw[sI];refine⟨t,by simp,λz O w G=>?_⟩;rw[pW.mp G];obtain⟨j,D,m⟩:=wT O;have W:j<M.length:=⋯
    exact mI (k j z M[j] (by simp[D,m]) (by simp[W])).2.2 c
   ·by_cases D:j<ps.length
    ·rw[yI D]at f;obtain⟨L,F,J⟩:=k j Z a4 f y;exact⟨L,F,Same.new c _ _ J⟩
    ·have m:j=ps.length:=by have:=(oB.mp f).1;simp at this;omega
     subst m;rw[zZ (zE _)]at f;simp at f;subst f;rw[v,R]at y;cases y;have N:H l=none:=by cases w:H l with|none=>rfl|some o=>rw[g _ _ w]at c;cases c
     exact⟨zW (mI X c),N,oQ⟩
 ·rintro b ys g e1 ⟨ps,rfl,v,t,k⟩;exact T b g ⟨ps,e1,⋯,t,k⟩
end
noncomputable def litI:Expr->Option Int
 |.Constant (.int i) _ _=>some i
 |.UnaryOp .USub (.Constant (.int i) _ _) _=>some (-i)
 |_=>none
def aG:List Expr->Option (LI')
 |[]=>some []
 |e:: es=>match litI e,aG es with|some n,some ns=>some (n:: ns)|_,_=>none
def litR:Expr->Option (LI')
 |.List es _=>aG es
 |_=>none
def aH:List Expr->Option (List (LI'))
 |[]=>some []
 |e:: es=>match litR e,aH es with|some n,some ns=>some (n:: ns)|_,_=>none
def litM:Expr->Option (List (LI'))
 |.List es _=>aH es
 |_=>none
def aI:List Expr->Option (List (List (LI')))
 |[]=>some []
 |e:: es=>match litM e,aI es with|some n,some ns=>some (n:: ns)|_,_=>none
def Ba:Expr->Option (List (List (LI')))
 |.List es _=>aI es
 |_=>none
section
variable {X:Cx}
theorem PE.weak{e:Expr}{a u:TE}(h:PE X e a)(w:∀σ H Q,u σ H Q->a σ H Q):PE X e u:=λb s σ H Q I q=>h b s σ H Q I (w σ H Q q)
theorem PA.weak{es:List Expr}{a u:TA}(h:PA X es a)(w:∀σ H Q,u σ H Q->a σ H Q):PA X es u:=λc b s σ H Q I q=>h c b s σ H Q I (w σ H Q q)
theorem Hn{e:Expr}{n:Int}(h:litI e=some n):PE X e (tC (.int n))/\∀es,starEach (e:: es) X.env=(false,eval e X.env):: starEach es X.env:=by
 unfold litI at h;split at h
 ·cases h;exact⟨oR,λ_=>rfl⟩
 ·cases h;exact⟨(iV iW oR).weak λσ H Q q=>⟨_,rfl,q⟩,λ_=>rfl⟩
 ·cases h
theorem Hm:∀{es:List Expr}{ns:LI'},aG es=some ns->PA X es λ_ H Q=>Q (ns.map V.int) H
 |[],ns,h=>by cases h;exact oK
 |e:: es,ns,h=>by
  unfold aG at h;split at h
  ·rename_i n ms e1 a;cases h;exact(oJ (Hn e1).1 (Hm a) ((Hn e1).2 es)).weak λσ H Q q=>q
  ·cases h
def Hl(ns:LI'):TE:=λ_ H Q=>∀p H',Same H H'->H p=none->H' p=some (.lst (ns.map V.int))->Q (.ref p) H'
def Hk(M:List (LI')):TE:=λ_ H Q=>∀p H',Same H H'->H p=none->MatL H' p M->Q (.ref p) H'
def Hj(Ms:List (List (LI'))):TE:=λ_ H Q=>∀p H',Same H H'->Mats H' p Ms->Q (.ref p) H'
theorem Ry{e:Expr}{ns:LI'}(h:litR e=some ns)(a:ns.length<=1000):PE X e (Hl ns)/\∀es,starEach (e:: es) X.env=(false,eval e X.env):: starEach es X.env:=by
 unfold litR at h;split at h
 ·refine⟨(lH (Hm h)).weak λσ H Q q=>MkR.of (ta:=λ_ H Q=>Q (ns.map V.int) H) (λ_ _ _ q=>q) a σ H Q q,λ_=>rfl⟩
 ·cases h
theorem Hi:∀{es:List Expr}{M:List (LI')},aH es=some M->(∀r∈M,r.length<=1000)->∃ta,PA X es ta/\MkRs ta M
 |[],ns,h,_=>by cases h;exact⟨_,oK,MkRs.nil⟩
 |e:: es,ns,h,b=>by
  unfold aH at h;split at h
  ·rename_i n ms e1 c;cases h;have a:=Ry (X:=X) e1 (b n zV);obtain⟨ta,f,d⟩:=Hi c λr hr=>b r (zM _ hr);exact⟨_,oJ a.1 f (a.2 es),MkRs.cons (te:=Hl n) (λσ H Q q=>q) d⟩
  ·cases h
theorem Rx{e:Expr}{M:List (LI')}(h:litM e=some M)(a:M.length<=1000/\∀r∈M,r.length<=1000):PE X e (Hk M)/\∀es,starEach (e:: es) X.env=(false,eval e X.env):: starEach es X.env:=by
 unfold litM at h;split at h
 ·obtain⟨ta,c,b⟩:=Hi (X:=X) h a.2;exact⟨(lH c).weak λσ H Q q=>MkM.of b a.1 σ H Q q,λ_=>rfl⟩
 ·cases h
theorem Hh:∀{es:List Expr}{a:List (List (LI'))},aI es=some a->(∀M∈a,M.length<=1000/\∀r∈M,r.length<=1000)->∃ta,PA X es ta/\MkMs ta a
 |[],ns,h,_=>by cases h;exact⟨_,oK,MkMs.nil⟩
 |e:: es,ns,h,c=>by
  unfold aI at h;split at h
  ·rename_i n ms e1 d;cases h;have b:=Rx (X:=X) e1 (c n zV);obtain⟨ta,g,f⟩:=Hh d λr hr=>c r (zM _ hr);exact⟨_,oJ b.1 g (b.2 es),MkMs.cons (te:=Hk n) (λσ H Q q=>q) f⟩
  ·cases h
theorem Rw{e:Expr}{a:List (List (LI'))}(h:(decide (Ba e=some a) && decide (a.length<=1000/\∀M∈a,M.length<=1000/\∀r∈M,r.length<=1000))=true):PE X e (Hj a):=by
 simp only[Bool.and_eq_true,decide_eq_true_eq]at h;obtain⟨h,f,b⟩:=h;unfold Ba at h;split at h
 ·obtain⟨ta,c,d⟩:=Hh (X:=X) h b;exact(lH c).weak λσ H Q q=>MkMs.lst d f q
 ·cases h
end
noncomputable def Rv(Ms:List (List (LI'))):Bool:=decide (Ms.length<=1000/\∀M∈Ms,M.length<=1000/\∀r∈M,r.length<=1000)
noncomputable def isList:Expr->Bool
 |.List _ _=>true
 |_=>false
section
variable {X:Cx}
theorem Hg:∀{bs:List Bool}{its:LW},Vals (bs.map V.bl) its->∀(i:Nat)(v:Value),its[i]?=some v->∃b,bs[i]?=some b/\v=.bool b
 |[],_,.nil,i,v,e=>by simp at e
 |b:: r,_,.cons h q,i,v,e=>by
  cases i with
  |zero=>simp at e;subst e;exact⟨b,rfl,h⟩
  |succ i=>simpa using Hg (bs:=r) q i v (by simpa using e)
theorem Hf:∀bs:List Bool,((List.range bs.length).any λi=>(bs[i]?).getD false)=bs.any id
 |[]=>rfl
 |b:: bs=>by
  have a:=Hf bs;rw[yE,List.range_succ_eq_map,tH,tH,List.any_map];show(b || _)=(b || _);congr 1
theorem aJ(d:X.calm=true):kI X (.builtin "any") (λxs H Q=>∃(p:Addr)(bs:List Bool),xs=[.ref p]/\SqL X.K H p (bs.map V.bl)/\Q (.bl (bs.any id)) H):=by
 intro y s σ H xs us Q I r h;obtain⟨p,bs,rfl,l,q⟩:=h;obtain⟨u,rfl,m⟩:=jV r;cases m;obtain⟨its,a,pl,z⟩:=I.list l;have hl:s.heap.IsList p its.toArray:=pl.isList;have g:p<s.heap.objs.size:=by obtain⟨_,e,_⟩:=hl;exact zO e
 have n:its.toArray.size=bs.length:=by
  have:=a.length;simpa using this.symm
 refine call_any_walk (sH hl ?_);refine⟨s.heap.objs.size,[s.heap.objs.size,p],[s.heap.objs.size],its.toArray.size,_,_,λi=>(bs[i]?).getD false,rfl,Walks.list (A:=X.A.in1) (I.ok.hd d) _ p (yD g) its.toArray,
  ⟨⟨_,zQ _ rfl,rfl,rfl⟩,hl.push _⟩,λi v w t o j c=>?_,λh' tk k=>?_⟩
 ·obtain⟨b,e,rfl⟩:=Hg a i v (by simpa using j);simp only[e,Option.getD_some]at c;exact uO c
 ·rw[n,Hf bs];refine⟨.bl (bs.any id),H,I.kept (t':=tk) λb x e=>k b x (λf=>by rw[pW.mp f]at e;exact xH _ (zO e)) (zD _ e),rfl,q⟩
end
section
variable {prog:Program} {w:World} {A:Around} {E:VP} {s:Shared}
set_option maxRecDepth 100000 in
end
open Builtin Builtin.Str
def qVar(i:Nat):TE:=λσ H Q=>match σ[i]? with
 |some (some v)=>Q v H
 |_=>False
theorem Ru{i:Nat}{σ:St}{H:Hp}{Q:VK}(h:qVar i σ H Q):tVar i σ H Q:=by
 unfold qVar at h;split at h
 ·next v e=>exact⟨v,e,h⟩
 ·exact h.elim
theorem pq{X:Cx}(i:Nat){x:Str}{a:Pos}(c:X.N[i]?=some x:=by rfl)(f:Vis X.env.scope x:=by first|exact Or.inl rfl|exact Or.inr (Or.inl rfl)|exact Or.inr (Or.inr rfl))(b:(x == ("__debug__" :Str))=false:=by decide)
  (e:(x == ("__classdict__" :Str))=false:=by decide):PE X (.Name x a) (qVar i):=λd s σ H Q I q=>pv i c f b e d s σ H Q I (Ru q)
section
variable {X:Cx} {e:Expr} {ta:TE} {pos p p':Pos} {i:Int} {j:Nat}
theorem oT(a:PE X e ta):PE X (e.Subscript (.Constant (.int i) j p') pos) (tOp (rIxB X.K) ta (tC (.int i))):=mC ix_B a oR (λ_ _=>rfl)
theorem nU(m:X.mg "len"=none)(a:PE X e ta)(g:Gl X "len" := by rfl)(b:starEach [e] X.env=(false,eval e X.env):: starEach [] X.env:=by rfl):PE X (.Call (.Name "len" p) [e] [] pos) (tCB (jD X.K) (oW ta tNil)):=lJ Ql g m (nofun) (oJ a oK b) ∅ ∅ b rfl
end
section
variable {X:Cx} {sc scope:Scope} {fr:List (Str×Nat)} {x:Str} {px:Pos} {iter elt:Expr} {wi:TI} {te:TE} {N:List Str}
theorem nP{i:Pos}(m:X.env.scope=sc)(n:X.N=N)(k:bV sc N scope fr=true)(j:X.calm=true)(l:bW (jB sc scope) ([x]++fr.map (·.1)) 0 x=true)(hi:PI X (.Name x px) iter wi)
  (g:∀(c:Shared)(e:Hp)(f:LA),(mQ X scope ([x]++fr.map (·.1)) c e f).env.scope=jB sc scope->PE (mQ X scope ([x]++fr.map (·.1)) c e f) elt te)(o:∀x,foldedSetIterable iter X.env x=pure x:=by intro _;rfl):PE X (.ListComp elt [⟨.Name x px,iter,[],0⟩] scope i) (mE wi (oV 0) (tEl te) 1 fr):=
 kQ (xs:=[x]) (lL m n k) j hi (λ_ _ _ h=>kR (i:=0) h rfl l) (λa b d h=>lU (g a b d h)) (yV _) o
theorem iO{e c f:Pos}{y:Str}{i:Nat}(r:X.env.scope=sc)(n:X.N=N)(p:bV sc N scope fr=true)(m:X.calm=true)(o:X.N.Nodup)(q:X.N[i]?=some y)(hl:X.env.scope.names.lookup y=some .local)(t:bW (jB sc scope) ([x]++fr.map (·.1)) 0 x=true)(hi:PI X (.Name x px) iter wi)
  (l:∀(g:Shared)(j:Hp)(k:LA),(mQ X scope ([x]++fr.map (·.1)) g j k).env.scope=jB sc scope->PE (mQ X scope ([x]++fr.map (·.1)) g j k) elt te)
  (u:swapsWith (.ListComp elt [⟨.Name x px,iter,[],0⟩] scope e) (some (.Name y f)) c.line X.env=pure true:=by rfl)(v:∀x,foldedSetIterable iter X.env x=pure x:=by intro _;rfl):PS X (.Assign [.Name y f] (.ListComp elt [⟨.Name x px,iter,[],0⟩] scope e) c) (Gh i (mE wi (oV 0) (tEl te) 1 fr)):=
 gS (xs:=[x]) (lL r n p) m o q hl hi (λ_ _ _ h=>kR (i:=0) h rfl t) (λa b d h=>lU (l a b d h)) u (yV _) v
end
structure FunT(K:Frag)(mg:MT)(x:Str)(st:Stmt)(f:Addr)(fd:FuncData)(ps:List Str):Prop extends Fun K x x st f fd where
 m:mg x=some (.ref f)
 b:lI K fd ps []
section
variable {X:Cx} {k:Nat} {f:Addr} {fd:FuncData} {ps:List Str} {sp:Sp} {x:Str} {st:Stmt} {p pos:Pos} {e:Expr} {es:List Expr} {t:TA}
theorem oS(F:FnOk X.prog X.w X.K X.mg X.base CX0 k f fd ps sp)(hr:Room k X.A)(c:FunT X.K X.mg x st f fd ps)(g:PA X (e:: es) t)(i:Gl X x:=by rfl)(b:(x == ("__debug__" :Str))=false:=by decide)
  (a:starEach (e:: es) X.env=(false,eval e X.env):: starEach es X.env:=by rfl)(d:(backTo pos (starEach es X.env)).any (·.1)=false:=by rfl):PE X (.Call (.Name x p) (e:: es) [] pos) (mJ sp [] E0 t):=jW F hr i c.m c.kp c.b .nil kM g b a d
end
instance decPD:DecidableEq PyData:=λ_ _=>Classical.propDecidable _
noncomputable def tT:Nat->PyData->Bool
 |_,.int _=>true
 |n+1,.tuple xs=>xs.all (tT n)
 |_,_=>false
theorem gU:∀(n:Nat)(d:PyData),tT n d=true->iT n d=true:=by
 intro n
 induction n with
 |zero=>intro d h;cases d <;> simp[tT]at h <;> simp[iT]
 |succ n a =>
  intro d h;cases d <;> simp[tT]at h
  ·simp[iT]
  ·simp only[iT,List.all_eq_true];exactλx b=>a x (h x b)
mutual
noncomputable def iB:PyData->Int
 |.int i=>hashInt i
 |.tuple xs=>reduceHash (Builtin.Tuple.tupleHashOf (dU xs))
 |_=>0
noncomputable def dU:List PyData->LI'
 |[]=>[]
 |d:: ds=>iB d:: dU ds
end
mutual
noncomputable def iC:PyData->Nat
 |.tuple xs=>gW xs+1
 |_=>1
noncomputable def gW:List PyData->Nat
 |[]=>0
 |d:: ds=>iC d+gW ds
end
section
variable {prog:Program} {w:World} {E:VP}
theorem Rt(n:Nat)(j:∀{A:Around}{s:Shared}{v:Value}{d:PyData}{as:LA}{Q:Int->Shared->Prop},tT n d=true->Reads s.heap v d as->A.units+n<cLine->Q (iB d) {s with toks:=s.toks+iC d}->wpAny (model prog w) A (pyHash v) Q E s):
  ∀(xs:List PyData)(vs:LW)(as:LA)(A:Around)(s:Shared)(b:Array Int)(Q:Array Int->Shared->Prop),xs.all (tT n)=true->ReadsAll s.heap vs xs as->A.units+n<cLine ->
  (∀a:Array Int,a.toList=b.toList++dU xs->Q a {s with toks:=s.toks+gW xs}) ->
  wpAny (model prog w) A (forIn vs b λx r=>do let h ←pyHash x;pure PUnit.unit;pure (ForInStep.yield (r.push h))) Q E s:=by
 intro xs
 induction xs with
 |nil =>
  intro vs as A s b Q _ r _ h;cases r;exact zB (h b (by simp[dU]))
 | cons d ds k =>
  intro vs as A s b Q c r e h;cases r with
  |cons f g =>
   rw[xG,zT]at c;rw[uG];refine zA (zA (j c.1 f e ?_));refine zA (zB (zB ?_));refine k _ _ A {s with toks:=s.toks+iC d} (b.push (iB d)) Q c.2 g e λa i=>?_;have:=h a (by rw[i];simp[dU]);rw[show s.toks+gW (d:: ds)=s.toks+iC d+gW ds by simp[gW,Nat.add_assoc]]at this;exact this
theorem Rr:∀(n:Nat){A:Around}{s:Shared}{v:Value}{d:PyData}{as:LA}{Q:Int->Shared->Prop},tT n d=true->Reads s.heap v d as->A.units+n<cLine->Q (iB d) {s with toks:=s.toks+iC d}->wpAny (model prog w) A (pyHash v) Q E s:=by
 intro n
 induction n with
 |zero =>
  intro A s v d as Q c r i h;cases r <;> simp[tT]at c;exact qV (by simpa [iB,iC]using h)
 | succ n g =>
  intro A s v d as Q c r i h;cases r <;> simp only[tT,Bool.false_eq_true]at c
  case int=>exact qV (by simpa [iB,iC]using h)
  case tuple a o vs m xs hg hc hd hr =>
   unfold pyHash;refine PySem.W.pyHash_slot (T:= "tuple") ⟨_,hg,hc⟩ PySem.F.slot_tuple_hash PySem.F.entry_tuple_hash (PySem.F.args_tuple_hash_1 _) (beq_builtin_none _) (.inr ⋯) ?_;show wpAny _ _ (Builtin.Tuple.tupleItemsOf (.ref a) >>= _) _ _ s;refine zA (qG hg hd ?_);refine zA ?_;rw[←Array.forIn_toList];refine Rt n g xs vs.toList _ A.in1 s #[] _ c hr (by show A.units+1+n<cLine;omega) λb f=>?_;show wpAny _ _ (retInt (Builtin.Tuple.tupleHashOf b.toList)) _ _ _;rw[f];refine zA (wpAny_mkInt (zB ⟨_,_,rfl,?_⟩));have e:s.toks+gW xs+1=s.toks+iC (.tuple xs):=by simp[iC,Nat.add_assoc]
   simp only[iB]at h;rw[←e]at h;exact h
theorem Rq:∀(n m:Nat),n<m->∀{A:Around}{s:Shared}{v:Value}{d:PyData}{as:LA}{Q:Bool->Shared->Prop},tT n d=true->Reads s.heap v d as->Q true s->wpAny (model prog w) A (eqIsQuiet m v) Q E s:=by
 intro n
 induction n with
 |zero =>
  intro m _ A s v d as Q b r h;cases r <;> simp[tT]at b;rw[eqIsQuiet_byValue _ rfl];exact zB h
 | succ n t =>
  intro m x A s v d as Q b r h;cases r <;> simp only[tT,Bool.false_eq_true]at b
  case int=>rw[eqIsQuiet_byValue _ rfl];exact zB h
  case tuple a o vs k xs hg hc hd hr =>
   obtain⟨m,rfl⟩:∃j,m=j+1:=⟨m-1,⋯⟩;have l:s.TypeIs (.ref a) "tuple" := ⟨o,hg,hc⟩;unfold eqIsQuiet;refine zA (wpAny_specialOf l PySem.F.slot_tuple_eq.lookup ?_);show wpAny _ _ (isInstance (.ref a) (.type "tuple") >>= _) _ _ s;refine zA (vI l isSubtype_tuple_tuple ?_);simp only[Bool.not_true,Bool.false_eq_true,if_false];refine zA (wM hg hd ?_);refine zA ?_;show wpAny _ _ (forIn vs _ _) _ _ s;rw[←Array.forIn_toList];refine wpAny_forIn_list _ (λrest q c=>q.1=none/\c=s/\∃ys bs,ys.all (tT n)=true/\ReadsAll s.heap rest ys bs) _ ?_ ?_ _ _ ⟨rfl,rfl,xs,_,b,hr⟩
   ·rintro u rest q c ⟨f,rfl,ys,bs,e,p⟩;cases p with
    |cons g i =>
     rw[xG,zT]at e;refine zA (t m ⋯ e.1 g ?_);simp only[Bool.not_true,Bool.false_eq_true,if_false];exact zB ⟨rfl,rfl,_,_,e.2,i⟩
   ·rintro⟨g,i⟩ c ⟨f,rfl,_⟩;simp only at f;subst f;exact zB h
end
theorem Rp{h h':Heap}{x:Addr}{c:Obj}{es:Array DictEntry}{ep:Nat}(g:h.get? x=some c)(j:c.data=.dict es ep)(m:Heap.SameBut x h h'):∀(n:Nat){v:Value}{d:PyData}{as:LA},tT n d=true->Reads h v d as->Reads h' v d as:=by
 intro n
 induction n with
 |zero =>
  intro v d as b r;cases r <;> simp[tT]at b;exact .int _ _
 | succ n l =>
  have all:∀(xs:List PyData)(vs:LW)(as:LA),xs.all (tT n)=true->ReadsAll h vs xs as->ReadsAll h' vs xs as:=by
   intro xs
   induction xs with
   |nil=>intro vs as _ r;cases r;exact .nil
   | cons d ds p =>
    intro vs as b r;cases r with
    |cons e i =>
     rw[xG,zT]at b;exact .cons (l b.1 e) (p _ _ b.2 i)
  intro v d as b r;cases r <;> simp only[tT,Bool.false_eq_true]at b
  case int=>exact .int _ _
  case tuple a o vs k xs hg hc hdd hr =>
   have f:a≠x:=by
    rintro rfl;rw[g]at hg;cases hg;rw[j]at hdd;cases hdd
   exact .tuple ((m.2 a f).trans hg) hc hdd (all _ _ _ b hr)
def isT(h:Heap)(d:PyData)(a:Addr):Prop:=tT 4 d=true/\∃as,Reads h (.ref a) d as
def kF(prog:Program)(w:World):HeapKind prog w PyData where
 is:=isT
 hash:=iB
 draws:=iC
 room:=λA=>A.units+8<cLine
 inj:=λ{h a x y}hx hy=>by
  obtain⟨t1,as,r1⟩:=hx;obtain⟨t2,bs,r2⟩:=hy;exact tS _ _ _ _ _ (jZ 4 _ (gU 4 _ t1)).1 r1 r2
 keeps:=λ{h h' k a x o es ep}hk hx hd hs=>⟨hk.1,let ⟨as,r⟩:=hk.2;⟨as,Rp hx hd hs 4 hk.1 r⟩⟩
 pyHash:=λ{A E s k a Q}hu hk h=>let ⟨as,r⟩:=hk.2;Rr 4 hk.1 r ⋯ h
 eqBool:=λ{A E s x y a b Q}hu hx hy h=>by
  obtain⟨t1,as,r1⟩:=hx;obtain⟨t2,bs,r2⟩:=hy;have i1:=gU 4 _ t1;have i2:=gU 4 _ t2;have l1:=jZ 4 _ i1;have l2:=jZ 4 _ i2;refine PySem.SeqAt.eqBoolOverData _ _ _ _ _ _ _ _ _ _ _ _ r1 r2 l1.1 l2.1 ⋯ ?_;rw[←SeqAt.same_eq_eqv _ _ (aA 4 _ _ i1 i2)];have e:=aB 4 _ _ i1 i2
  by_cases z:x=y
  ·rw[zL z]at h;rw[e.mpr z];exact h
  ·rw[zP z]at h;have:same x y=false:=by
    cases q:same x y with
    |false=>rfl
    |true=>exact absurd (e.mp q) z
   rw[this];exact h
 quiet:=λ{A E s k a Q}hk h=>let ⟨as,r⟩:=hk.2;Rq 4 8 ∅ hk.1 r h
def mT(a:Addr)(xs:List (PyData×Addr×Value)):HO:=.ext λh=>∃o es ep,h.get? a=some o/\o.ExactDict/\o.data=.dict es ep/\es.toList=xs.map λx=>⟨iB x.1,.ref x.2.1,x.2.2⟩
theorem He{o:Option V}{u:Option Value}(h:RelO o u):o.isSome=u.isSome:=by
 cases o <;> cases u <;> first|rfl|exact h.elim
def vT(kvs:List (PyData×V))(k:PyData):Option V:=(kvs.find? λkv=>decide (kv.1=k)).map (·.2)
def pT(kvs:List (PyData×V))(k:PyData)(v:V):List (PyData×V):=if(vT kvs k).isSome=true then kvs.map (λkv=>if kv.1=k then(kv.1,v) else kv) else kvs++[(k,v)]
theorem gX{p:PyData×V}{r:List (PyData×V)}{k:PyData}(e:p.1=k):vT (p:: r) k=some p.2:=by simp[vT,List.find?_cons,e]
theorem gE{p:PyData×V}{r:List (PyData×V)}{k:PyData}(e:¬ p.1=k):vT (p:: r) k=vT r k:=by simp[vT,List.find?_cons,e]
abbrev KP(K:Frag)(H:Hp):List (PyData×V)->List (PyData×Addr×Value)->Prop:=Paired λp q=>p.1=q.1/\(tT 4 p.1=true/\Dt K H (.ref q.2.1) p.1)/\RelV p.2 q.2.2
structure DTr(K:Frag)(H:Hp)(a:Addr)(kvs:List (PyData×V)):Prop where
 len:kvs.length<=sizeLine
 sys:(a == sysModules)=false
 ex:∃xs,H a=some (mT a xs)/\(xs.map (·.1)).Nodup/\KP K H kvs xs
theorem KP.val{K:Frag}{H:Hp}{kvs:List (PyData×V)}{xs:List (PyData×Addr×Value)}(r:KP K H kvs xs)(k:PyData):RelO (vT kvs k) ((atKey xs k).map (·.2)):=by
 induction r with
 |nil=>exact True.intro
 | @cons p q ps a h i g =>
  obtain⟨c,_,f⟩:=h
  by_cases e:p.1=k
  ·have b:atKey (q:: a) k=some q.2:=by simp[atKey,List.find?_cons,c.symm.trans e]
   rw[gX e,b];exact f
  ·have d:¬ q.1=k:=λz=>e (c.trans z);have b:atKey (q:: a) k=atKey a k:=by simp[atKey,List.find?_cons,d]
   rw[gE e,b];exact g
theorem KP.put{K:Frag}{H:Hp}{kvs:List (PyData×V)}{xs:List (PyData×Addr×Value)}(r:KP K H kvs xs)(k:PyData){b:Addr}{y:V}{u:Value}(tk:tT 4 k=true)(f:Dt K H (.ref b) k)(c:RelV y u):KP K H (pT kvs k y) (storedH xs k b u):=by
 have e:(vT kvs k).isSome=(atKey xs k).isSome:=by rw[He (r.val k),Option.isSome_map]
 unfold pT storedH;rw[e]
 by_cases q:(atKey xs k).isSome=true
 ·rw[zJ q,zJ q];clear e q
  induction r with
  |nil=>exact .nil
  |@cons p q ps l h j i =>
   rw[zK,zK];refine .cons ?_ i;obtain⟨a,d,g⟩:=h;unfold putAt
   by_cases e:p.1=k
   ·rw[zJ e,zJ (a.symm.trans e)];exact⟨a,d,c⟩
   ·rw[zI e,zI (λz=>e (a.trans z))];exact⟨a,d,g⟩
 ·rw[zI q,zI q];exact vW r ⟨rfl,⟨tk,f⟩,c⟩
theorem mV{K:Frag}{H H':Hp}(g:∀b xs,SqT K H b xs->SqT K H' b xs):∀(n:Nat){x:V}{d:PyData},tT n d=true->Dt K H x d->Dt K H' x d:=by
 intro n
 induction n with
 |zero =>
  intro x d h r;cases r <;> simp[tT]at h;exact .int _
 | succ n f =>
  have all:∀(ds:List PyData)(xs:List V),ds.all (tT n)=true->Dts K H xs ds->Dts K H' xs ds:=by
   intro ds
   induction ds with
   |nil=>intro xs _ r;cases r;exact .nil
   | cons d ds i =>
    intro xs h r;cases r with
    |cons c e =>
     rw[xG,zT]at h;exact .cons (f h.1 c) (i _ h.2 e)
  intro x d h r;cases r <;> simp only[tT,Bool.false_eq_true]at h
  case int=>exact .int _
  case tup a xs ds hq hr=>exact .tup (g _ _ hq) (all _ _ h hr)
theorem Hd{K:Frag}{H:Hp}{a:Addr}{o:HO}(d:∀xs,¬ Rd H a (.tup xs)):∀b xs,SqT K H b xs->SqT K (upd H a o) b xs:=λb xs h=>by
 rcases h with h|h
 ·have c:b≠a:=λe=>d xs (e ▸ h);rcases h with h|⟨f,h⟩
  ·exact .inl (.inl (by rw[oU c];exact h))
  ·exact .inl (.inr ⟨f,by rw[oU c];exact h⟩)
 ·exact .inr h
theorem KP.keeps{K:Frag}{H H':Hp}{kvs:List (PyData×V)}{xs:List (PyData×Addr×Value)}(r:KP K H kvs xs)(a:∀b ys,SqT K H b ys->SqT K H' b ys):KP K H' kvs xs:=
 Paired.mapP r λ_ _ z=>⟨z.1,⟨z.2.1.1,mV a 4 z.2.1.1 z.2.1.2⟩,z.2.2⟩
theorem mH{K:Frag}{H H':Hp}(s:Same H H'):∀b xs,SqT K H b xs->SqT K H' b xs:=λb xs h=>by
 rcases h with(h|⟨o,h⟩)|h
 ·exact .inl (.inl (s _ _ h))
 ·exact .inl (.inr ⟨o,s _ _ h⟩)
 ·exact .inr h
theorem DTr.up{K:Frag}{H H':Hp}{a:Addr}{kvs:List (PyData×V)}(h:DTr K H a kvs)(s:Same H H'):DTr K H' a kvs:=by
 obtain⟨l,y,xs,e,n,r⟩:=h;exact⟨l,y,xs,s _ _ e,n,r.keeps (mH s)⟩
section
variable {X:Cx} {pins:PN} {σ:St} {H:Hp} {s:Shared} {a:Addr}
theorem gF{k:PyData}{b:Addr}(I:Inv X pins σ H s)(tk:tT 4 k=true)(c:Dt X.K H (.ref b) k):(kF X.prog X.w).is s.heap k b:=⟨tk,c.reads I rfl⟩
theorem iP{kvs:List (PyData×V)}(I:Inv X pins σ H s)(g:DTr X.K H a kvs):∃xs,H a=some (mT a xs)/\KP X.K H kvs xs/\s.heap.DictOfH (kF X.prog X.w) a xs:=by
 obtain⟨_,_,xs,e,n,r⟩:=g;obtain⟨⟨o,es,ep,j,f,i,d⟩,_⟩:=(show mK X.prog X.w H s.heap a (mT a xs) from I.hok a _ e);refine⟨xs,e,r,o,es,ep,j,f,i,d,λx b=>?_,n⟩;have all:∀{l:List (PyData×V)}{m:List (PyData×Addr×Value)},KP X.K H l m->∀x∈m,(kF X.prog X.w).is s.heap x.1 x.2.1:=by
  intro l m q
  induction q with
  |nil=>intro x b;exact nomatch b
  |@cons p q ps u c t k =>
   intro x b;rcases xE.mp b with e|b
   ·subst e;rw[←c.1];exact gF I c.2.1.1 c.2.1.2
   ·exact k x b
 exact all r x b
end
def aK(K:Frag):R2:=λx y H Q=>∃a kvs b k v,x=.ref a/\y=.ref b/\DTr K H a kvs/\tT 4 k=true/\Dt K H (.ref b) k/\vT kvs k=some v/\Q v H
def rInT(K:Frag)(neg:Bool):R2:=λy x H Q=>∃a kvs b k,x=.ref a/\y=.ref b/\DTr K H a kvs/\tT 4 k=true/\Dt K H (.ref b) k/\Q (.bl (if neg=true then !(vT kvs k).isSome else(vT kvs k).isSome)) H
def Ro(K:Frag):TSet:=λx y v H Q=>∃a kvs b k,x=.ref a/\y=.ref b/\DTr K H a kvs/\tT 4 k=true/\Dt K H (.ref b) k/\kvs.length<sizeLine/\∀H',(∀c o,c≠a->H c=some o->H' c=some o)->(∀c,c≠a->H' c=H c)->DTr K H' a (pT kvs k v)->Q H'
section
variable {X:Cx}
theorem ix_T(D:X.A.units+64<cLine):IxR X (aK X.K):=by
 intro F w C s σ H x y v u Q I o l h t;obtain⟨a,kvs,b,k,z,rfl,rfl,g,tk,j,n,q⟩:=h;cases o;cases l;obtain⟨xs,e,r,dd⟩:=iP I g;obtain⟨m,d,i⟩:=RelO.some_of (v:=z) (o:=(atKey xs k).map (·.2)) (by rw[←n];exact r.val k);obtain⟨p,f,c⟩:=Option.map_eq_some_iff.mp d;refine sV (x:=m) dd.typeIs PySem.F.slot_dict_getitem.lookup ?_ t;refine wpAny_getItem_heap (knd:=kF X.prog X.w) (show X.A.units+1+8<cLine by omega) (gF I tk j) dd f ⟨c,z,H,I.tok _,?_,q⟩;rw[c];exact i
theorem Hc(j:X.A.units+64<cLine):OpR X (compareOp .NotIn) (rInT X.K true):=by
 intro i s σ H x y v u Q I f d h;obtain⟨a,kvs,b,k,rfl,rfl,g,tk,c,q⟩:=h;cases f;cases d;obtain⟨xs,e,r,dd⟩:=iP I g;refine wpAny_notIn_heap (knd:=kF X.prog X.w) (show X.A.units+1+8<cLine by omega) (gF I tk c) g.sys dd ?_;have e:=He (r.val k);rw[Option.isSome_map]at e;rw[←e];exact⟨.bl _,H,I.tok _,rfl,q⟩
theorem Rn(kvs:List (PyData×V))(k:PyData)(v:V):(pT kvs k v).length<=kvs.length+1:=by
 unfold pT;split
 ·rw[yL];omega
 ·rw[zS];exact zE _
theorem aL{P:Program}{w:World}{H:Hp}{h:Heap}{a:Addr}{xs:List (PyData×Addr×Value)}{o:Obj}{es:Array DictEntry}{ep:Nat}(c:h.get? a=some o)(l:o.ExactDict)(j:o.data=.dict es ep)(d:es.toList=xs.map λx=>⟨iB x.1,.ref x.2.1,x.2.2⟩):mK P w H h a (mT a xs):=
 ⟨⟨o,es,ep,c,l,j,d⟩,⟨o,c⟩,λn m⟨b,e,f,g,i⟩k=>⟨b,e,f,k b g,i⟩⟩
theorem Cz(L:X.A.units+64<cLine):PSet X (Ro X.K):=by
 intro J s σ H o i v M K u Q I t C x h;obtain⟨a,kvs,b,k,rfl,rfl,g,tk,f,hl,q⟩:=h;cases t;cases C;obtain⟨xs,e,r,dd⟩:=iP I g;have p:xs.length<=sizeLine:=by rw[←Paired.length r];exact g.len
 have G:∀ys,¬ Rd H a (.tup ys):=λys z=>by
  rcases z with z|⟨l,z⟩
  ·rw[e]at z;cases z
  ·rw[e]at z;cases z
 refine wpAny_setItem_heap (knd:=kF X.prog X.w) (hsz:=p) (show X.A.units+1+8<cLine by omega) (gF I tk f) dd λh' m w=>?_;obtain⟨l,es,ep,j,F,n,D,_,y⟩:=m;refine⟨upd H a (mT a (storedH xs k b u)),I.write (x:=a) (e:=a) (by rw[e];exact True.intro) (.inl rfl) (λc o d z=>(w.2 c d).trans z) ⟨l,j⟩ (aL j F n D),?_⟩;refine q _ (λc o d z=>by rw[oU d];exact z) (λc d=>oU d) ⟨by have:=Rn kvs k v;omega,g.sys,_,oQ,y,(r.put k tk f x).keeps (Hd G)⟩
end
section
variable {X:Cx} {pos:Pos}
theorem Cy{a:PN}{σ:St}{H:Hp}{s:Shared}(I:Inv X a σ H s):sysModules<s.heap.objs.size:=
 Nat.lt_trans ∅ (show mainGlobals<s.heap.objs.size from(I.mod.glob.keeps I.bk).lt)
theorem Hb{P:Program}{w:World}{H:Hp}(h:Heap):mK P w H (h.push {cls:=.type "dict",data:=.dict #[]}) h.objs.size (mT h.objs.size []):=
 aL (es:=#[]) (ep:=0) (zQ _ rfl) ⟨rfl,rfl,rfl⟩ rfl rfl
theorem Ha{K:Frag}{H:Hp}{p:Addr}(a:(p == sysModules)=false)(e:H p=some (mT p [])):DTr K H p []:=⟨yV _,a,[],e,uV,.nil⟩
def Cv(K:Frag):TE:=λ_ H Q=>∀p,H p=none->DTr K (upd H p (mT p [])) p []->Q (.ref p) (upd H p (mT p []))
theorem Iz:PE X (.Dict [] [] pos) (Cv X.K):=λa s σ H Q I h =>
 wpAny_Dict_empty ⟨.ref s.heap.objs.size,_,I.laid (a:=s.heap.objs.size) (o:=mT s.heap.objs.size []) (t':=s.toks) (λ_ _ q=>zD _ q) (zE _) (Hb s.heap),rfl,
  h _ (I.hok.fresh (zE _)) (Ha (pV.mpr (zW (yD (Cy I)))) oQ)⟩
def Iy(K:Frag)(tk tv:TE):TE:=λσ H Q=>∀p,H p=none->tk σ (upd H p (mT p [])) λx H1=>tv σ H1 λy H2=>∃b d,x=.ref b/\tT 4 d=true/\Dt K H2 (.ref b) d/\H2 p=some (mT p [])/\∀H3,(∀c,c≠p->H3 c=H2 c)->DTr K H3 p [(d,y)]->Q (.ref p) H3
theorem Rm{k v:Expr}{tk p:TE}(a1:X.A.units+64<cLine)(G:PE X k tk)(N:PE X v p):PE X (.Dict [some k] [v] pos) (Iy X.K tk p):=by
 intro j s σ H Q I q;have K:=I.hok.fresh (zE s.heap.objs.size);have i:(s.heap.objs.size == sysModules)=false:=pV.mpr (zW (yD (Cy I)));have R:=I.laid (a:=s.heap.objs.size) (o:=mT s.heap.objs.size []) (h':=s.heap.push {cls:=.type "dict",data:=.dict #[]}) (t':=s.toks) (λ_ _ q=>zD _ q) (zE _) (Hb s.heap);rw[arm_eval_Dict,zip_pairTrees [some k] [v] X.env pos rfl rfl,dictDisplay_pairs (pairTrees [some k] [v] X.env pos) (by intro e;cases e) (show 1<17 by decide)];refine zA (tJ (zA ?_));unfold subDict;refine zA (wpAny_alloc ?_);refine zA (xU ?_);rw[zJ (show(pairTrees [some k] [v] X.env pos).length<=15 from(show 1<=15 by decide))];refine zA (pairTrees_cons_walk (thn (G j _ σ _ _ R (q _ K)) λu D⟨x,U,Y,S,F⟩=>thn (N j D σ U _ Y F) λC a0⟨y,m,f,L,b,d,M,g,l,e,V⟩=>pairTrees_nil_walk ?_));subst M;cases S;refine xU ?_;obtain⟨xs,a2,r,dd⟩:=iP f (Ha i e);cases r;refine zA ?_;rw[uG];refine zA (zA (wpAny_dictSet_heap (knd:=kF X.prog X.w) (hsz:=yV _) (show X.A.units+8<cLine by omega) (gF f g l) dd λh' w O=>zB ?_));refine zB (zB (zB (zB ?_)));obtain⟨t,es,ep,n,W,J,T,_,P⟩:=w;have Z:∀ys,¬ Rd m s.heap.objs.size (.tup ys):=λys z=>by
  rcases z with z|⟨t,z⟩
  ·rw[e]at z;cases z
  ·rw[e]at z;cases z
 refine⟨.ref s.heap.objs.size,upd m s.heap.objs.size (mT s.heap.objs.size (storedH [] d b C)),f.write (x:=s.heap.objs.size) (e:=s.heap.objs.size) (by rw[e];exact True.intro) (.inl rfl) (λc o a z=>(O.2 c a).trans z) ⟨t,n⟩ (aL n W J T),rfl,?_⟩;exact V _ (λc a=>oU a) ⟨by show 1<=sizeLine;decide,i,_,oQ,P,.cons ⟨rfl,⟨g,mV (Hd Z) 4 g l⟩,L⟩ .nil⟩
def Rl(K:Frag):V->List V->Hp->VK->Prop:=λx vs H Q=>∃a kvs b k,x=.ref a/\vs=[.ref b]/\DTr K H a kvs/\tT 4 k=true/\Dt K H (.ref b) k/\Q ((vT kvs k).getD .non) H
def tBMR(K:Frag)(r:V->List V->Hp->VK->Prop)(to:TE)(ta:TA):TE:=λσ H Q=>to σ H λx H1=>(∃a kvs,x=.ref a/\DTr K H1 a kvs)/\ta σ H1 λvs H2=>r x vs H2 Q
theorem Ix{T:String}{o e:Expr}{es:List Expr}{name:Str}{id:String}{d b:Pos}{k:TE}{j:TA}{r:V->List V->Hp->VK->Prop}(u:PlainAttrs "dict")(t:Slot "dict" name id)(J:typeOf (.builtin id)=pure (.type "method_descriptor"))(K:MtM X id r)(F:PE X o k)(w:PA X (e:: es) j)
  (l:attributeBase o name X.env (eval o X.env)=eval o X.env:=by rfl)
  (p:((backTo b (starEach (e:: es) X.env)).all (λx=>!x.1) && (backToKw b (keywordEach [] X.env)).all (λx=>x.1.isSome)
   && decide ((e:: es).length+([]:List Keyword).length+(if([]:List Keyword).isEmpty then 0 else 1)<30))=true:=by rfl)
  (M:(d.endLine == b.line)=true:=by rfl)(y:starEach (e:: es) X.env=(false,eval e X.env):: starEach es X.env:=by rfl)(D:(backTo b (starEach es X.env)).any (·.1)=false:=by rfl):
  PE X (.Call (.Attribute o name d) (e:: es) [] b) (tBMR X.K r k j):=by
 intro c s σ H Q I h;refine wpAny_Call_method_late l p M rfl (thn (F c s σ H _ I h) ?_);rintro v m ⟨x,L,f,C,ty,n⟩;obtain⟨a,kvs,rfl,g⟩:=ty;cases C;obtain⟨xs,P,r,dd⟩:=iP f g;refine⟨"dict",id,u,t,J,dd.typeIs,dictOfH_noDict dd,?_⟩;have i:=w b c m σ L _ f n;rw[y]at i ⊢;refine uM (by show(false || (backTo b (starEach es X.env)).any (·.1))=false;rw[D] <;> rfl) (rP ?_);exact thn i λus q⟨vs,z,O,G,N⟩=>K c q σ z (.ref a) vs _ us Q O rfl G N
theorem Iw{o:Option V}{u:Option Value}{d:V}{r:Value}(h:RelO o u)(a:RelV d r):RelV (o.getD d) (u.getD r):=by
 cases o <;> cases u <;> first|exact a|exact h.elim|exact h
theorem Rk(l:X.A.units+64<cLine):MtM X "dict.get" (Rl X.K):=by
 intro j s σ H x vs v us Q I i d h;obtain⟨a,kvs,b,k,rfl,rfl,g,tk,f,q⟩:=h;cases i;obtain⟨u,rfl,c⟩:=d.one;cases c;obtain⟨xs,e,r,dd⟩:=iP I g;refine pL uY dd.typeIs PySem.F.entry_dict_get (PySem.F.args_dict_get_2 _ _) (meetsH_dict_get (kF X.prog X.w) a b g.sys) ⟨show X.A.units+1+8<cLine by omega,k,xs,gF I tk f,dd,⟨_,H,I.tok _,?_,q⟩⟩;exact Iw (r.val k) rfl
end
noncomputable def kY:Bool->Keyed->Array Keyed->Nat->Nat->Nat->StateT SortSt Sem (Option Nat):=sortPriv%PySem.Builtin.gallop
noncomputable def gY(left:Bool)(key:Keyed)(arr:Array Keyed)(base i:Nat):StateT SortSt Sem (Option Bool):=do
 let x ←elem' arr (base+i)
 if left then lt' x key else return (←lt' key x).map (!·)
theorem Rj(left:Bool)(d:Keyed)(arr:Array Keyed)(c n a:Nat):kY left d arr c n a=(do
 let mut lastofs:=0
 let mut ofs:=1
 let mut lo:=0
 let mut hi:=0
 let some right ←gY left d arr c a|return none
 if right then
  let b:=n-a
  for _ in[0:n] do
   if ofs≥b then break
   let some more ←gY left d arr c (a+ofs)|return none
   if !more then break
   lastofs:=ofs
   ofs:=2*ofs+1
  lo:=a+lastofs+1
  hi:=a+min ofs b
 else
  let b:=a+1
  for _ in[0:n] do
   if ofs≥b then break
   let some found ←gY left d arr c (a-ofs)|return none
   if found then break
   lastofs:=ofs
   ofs:=2*ofs+1
  lo:=a+1-min ofs b
  hi:=a-lastofs
 for _ in[0:n] do
  if lo≥hi then break
  let m:=lo+(hi-lo)/2
  let some more ←gY left d arr c m|return none
  if more then lo:=m+1 else hi:=m
 return some hi):=rfl
section
variable {prog:Program} {w:World} {A:Around} {E:VP} {s:Shared} {κ:PyProof.Rows.KeyKind} {kd:SortKind}
def Cmp(prog:Program)(w:World)(A:Around)(s:Shared)(κ:PyProof.Rows.KeyKind)(kd:SortKind):Prop:=
 ∀(E:VP)(x y:Value)(a b:κ.α)(Q:Bool->Shared->Prop),κ.keyOf x=some a->κ.keyOf y=some b->Q (κ.blt a b) s->wpAny (model prog w) A (keyLt' kd x y) Q E s
noncomputable def ky(κ:PyProof.Rows.KeyKind)(p:Keyed):κ.α:=(κ.keyOf p.1).getD κ.dflt
def Gd(κ:PyProof.Rows.KeyKind)(p:Keyed):Prop:=∃a,κ.keyOf p.1=some a
def lq(κ:PyProof.Rows.KeyKind)(p q:Keyed):Bool:=κ.blt (ky κ p) (ky κ q)
theorem Iv{p:Keyed}(h:Gd κ p):κ.keyOf p.1=some (ky κ p):=by
 obtain⟨a,e⟩:=h;unfold ky;rw[e];rfl
theorem dW(c:Cmp prog w A s κ kd){st:SortSt}{x y:Keyed}{Q:Option Bool->SortSt->Prop}(a:kindOf st=kd)(b:Gd κ x)(d:Gd κ y)(h:Q (some (lq κ x y)) st):wpS (model prog w) A E s (lt' x y) Q st:=by
 rw[lt'_eq];refine zG (uT ?_);rw[a];refine zG (qE (vA (c _ x.1 y.1 _ _ _ (Iv b) (Iv d) ⟨rfl,?_⟩)));exact zH h
theorem lV{st:SortSt}{arr:Array Keyed}{i:Nat}{p:Keyed}{Q:Keyed->SortSt->Prop}(hi:arr[i]?=some p)(h:Q p st):wpS (model prog w) A E s (elem' arr i) Q st:=by
 rw[elem'_eq,hi];exact zH h
def bey(κ:PyProof.Rows.KeyKind)(left:Bool)(key p:Keyed):Bool:=if left=true then lq κ p key else !lq κ key p
theorem Ri(c:Cmp prog w A s κ kd){st:SortSt}{left:Bool}{a p:Keyed}{arr:Array Keyed}{b i:Nat}{Q:Option Bool->SortSt->Prop}(d:kindOf st=kd)(f:Gd κ a)(g:arr[b+i]?=some p)(e:Gd κ p)(h:Q (some (bey κ left a p)) st):
  wpS (model prog w) A E s (gY left a arr b i) Q st:=by
 unfold gY;refine zG (lV g ?_);unfold bey at h;cases left with
 |true =>
  rw[zJ rfl]at h ⊢;exact dW c d e f h
 |false =>
  rw[zI (by simp)]at h ⊢;exact zG (dW c d f e (zH h))
theorem Iu{st:SortSt}{n lo hi:Nat}{B:Nat->Bool}{f:Nat->StateT SortSt Sem (Option Bool)}{Q:Option Nat->SortSt->Prop}
  (o:∀(i:Nat)(R:Option Bool->SortSt->Prop),i<n->R (some (B i)) st->wpS (model prog w) A E s (f i) R st)(g:lo<=hi)(t:hi<=n)(mono:∀i j,i<=j->j<n->B j=true->B i=true)(q:∀i,i<lo->B i=true)(l:∀i,hi<=i->i<n->B i=false)
  (h:∀k,k<=n->(∀i,i<k->B i=true)->(∀i,k<=i->i<n->B i=false)->Q (some k) st):
  wpS (model prog w) A E s (do
   let mut lo:=lo
   let mut hi:=hi
   for _ in[0:n] do
    if lo≥hi then break
    let m:=lo+(hi-lo)/2
    let some more ←f m|return none
    if more then lo:=m+1 else hi:=m
   return some hi) Q st:=by
 refine zG (wP (xR (I:=λx c e=>e=st/\∃lo hi,c=(none,lo,hi)/\lo<=hi/\hi<=n/\hi-lo+x<=n/\(∀i,i<lo->B i=true)/\∀i,hi<=i->i<n->B i=false)
  (Q:=λc e=>e=st/\∃k,c=(none,k,k)/\k<=n/\(∀i,i<k->B i=true)/\∀i,k<=i->i<n->B i=false) ?_ ?_ ⟨rfl,lo,hi,rfl,g,t,⋯,q,l⟩) ?_)
 ·rintro x c e _ v ⟨rfl,lo,hi,rfl,u,a,r,d,b⟩;dsimp only
  by_cases hl:lo≥hi
  ·rw[zJ hl];exact zH ⟨rfl,hi,by rw[show lo=hi by omega],a,λi hi'=>d i ⋯,b⟩
  ·rw[zI hl];refine zG (o _ _ ⋯ ?_);dsimp only;cases hb:B (lo+(hi-lo)/2) with
   |true =>
    rw[zJ rfl];refine zH ⟨rfl,_,_,rfl,⋯,a,⋯,λi hi'=>?_,b⟩;exact mono i _ ⋯ ⋯ hb
   |false =>
    rw[zI (by simp)];refine zH ⟨rfl,_,_,rfl,⋯,⋯,⋯,d,λi hi' p=>?_⟩;cases hbi:B i with
    |false=>rfl
    |true=>rw[mono _ i hi' p hbi]at hb;cases hb
 ·rintro c e ⟨rfl,lo,hi,rfl,u,a,r,d,b⟩;have:lo=hi:=⋯
  subst this;exact⟨rfl,lo,rfl,a,d,b⟩
 ·rintro c e ⟨rfl,k,rfl,a,d,b⟩;exact zH (h k a d b)
theorem dX(G:Cmp prog w A s κ kd){st:SortSt}{left:Bool}{q:Keyed}{arr:Array Keyed}{t n b:Nat}{B:Nat->Bool}{Q:Option Nat->SortSt->Prop}(C:kindOf st=kd)(J:Gd κ q)(y:b<n)
  (F:∀i,i<n->∃p,arr[t+i]?=some p/\Gd κ p/\bey κ left q p=B i)(mono:∀i j,i<=j->j<n->B j=true->B i=true)
  (h:∀k,k<=n->(∀i,i<k->B i=true)->(∀i,k<=i->i<n->B i=false)->Q (some k) st):wpS (model prog w) A E s (kY left q arr t n b) Q st:=by
 have m:∀(i:Nat)(R:Option Bool->SortSt->Prop),i<n->R (some (B i)) st->wpS (model prog w) A E s (gY left q arr t i) R st:=λi R hi r=>by
  obtain⟨p,e1,D,I⟩:=F i hi;exact Ri G C J e1 D (by rw[I];exact r)
 rw[Rj];refine zG (m b _ y ?_);dsimp only;cases hh:B b with
 | true =>
  rw[zJ rfl];refine zG (wP (xR (I:=λx c e=>e=st/\∃lo a,c=(none,lo,a)/\x+1<=a/\lo<a/\b+lo<n/\B (b+lo)=true)
   (Q:=λc e=>e=st/\∃lo a,c=(none,lo,a)/\lo<a/\b+lo<n/\B (b+lo)=true/\(n-b<=a\/(b+a<n/\B (b+a)=false))) ?_ ?_ ⟨rfl,0,1,rfl,zE _,⋯,y,hh⟩) ?_)
  ·rintro x c e _ z ⟨rfl,lo,a,rfl,v,g,f,d⟩;dsimp only
   by_cases hl:a≥n-b
   ·rw[zJ hl];exact zH ⟨rfl,lo,a,rfl,g,f,d,.inl hl⟩
   ·rw[zI hl];refine zG (m _ _ ⋯ ?_);dsimp only;cases hb:B (b+a) with
    |true =>
     rw[zI (by simp)];exact zH ⟨rfl,_,_,rfl,⋯,⋯,⋯,hb⟩
    |false =>
     rw[zJ ∅];exact zH ⟨rfl,lo,a,rfl,g,f,d,.inr ⟨⋯,hb⟩⟩
  ·rintro c e ⟨rfl,lo,a,rfl,v,g,f,d⟩;exact⟨rfl,lo,a,rfl,g,f,d,.inl ⋯⟩
  ·rintro c e ⟨rfl,lo,a,rfl,g,f,d,l⟩;dsimp only;refine Iu (lo:=b+lo+1) (hi:=b+min a (n-b)) m ⋯ ⋯ mono (λi hi=>mono i _ ⋯ f d) (λi hi u=>?_) h;rcases l with l|⟨l,o⟩
   ·omega
   ·cases hbi:B i with
    |false=>rfl
    |true=>rw[mono _ i ⋯ u hbi]at o;cases o
 | false =>
  rw[zI (by simp)];refine zG (wP (xR (I:=λx c e=>e=st/\∃lo a,c=(none,lo,a)/\x+1<=a/\lo<a/\lo<=b/\B (b-lo)=false)
   (Q:=λc e=>e=st/\∃lo a,c=(none,lo,a)/\lo<a/\lo<=b/\B (b-lo)=false/\(b+1<=a\/(a<=b/\B (b-a)=true))) ?_ ?_ ⟨rfl,0,1,rfl,zE _,⋯,yV _,hh⟩) ?_)
  ·rintro x c e _ z ⟨rfl,lo,a,rfl,v,g,f,d⟩;dsimp only
   by_cases hl:a≥b+1
   ·rw[zJ hl];exact zH ⟨rfl,lo,a,rfl,g,f,d,.inl hl⟩
   ·rw[zI hl];refine zG (m _ _ ⋯ ?_);dsimp only;cases hb:B (b-a) with
    |true =>
     rw[zJ rfl];exact zH ⟨rfl,lo,a,rfl,g,f,d,.inr ⟨⋯,hb⟩⟩
    |false =>
     rw[zI (by simp)];exact zH ⟨rfl,_,_,rfl,⋯,⋯,⋯,hb⟩
  ·rintro c e ⟨rfl,lo,a,rfl,v,g,f,d⟩;exact⟨rfl,lo,a,rfl,g,f,d,.inl ⋯⟩
  ·rintro c e ⟨rfl,lo,a,rfl,g,f,d,l⟩;dsimp only;refine Iu (lo:=b+1-min a (b+1)) (hi:=b-lo) m ⋯ ⋯ mono (λi hi=>?_) (λi hi u=>?_) h
   ·rcases l with l|⟨l,o⟩
    ·omega
    ·exact mono i _ ⋯ ⋯ o
   ·cases hbi:B i with
    |false=>rfl
    |true=>rw[mono _ i ⋯ u hbi]at d;cases d
end
section
variable {κ:PyProof.Rows.KeyKind}
def le'(κ:PyProof.Rows.KeyKind)(x y:Keyed):Prop:=lq κ y x=false
theorem lN{x y z:Keyed}(b:le' κ x y)(a:le' κ y z):le' κ x z:=KeyOrd.kle_trans (O:=κ.toKeyOrd) b a
theorem lW{x y:Keyed}(h:lq κ x y=true):le' κ x y:=KeyOrd.klt_asymm (O:=κ.toKeyOrd) h
theorem iQ(x:Keyed):le' κ x x:=κ.irrefl _
abbrev Srt(κ:PyProof.Rows.KeyKind)(l:List Keyed):Prop:=l.Pairwise (le' κ)
structure MI(κ:PyProof.Rows.KeyKind)(A B out:List Keyed)(ia ib:Nat):Prop where
 pm:out.Perm (A.take ia++B.take ib)
 so:Srt κ out
 oa:∀x∈out,∀y∈A.drop ia,le' κ x y
 ob:∀x∈out,∀y∈B.drop ib,le' κ x y
theorem MI.symm{A B out:List Keyed}{ia ib:Nat}(h:MI κ A B out ia ib):MI κ B A out ib ia:=⟨h.pm.trans vO,h.so,h.ob,h.oa⟩
theorem Rh{A:List Keyed}{i k:Nat}:A.take (i+k)=A.take i++(A.drop i).take k:=by rw[qL]
theorem MI.ext{A B out:List Keyed}{ia ib k:Nat}(h:MI κ A B out ia ib)(e:Srt κ A)(d:∀x∈(A.drop ia).take k,∀y∈B.drop ib,le' κ x y):MI κ A B (out++(A.drop ia).take k) (ia+k) ib:=by
 have c:Srt κ (A.drop ia):=uX (sT _ _) e;have cut:(A.drop ia).take k++A.drop (ia+k)=A.drop ia:=by rw[←pF];exact wB _ _
 have sp:=oC.mp (show Srt κ ((A.drop ia).take k++A.drop (ia+k)) by rw[cut];exact c);refine⟨?_,oC.mpr ⟨h.so,sp.1,λx b y a=>h.oa x b y (rX a)⟩,λx b y a=>?_,λx b y a=>?_⟩
 ·rw[Rh,yU];refine(h.pm.append_right _).trans ?_;rw[yU];exact rK _ vO
 ·rcases pY.mp b with q|q
  ·exact h.oa x q y (by rw[←cut];exact yN _ a)
  ·exact sp.2.2 x q y a
 ·rcases pY.mp b with q|q
  ·exact h.ob x q y a
  ·exact d x q y a
theorem aM{A:List Keyed}{i:Nat}{p:Keyed}(e:A[i]?=some p):A.drop i=p:: A.drop (i+1):=by
 obtain⟨h,rfl⟩:=oB.mp e;exact tO h
theorem MI.push{A B out:List Keyed}{ia ib:Nat}{p:Keyed}(h:MI κ A B out ia ib)(d:Srt κ A)(e:A[ia]?=some p)(c:∀y∈B.drop ib,le' κ p y):MI κ A B (out++[p]) (ia+1) ib:=by
 have:=MI.ext (k:=1) h d (λx a y f=>by
  rw[aM e]at a;have b:x=p:=by simpa using a
  rw[b];exact c y f)
 rw[aM e]at this;simpa using this
theorem fU{A:List Keyed}{i:Nat}{p q:Keyed}(d:Srt κ A)(e:A[i]?=some q)(h:le' κ p q):∀y∈A.drop i,le' κ p y:=λy a=>by
 have b:Srt κ (A.drop i):=uX (sT _ _) d;rw[aM e]at a b;rcases xE.mp a with c|a
 ·rw[c];exact h
 ·exact lN h ((List.pairwise_cons.mp b).1 y a)
def Res(κ:PyProof.Rows.KeyKind)(A B r:List Keyed):Prop:=r.Perm (A++B)/\Srt κ r
theorem MI.all{A B out:List Keyed}{ia ib:Nat}(h:MI κ A B out ia ib)(b:Srt κ A)(a:B.length<=ib):Res κ A B (out++A.drop ia):=by
 refine⟨?_,oC.mpr ⟨h.so,uX (sT _ _) b,h.oa⟩⟩;have:=h.pm;rw[wV a]at this;refine(this.append_right _).trans ?_;rw[yU];refine(rK _ vO).trans ?_;rw[←yU,wB]
theorem Res.symm{A B r:List Keyed}(h:Res κ A B r):Res κ B A r:=⟨h.1.trans vO,h.2⟩
theorem MI.last{A B out:List Keyed}{ia ib:Nat}{p:Keyed}(h:MI κ A B out ia ib)(b:Srt κ B)(e:A[ia]?=some p)(hl:ia+1=A.length)(c:∀y∈B,le' κ y p):Res κ A B (out++B.drop ib++A.drop ia):=by
 have a:A.drop ia=[p]:=by rw[aM e,sW ⋯]
 rw[a];refine⟨?_,oC.mpr ⟨oC.mpr ⟨h.so,uX (sT _ _) b,h.ob⟩,List.pairwise_singleton _ _,λx g y f=>?_⟩⟩
 ·have d:A=A.take ia++[p]:=by rw[←a,wB]
  have:=(h.pm.append_right (B.drop ib)).append_right [p];refine this.trans ?_;rw[yU (A.take ia),wB,yU]
  conv=>rhs;rw[d]
  rw[yU];exact rK _ vO
 ·rw[pW.mp f];rcases pY.mp g with q|q
  ·exact h.oa x q p (by rw[a];exact List.mem_singleton_self _)
  ·exact c x (List.mem_of_mem_drop q)
theorem Cu(a:Array Keyed)(i j:Nat):(a.extract i (i+j)).toList=(a.toList.drop i).take j:=by simp[Array.toList_extract,List.extract_eq_take_drop]
theorem fV(a:Array Keyed)(i:Nat):(a.extract i a.size).toList=a.toList.drop i:=by
 simp only[Array.toList_extract,List.extract_eq_take_drop];exact wV (by rw[tG,zN];exact zE _)
end
section
variable {prog:Program} {w:World} {A:Around} {E:VP} {s:Shared} {κ:PyProof.Rows.KeyKind} {kd:SortKind}
structure MG(κ:PyProof.Rows.KeyKind)(a b:Array Keyed):Prop where
 sa:Srt κ a.toList
 sb:Srt κ b.toList
 ga:∀p∈a.toList,Gd κ p
 gb:∀p∈b.toList,Gd κ p
 na:1<=a.size
 nb:1<=b.size
 top:∀p,a[a.size-1]?=some p->∀y∈b.toList,le' κ y p
 fst:∀p q,b[0]?=some p->a[0]?=some q->le' κ p q
structure Sm(st st':SortSt):Prop where
 k:kindOf st'=kindOf st
 a:arrOf st'=arrOf st
 p:pendingOf st'=pendingOf st
 f:failedOf st'=failedOf st
theorem Sm.refl(st:SortSt):Sm st st:=⟨rfl,rfl,rfl,rfl⟩
theorem Sm.set{st a:SortSt}(h:Sm st a)(g:Nat):Sm st (SortSt.mk' (kindOf a) (arrOf a) (pendingOf a) g (failedOf a)):=⟨h.k,h.a,h.p,h.f⟩
theorem nA{a:Array Keyed}{i:Nat}{p:Keyed}:a[i]?=some p↔a.toList[i]?=some p:=by rw[yT]
theorem mW{a:Array Keyed}{i:Nat}(h:i<a.size):∃p,a[i]?=some p:=⟨a[i],vV h⟩
theorem kG{st:SortSt}{arr:Array Keyed}{i:Nat}{Q:Keyed->SortSt->Prop}(hi:i<arr.size)(h:∀p,arr[i]?=some p->Q p st):wpS (model prog w) A E s (elem' arr i) Q st:=by
 obtain⟨p,e⟩:=mW hi;exact lV e (h p e)
theorem gG{l:List Keyed}(d:Srt κ l){i j:Nat}{p q:Keyed}(h:i<=j)(e1:l[i]?=some p)(a:l[j]?=some q):le' κ p q:=by
 rcases uR i j with h'|h'
 ·obtain⟨c,rfl⟩:=oB.mp e1;obtain⟨b,rfl⟩:=oB.mp a;exact List.pairwise_iff_getElem.mp d i j c b h'
 ·have:i=j:=⋯
  subst this;rw[e1]at a;cases a;exact iQ _
theorem Ct{l:List Keyed}{i:Nat}{x:Keyed}(h:x∈l.drop i):∃j,i<=j/\l[j]?=some x:=by
 obtain⟨j,a,rfl⟩:=wT h;exact⟨i+j,⋯,by rw[←tV];exact xV a⟩
theorem fW{l:List Keyed}{i k:Nat}{x:Keyed}(h:x∈(l.drop i).take k):∃j,j<k/\l[i+j]?=some x:=by
 obtain⟨j,a,rfl⟩:=wT h;rw[xF]at a;refine⟨j,⋯,?_⟩;rw[←tV,List.getElem_take];exact xV ⋯
theorem Rg(g:Cmp prog w A s κ kd){st:SortSt}{a:Array Keyed}{ia:Nat}{p:Keyed}{Q:Option Nat->SortSt->Prop}(n:kindOf st=kd)(f:Srt κ a.toList)(m:∀x∈a.toList,Gd κ x)(z:Gd κ p)(F:ia<a.size)
  (h:∀k,ia+k<=a.size->(∀x∈(a.toList.drop ia).take k,le' κ x p)->(∀y∈a.toList.drop (ia+k),lq κ p y=true)->Q (some k) st):wpS (model prog w) A E s (kY false p a ia (a.size-ia) 0) Q st:=by
 refine dX g (B:=λi=>!lq κ p (a.getD (ia+i) p)) n z ⋯ (λi hi=>?_) (λi j D b d=>?_) λk C u v=>h k ⋯ (λx l=>?_) λy o=>?_
 ·obtain⟨q,e⟩:=mW (a:=a) (i:=ia+i) ⋯;refine⟨q,e,m q (yK (nA.mp e)),?_⟩;rw[show a.getD (ia+i) p=q by simp[Array.getD_eq_getD_getElem?,e]];rfl
 ·obtain⟨q,e⟩:=mW (a:=a) (i:=ia+i) ⋯;obtain⟨r,c⟩:=mW (a:=a) (i:=ia+j) ⋯;rw[show a.getD (ia+j) p=r by simp[Array.getD_eq_getD_getElem?,c]]at d;rw[show a.getD (ia+i) p=q by simp[Array.getD_eq_getD_getElem?,e]];have l1:le' κ r p:=by unfold le';simpa using d
  have:=lN (gG f (show ia+i<=ia+j by omega) (nA.mp e) (nA.mp c)) l1;unfold le' at this;rw[this];rfl
 ·obtain⟨j,b,e⟩:=fW l;have:=u j b;rw[show a.getD (ia+j) p=x by simp[Array.getD_eq_getD_getElem?,nA.mpr e]]at this;unfold le';simpa using this
 ·obtain⟨j,b,e⟩:=Ct o;have t:=(oB.mp e).1;rw[zN]at t;have:=v (j-ia) ⋯ ⋯;rw[show ia+(j-ia)=j by omega,show a.getD j p=y by simp[Array.getD_eq_getD_getElem?,nA.mpr e]]at this;simpa using this
theorem aN(g:Cmp prog w A s κ kd){st:SortSt}{b:Array Keyed}{ib c:Nat}{q:Keyed}{n:Nat}{Q:Option Nat->SortSt->Prop}(t:kindOf st=kd)(y:Srt κ b.toList)(m:∀x∈b.toList,Gd κ x)(l:Gd κ q)(C:ib+n<=b.size)(hh:c<n)
  (h:∀k,k<=n->(∀i x,i<k->b[ib+i]?=some x->lq κ x q=true)->(∀i x,k<=i->i<n->b[ib+i]?=some x->le' κ q x)->Q (some k) st):wpS (model prog w) A E s (kY true q b ib n c) Q st:=by
 refine dX g (B:=λi=>lq κ (b.getD (ib+i) q) q) t l hh (λi hi=>?_) (λi j z D d=>?_) λk f v o=>h k f (λi x hi e=>?_) λi x hi u e=>?_
 ·obtain⟨p,e⟩:=mW (a:=b) (i:=ib+i) ⋯;refine⟨p,e,m p (yK (nA.mp e)),?_⟩;rw[show b.getD (ib+i) q=p by simp[Array.getD_eq_getD_getElem?,e]];rfl
 ·obtain⟨p,e⟩:=mW (a:=b) (i:=ib+i) ⋯;obtain⟨r,a⟩:=mW (a:=b) (i:=ib+j) ⋯;rw[show b.getD (ib+j) q=r by simp[Array.getD_eq_getD_getElem?,a]]at d;rw[show b.getD (ib+i) q=p by simp[Array.getD_eq_getD_getElem?,e]];exact KeyOrd.klt_of_kle_of_klt (O:=κ.toKeyOrd) (gG y (show ib+i<=ib+j by omega) (nA.mp e) (nA.mp a)) d
 ·have:=v i hi;rw[show b.getD (ib+i) q=x by simp[Array.getD_eq_getD_getElem?,e]]at this;exact this
 ·have:=o i hi u;rw[show b.getD (ib+i) q=x by simp[Array.getD_eq_getD_getElem?,e]]at this;exact this
end
noncomputable def Cs:Array Keyed->Array Keyed->StateT SortSt Sem (Array Keyed):=sortPriv%PySem.Builtin.mergeLo
noncomputable def dY:Nat->StateT SortSt Sem Unit:=sortPriv%PySem.Builtin.setMinGallop
theorem Rf(a b:Array Keyed):Cs a b=(do
 rule "list.sort.merge-lo"
 let d:=a.size+b.size
 let done (out:Array Keyed) (ia ib:Nat):=out++a.extract ia a.size++b.extract ib b.size
 let c (out:Array Keyed) (ia ib:Nat):=out++b.extract ib b.size++a.extract ia a.size
 let mut out:Array Keyed:=#[←elem' b 0]
 let mut ia:=0
 let mut ib:=1
 if ib == b.size then return done out ia ib
 if ia+1 == a.size then return c out ia ib
 let mut minGallop:=gallopOf (←get)
 for _ in[0:d] do
  let mut acount:=0
  let mut bcount:=0
  for _ in[0:d] do
   let some bWins ←lt' (←elem' b ib) (←elem' a ia)|return done out ia ib
   if bWins then
    out:=out.push (←elem' b ib);ib:=ib+1;bcount:=bcount+1;acount:=0
    if ib == b.size then return done out ia ib
    if bcount≥minGallop then break
   else
    out:=out.push (←elem' a ia);ia:=ia+1;acount:=acount+1;bcount:=0
    if ia+1 == a.size then return c out ia ib
    if acount≥minGallop then break
  rule "list.sort.gallop"
  minGallop:=minGallop+1
  for _ in[0:d] do
   if minGallop > 1 then minGallop:=minGallop-1
   dY minGallop
   let some k ←kY false (←elem' b ib) a ia (a.size-ia) 0|return done out ia ib
   acount:=k
   if k > 0 then
    out:=out++a.extract ia (ia+k);ia:=ia+k
    if ia+1 == a.size then return c out ia ib
    if ia == a.size then return done out ia ib
   out:=out.push (←elem' b ib);ib:=ib+1
   if ib == b.size then return done out ia ib
   let some k ←kY true (←elem' a ia) b ib (b.size-ib) 0|return done out ia ib
   bcount:=k
   if k > 0 then
    out:=out++b.extract ib (ib+k);ib:=ib+k
    if ib == b.size then return done out ia ib
   out:=out.push (←elem' a ia);ia:=ia+1
   if ia+1 == a.size then return c out ia ib
   if acount<7 && bcount<7 then break
  minGallop:=minGallop+1
  dY minGallop
 unsupported "internal:list.sort.merge-bound"):=rfl
theorem aO(g:Nat):dY g=modify λs=>SortSt.mk' (kindOf s) (arrOf s) (pendingOf s) g (failedOf s):=rfl
section
variable {prog:Program} {w:World} {A:Around} {E:VP} {s:Shared} {κ:PyProof.Rows.KeyKind} {kd:SortKind}
theorem fX{a b out:Array Keyed}{ia ib:Nat}(G:MG κ a b)(h:MI κ a.toList b.toList out.toList ia ib)(c:b.size<=ib):Res κ a.toList b.toList (out++a.extract ia a.size++b.extract ib b.size).toList:=by
 rw[yQ,yQ,fV,fV,sW (as:=b.toList) (by rw[zN];exact c),uJ];exact h.all G.sa (by rw[zN];exact c)
theorem Re{a b out:Array Keyed}{ia ib:Nat}(G:MG κ a b)(h:MI κ a.toList b.toList out.toList ia ib)(c:a.size<=ia):Res κ a.toList b.toList (out++a.extract ia a.size++b.extract ib b.size).toList:=by
 rw[yQ,yQ,fV,fV,sW (as:=a.toList) (by rw[zN];exact c),uJ];exact(h.symm.all G.sb (by rw[zN];exact c)).symm
theorem gZ{a b out:Array Keyed}{ia ib:Nat}(G:MG κ a b)(h:MI κ a.toList b.toList out.toList ia ib)(c:ia+1=a.size):Res κ a.toList b.toList (out++b.extract ib b.size++a.extract ia a.size).toList:=by
 rw[yQ,yQ,fV,fV];obtain⟨p,e⟩:=mW (a:=a) (i:=ia) ⋯;exact h.last G.sb (nA.mp e) (by rw[zN];exact c) (G.top p (by rw[show a.size-1=ia by omega];exact e))
theorem aP{a b out:Array Keyed}{ia ib:Nat}{p:Keyed}(G:MG κ a b)(h:MI κ a.toList b.toList out.toList ia ib)(e:b[ib]?=some p)(c:∀y∈a.toList.drop ia,le' κ p y):MI κ a.toList b.toList (out.push p).toList ia (ib+1):=by
 rw[uQ];exact(h.symm.push G.sb (nA.mp e) c).symm
theorem dZ{a b out:Array Keyed}{ia ib:Nat}{p:Keyed}(G:MG κ a b)(h:MI κ a.toList b.toList out.toList ia ib)(e:a[ia]?=some p)(c:∀y∈b.toList.drop ib,le' κ p y):MI κ a.toList b.toList (out.push p).toList (ia+1) ib:=by
 rw[uQ];exact h.push G.sa (nA.mp e) c
theorem Rc{a b out:Array Keyed}{ia ib k:Nat}{p:Keyed}(G:MG κ a b)(h:MI κ a.toList b.toList out.toList ia ib)(e:b[ib]?=some p)(d:∀x∈(a.toList.drop ia).take k,le' κ x p):MI κ a.toList b.toList (out++a.extract ia (ia+k)).toList (ia+k) ib:=by
 rw[yQ,Cu];exact h.ext G.sa λx c y f=>lN (d x c) (fU G.sb (nA.mp e) (iQ p) y f)
theorem Ir{a b out:Array Keyed}{ia ib k:Nat}{p:Keyed}(G:MG κ a b)(h:MI κ a.toList b.toList out.toList ia ib)(e:a[ia]?=some p)(d:∀x∈(b.toList.drop ib).take k,le' κ x p):MI κ a.toList b.toList (out++b.extract ib (ib+k)).toList ia (ib+k):=by
 rw[yQ,Cu];exact(h.symm.ext G.sb λx c y f=>lN (d x c) (fU G.sa (nA.mp e) (iQ p) y f)).symm
theorem Cr{a out:Array Keyed}{i:Nat}:out++a.extract i (i+0)=out:=by simp;omega
theorem nF{b:Type}{c:Prop}[Decidable c]{a e:StateT SortSt Sem b}{Q:b->SortSt->Prop}{st:SortSt}(f:c->wpS (model prog w) A E s a Q st)(d:¬ c->wpS (model prog w) A E s e Q st):wpS (model prog w) A E s (if c then a else e) Q st:=by
 by_cases h:c
 ·rw[zJ h];exact f h
 ·rw[zI h];exact d h
theorem Iq{b:Type}{c:Nat->Prop}[∀m,Decidable (c m)]{a F:Nat->StateT SortSt Sem b}{Q:b->SortSt->Prop}{st:SortSt}(h:∀m,wpS (model prog w) A E s (F m) Q st)(e:∀m,F (m-1)=a m)(m:Nat):wpS (model prog w) A E s (if c m then a m else F m) Q st:=nF (λ_=>by rw[←e];exact h _) λ_=>h m
theorem Rb(S:Cmp prog w A s κ kd){st:SortSt}{a b:Array Keyed}{Q:Array Keyed->SortSt->Prop}(O:kindOf st=kd)(G:MG κ a b)
  (h:∀r m,Sm st m->Res κ a.toList b.toList r.toList->Q r m):wpS (model prog w) A E s (Cs a b) Q st:=by
 have b8:=G.na;have c3:=G.nb;have T:∀i p,a[i]?=some p->Gd κ p:=λi p e=>G.ga p (yK (nA.mp e));have a5:∀i p,b[i]?=some p->Gd κ p:=λi p e=>G.gb p (yK (nA.mp e));rw[Rf];refine zG (qE (wX ⟨rfl,?_⟩));refine zG (kG ⋯ λa6 a8=>?_);dsimp only;obtain⟨a9,a4⟩:=mW (a:=a) (i:=0) ⋯;have a1:MI κ a.toList b.toList (#[a6]:Array Keyed).toList 0 1:=by
  have:=aP (out:=#[]) (ia:=0) (ib:=0) G ⟨by simp,List.Pairwise.nil,λx I=>by simp at I,λx I=>by simp at I⟩ a8 (fU G.sa (nA.mp a4) (G.fst a6 a9 a8 a4));simpa using this
 by_cases P:(1 == b.size)=true
 ·rw[zJ P];exact zH (h _ _ (Sm.refl _) (fX G a1 (by have:=yS P;omega)))
 rw[zI P];have c2:1≠b.size:=λe=>P (pU.mpr e)
 by_cases R:(0+1 == a.size)=true
 ·rw[zJ R];exact zH (h _ _ (Sm.refl _) (gZ G a1 (by have:=yS R;omega)))
 rw[zI R];have c0:0+1≠a.size:=λe=>R (pU.mpr e);refine zG (uT ?_);refine zG (wP (xR (I:=λx c m=>Sm st m/\E4 λ(out:Array Keyed)(ia ib t:Nat)=>A5 (c=(none,out,ia,ib,t)) (MI κ a.toList b.toList out.toList ia ib) (ia+1<a.size) (ib<b.size) (x+1<=ia+ib))
  (Q:=λc m=>Sm st m/\∃r J,c=(some r,J)/\Res κ a.toList b.toList r.toList) ?_ ?_ ⟨Sm.refl _,_,_,_,_,rfl,a1,⋯,⋯,⋯⟩) ?_)
 ·rintro x c a0 _ I ⟨sm,out,ia,ib,t,rfl,l,lia,d,v⟩;dsimp only;refine zG (wP (xR (I:=λy c m=>Sm st m/\E5 λ(out:Array Keyed)(ia ib n o:Nat)=>A6 (c=(none,out,ia,ib,n,o)) (MI κ a.toList b.toList out.toList ia ib) (ia+1<a.size) (ib<b.size) (x+1<=ia+ib) (1<=y->x+2<=ia+ib))
   (Q:=λc m=>Sm st m/\((∃r J,c=(some r,J)/\Res κ a.toList b.toList r.toList)\/E5 λ(out:Array Keyed)(ia ib n o:Nat)=>A5 (c=(none,out,ia,ib,n,o)) (MI κ a.toList b.toList out.toList ia ib) (ia+1<a.size) (ib<b.size) (x+2<=ia+ib))) ?_ ?_ ⟨sm,out,ia,ib,0,0,rfl,l,lia,d,v,⋯⟩) ?_)
  ·rintro y c a7 _ F ⟨sm,out,ia,ib,n,o,rfl,l,lia,d,v,_⟩;dsimp only;refine zG (kG d λp e=>?_);refine zG (kG (show ia<a.size by omega) λq f=>?_);refine zG (dW S (by rw[sm.k];exact O) (a5 _ _ e) (T _ _ f) ?_);dsimp only;cases hl:lq κ p q with
   |true =>
    rw[zJ rfl];have K:=aP G l e (fU G.sa (nA.mp f) (lW hl));refine zG (lV e ?_)
    by_cases D:(ib+1 == b.size)=true
    ·rw[zJ D];exact zH ⟨sm,.inl ⟨_,_,rfl,fX G K (by have:=yS D;omega)⟩⟩
    rw[zI D];have b3:ib+1≠b.size:=λe=>D (pU.mpr e);split
    ·exact zH ⟨sm,.inr ⟨_,_,_,_,_,rfl,K,lia,⋯,⋯⟩⟩
    ·exact zH ⟨sm,_,_,_,_,_,rfl,K,lia,⋯,⋯,⋯⟩
   |false =>
    rw[zI (by simp)];have K:=dZ G l f (fU G.sb (nA.mp e) hl);refine zG (lV f ?_)
    by_cases D:(ia+1+1 == a.size)=true
    ·rw[zJ D];exact zH ⟨sm,.inl ⟨_,_,rfl,gZ G K (by have:=yS D;omega)⟩⟩
    rw[zI D];have b3:ia+1+1≠a.size:=λe=>D (pU.mpr e);split
    ·exact zH ⟨sm,.inr ⟨_,_,_,_,_,rfl,K,⋯,d,⋯⟩⟩
    ·exact zH ⟨sm,_,_,_,_,_,rfl,K,⋯,d,⋯,⋯⟩
  ·rintro c a7 ⟨sm,out,ia,ib,n,o,rfl,l,lia,d,v,b4⟩;exact⟨sm,.inr ⟨_,_,_,_,_,rfl,l,lia,d,b4 ⋯⟩⟩
  ·rintro c a7 ⟨sm,⟨r,J,rfl,M⟩|⟨out,ia,ib,n,o,rfl,l,lia,d,v⟩⟩
   ·exact zH ⟨sm,_,_,rfl,M⟩
   dsimp only;refine zG (qE (wX ⟨rfl,?_⟩));refine zG (wP (xR (I:=λy c m=>Sm st m/\E6 λ(out:Array Keyed)(ia ib t n o:Nat)=>A5 (c=(none,out,ia,ib,t,n,o)) (MI κ a.toList b.toList out.toList ia ib) (ia+1<a.size) (ib<b.size) (x+2<=ia+ib))
    (Q:=λc m=>Sm st m/\((∃r J,c=(some r,J)/\Res κ a.toList b.toList r.toList)\/E6 λ(out:Array Keyed)(ia ib t n o:Nat)=>A5 (c=(none,out,ia,ib,t,n,o)) (MI κ a.toList b.toList out.toList ia ib) (ia+1<a.size) (ib<b.size) (x+2<=ia+ib))) ?_ ?_ ⟨sm,_,_,_,_,_,_,rfl,l,lia,d,v⟩) ?_)
   ·rintro y c a3 _ F ⟨sm,out,ia,ib,t,n,o,rfl,l,lia,d,v⟩;dsimp only
    revert t
    refine Iq (λt=>?_) λ_=>rfl;rw[aO];refine zG (wY ?_);refine zG (kG (arr:=b) d λp e=>?_);refine zG (Rg S (show kindOf _=kd from sm.k.trans O) G.sa G.ga (a5 _ _ e) (show ia<a.size by omega) λk c1 b1 V=>?_);have mk:=Rc G l e b1;dsimp only;refine nF (λb6=>?_) λb6=>?_
    ·refine nF (λz=>?_) λz=>?_
     ·exact zH ⟨sm.set _,.inl ⟨_,_,rfl,gZ G mk (yS z)⟩⟩
     have b9:ia+k+1≠a.size:=λe=>z (pU.mpr e);refine nF (λy=>?_) λy=>?_
     ·exact zH ⟨sm.set _,.inl ⟨_,_,rfl,Re G mk (by have:=yS y;omega)⟩⟩
     have b7:ia+k≠a.size:=λe=>y (pU.mpr e);have N:=aP G mk e λy F=>lW (V y F);refine zG (lV e ?_);refine nF (λz=>?_) λz=>?_
     ·exact zH ⟨sm.set _,.inl ⟨_,_,rfl,fX G N (by have:=yS z;omega)⟩⟩
     have b5:ib+1≠b.size:=λe=>z (pU.mpr e);refine zG (kG (arr:=a) (i:=(ia+k)) ⋯ λq f=>?_);refine zG (aN S (show kindOf _=kd from sm.k.trans O) G.sb G.gb (T _ _ f) (show ib+1+(b.size-(ib+1))<=b.size by omega) ⋯ λk2 b2 Z a2=>?_);have u:=Ir (k:=k2) G N f λx I=>by
      obtain⟨j,L,C⟩:=fW I;exact lW (Z j x L (nA.mpr C))
     have nx:∀y∈b.toList.drop (ib+1+k2),le' κ q y:=λy F=>by
      obtain⟨j,L,C⟩:=Ct F;have U:=(oB.mp C).1;rw[zN]at U;exact a2 (j-(ib+1)) y ⋯ ⋯ (by rw[show ib+1+(j-(ib+1))=j by omega];exact nA.mpr C)
     dsimp only;refine nF (λX=>?_) λX=>?_
     ·refine nF (λz=>?_) λz=>?_
      ·exact zH ⟨sm.set _,.inl ⟨_,_,rfl,fX G u (by have:=yS z;omega)⟩⟩
      have b0:ib+1+k2≠b.size:=λe=>z (pU.mpr e);have g:=dZ G u f nx;refine zG (lV f ?_);refine nF (λz=>?_) λz=>?_
      ·exact zH ⟨sm.set _,.inl ⟨_,_,rfl,gZ G g (yS z)⟩⟩
      have Y:(ia+k)+1+1≠a.size:=λe=>z (pU.mpr e);refine nF (λ_=>?_) λ_=>?_
      ·exact zH ⟨sm.set _,.inr ⟨_,_,_,_,_,_,rfl,g,⋯,⋯,⋯⟩⟩
      ·exact zH ⟨sm.set _,_,_,_,_,_,_,rfl,g,⋯,⋯,⋯⟩
     ·have W:k2=0:=⋯
      subst W;rw[Cr]at u;simp only[Nat.add_zero]at u nx;have g:=dZ G u f nx;refine zG (lV f ?_);refine nF (λz=>?_) λz=>?_
      ·exact zH ⟨sm.set _,.inl ⟨_,_,rfl,gZ G g (yS z)⟩⟩
      have Y:(ia+k)+1+1≠a.size:=λe=>z (pU.mpr e);refine nF (λ_=>?_) λ_=>?_
      ·exact zH ⟨sm.set _,.inr ⟨_,_,_,_,_,_,rfl,g,⋯,⋯,⋯⟩⟩
      ·exact zH ⟨sm.set _,_,_,_,_,_,_,rfl,g,⋯,⋯,⋯⟩
    ·have k0:k=0:=⋯
     subst k0;rw[Cr]at mk;simp only[Nat.add_zero]at mk V;have N:=aP G mk e λy F=>lW (V y F);refine zG (lV e ?_);refine nF (λz=>?_) λz=>?_
     ·exact zH ⟨sm.set _,.inl ⟨_,_,rfl,fX G N (by have:=yS z;omega)⟩⟩
     have b5:ib+1≠b.size:=λe=>z (pU.mpr e);refine zG (kG (arr:=a) (i:=ia) ⋯ λq f=>?_);refine zG (aN S (show kindOf _=kd from sm.k.trans O) G.sb G.gb (T _ _ f) (show ib+1+(b.size-(ib+1))<=b.size by omega) ⋯ λk2 b2 Z a2=>?_);have u:=Ir (k:=k2) G N f λx I=>by
      obtain⟨j,L,C⟩:=fW I;exact lW (Z j x L (nA.mpr C))
     have nx:∀y∈b.toList.drop (ib+1+k2),le' κ q y:=λy F=>by
      obtain⟨j,L,C⟩:=Ct F;have U:=(oB.mp C).1;rw[zN]at U;exact a2 (j-(ib+1)) y ⋯ ⋯ (by rw[show ib+1+(j-(ib+1))=j by omega];exact nA.mpr C)
     dsimp only;refine nF (λX=>?_) λX=>?_
     ·refine nF (λz=>?_) λz=>?_
      ·exact zH ⟨sm.set _,.inl ⟨_,_,rfl,fX G u (by have:=yS z;omega)⟩⟩
      have b0:ib+1+k2≠b.size:=λe=>z (pU.mpr e);have g:=dZ G u f nx;refine zG (lV f ?_);refine nF (λz=>?_) λz=>?_
      ·exact zH ⟨sm.set _,.inl ⟨_,_,rfl,gZ G g (yS z)⟩⟩
      have Y:ia+1+1≠a.size:=λe=>z (pU.mpr e);refine nF (λ_=>?_) λ_=>?_
      ·exact zH ⟨sm.set _,.inr ⟨_,_,_,_,_,_,rfl,g,⋯,⋯,⋯⟩⟩
      ·exact zH ⟨sm.set _,_,_,_,_,_,_,rfl,g,⋯,⋯,⋯⟩
     ·have W:k2=0:=⋯
      subst W;rw[Cr]at u;simp only[Nat.add_zero]at u nx;have g:=dZ G u f nx;refine zG (lV f ?_);refine nF (λz=>?_) λz=>?_
      ·exact zH ⟨sm.set _,.inl ⟨_,_,rfl,gZ G g (yS z)⟩⟩
      have Y:ia+1+1≠a.size:=λe=>z (pU.mpr e);refine nF (λ_=>?_) λ_=>?_
      ·exact zH ⟨sm.set _,.inr ⟨_,_,_,_,_,_,rfl,g,⋯,⋯,⋯⟩⟩
      ·exact zH ⟨sm.set _,_,_,_,_,_,_,rfl,g,⋯,⋯,⋯⟩
   ·rintro c a3 ⟨sm,out,ia,ib,t,n,o,rfl,l,lia,d,v⟩;exact⟨sm,.inr ⟨_,_,_,_,_,_,rfl,l,lia,d,v⟩⟩
   ·rintro c a3 ⟨sm,⟨r,J,rfl,M⟩|⟨out,ia,ib,t,n,o,rfl,l,lia,d,v⟩⟩
    ·exact zH ⟨sm,_,_,rfl,M⟩
    dsimp only;rw[aO];refine zG (wY (zH ⟨sm.set _,_,_,_,_,rfl,l,lia,d,⋯⟩))
 ·rintro c a0 ⟨sm,out,ia,ib,t,rfl,l,lia,d,v⟩;omega
 ·rintro c a0 ⟨sm,r,J,rfl,M⟩;exact zH (h r a0 sm M)
end
noncomputable def Cq:Array Keyed->Array Keyed->StateT SortSt Sem (Array Keyed):=sortPriv%PySem.Builtin.mergeHi
theorem Ra(a b:Array Keyed):Cq a b=(do
 rule "list.sort.merge-hi"
 let d:=a.size+b.size
 let done (out:Array Keyed) (na nb:Nat):=a.extract 0 na++b.extract 0 nb++out.reverse
 let c (out:Array Keyed) (na nb:Nat):=b.extract 0 nb++a.extract 0 na++out.reverse
 let mut na:=a.size-1
 let mut nb:=b.size
 let mut out:Array Keyed:=#[←elem' a na]
 if na == 0 then return done out na nb
 if nb == 1 then return c out na nb
 let mut minGallop:=gallopOf (←get)
 for _ in[0:d] do
  let mut acount:=0
  let mut bcount:=0
  for _ in[0:d] do
   let some aWins ←lt' (←elem' b (nb-1)) (←elem' a (na-1))|return done out na nb
   if aWins then
    na:=na-1;out:=out.push (←elem' a na);acount:=acount+1;bcount:=0
    if na == 0 then return done out na nb
    if acount≥minGallop then break
   else
    nb:=nb-1;out:=out.push (←elem' b nb);bcount:=bcount+1;acount:=0
    if nb == 1 then return c out na nb
    if bcount≥minGallop then break
  rule "list.sort.gallop"
  minGallop:=minGallop+1
  for _ in[0:d] do
   if minGallop > 1 then minGallop:=minGallop-1
   dY minGallop
   let some at_ ←kY false (←elem' b (nb-1)) a 0 na (na-1)|return done out na nb
   let k:=na-at_
   acount:=k
   if k > 0 then
    out:=out++(a.extract at_ na).reverse;na:=at_
    if na == 0 then return done out na nb
   nb:=nb-1;out:=out.push (←elem' b nb)
   if nb == 1 then return c out na nb
   let some at_ ←kY true (←elem' a (na-1)) b 0 nb (nb-1)|return done out na nb
   let k:=nb-at_
   bcount:=k
   if k > 0 then
    out:=out++(b.extract at_ nb).reverse;nb:=at_
    if nb == 1 then return c out na nb
    if nb == 0 then return done out na nb
   na:=na-1;out:=out.push (←elem' a na)
   if na == 0 then return done out na nb
   if acount<7 && bcount<7 then break
  minGallop:=minGallop+1
  dY minGallop
 unsupported "internal:list.sort.merge-bound"):=rfl
noncomputable def revK(κ:PyProof.Rows.KeyKind):PyProof.Rows.KeyKind where
 α:=κ.α
 blt:=λa b=>κ.blt b a
 irrefl:=κ.irrefl
 trans:=λa b c h1 h2=>κ.trans c b a h2 h1
 negTrans:=λa b c h=>(κ.negTrans c b a h).symm
 total:=λa b h1 h2=>κ.total a b h2 h1
 keyOf:=κ.keyOf
 dflt:=κ.dflt
section
variable {prog:Program} {w:World} {A:Around} {E:VP} {s:Shared} {κ:PyProof.Rows.KeyKind} {kd:SortKind}
theorem Ip{x y:Keyed}:le' (revK κ) x y↔le' κ y x:=Iff.rfl
theorem fA{l:List Keyed}(h:Srt κ l):Srt (revK κ) l.reverse:=List.pairwise_reverse.mpr h
theorem Sz{l:List Keyed}(h:Srt (revK κ) l):Srt κ l.reverse:=List.pairwise_reverse.mpr h
def MH(κ:PyProof.Rows.KeyKind)(a b out:Array Keyed)(na nb:Nat):Prop:=MI (revK κ) a.toList.reverse b.toList.reverse out.toList (a.size-na) (b.size-nb)
theorem Cp{a:Array Keyed}{n:Nat}{p:Keyed}(h:n<a.size)(e:a[n]?=some p):a.toList.reverse[a.size-(n+1)]?=some p:=by
 rw[rJ (by rw[zN];omega),zN,show a.size-1-(a.size-(n+1))=n by omega];exact nA.mp e
theorem fY{a:Array Keyed}{n:Nat}(h:n<=a.size):a.toList.reverse.drop (a.size-n)=(a.toList.take n).reverse:=by
 rw[List.drop_reverse,zN,show a.size-(a.size-n)=n by omega]
theorem aQ{a:Array Keyed}{n:Nat}{y:Keyed}(h:n<=a.size)(b:y∈a.toList.reverse.drop (a.size-n)):∃i,i<n/\a[i]?=some y:=by
 rw[fY h]at b;obtain⟨i,hi,e⟩:=wT (oG.mp b);rw[xF]at hi;refine⟨i,⋯,?_⟩;rw[nA,←e,List.getElem_take];exact xV _
theorem Co{a b r:Array Keyed}{l:List Keyed}(e:r.toList.reverse=l)(h:Res (revK κ) a.toList.reverse b.toList.reverse l):Res κ a.toList b.toList r.toList:=by
 subst e;refine⟨?_,?_⟩
 ·refine(qQ r.toList).symm.trans (h.1.trans ?_);exact((qQ _).append (qQ _))
 ·have:=Sz h.2
  rwa[List.reverse_reverse]at this
theorem fZ{a:Array Keyed}{n:Nat}:(a.extract 0 n).toList=a.toList.take n:=by
 have:=Cu a 0 n;rw[wW,List.drop_zero]at this;exact this
theorem fB{a b out:Array Keyed}{c:Nat}(G:MG κ a b)(h:MH κ a b out 0 c)(d:c<=b.size):Res κ a.toList b.toList (a.extract 0 0++b.extract 0 c++out.reverse).toList:=by
 refine Co (l:=out.toList++b.toList.reverse.drop (b.size-c)) ?_ ((MI.symm h).all (fA G.sb) (by simp)).symm;rw[yQ,yQ,fZ,fZ,fY d,tF];simp
theorem Io{a b out:Array Keyed}{c:Nat}(G:MG κ a b)(h:MH κ a b out c 0)(d:c<=a.size):Res κ a.toList b.toList (a.extract 0 c++b.extract 0 0++out.reverse).toList:=by
 refine Co (l:=out.toList++a.toList.reverse.drop (a.size-c)) ?_ (MI.all h (fA G.sa) (by simp));rw[yQ,yQ,fZ,fZ,fY d,tF];simp
theorem eA{a b out:Array Keyed}{c:Nat}(G:MG κ a b)(h:MH κ a b out c 1)(d:c<=a.size):Res κ a.toList b.toList (b.extract 0 1++a.extract 0 c++out.reverse).toList:=by
 have g:=G.nb;obtain⟨p,e⟩:=mW (a:=b) (i:=0) ⋯;obtain⟨q,f⟩:=mW (a:=a) (i:=0) (by have:=G.na;omega);refine Co (l:=out.toList++a.toList.reverse.drop (a.size-c)++b.toList.reverse.drop (b.size-1)) ?_ (Res.symm ((MI.symm h).last (fA G.sa) (Cp ⋯ e) (by rw[List.length_reverse,zN];omega) λy i=>?_))
 ·rw[yQ,yQ,fZ,fZ,fY d,fY g,tF];simp
 ·exact fU G.sa (nA.mp f) (G.fst p q e f) y (by simpa using oG.mp i)
theorem eE{a b out:Array Keyed}{c d:Nat}{p:Keyed}(G:MG κ a b)(h:MH κ a b out (c+1) d)(k:c<a.size)(g:d<=b.size)(e:a[c]?=some p)(f:∀i y,i<d->b[i]?=some y->le' κ y p):MH κ a b (out.push p) c d:=by
 unfold MH at h ⊢;rw[uQ,show a.size-c=a.size-(c+1)+1 by omega];exact MI.push h (fA G.sa) (Cp k e) λy j=>by
  obtain⟨i,hi,l⟩:=aQ g j;exact f i y hi l
theorem Cn{a b out:Array Keyed}{d c:Nat}{p:Keyed}(G:MG κ a b)(h:MH κ a b out d (c+1))(j:c<b.size)(k:d<=a.size)(e:b[c]?=some p)(f:∀i y,i<d->a[i]?=some y->le' κ y p):MH κ a b (out.push p) d c:=by
 unfold MH at h ⊢;rw[uQ,show b.size-c=b.size-(c+1)+1 by omega];exact(MI.push (MI.symm h) (fA G.sb) (Cp j e) λy g=>by
  obtain⟨i,hi,l⟩:=aQ k g;exact f i y hi l).symm
theorem Im{a:Array Keyed}{n m:Nat}(h:n<=a.size)(b:m<=n):(a.extract m n).reverse.toList=(a.toList.reverse.drop (a.size-n)).take (n-m):=by
 rw[fY h,tF,List.take_reverse,xF,zN,show min n a.size-(n-m)=m by omega];simp only[Array.toList_extract,List.extract_eq_take_drop];rw[List.drop_take]
theorem Sy{a b out:Array Keyed}{c d m:Nat}{p:Keyed}(G:MG κ a b)(h:MH κ a b out c d)(q:c<=a.size)(g:m<=c)(l:d<=b.size)(t:0<d)(e:b[d-1]?=some p)(k:∀i x,m<=i->i<c->a[i]?=some x->le' κ p x):MH κ a b (out++(a.extract m c).reverse) m d:=by
 unfold MH at h ⊢;rw[yQ,Im q g,show a.size-m=a.size-c+(c-m) by omega];refine MI.ext h (fA G.sa) λx o y n=>?_;obtain⟨i,hi,r⟩:=aQ l n;obtain⟨j,u,f⟩:=fW o;rw[rJ (by rw[zN];omega),zN]at f;have l1:le' κ y p:=gG G.sb (show i<=d-1 by omega) (nA.mp r) (nA.mp e);exact Ip.mpr (lN l1 (k _ x ⋯ ⋯ (nA.mpr f)))
theorem Il{a b out:Array Keyed}{d c m:Nat}{p:Keyed}(G:MG κ a b)(h:MH κ a b out d c)(q:c<=b.size)(g:m<=c)(l:d<=a.size)(t:0<d)(e:a[d-1]?=some p)(k:∀i x,m<=i->i<c->b[i]?=some x->le' κ p x):MH κ a b (out++(b.extract m c).reverse) d m:=by
 unfold MH at h ⊢;rw[yQ,Im q g,show b.size-m=b.size-c+(c-m) by omega];refine(MI.ext (MI.symm h) (fA G.sb) λx o y n=>?_).symm;obtain⟨i,hi,r⟩:=aQ l n;obtain⟨j,u,f⟩:=fW o;rw[rJ (by rw[zN];omega),zN]at f;have l1:le' κ y p:=gG G.sa (show i<=d-1 by omega) (nA.mp r) (nA.mp e);exact Ip.mpr (lN l1 (k _ x ⋯ ⋯ (nA.mpr f)))
theorem Sx(g:Cmp prog w A s κ kd){st:SortSt}{b:Array Keyed}{ib c:Nat}{q:Keyed}{n:Nat}{Q:Option Nat->SortSt->Prop}(t:kindOf st=kd)(y:Srt κ b.toList)(m:∀x∈b.toList,Gd κ x)(l:Gd κ q)(C:ib+n<=b.size)(hh:c<n)
  (h:∀k,k<=n->(∀i x,i<k->b[ib+i]?=some x->le' κ x q)->(∀i x,k<=i->i<n->b[ib+i]?=some x->lq κ q x=true)->Q (some k) st):wpS (model prog w) A E s (kY false q b ib n c) Q st:=by
 refine dX g (B:=λi=>!lq κ q (b.getD (ib+i) q)) t l hh (λi hi=>?_) (λi j z D d=>?_) λk f v o=>h k f (λi x hi e=>?_) λi x hi u e=>?_
 ·obtain⟨p,e⟩:=mW (a:=b) (i:=ib+i) ⋯;refine⟨p,e,m p (yK (nA.mp e)),?_⟩;rw[show b.getD (ib+i) q=p by simp[Array.getD_eq_getD_getElem?,e]];rfl
 ·obtain⟨p,e⟩:=mW (a:=b) (i:=ib+i) ⋯;obtain⟨r,a⟩:=mW (a:=b) (i:=ib+j) ⋯;rw[show b.getD (ib+j) q=r by simp[Array.getD_eq_getD_getElem?,a]]at d;rw[show b.getD (ib+i) q=p by simp[Array.getD_eq_getD_getElem?,e]];have l1:le' κ r q:=by unfold le';simpa using d
  have:=lN (gG y (show ib+i<=ib+j by omega) (nA.mp e) (nA.mp a)) l1;unfold le' at this;rw[this];rfl
 ·have:=v i hi;rw[show b.getD (ib+i) q=x by simp[Array.getD_eq_getD_getElem?,e]]at this;unfold le';simpa using this
 ·have:=o i hi u;rw[show b.getD (ib+i) q=x by simp[Array.getD_eq_getD_getElem?,e]]at this;simpa using this
theorem Cm{a out:Array Keyed}{n:Nat}:out++(a.extract n n).reverse=out:=by simp;omega
theorem Sw(Z:Cmp prog w A s κ kd){st:SortSt}{a b:Array Keyed}{Q:Array Keyed->SortSt->Prop}(Y:kindOf st=kd)(G:MG κ a b)
  (h:∀r C,Sm st C->Res κ a.toList b.toList r.toList->Q r C):wpS (model prog w) A E s (Cq a b) Q st:=by
 have c6:=G.na;have c5:=G.nb;have a0:∀i p,a[i]?=some p->Gd κ p:=λi p e=>G.ga p (yK (nA.mp e));have a6:∀i p,b[i]?=some p->Gd κ p:=λi p e=>G.gb p (yK (nA.mp e));rw[Ra];refine zG (qE (wX ⟨rfl,?_⟩));refine zG (kG ⋯ λa7 b0=>?_);dsimp only;have W:MH κ a b #[a7] (a.size-1) b.size:=by
  have b6:MH κ a b #[] (a.size-1+1) b.size:=by
   unfold MH;rw[show a.size-(a.size-1+1)=0 by omega,uW];exact⟨by simp,List.Pairwise.nil,λx X=>by simp at X,λx X=>by simp at X⟩
  exact eE G b6 ⋯ (zE _) b0 λi y _ l=>G.top a7 b0 y (yK (nA.mp l))
 refine nF (λz=>?_) λz=>?_
 ·have j:=yS z;rw[j]at W ⊢;exact zH (h _ _ (Sm.refl _) (fB G W (zE _)))
 have b3:a.size-1≠0:=λe=>z (pU.mpr e);refine nF (λy=>?_) λy=>?_
 ·have b8:=yS y;refine zH (h _ _ (Sm.refl _) ?_);rw[b8]at W ⊢;exact eA G W ⋯
 have c4:b.size≠1:=λe=>y (pU.mpr e);refine zG (uT ?_);refine zG (wP (xR (I:=λx c C=>Sm st C/\E4 λ(g d:Nat)(out:Array Keyed)(I:Nat)=>A7 (c=(none,g,d,out,I)) (MH κ a b out g d) (0<g) (g<a.size) (1<d) (d<=b.size) (x+g+d<a.size+b.size))
  (Q:=λc C=>Sm st C/\∃r L,c=(some r,L)/\Res κ a.toList b.toList r.toList) ?_ ?_ ⟨Sm.refl _,_,_,_,_,rfl,W,⋯,⋯,⋯,⋯,⋯⟩) ?_)
 ·rintro x c a3 _ X ⟨sm,g,d,out,I,rfl,t,l1,l2,J,v,K⟩;dsimp only;refine zG (wP (xR (I:=λy c C=>Sm st C/\E5 λ(g d:Nat)(out:Array Keyed)(D F:Nat)=>A8 (c=(none,g,d,out,D,F)) (MH κ a b out g d) (0<g) (g<a.size) (1<d) (d<=b.size) (x+g+d<a.size+b.size) (1<=y->x+1+g+d<a.size+b.size))
   (Q:=λc C=>Sm st C/\((∃r L,c=(some r,L)/\Res κ a.toList b.toList r.toList)\/E5 λ(g d:Nat)(out:Array Keyed)(D F:Nat)=>A7 (c=(none,g,d,out,D,F)) (MH κ a b out g d) (0<g) (g<a.size) (1<d) (d<=b.size) (x+1+g+d<a.size+b.size))) ?_ ?_ ⟨sm,g,d,out,0,0,rfl,t,l1,l2,J,v,K,⋯⟩) ?_)
  ·rintro y c a8 _ c0 ⟨sm,g,d,out,D,F,rfl,t,l1,l2,J,v,K,_⟩;obtain⟨n,rfl⟩:∃n,g=n+1:=⟨g-1,⋯⟩;obtain⟨m,rfl⟩:∃m,d=m+1:=⟨d-1,⋯⟩;dsimp only;refine zG (kG (arr:=b) (i:=m+1-1) ⋯ λp e=>?_);refine zG (kG (arr:=a) (i:=n+1-1) ⋯ λq f=>?_);refine zG (dW Z (by rw[sm.k];exact Y) (a6 _ _ e) (a0 _ _ f) ?_);dsimp only;cases hl:lq κ p q with
   |true =>
    rw[zJ rfl];have M:=eE G t (show n<a.size by omega) ⋯ f λi y hi l=>lN (gG G.sb (show i<=m by omega) (nA.mp l) (nA.mp e)) (lW hl);refine zG (lV f ?_);refine nF (λz=>?_) λz=>?_
    ·have j:n=0:=yS z;subst j;exact zH ⟨sm,.inl ⟨_,_,rfl,fB G M ⋯⟩⟩
    have b9:n≠0:=λe=>z (pU.mpr e);refine nF (λ_=>?_) λ_=>?_
    ·exact zH ⟨sm,.inr ⟨n,m+1,_,_,_,rfl,M,⋯,⋯,⋯,⋯,⋯⟩⟩
    ·exact zH ⟨sm,n,m+1,_,_,_,rfl,M,⋯,⋯,⋯,⋯,⋯,⋯⟩
   |false =>
    rw[zI (by simp)];have M:=Cn G t (show m<b.size by omega) ⋯ e λi y hi l=>lN (gG G.sa (show i<=n by omega) (nA.mp l) (nA.mp f)) hl;refine zG (lV e ?_);refine nF (λz=>?_) λz=>?_
    ·have j:m=1:=yS z;subst j;exact zH ⟨sm,.inl ⟨_,_,rfl,eA G M ⋯⟩⟩
    have b9:m≠1:=λe=>z (pU.mpr e);refine nF (λ_=>?_) λ_=>?_
    ·exact zH ⟨sm,.inr ⟨n+1,m,_,_,_,rfl,M,⋯,⋯,⋯,⋯,⋯⟩⟩
    ·exact zH ⟨sm,n+1,m,_,_,_,rfl,M,⋯,⋯,⋯,⋯,⋯,⋯⟩
  ·rintro c a8 ⟨sm,g,d,out,D,F,rfl,t,l1,l2,J,v,K,c2⟩;exact⟨sm,.inr ⟨_,_,_,_,_,rfl,t,l1,l2,J,v,c2 ⋯⟩⟩
  ·rintro c a8 ⟨sm,⟨r,L,rfl,S⟩|⟨g,d,out,D,F,rfl,t,l1,l2,J,v,K⟩⟩
   ·exact zH ⟨sm,_,_,rfl,S⟩
   dsimp only;refine zG (qE (wX ⟨rfl,?_⟩));refine zG (wP (xR (I:=λy c C=>Sm st C/\E6 λ(g d:Nat)(out:Array Keyed)(I D F:Nat)=>A7 (c=(none,g,d,out,I,D,F)) (MH κ a b out g d) (0<g) (g<a.size) (1<d) (d<=b.size) (x+1+g+d<a.size+b.size))
    (Q:=λc C=>Sm st C/\((∃r L,c=(some r,L)/\Res κ a.toList b.toList r.toList)\/E6 λ(g d:Nat)(out:Array Keyed)(I D F:Nat)=>A7 (c=(none,g,d,out,I,D,F)) (MH κ a b out g d) (0<g) (g<a.size) (1<d) (d<=b.size) (x+1+g+d<a.size+b.size))) ?_ ?_ ⟨sm,_,_,_,_,_,_,rfl,t,l1,l2,J,v,K⟩) ?_)
   ·rintro y c a5 _ c0 ⟨sm,g,d,out,I,D,F,rfl,t,l1,l2,J,v,K⟩;dsimp only
    revert I
    refine Iq (λI=>?_) λ_=>rfl;rw[aO];refine zG (wY ?_);refine zG (kG (arr:=b) (i:=d-1) ⋯ λp e=>?_);refine zG (Sx Z (show kindOf _=kd from sm.k.trans Y) G.sa G.ga (a6 _ _ e) (show 0+g<=a.size by omega) ⋯ λk b4 a9 b7=>?_);have mk:=Sy (m:=k) G t ⋯ b4 v ⋯ e λi x hi P R=>lW (b7 i x hi P (by rw[wW];exact R));dsimp only;refine nF (λb1=>?_) λb1=>?_
    ·refine nF (λz=>?_) λz=>?_
     ·have j:k=0:=yS z;subst j;exact zH ⟨sm.set _,.inl ⟨_,_,rfl,fB G mk v⟩⟩
     have b3:k≠0:=λe=>z (pU.mpr e)
     -- the other's last comes out
     obtain⟨m,rfl⟩:∃m,d=m+1:=⟨d-1,⋯⟩;have U:=Cn G mk (show m<b.size by omega) ⋯ e λi y hi l=>a9 i y hi (by rw[wW];exact l);refine zG (lV (show b[m+1-1]?=some p from e) ?_);refine nF (λz=>?_) λz=>?_
     ·have j:m=1:=yS z;subst j;exact zH ⟨sm.set _,.inl ⟨_,_,rfl,eA G U ⋯⟩⟩
     have c3:m≠1:=λe=>z (pU.mpr e);have b2:0<m:=⋯
     refine zG (kG (arr:=a) (i:=k-1) ⋯ λq f=>?_);refine zG (aN Z (show kindOf _=kd from sm.k.trans Y) G.sb G.gb (a0 _ _ f) (show 0+(m+1-1)<=b.size by omega) ⋯ λk2 N V a4=>?_);replace N:k2<=m:=N;have u:=Il (m:=k2) G U ⋯ N ⋯ ⋯ f λi x hi P R=>a4 i x hi P (by rw[wW];exact R);obtain⟨n,O⟩:∃n,k=n+1:=⟨k-1,⋯⟩;dsimp only;refine nF (λT=>?_) λT=>?_
     ·refine nF (λz=>?_) λz=>?_
      ·have j:k2=1:=yS z;subst j;exact zH ⟨sm.set _,.inl ⟨_,_,rfl,eA G u ⋯⟩⟩
      have b5:k2≠1:=λe=>z (pU.mpr e);refine nF (λz=>?_) λz=>?_
      ·have j:k2=0:=yS z;subst j;exact zH ⟨sm.set _,.inl ⟨_,_,rfl,Io G u ⋯⟩⟩
      have c1:k2≠0:=λe=>z (pU.mpr e);rw[O]at u f ⊢;have o:=eE G u (show n<a.size by omega) ⋯ f λi y hi l=>lW (V i y hi (by rw[wW];exact l));refine zG (lV (show a[n+1-1]?=some q from f) ?_);refine nF (λz=>?_) λz=>?_
      ·have j:n=0:=yS z;subst j;exact zH ⟨sm.set _,.inl ⟨_,_,rfl,fB G o ⋯⟩⟩
      have a1:n≠0:=λe=>z (pU.mpr e);refine nF (λ_=>?_) λ_=>?_
      ·exact zH ⟨sm.set _,.inr ⟨n,_,_,_,_,_,rfl,o,⋯,⋯,⋯,⋯,⋯⟩⟩
      ·exact zH ⟨sm.set _,n,_,_,_,_,_,rfl,o,⋯,⋯,⋯,⋯,⋯⟩
     ·have a2:k2=m:=by
       have:¬ m-k2 > 0:=T;omega
      subst a2;rw[Cm]at u;rw[O]at u f ⊢;have o:=eE G u (show n<a.size by omega) ⋯ f λi y hi l=>lW (V i y hi (by rw[wW];exact l));refine zG (lV (show a[n+1-1]?=some q from f) ?_);refine nF (λz=>?_) λz=>?_
      ·have j:n=0:=yS z;subst j;exact zH ⟨sm.set _,.inl ⟨_,_,rfl,fB G o ⋯⟩⟩
      have a1:n≠0:=λe=>z (pU.mpr e);refine nF (λ_=>?_) λ_=>?_
      ·exact zH ⟨sm.set _,.inr ⟨n,_,_,_,_,_,rfl,o,⋯,⋯,⋯,⋯,⋯⟩⟩
      ·exact zH ⟨sm.set _,n,_,_,_,_,_,rfl,o,⋯,⋯,⋯,⋯,⋯⟩
    ·have k0:k=g:=by
      have:¬ g-k > 0:=b1;omega
     subst k0;rw[Cm]at mk
     -- the other's last comes out
     obtain⟨m,rfl⟩:∃m,d=m+1:=⟨d-1,⋯⟩;have U:=Cn G mk (show m<b.size by omega) ⋯ e λi y hi l=>a9 i y hi (by rw[wW];exact l);refine zG (lV (show b[m+1-1]?=some p from e) ?_);refine nF (λz=>?_) λz=>?_
     ·have j:m=1:=yS z;subst j;exact zH ⟨sm.set _,.inl ⟨_,_,rfl,eA G U ⋯⟩⟩
     have c3:m≠1:=λe=>z (pU.mpr e);have b2:0<m:=⋯
     refine zG (kG (arr:=a) (i:=k-1) ⋯ λq f=>?_);refine zG (aN Z (show kindOf _=kd from sm.k.trans Y) G.sb G.gb (a0 _ _ f) (show 0+(m+1-1)<=b.size by omega) ⋯ λk2 N V a4=>?_);replace N:k2<=m:=N;have u:=Il (m:=k2) G U ⋯ N ⋯ ⋯ f λi x hi P R=>a4 i x hi P (by rw[wW];exact R);obtain⟨n,O⟩:∃n,k=n+1:=⟨k-1,⋯⟩;dsimp only;refine nF (λT=>?_) λT=>?_
     ·refine nF (λz=>?_) λz=>?_
      ·have j:k2=1:=yS z;subst j;exact zH ⟨sm.set _,.inl ⟨_,_,rfl,eA G u ⋯⟩⟩
      have b5:k2≠1:=λe=>z (pU.mpr e);refine nF (λz=>?_) λz=>?_
      ·have j:k2=0:=yS z;subst j;exact zH ⟨sm.set _,.inl ⟨_,_,rfl,Io G u ⋯⟩⟩
      have c1:k2≠0:=λe=>z (pU.mpr e);rw[O]at u f ⊢;have o:=eE G u (show n<a.size by omega) ⋯ f λi y hi l=>lW (V i y hi (by rw[wW];exact l));refine zG (lV (show a[n+1-1]?=some q from f) ?_);refine nF (λz=>?_) λz=>?_
      ·have j:n=0:=yS z;subst j;exact zH ⟨sm.set _,.inl ⟨_,_,rfl,fB G o ⋯⟩⟩
      have a1:n≠0:=λe=>z (pU.mpr e);refine nF (λ_=>?_) λ_=>?_
      ·exact zH ⟨sm.set _,.inr ⟨n,_,_,_,_,_,rfl,o,⋯,⋯,⋯,⋯,⋯⟩⟩
      ·exact zH ⟨sm.set _,n,_,_,_,_,_,rfl,o,⋯,⋯,⋯,⋯,⋯⟩
     ·have a2:k2=m:=by
       have:¬ m-k2 > 0:=T;omega
      subst a2;rw[Cm]at u;rw[O]at u f ⊢;have o:=eE G u (show n<a.size by omega) ⋯ f λi y hi l=>lW (V i y hi (by rw[wW];exact l));refine zG (lV (show a[n+1-1]?=some q from f) ?_);refine nF (λz=>?_) λz=>?_
      ·have j:n=0:=yS z;subst j;exact zH ⟨sm.set _,.inl ⟨_,_,rfl,fB G o ⋯⟩⟩
      have a1:n≠0:=λe=>z (pU.mpr e);refine nF (λ_=>?_) λ_=>?_
      ·exact zH ⟨sm.set _,.inr ⟨n,_,_,_,_,_,rfl,o,⋯,⋯,⋯,⋯,⋯⟩⟩
      ·exact zH ⟨sm.set _,n,_,_,_,_,_,rfl,o,⋯,⋯,⋯,⋯,⋯⟩
   ·rintro c a5 ⟨sm,g,d,out,I,D,F,rfl,t,l1,l2,J,v,K⟩;exact⟨sm,.inr ⟨_,_,_,_,_,_,rfl,t,l1,l2,J,v,K⟩⟩
   ·rintro c a5 ⟨sm,⟨r,L,rfl,S⟩|⟨g,d,out,I,D,F,rfl,t,l1,l2,J,v,K⟩⟩
    ·exact zH ⟨sm,_,_,rfl,S⟩
    dsimp only;rw[aO];refine zG (wY (zH ⟨sm.set _,_,_,_,_,rfl,t,l1,l2,J,v,K⟩))
 ·rintro c a3 ⟨sm,g,d,out,I,rfl,t,l1,l2,J,v,K⟩;omega
 ·rintro c a3 ⟨sm,r,L,rfl,S⟩;exact zH (h r a3 sm S)
end
theorem Sv(i:Nat):mergeAt' i=(do
 let s ←get
 let (some (sa,na,power),some (sb,nb,_)):=((pendingOf s)[i]?,(pendingOf s)[i+1]?)|unsupported "internal:list.sort.pending"
 set (SortSt.mk' (kindOf s) (arrOf s) (((pendingOf s).setIfInBounds i (sa,na+nb,power)).eraseIdxIfInBounds (i+1)) (gallopOf s) (failedOf s))
 let some k ←kY false (←elem' (arrOf s) sb) (arrOf s) sa na 0|return false
 let (sa,na):=(sa+k,na-k)
 if na == 0 then return true
 let some nb ←kY true (←elem' (arrOf s) (sa+na-1)) (arrOf s) sb nb (nb-1)|return false
 if nb == 0 then return true
 let x:=(arrOf s).extract sa sb
 let y:=(arrOf s).extract sb (sb+nb)
 let b ←if na<=nb then Cs x y else Cq x y
 modify λs=>setArr s (b.toList.zipIdx.foldl (λa(p,j)=>a.setIfInBounds (sa+j) p) (arrOf s))
 return (failedOf (←get)).isNone):=rfl
section
variable {prog:Program} {w:World} {A:Around} {E:VP} {s:Shared} {κ:PyProof.Rows.KeyKind} {kd:SortKind}
noncomputable def seg(l:List Keyed)(i j:Nat):List Keyed:=(l.drop i).take (j-i)
theorem Su{st a:SortSt}{Q:PUnit->SortSt->Prop}(h:Q ⟨⟩ a):wpS (model prog w) A E s (set a:StateT SortSt Sem PUnit) Q st:=by
 unfold wpS;rw[StateT.run_set];exact zB ⟨rfl,h⟩
theorem Cl{l:List Keyed}{i j k:Nat}(b:i<=j)(a:j<=k):seg l i k=seg l i j++seg l j k:=by
 unfold seg;rw[show k-i=(j-i)+(k-j) by omega,qL,pF,show i+(j-i)=j by omega]
theorem Ik{l:List Keyed}{i j:Nat}(h:i<=j):l.take i++seg l i j++l.drop j=l:=by
 unfold seg;have:l.take j=l.take i++(l.drop i).take (j-i):=by
  conv=>lhs;rw[show j=i+(j-i) by omega]
  exact qL
 rw[←this,wB]
theorem cC{l:List Keyed}{i j t:Nat}:(seg l i j)[t]?=if t<j-i then l[i+t]? else none:=by
 unfold seg;rw[List.getElem?_take];split
 ·rw[tV]
 ·rfl
theorem iD{l:List Keyed}{i j:Nat}{x:Keyed}(h:x∈seg l i j):∃t,t<j-i/\l[i+t]?=some x:=fW h
theorem Ck{l:List Keyed}{i j:Nat}(h:j<=l.length):(seg l i j).length=j-i:=by
 unfold seg;rw[xF,tG];omega
theorem aR{l:List Keyed}{i j:Nat}(f:Srt κ (seg l i j)){a u:Nat}{x y:Keyed}(b:a<=u)(c:u<j-i)(d:l[i+a]?=some x)(e:l[i+u]?=some y):le' κ x y:=
 gG f b (by rw[cC,zJ ⋯];exact d) (by rw[cC,zJ c];exact e)
theorem iE(a:Array Keyed)(i j:Nat):(a.extract i j).toList=seg a.toList i j:=by
 unfold seg;simp only[Array.toList_extract,List.extract_eq_take_drop]
theorem Ij:∀(m:List Keyed)(c b:Nat)(a:Array Keyed),b+c+m.length<=a.size->((m.zipIdx c).foldl (λa(x:Keyed×Nat)=>a.setIfInBounds (b+x.2) x.1) a).toList=a.toList.take (b+c)++m++a.toList.drop (b+c+m.length)
 |[],c,b,a,_=>by simp
 | p:: m,c,b,a,h=>by
  rw[yE]at h;have hl:b+c<a.toList.length:=by rw[zN];omega
  rw[uB,wQ,Ij m (c+1) b _ (by rw[Array.size_setIfInBounds];omega),Array.toList_setIfInBounds,yE];show List.take (b+(c+1)) (a.toList.set (b+c) p)++m++List.drop (b+(c+1)+m.length) (a.toList.set (b+c) p)=_;have e1:List.take (b+(c+1)) (a.toList.set (b+c) p)=a.toList.take (b+c)++[p]:=by
   rw[show b+(c+1)=b+c+1 by omega,sL,List.take_set_of_le (zE _),sZ hl];rfl
  have d:List.drop (b+(c+1)+m.length) (a.toList.set (b+c) p)=a.toList.drop (b+c+(m.length+1)):=by
   rw[List.drop_set_of_lt ⋯,show b+(c+1)+m.length=b+c+(m.length+1) by omega]
  rw[e1,d];simp
theorem Ss(g:Cmp prog w A s κ kd){st:SortSt}{b:Array Keyed}{ib c:Nat}{q:Keyed}{n:Nat}{Q:Option Nat->SortSt->Prop}(u:kindOf st=kd)(D:∀i j x y,i<=j->j<n->b[ib+i]?=some x->b[ib+j]?=some y->le' κ x y)(m:∀x∈b.toList,Gd κ x)(l:Gd κ q)(F:ib+n<=b.size)(hh:c<n)
  (h:∀k,k<=n->(∀i x,i<k->b[ib+i]?=some x->le' κ x q)->(∀i x,k<=i->i<n->b[ib+i]?=some x->lq κ q x=true)->Q (some k) st):wpS (model prog w) A E s (kY false q b ib n c) Q st:=by
 refine dX g (B:=λi=>!lq κ q (b.getD (ib+i) q)) u l hh (λi hi=>?_) (λi j o C d=>?_) λk f z t=>h k f (λi x hi e=>?_) λi x hi v e=>?_
 ·obtain⟨p,e⟩:=mW (a:=b) (i:=ib+i) ⋯;refine⟨p,e,m p (yK (nA.mp e)),?_⟩;rw[show b.getD (ib+i) q=p by simp[Array.getD_eq_getD_getElem?,e]];rfl
 ·obtain⟨p,e⟩:=mW (a:=b) (i:=ib+i) ⋯;obtain⟨r,a⟩:=mW (a:=b) (i:=ib+j) ⋯;rw[show b.getD (ib+j) q=r by simp[Array.getD_eq_getD_getElem?,a]]at d;rw[show b.getD (ib+i) q=p by simp[Array.getD_eq_getD_getElem?,e]];have l1:le' κ r q:=by unfold le';simpa using d
  have:=lN (D i j p r o C e a) l1;unfold le' at this;rw[this];rfl
 ·have:=z i hi;rw[show b.getD (ib+i) q=x by simp[Array.getD_eq_getD_getElem?,e]]at this;unfold le';simpa using this
 ·have:=t i hi v;rw[show b.getD (ib+i) q=x by simp[Array.getD_eq_getD_getElem?,e]]at this;simpa using this
theorem Sr(g:Cmp prog w A s κ kd){st:SortSt}{b:Array Keyed}{ib c:Nat}{q:Keyed}{n:Nat}{Q:Option Nat->SortSt->Prop}(u:kindOf st=kd)(D:∀i j x y,i<=j->j<n->b[ib+i]?=some x->b[ib+j]?=some y->le' κ x y)(m:∀x∈b.toList,Gd κ x)(l:Gd κ q)(F:ib+n<=b.size)(hh:c<n)
  (h:∀k,k<=n->(∀i x,i<k->b[ib+i]?=some x->lq κ x q=true)->(∀i x,k<=i->i<n->b[ib+i]?=some x->le' κ q x)->Q (some k) st):wpS (model prog w) A E s (kY true q b ib n c) Q st:=by
 refine dX g (B:=λi=>lq κ (b.getD (ib+i) q) q) u l hh (λi hi=>?_) (λi j o C d=>?_) λk f z t=>h k f (λi x hi e=>?_) λi x hi v e=>?_
 ·obtain⟨p,e⟩:=mW (a:=b) (i:=ib+i) ⋯;refine⟨p,e,m p (yK (nA.mp e)),?_⟩;rw[show b.getD (ib+i) q=p by simp[Array.getD_eq_getD_getElem?,e]];rfl
 ·obtain⟨p,e⟩:=mW (a:=b) (i:=ib+i) ⋯;obtain⟨r,a⟩:=mW (a:=b) (i:=ib+j) ⋯;rw[show b.getD (ib+j) q=r by simp[Array.getD_eq_getD_getElem?,a]]at d;rw[show b.getD (ib+i) q=p by simp[Array.getD_eq_getD_getElem?,e]];exact KeyOrd.klt_of_kle_of_klt (O:=κ.toKeyOrd) (D i j p r o C e a) d
 ·have:=z i hi;rw[show b.getD (ib+i) q=x by simp[Array.getD_eq_getD_getElem?,e]]at this;exact this
 ·have:=t i hi v;rw[show b.getD (ib+i) q=x by simp[Array.getD_eq_getD_getElem?,e]]at this;exact this
theorem So(O:Cmp prog w A s κ kd){st:SortSt}{i b c L f c0:Nat}{Q:Bool->SortSt->Prop}(b1:kindOf st=kd)(S:∀x∈(arrOf st).toList,Gd κ x)(c2:failedOf st=none)(e1:(pendingOf st)[i]?=some (b,c,L))(Y:(pendingOf st)[i+1]?=some (b+c,f,c0))
  (c8:1<=c)(d7:1<=f)(d3:b+c+f<=(arrOf st).size)(I:Srt κ (seg (arrOf st).toList b (b+c)))(J:Srt κ (seg (arrOf st).toList (b+c) (b+c+f)))
  (h:∀n X,kindOf n=kd->failedOf n=none->pendingOf n=((pendingOf st).setIfInBounds i (b,c+f,L)).eraseIdxIfInBounds (i+1)->(arrOf n).toList=(arrOf st).toList.take b++X++(arrOf st).toList.drop (b+c+f)->X.Perm (seg (arrOf st).toList b (b+c+f))->Srt κ X->Q true n):
  wpS (model prog w) A E s (mergeAt' i) Q st:=by
 rw[Sv];refine zG (uT ?_);rw[e1,Y];dsimp only;refine zG (Su ?_);generalize hst:SortSt.mk' (kindOf st) (arrOf st) (((pendingOf st).setIfInBounds i (b,c+f,L)).eraseIdxIfInBounds (i+1)) (gallopOf st) (failedOf st)=D;have k1:kindOf D=kd:=by rw[←hst];exact b1
 have a2:arrOf D=arrOf st:=by rw[←hst]
 have a8:pendingOf D=((pendingOf st).setIfInBounds i (b,c+f,L)).eraseIdxIfInBounds (i+1):=by rw[←hst]
 have a4:failedOf D=none:=by rw[←hst];exact c2
 clear hst e1 Y;generalize harr:arrOf st=arr at*
 generalize pendingOf st=d5 at*;have d8:arr.toList.length=arr.size:=zN;have K:∀d x,arr[d]?=some x->Gd κ x:=λd x e=>S x (yK (nA.mp e))
 -- already in order
 have stay:Srt κ (seg arr.toList b (b+c+f))->Q true D:=λb3=>h D _ k1 a4 a8 (by rw[a2,Ik ⋯]) (List.Perm.refl _) b3;have R:seg arr.toList b (b+c+f)=seg arr.toList b (b+c)++seg arr.toList (b+c) (b+c+f):=Cl ⋯ ⋯;refine zG (kG (arr:=arr) (i:=b+c) ⋯ λp ep=>?_);refine zG (Ss O k1 (λd u x y T b6 o F=>aR I T ⋯ (nA.mp o) (nA.mp F)) S (K _ _ ep) ⋯ ⋯ λk d2 a0 b5=>?_);dsimp only;have V:∀y∈seg arr.toList (b+c) (b+c+f),le' κ p y:=λy m=>by
  obtain⟨d,v,l⟩:=iD m;exact aR J (yV d) v (nA.mp ep) l
 refine nF (λz=>?_) λz=>?_
 ·have d0:c-k=0:=yS z;refine zH (stay ?_);rw[R];refine oC.mpr ⟨I,J,λx g y m=>?_⟩;obtain⟨d,v,l⟩:=iD g;exact lN (a0 d x ⋯ (nA.mpr l)) (V y m)
 have d1:c-k≠0:=λe=>z (pU.mpr e);refine zG (kG (arr:=arr) (i:=b+k+(c-k)-1) ⋯ λq N=>?_);rw[show b+k+(c-k)-1=b+(c-1) by omega]at N;refine zG (Sr O k1 (λd u x y T b6 o F=>aR J T ⋯ (nA.mp o) (nA.mp F)) S (K _ _ N) ⋯ ⋯ λk2 d4 c1 a7=>?_);dsimp only;have Z:∀x∈seg arr.toList b (b+c),le' κ x q:=λx g=>by
  obtain⟨d,v,l⟩:=iD g;exact aR I (show d<=c-1 by omega) ⋯ l (nA.mp N)
 refine nF (λy=>?_) λy=>?_
 ·have d6:k2=0:=yS y;refine zH (stay ?_);rw[R];refine oC.mpr ⟨I,J,λx g y m=>?_⟩;obtain⟨d,v,l⟩:=iD m;exact lN (Z x g) (a7 d y ⋯ ⋯ (nA.mpr l))
 have c9:k2≠0:=λe=>y (pU.mpr e)
 -- the parts
 have P:seg arr.toList b (b+c)=seg arr.toList b (b+k)++seg arr.toList (b+k) (b+c):=Cl ⋯ ⋯;have M:seg arr.toList (b+c) (b+c+f)=seg arr.toList (b+c) (b+c+k2)++seg arr.toList (b+c+k2) (b+c+f):=Cl ⋯ ⋯;have a5:=I;have a6:=J;rw[P]at a5;rw[M]at a6;obtain⟨b7,a9,b4⟩:=oC.mp a5;obtain⟨c4,c3,b9⟩:=oC.mp a6;have a3:∀x∈seg arr.toList b (b+k),le' κ x p:=λx g=>by
  obtain⟨d,v,l⟩:=iD g;exact a0 d x ⋯ (nA.mpr l)
 have b2:∀x∈seg arr.toList (b+k) (b+c),le' κ p x:=λx g=>by
  obtain⟨d,v,l⟩:=iD g;exact lW (b5 (k+d) x ⋯ ⋯ (by rw[show b+(k+d)=b+k+d by omega];exact nA.mpr l))
 have c6:∀y∈seg arr.toList (b+c) (b+c+k2),le' κ y q:=λy m=>by
  obtain⟨d,v,l⟩:=iD m;exact lW (c1 d y ⋯ (nA.mpr l))
 have b8:∀y∈seg arr.toList (b+c+k2) (b+c+f),le' κ q y:=λy m=>by
  obtain⟨d,v,l⟩:=iD m;exact a7 (k2+d) y ⋯ ⋯ (by rw[show b+c+(k2+d)=b+c+k2+d by omega];exact nA.mpr l)
 have G:MG κ (arr.extract (b+k) (b+c)) (arr.extract (b+c) (b+c+k2)):=by
  refine⟨by rw[iE];exact a9,by rw[iE];exact c4,λx g=>?_,λx g=>?_,by rw[qH];omega,by rw[qH];omega,λx o y m=>?_,λx y o F=>?_⟩
  ·rw[iE]at g;obtain⟨d,_,l⟩:=iD g;exact K _ x (nA.mpr l)
  ·rw[iE]at g;obtain⟨d,_,l⟩:=iD g;exact K _ x (nA.mpr l)
  ·rw[iE]at m;rw[nA,iE,cC,qH]at o;split at o
   ·rw[show b+k+(min (b+c) arr.size-(b+k)-1)=b+(c-1) by omega,nA.mp N]at o;cases o;exact c6 y m
   ·cases o
  ·rw[nA,iE,cC,zJ ⋯,Nat.add_zero,nA.mp ep]at o;cases o;rw[nA,iE]at F;exact b2 y (yK F)
 have W:∀(r:Array Keyed)(n:SortSt),Sm D n->Res κ (arr.extract (b+k) (b+c)).toList (arr.extract (b+c) (b+c+k2)).toList r.toList->wpS (model prog w) A E s (do
   modify λs=>setArr s (r.toList.zipIdx.foldl (λa(p,j)=>a.setIfInBounds (b+k+j) p) (arrOf s))
   return (failedOf (←get)).isNone) Q n:=λr n sm t=>by
  rw[iE,iE]at t;refine zG (wY (zG (uT (zH ?_))));have a1:failedOf n=none:=sm.f.trans a4;show Q (failedOf n).isNone _;rw[a1];have c7:r.toList.length=(c-k)+k2:=by
   rw[t.1.length_eq,zS,Ck ⋯,Ck ⋯];omega
  refine h _ (seg arr.toList b (b+k)++r.toList++seg arr.toList (b+c+k2) (b+c+f)) (sm.k.trans k1) a1 (sm.p.trans a8) ?_ ?_ ?_
  ·show(List.foldl _ (arrOf n) _).toList=_;rw[sm.a,a2,Ij r.toList 0 (b+k) arr ⋯,c7];have b0:arr.toList.take (b+k+0)=arr.toList.take b++seg arr.toList b (b+k):=by
    unfold seg;rw[Nat.add_zero,qL,show b+k-b=k by omega]
   have c5:arr.toList.drop (b+k+0+(c-k+k2))=seg arr.toList (b+c+k2) (b+c+f)++arr.toList.drop (b+c+f):=by
    unfold seg;rw[show b+k+0+(c-k+k2)=b+c+k2 by omega]
    conv=>lhs;rw[←wB (b+c+f-(b+c+k2)) (arr.toList.drop (b+c+k2))]
    rw[pF,show b+c+k2+(b+c+f-(b+c+k2))=b+c+f by omega]
   rw[b0,c5];simp only[List.append_assoc]
  ·rw[R,P,M];have:=(t.1.append_left (seg arr.toList b (b+k))).append_right (seg arr.toList (b+c+k2) (b+c+f));simp only[List.append_assoc]at this ⊢;exact this
  ·have mem:∀x∈r.toList,x∈seg arr.toList (b+k) (b+c)\/x∈seg arr.toList (b+c) (b+c+k2):=λx g=>pY.mp (t.1.mem_iff.mp g);refine oC.mpr ⟨oC.mpr ⟨b7,t.2,λx g y m=>?_⟩,c3,λx g y m=>?_⟩
   ·rcases mem y m with C|C
    ·exact b4 x g y C
    ·exact lN (a3 x g) (V y (by rw[M];exact wC _ C))
   ·rcases pY.mp g with C|C
    ·exact lN (a3 x C) (V y (by rw[M];exact yN _ m))
    ·rcases mem x C with U|U
     ·exact lN (Z x (by rw[P];exact yN _ U)) (b8 y m)
     ·exact b9 x U y m
 refine nF (λ_=>?_) λ_=>?_
 ·exact zG (Rb O k1 G λr n sm t=>W r n sm t)
 ·exact zG (Sw O k1 G λr n sm t=>W r n sm t)
theorem cD(d:Cmp prog w A s κ kd){st:SortSt}{i j:Nat}{Q:Option Bool->SortSt->Prop}(e:kindOf st=kd)(a:∀x∈(arrOf st).toList,Gd κ x)(hi:i<(arrOf st).size)(f:j<(arrOf st).size)
  (h:∀x y,(arrOf st)[i]?=some x->(arrOf st)[j]?=some y->Q (some (lq κ x y)) st):wpS (model prog w) A E s (ltAt' i j) Q st:=by
 rw[ltAt'_eq];refine zG (uT ?_);refine zG (kG hi λx b=>?_);refine zG (kG f λy c=>?_);exact dW d e (a x (yK (nA.mp b))) (a y (yK (nA.mp c))) (h x y b c)
structure Ch(lo hi:Nat)(st st':SortSt):Prop where
 k:kindOf st'=kindOf st
 p:pendingOf st'=pendingOf st
 f:failedOf st'=failedOf st
 z:(arrOf st').size=(arrOf st).size
 m:(arrOf st').Perm (arrOf st)
 o:∀i,i<lo\/hi<=i->(arrOf st')[i]?=(arrOf st)[i]?
theorem Ch.refl(lo hi:Nat)(st:SortSt):Ch lo hi st st:=⟨rfl,rfl,rfl,rfl,Array.Perm.refl _,λ_ _=>rfl⟩
theorem Ch.trans{lo hi:Nat}{a b c:SortSt}(e:Ch lo hi a b)(d:Ch lo hi b c):Ch lo hi a c:=⟨d.k.trans e.k,d.p.trans e.p,d.f.trans e.f,d.z.trans e.z,d.m.trans e.m,λi hi=>(d.o i hi).trans (e.o i hi)⟩
theorem Ch.wide{lo hi hi':Nat}{a b:SortSt}(h:Ch lo hi a b)(hh:hi<=hi'):Ch lo hi' a b:=⟨h.k,h.p,h.f,h.z,h.m,λi hi=>h.o i ⋯⟩
theorem Ch.good{lo hi:Nat}{a b:SortSt}(h:Ch lo hi a b)(d:∀x∈(arrOf a).toList,Gd κ x):∀x∈(arrOf b).toList,Gd κ x:=λx c=>d x ((h.m.toList.mem_iff).mp c)
def Up(κ:PyProof.Rows.KeyKind)(a:Array Keyed)(lo hi:Nat):Prop:=∀i j x y,lo<=i->i<=j->j<hi->a[i]?=some x->a[j]?=some y->le' κ x y
def Dn(κ:PyProof.Rows.KeyKind)(a:Array Keyed)(lo hi:Nat):Prop:=∀i j x y,lo<=i->i<=j->j<hi->a[i]?=some x->a[j]?=some y->le' κ y x
theorem Up.one{a:Array Keyed}{lo:Nat}:Up κ a lo (lo+1):=λi j x y e f d c b=>by
 have:i=j:=⋯
 subst this;rw[c]at b;cases b;exact iQ _
theorem Up.more{a:Array Keyed}{lo hi hi':Nat}(h:Up κ a lo hi)(hl:lo<hi)(o:hi<a.size)(m:∀x y,a[hi-1]?=some x->a[hi]?=some y->le' κ x y)(f:hi'=hi+1:=by omega):Up κ a lo hi':=λi j x y e g n c b=>by
 subst f;rcases uR j hi with q|q
 ·exact h i j x y e g q c b
 ·have l:j=hi:=⋯
  subst l;rcases uR i j with k|k
  ·obtain⟨u,d⟩:=mW (a:=a) (i:=j-1) ⋯;exact lN (h i (j-1) x u e ⋯ ⋯ c d) (m u y d b)
  ·have:i=j:=⋯
   subst this;rw[c]at b;cases b;exact iQ _
theorem Up.same{a b:Array Keyed}{lo hi:Nat}(h:Up κ a lo hi)(e:∀i,lo<=i->i<hi->b[i]?=a[i]?):Up κ b lo hi:=λi j x y d f c g k=>h i j x y d f c (by rw[←e i d ⋯];exact g) (by rw[←e j ⋯ c];exact k)
theorem Dn.more{a:Array Keyed}{lo hi hi':Nat}(h:Dn κ a lo hi)(hl:lo<hi)(o:hi<a.size)(m:∀x y,a[hi-1]?=some x->a[hi]?=some y->le' κ y x)(f:hi'=hi+1:=by omega):Dn κ a lo hi':=λi j x y e g n c b=>by
 subst f;rcases uR j hi with q|q
 ·exact h i j x y e g q c b
 ·have l:j=hi:=⋯
  subst l;rcases uR i j with k|k
  ·obtain⟨u,d⟩:=mW (a:=a) (i:=j-1) ⋯;exact lN (m u y d b) (h i (j-1) x u e ⋯ ⋯ c d)
  ·have:i=j:=⋯
   subst this;rw[c]at b;cases b;exact iQ _
noncomputable abbrev mir(a:Array Keyed)(i j:Nat):Array Keyed:=mirror a i j ((j-i)/2)
theorem gH{a:Array Keyed}{i j k:Nat}(b:j<=a.size):(mir a i j)[k]?=if i<=k/\k<j then a[i+j-1-k]? else a[k]?:=getElem?_mirror_all b k
theorem Dn.turned{a:Array Keyed}{lo hi c b:Nat}(h:Dn κ a lo hi)(u:Up κ a c b)(hl:lo<=c)(n:b<=hi)(o:hi<=a.size):Dn κ (mir a c b) lo hi:=λi j x y g m k e d=>by
 rw[gH ⋯]at e d
 by_cases l:c<=i/\i<b
 ·rw[zJ l]at e
  by_cases f:c<=j/\j<b
  ·rw[zJ f]at d;exact u _ _ y x ⋯ (show c+b-1-j<=c+b-1-i by omega) ⋯ d e
  ·rw[zI f]at d;exact h _ _ x y ⋯ (show c+b-1-i<=j by omega) k e d
 ·rw[zI l]at e
  by_cases f:c<=j/\j<b
  ·rw[zJ f]at d;exact h _ _ x y g (show i<=c+b-1-j by omega) ⋯ e d
  ·rw[zI f]at d;exact h _ _ x y g m k e d
theorem Dn.up{a:Array Keyed}{lo hi:Nat}(h:Dn κ a lo hi)(d:hi<=a.size):Up κ (mir a lo hi) lo hi:=λi j x y f g e b c=>by
 rw[gH d,zJ ⟨f,⋯⟩]at b;rw[gH d,zJ ⟨⋯,e⟩]at c;exact h _ _ y x ⋯ (show lo+hi-1-j<=lo+hi-1-i by omega) ⋯ c b
theorem aS{st:SortSt}{i j:Nat}{Q:Unit->SortSt->Prop}(b:j<=(arrOf st).size)(h:∀a,Ch i j st a->arrOf a=mir (arrOf st) i j->Q () a):wpS (model prog w) A E s (reverseSlice' i j) Q st:=by
 rw[reverseSlice'_eq];refine wY (h _ ⟨rfl,rfl,rfl,mirror_size _ _ _ _,mirror_perm _ _ _ _,λk c=>?_⟩ rfl);exact(gH b).trans (zI ⋯)
theorem Ii(D:Cmp prog w A s κ kd){st:SortSt}{lo a b:Nat}{f:Nat->Option (Option Nat)×Nat->StateT SortSt Sem (ForInStep (Option (Option Nat)×Nat))}{Q:Option (Option Nat)×Nat->SortSt->Prop}(m:kindOf st=kd)(t:∀x∈(arrOf st).toList,Gd κ x)(I:lo+b<=(arrOf st).size)(L:1<=a)(o:a<=b)(z:Up κ (arrOf st) lo (lo+a))
  (G:∀x c,f x c=(do
   let C ←ltAt' (lo+c.2) (lo+c.2-1)
   match C with
    |some r=>if r=true then pure (ForInStep.done (none,c.2)) else pure (ForInStep.yield (none,c.2+1))
    |_=>pure (ForInStep.done (some none,c.2))))
  (h:∀n,a<=n->n<=b->Up κ (arrOf st) lo (lo+n)->(n=b\/∀x y,(arrOf st)[lo+n]?=some x->(arrOf st)[lo+n-1]?=some y->lq κ x y=true)->Q (none,n) st):
  wpS (model prog w) A E s (forIn [a:b] ((none,a):Option (Option Nat)×Nat) f) Q st:=by
 refine wP (xR (I:=λx c d=>d=st/\c=(none,x)/\a<=x/\x<=b/\Up κ (arrOf st) lo (lo+x))
  (Q:=λc d=>d=st/\∃n,c=(none,n)/\a<=n/\n<=b/\Up κ (arrOf st) lo (lo+n)/\(n=b\/∀x y,(arrOf st)[lo+n]?=some x->(arrOf st)[lo+n-1]?=some y->lq κ x y=true)) ?_ ?_ ⟨rfl,rfl,zE _,o,z⟩) ?_
 ·rintro x c d K J ⟨rfl,rfl,j,g,e⟩;rw[G];dsimp only;refine zG (cD D m t ⋯ ⋯ λp q ep l=>?_);dsimp only;cases hl:lq κ p q with
  |true =>
   rw[zJ rfl];refine zH ⟨rfl,x,rfl,j,g,e,.inr λu v i k=>?_⟩;rw[ep]at i;rw[l]at k;cases i;cases k;exact hl
  |false =>
   rw[zI (by simp)];refine zH ⟨rfl,rfl,⋯,⋯,?_⟩;refine Up.more e ⋯ ⋯ λu v i k=>?_;rw[l]at i;rw[ep]at k;cases i;cases k;exact hl
 ·rintro c d ⟨rfl,rfl,j,g,e⟩;exact⟨rfl,_,rfl,j,g,e,.inl ⋯⟩
 ·rintro c d ⟨rfl,n,rfl,j,g,e,F⟩;exact h n j g e F
theorem Ih{b:Type}{c:Prop}[Decidable c]{P T:StateT SortSt Sem b}{R:SortSt->Prop}{st:SortSt}{Q:b->SortSt->Prop}(d:c->(∀a,R a->wpS (model prog w) A E s P Q a)->wpS (model prog w) A E s T Q st)(e:¬ c->R st)(go:∀a,R a->wpS (model prog w) A E s P Q a):wpS (model prog w) A E s (if c then T else P) Q st:=
 nF (λx=>d x go) λx=>go st (e x)
theorem Sn(D:Cmp prog w A s κ kd){st:SortSt}{lo o:Nat}{Q:Option Nat->SortSt->Prop}(I:kindOf st=kd)(J:∀x∈(arrOf st).toList,Gd κ x)(a8:lo+o<=(arrOf st).size)(b0:1<=o)
  (h:∀n b,1<=n->n<=o->Ch lo (lo+n) st b->Up κ (arrOf b) lo (lo+n)->Q (some n) b):wpS (model prog w) A E s (countRun' lo o) Q st:=by
 rw[countRun'_eq];refine zG (Ii D I J a8 (zE _) b0 Up.one (λx c=>rfl) λn U T up nx=>?_);dsimp only;refine nF (λz=>?_) λz=>?_
 ·exact zH (h n st U T (Ch.refl _ _ _) up)
 have P:n≠o:=λe=>z (pU.mpr e);have a0:=nx.resolve_left P;refine Ih (R:=λC=>Ch lo (lo+n) st C/\Dn κ (arrOf C) lo (lo+n+1)) (λy go=>?_) (λy=>?_) λC b4=>?_
 ·refine zG (cD D I J ⋯ ⋯ λp q ep r=>?_);dsimp only;cases hl:lq κ p q with
  |true =>
   rw[zJ rfl];exact zH (h n st U T (Ch.refl _ _ _) up)
  | false =>
   rw[zI (by simp)];refine zG (aS ⋯ λC F X=>?_);refine go C ⟨F,Dn.more (hi:=lo+n) ?_ ⋯ (by rw[F.z];omega) λu v d g=>?_⟩
   ·-- all alike
    rw[X];intro i j x y b1 b2 Y K G;rw[gH ⋯,zJ ⟨b1,⋯⟩]at K;rw[gH ⋯,zJ ⟨⋯,Y⟩]at G;exact up _ _ y x ⋯ (show lo+(lo+n)-1-j<=lo+(lo+n)-1-i by omega) ⋯ G K
   ·rw[F.o _ (.inr (zE _))]at g;rw[X,gH ⋯,zJ ⋯,show lo+(lo+n)-1-(lo+n-1)=lo by omega,ep]at d;cases d;exact lN (lW (a0 v q g r)) hl
 ·have:n=1:=⋯
  subst this;refine⟨Ch.refl _ _ _,Dn.more (hi:=lo+1) (λi j x y b1 b2 Y K G=>?_) ⋯ ⋯ λu v d g=>lW (a0 v u g d)⟩;have:i=j:=⋯
  subst this;rw[K]at G;cases G;exact iQ _
 ·obtain⟨F,k⟩:=b4;refine zG (qE (wX ⟨rfl,?_⟩));refine zG (wP (xR (I:=λx c b=>∃f,c=(none,x,f)/\n+1<=x/\x<=o/\f+1<=x/\Ch lo (lo+x) st b/\Dn κ (arrOf b) lo (lo+x)/\Up κ (arrOf b) (lo+x-(f+1)) (lo+x))
   (Q:=λc b=>∃x f,c=(none,x,f)/\n+1<=x/\x<=o/\f+1<=x/\Ch lo (lo+x) st b/\Dn κ (arrOf b) lo (lo+x)/\Up κ (arrOf b) (lo+x-(f+1)) (lo+x)) ?_ ?_ ⟨0,rfl,zE _,⋯,⋯,F.wide ⋯,k,by rw[show lo+(n+1)=lo+n+1 by omega];exact Up.one⟩) ?_)
  ·rintro x c b b9 b6 ⟨f,rfl,L,t,N,ch,k,up⟩;have a1:kindOf b=kd:=ch.k.trans I;have a2:=ch.good J;have P:=ch.z;dsimp only;refine zG (cD D a1 a2 ⋯ ⋯ λp q ep r=>?_);dsimp only;cases hl:lq κ p q with
   |true =>
    rw[zJ rfl];refine nF (λS=>?_) λS=>?_
    ·refine zG (aS ⋯ λl a M=>zH ?_);have O:Ch lo (lo+x) b l:=⟨a.k,a.p,a.f,a.z,a.m,λi hi=>a.o i ⋯⟩;refine⟨0,rfl,⋯,⋯,⋯,(ch.trans O).wide ⋯,?_,by rw[show lo+(x+1)-(0+1)=lo+x by omega];exact Up.one⟩;refine Dn.more (hi:=lo+x) (by rw[M];exact Dn.turned k up ⋯ (zE _) ⋯) ⋯ (by rw[a.z];omega) λu v d g=>?_;rw[a.o _ (.inr (zE _)),ep]at g;cases g;rw[M,gH ⋯,zJ ⋯]at d;have l1:le' κ q u:=k _ _ u q ⋯ (show lo+x-(f+1)+(lo+x)-1-(lo+x-1)<=lo+x-1 by omega) ⋯ d r;exact lN (lW hl) l1
    ·refine zH ⟨0,rfl,⋯,⋯,⋯,ch.wide ⋯,?_,by rw[show lo+(x+1)-(0+1)=lo+x by omega];exact Up.one⟩;refine Dn.more k ⋯ ⋯ λu v d g=>?_;rw[r]at d;rw[ep]at g;cases d;cases g;exact lW hl
   | false =>
    rw[zI (by simp)];refine zG (cD D a1 a2 ⋯ ⋯ λb7 b8 Z V=>?_);rw[r]at Z;rw[ep]at V;cases Z;cases V;dsimp only;cases hl2:lq κ q p with
    |true =>
     rw[zJ rfl];exact zH ⟨x,f,rfl,L,t,N,ch,k,up⟩
    | false =>
     rw[zI (by simp)];refine zH ⟨f+1,rfl,⋯,⋯,⋯,ch.wide ⋯,?_,?_⟩
     ·refine Dn.more k ⋯ ⋯ λu v d g=>?_;rw[r]at d;rw[ep]at g;cases d;cases g;exact hl2
     ·have:=Up.more (hi':=lo+(x+1)) up ⋯ ⋯ λu v d g=>by
       rw[r]at d;rw[ep]at g;cases d;cases g;exact hl
      rw[show lo+(x+1)-(f+1+1)=lo+x-(f+1) by omega];exact this
  ·rintro c b ⟨f,rfl,L,t,N,ch,k,up⟩;exact⟨_,f,rfl,L,t,N,ch,k,up⟩
  ·rintro c b ⟨x,f,rfl,L,t,N,ch,k,up⟩;dsimp only;refine Ih (R:=λl=>Ch lo (lo+x) st l/\Dn κ (arrOf l) lo (lo+x)) (λS a4=>?_) (λS=>⟨ch,k⟩) λl a6=>?_
   ·have P:=ch.z;refine zG (aS ⋯ λl a M=>?_);have O:Ch lo (lo+x) b l:=⟨a.k,a.p,a.f,a.z,a.m,λi hi=>a.o i ⋯⟩;exact a4 l ⟨ch.trans O,by rw[M];exact Dn.turned k up ⋯ (zE _) ⋯⟩
   ·obtain⟨a,a7⟩:=a6;have c1:=a.z;refine zG (aS ⋯ λa5 W b3=>?_);have R:=a.trans W;have b5:=W.z;refine zG (Ii D (R.k.trans I) (R.good J) ⋯ ⋯ t (by rw[b3];exact Dn.up a7 ⋯) (λ_ _=>rfl) λm c0 a3 a9 _=>?_);dsimp only;exact zH (h m a5 ⋯ a3 (R.wide ⋯) a9)
theorem Sl{x y z:Keyed}(b:lq κ x y=true)(a:le' κ y z):lq κ x z=true:=KeyOrd.klt_of_klt_of_kle (O:=κ.toKeyOrd) b a
theorem Up.put{a:Array Keyed}{lo k l:Nat}{p:Keyed}(e:Up κ a lo (lo+k))(q:lo+k<a.size)(ep:a[lo+k]?=some p)(hl:l<=k)(n:∀i u,lo<=i->i<lo+l->a[i]?=some u->le' κ u p)(o:∀i u,lo+l<=i->i<lo+k->a[i]?=some u->lq κ p u=true):
  Up κ (bubble a (lo+k) (lo+k-(lo+l))) lo (lo+(k+1)):=λi j x y d m r c b=>by
 rw[getElem?_bubble q _ ⋯,show lo+k-(lo+k-(lo+l))=lo+l by omega]at c b
 by_cases g:i=lo+l
 ·rw[zJ g,ep]at c;cases c
  by_cases b1:j=lo+l
  ·rw[zJ b1,ep]at b;cases b;exact iQ _
  ·rw[zI b1,zJ ⋯]at b;exact lW (o _ _ ⋯ ⋯ b)
 ·rw[zI g]at c
  by_cases f:lo+l<i/\i<=lo+k
  ·rw[zJ f]at c;rw[zI ⋯,zJ ⋯]at b;exact e _ _ _ _ ⋯ (show i-1<=j-1 by omega) ⋯ c b
  ·rw[zI f]at c
   by_cases b1:j=lo+l
   ·rw[zJ b1,ep]at b;cases b;exact n _ _ d ⋯ c
   ·rw[zI b1]at b
    by_cases b2:lo+l<j/\j<=lo+k
    ·rw[zJ b2]at b;exact e _ _ _ _ d (show i<=j-1 by omega) ⋯ c b
    ·rw[zI b2]at b;exact e _ _ _ _ d m ⋯ c b
theorem Sk(K:Cmp prog w A s κ kd){st:SortSt}{lo n ok:Nat}{Q:Bool->SortSt->Prop}(C:kindOf st=kd)(D:∀x∈(arrOf st).toList,Gd κ x)(V:lo+n<=(arrOf st).size)(M:1<=ok)(L:ok<=n)(F:Up κ (arrOf st) lo (lo+ok))
  (h:∀a,Ch lo (lo+n) st a->Up κ (arrOf a) lo (lo+n)->Q true a):wpS (model prog w) A E s (binarySort' lo n ok) Q st:=by
 rw[binarySort'_eq];refine zG (wP (xR (I:=λk c a=>c=(none,())/\ok<=k/\k<=n/\Ch lo (lo+n) st a/\Up κ (arrOf a) lo (lo+k))
  (Q:=λc a=>c=(none,())/\Ch lo (lo+n) st a/\Up κ (arrOf a) lo (lo+n)) ?step ?fin ?init) ?post)
 case post =>
  rintro c a ⟨rfl,d,b⟩;exact zH (h a d b)
 case init=>rw[show max ok 1=ok by omega];exact⟨rfl,zE _,L,Ch.refl _ _ _,F⟩
 case fin =>
  rintro c a ⟨J,I,z,d,b⟩;rw[show max (max ok 1) n=n by omega]at b;exact⟨J,d,b⟩
 case step =>
  rintro k c a W T ⟨rfl,I,z,d,b⟩;have Y:=d.z;have S:kindOf a=kd:=d.k.trans C;have R:=d.good D;obtain⟨p,ep⟩:=mW (a:=arrOf a) (i:=lo+k) ⋯;refine zG (wP (xR (I:=λx c f=>f=a/\∃l r,c=(none,l,r)/\l<=r/\r<=k/\r-l<=k-x /\
    (∀i u,lo<=i->i<lo+l->(arrOf a)[i]?=some u->le' κ u p)/\(∀i u,lo+r<=i->i<lo+k->(arrOf a)[i]?=some u->lq κ p u=true))
   (Q:=λc f=>f=a/\∃l r,c=(none,l,r)/\l<=k /\
    (∀i u,lo<=i->i<lo+l->(arrOf a)[i]?=some u->le' κ u p)/\(∀i u,lo+l<=i->i<lo+k->(arrOf a)[i]?=some u->lq κ p u=true)) ?istep ?ifin ?iinit) ?ipost)
  case iinit=>exact⟨rfl,0,k,rfl,⋯,⋯,⋯,λi u _ hi=>⋯,λi u M Z=>⋯⟩
  case ifin =>
   rintro c f ⟨rfl,l,r,rfl,N,o,P,e,g⟩;have:l=r:=⋯
   subst this;exact⟨rfl,l,l,rfl,o,e,g⟩
  case istep =>
   rintro x c f _ U ⟨rfl,l,r,rfl,N,o,P,e,g⟩;dsimp only;refine nF (λO=>?_) λO=>?_
   ·have:l=r:=⋯
    subst this;exact zH ⟨rfl,l,l,rfl,o,e,g⟩
   ·refine zG (cD K S R ⋯ ⋯ λX q v y=>?_);rw[ep]at v;cases v;dsimp only;cases hless:lq κ p q with
    |true =>
     rw[zJ rfl];refine zH ⟨rfl,l,(l+r)/2,rfl,⋯,⋯,⋯,e,λi u m t j=>?_⟩;exact Sl hless (b _ _ _ _ ⋯ m t y j)
    |false =>
     rw[zI (by simp)];refine zH ⟨rfl,(l+r)/2+1,r,rfl,⋯,⋯,⋯,λi u m t j=>?_,g⟩;exact lN (b _ _ _ _ m (show i<=lo+(l+r)/2 by omega) ⋯ j y) hless
  case ipost =>
   rintro c f ⟨rfl,l,r,rfl,G,e,g⟩;show wpS _ _ _ _ (do moveDown' (lo+k) (lo+l);pure (ForInStep.yield (none,()))) _ _;rw[moveDown'_eq];refine zG (wY (zH ⟨rfl,⋯,⋯,d.trans ⟨rfl,rfl,rfl,bubble_size _ _ _,bubble_perm _ _ _,λi hi=>?_⟩,b.put ⋯ ep G e g⟩));exact(getElem?_bubble ⋯ _ ⋯ i).trans (by rw[zI ⋯,zI ⋯])
def Run(κ:PyProof.Rows.KeyKind)(a:Array Keyed):Nat->List (Nat×Nat×Nat)->Nat->Prop
 |s,[],e=>s=e
 |s,x:: xs,e=>x.1=s/\1<=x.2.1/\Up κ a s (s+x.2.1)/\Run κ a (s+x.2.1) xs e
theorem Run.le{a:Array Keyed}:∀{xs:List (Nat×Nat×Nat)}{s e:Nat},Run κ a s xs e->s+xs.length<=e
 |[],s,e,h=>by have:s=e:=h;simp[this]
 |x:: xs,s,e,h=>by have:=Run.le h.2.2.2;have:=h.2.1;simp only[List.length_cons];omega
theorem Run.app{a:Array Keyed}:∀{xs ys:List (Nat×Nat×Nat)}{s e:Nat},Run κ a s (xs++ys) e ↔ ∃m,Run κ a s xs m/\Run κ a m ys e
 |[],ys,s,e=>⟨λh=>⟨s,rfl,h⟩,λ⟨m,b,c⟩=>by cases(show s=m from b);exact c⟩
 |x:: xs,ys,s,e=>⟨λ⟨b,c,f,d⟩=>let ⟨m,j,i⟩:=Run.app.mp d;⟨m,⟨b,c,f,j⟩,i⟩,λ⟨m,⟨b,c,f,d⟩,g⟩=>⟨b,c,f,Run.app.mpr ⟨m,d,g⟩⟩⟩
theorem Run.same{a b:Array Keyed}:∀{xs:List (Nat×Nat×Nat)}{s e:Nat},(∀i,s<=i->i<e->b[i]?=a[i]?)->Run κ a s xs e->Run κ b s xs e
 |[],_,_,_,h=>h
 |x:: xs,s,e,q,h=>by
  have:=Run.le h.2.2.2;exact⟨h.1,h.2.1,h.2.2.1.same λi c d=>q i c ⋯,Run.same (λi c d=>q i ⋯ d) h.2.2.2⟩
theorem Cj{a:Array Keyed}{i j:Nat}(h:Up κ a i j):Srt κ (seg a.toList i j):=by
 rw[Srt,List.pairwise_iff_getElem];intro c u e d f;have e1:=xV e;have b:=xV d;rw[cC]at e1 b;split at e1
 ·split at b
  ·exact h _ _ _ _ ⋯ (show i+c<=i+u by omega) ⋯ (nA.mpr e1) (nA.mpr b)
  ·cases b
 ·cases e1
theorem Sj{a:Array Keyed}{l X r:List Keyed}{i j:Nat}(e:a.toList=l++X++r)(hl:l.length=i)(k:X.length=j-i)(h:Srt κ X):Up κ a i j:=λp q x y o m n d b=>by
 have d:=nA.mp d;have b:=nA.mp b;rw[e,yU,zZ ⋯,yI ⋯]at d b;rcases uR p q with c|c
 ·have f:p-l.length<X.length:=⋯
  have g:q-l.length<X.length:=⋯
  rw[xV f]at d;rw[xV g]at b;cases d;cases b;exact(List.pairwise_iff_getElem.mp h) _ _ f g ⋯
 ·have:p=q:=⋯
  subst this;rw[d]at b;cases b;exact iQ _
structure Wt(κ:PyProof.Rows.KeyKind)(kd:SortKind)(a₀:Array Keyed)(hi:Nat)(st:SortSt):Prop where
 k:kindOf st=kd
 f:failedOf st=none
 m:(arrOf st).Perm a₀
 r:Run κ (arrOf st) 0 (pendingOf st).toList hi
theorem Wt.z{a₀:Array Keyed}{hi:Nat}{st:SortSt}(h:Wt κ kd a₀ hi st):(arrOf st).size=a₀.size:=h.m.size_eq
theorem Wt.good{a₀:Array Keyed}{hi:Nat}{st:SortSt}(h:Wt κ kd a₀ hi st)(b:∀x∈a₀.toList,Gd κ x):∀x∈(arrOf st).toList,Gd κ x:=λx a=>b x ((h.m.toList.mem_iff).mp a)
theorem Si{p:Array (Nat×Nat×Nat)}{xs ys:List (Nat×Nat×Nat)}{e f g:Nat×Nat×Nat}(h:p.toList=xs++e:: f:: ys):((p.setIfInBounds xs.length g).eraseIdxIfInBounds (xs.length+1)).toList=xs++g:: ys:=by
 have a:xs.length+1<(p.setIfInBounds xs.length g).size:=by
  rw[Array.size_setIfInBounds,←zN,h];simp
 rw[Array.eraseIdxIfInBounds,pS a,Array.toList_eraseIdx,Array.toList_setIfInBounds,h,List.set_append_right _ _ (zE _),uW];rw[vX ⋯];simp
theorem Ci(F:Cmp prog w A s κ kd){a₀:Array Keyed}(z:∀x∈a₀.toList,Gd κ x){st:SortSt}{i hi:Nat}{xs ys:List (Nat×Nat×Nat)}{e f:Nat×Nat×Nat}{Q:Bool->SortSt->Prop}(c:Wt κ kd a₀ hi st)(hh:hi<=a₀.size)(d:(pendingOf st).toList=xs++e:: f:: ys)(u:i=xs.length)
  (h:∀a,Wt κ kd a₀ hi a->(pendingOf a).toList=xs++(e.1,e.2.1+f.2.1,e.2.2):: ys->(∀j,hi<=j->(arrOf a)[j]?=(arrOf st)[j]?)->Q true a):wpS (model prog w) A E s (mergeAt' i) Q st:=by
 subst u;have hr:=c.r;rw[d]at hr;obtain⟨m,l,k,K,v,J,G,t,p⟩:=Run.app.mp hr;have l1:=l.le;have l2:=p.le;have L:=c.z;have e1:(pendingOf st)[xs.length]?=some (m,e.2.1,e.2.2):=by
  rw[←yT,d,zZ (zE _),uW,←k];rfl
 have y:(pendingOf st)[xs.length+1]?=some (m+e.2.1,f.2.1,f.2.2):=by
  rw[←yT,d,zZ ⋯,Nat.add_sub_cancel_left,←J];rfl
 refine So F c.k (c.good z) c.f e1 y K G ⋯ (Cj v) (Cj t) λa X C D I g n r=>?_;have M:X.length=e.2.1+f.2.1:=by rw[n.length_eq,Ck (by rw[zN];omega)];omega
 have lt:((arrOf st).toList.take m).length=m:=by rw[xF,zN];omega
 have ps:(pendingOf a).toList=xs++(e.1,e.2.1+f.2.1,e.2.2):: ys:=by
  rw[I,←k];exact Si d
 have up:Up κ (arrOf a) m (m+e.2.1+f.2.1):=Sj g lt ⋯ r;have lo:∀j,j<m->(arrOf a)[j]?=(arrOf st)[j]?:=λj b=>by
  rw[←yT,←yT,g,yU,yI ⋯,List.getElem?_take_of_lt b]
 have o:∀j,m+e.2.1+f.2.1<=j->(arrOf a)[j]?=(arrOf st)[j]?:=λj b=>by
  rw[←yT,←yT,g,zZ (by rw[zS];omega),tV];congr 1;rw[zS];omega
 refine h a ⟨C,D,?_,?_⟩ ps λj b=>o j ⋯
 ·refine Array.Perm.trans (Array.perm_iff_toList_perm.mpr ?_) c.m;have q:=(n.append_left ((arrOf st).toList.take m)).append_right ((arrOf st).toList.drop (m+e.2.1+f.2.1));rw[Ik ⋯]at q;rw[g];exact q
 ·rw[ps];refine Run.app.mpr ⟨m,l.same λj _ b=>lo j b,k,(show 1<=e.2.1+f.2.1 by omega),?_,?_⟩
  ·show Up κ _ m (m+(e.2.1+f.2.1));rw[←rA];exact up
  ·show Run κ _ (m+(e.2.1+f.2.1)) _ _;rw[←rA];exact p.same λj b _=>o j b
theorem Run.modify{a:Array Keyed}{f:Nat×Nat×Nat->Nat×Nat×Nat}(b:∀e,(f e).1=e.1/\(f e).2.1=e.2.1):∀{xs:List (Nat×Nat×Nat)}{i s e:Nat},Run κ a s xs e->Run κ a s (xs.modify i f) e
 |[],i,s,e,h=>by cases i <;> exact h
 |x:: xs,0,s,e,h=>by
  show(f x).1=s/\1<=(f x).2.1/\Up κ a s (s+(f x).2.1)/\Run κ a (s+(f x).2.1) xs e;rw[(b x).1,(b x).2];exact h
 |x:: xs,i+1,s,e,h=>⟨h.1,h.2.1,h.2.2.1,Run.modify b h.2.2.2⟩
theorem Sh{b:Prop}[Decidable b]{z:Nat}(h:¬ z<=1):(if b then z-2-1 else z-2)+1<z:=by split <;> omega
theorem Cg{p:Array (Nat×Nat×Nat)}{i:Nat}(h:i+1<p.size):∃xs e f ys,p.toList=xs++e:: f:: ys/\xs.length=i:=by
 have h':i+1<p.toList.length:=by rw[zN];exact h
 refine⟨p.toList.take i,p.toList[i],p.toList[i+1],p.toList.drop (i+2),?_,by rw[xF];omega⟩;rw[←tO,←tO,wB]
theorem Wt.push{a₀:Array Keyed}{lo n:Nat}{st:SortSt}(h:Wt κ kd a₀ lo st)(a:1<=n)(b:Up κ (arrOf st) lo (lo+n)):Wt κ kd a₀ (lo+n) (setPending st ((pendingOf st).push (lo,n,0))):=
 ⟨h.k,h.f,h.m,by
  show Run κ (arrOf st) 0 ((pendingOf st).push (lo,n,0)).toList (lo+n);rw[uQ];exact Run.app.mpr ⟨lo,h.r,rfl,a,b,rfl⟩⟩
theorem Sg(G:Cmp prog w A s κ kd){a₀:Array Keyed}(D:∀x∈a₀.toList,Gd κ x){st:SortSt}{Q:Unit->SortSt->Prop}(a0:kindOf st=kd)(a7:failedOf st=none)(Z:pendingOf st=#[])(U:arrOf st=a₀)
  (h:∀a,kindOf a=kd->failedOf a=none->(arrOf a).Perm a₀->Up κ (arrOf a) 0 a₀.size->Q () a):wpS (model prog w) A E s sortRuns' Q st:=by
 rw[sortRuns'_eq];refine zG (uT ?_);rw[U];dsimp only;have X:Wt κ kd a₀ 0 st:=⟨a0,a7,by rw[U],by rw[Z];rfl⟩;refine zG (wP (xR (I:=λx c a=>∃lo,c=(none,lo)/\x<=lo/\lo<=a₀.size/\Wt κ kd a₀ lo a)
  (Q:=λc a=>c=(none,a₀.size)/\Wt κ kd a₀ a₀.size a) ?step ?fin ⟨0,rfl,zE _,yV _,X⟩) ?post)
 case fin =>
  rintro c a ⟨lo,rfl,a4,S,g⟩;have:lo=a₀.size:=⋯
  subst this;exact⟨rfl,g⟩
 case step =>
  rintro x c a b5 b3 ⟨lo,rfl,a4,S,g⟩;dsimp only;refine nF (λz=>?_) λz=>?_
  ·have:lo=a₀.size:=⋯
   subst this;exact zH ⟨rfl,g⟩
  have b2:=g.z;refine zG (Sn G g.k (g.good D) ⋯ ⋯ λn V M b1 k P=>?_);dsimp only;have W:∀l,kindOf l=kindOf a->pendingOf l=pendingOf a->failedOf l=failedOf a->(arrOf l).Perm (arrOf a)->(∀i,i<lo->(arrOf l)[i]?=(arrOf a)[i]?)->Wt κ kd a₀ lo l:=λl e1 a2 a3 a8 a5=>⟨e1.trans g.k,a3.trans g.f,a8.trans g.m,by rw[a2];exact g.r.same λi _ hi=>a5 i hi⟩;refine nF (λy=>?_) λy=>?_
  ·refine zG (qE (wX ⟨rfl,?_⟩));have b4:=k.z;refine zG (Sk G (k.k.trans g.k) (k.good (g.good D)) ⋯ M ⋯ P λl I t=>?_);rw[zI (by simp)];obtain⟨u,L,p,t⟩:Wt κ kd a₀ lo l/\1<=min (a₀.size-lo) (minRun' a₀.size a₀.size 0)/\lo+min (a₀.size-lo) (minRun' a₀.size a₀.size 0)<=a₀.size/\Up κ (arrOf l) lo (lo+min (a₀.size-lo) (minRun' a₀.size a₀.size 0)):=⟨W l (I.k.trans k.k) (I.p.trans k.p) (I.f.trans k.f) (I.m.trans k.m) λi hi=>(I.o i (.inl hi)).trans (k.o i (.inl hi)),⋯,⋯,t⟩
   revert L p t
   generalize min (a₀.size-lo) (minRun' a₀.size a₀.size 0)=n;intro L p t;refine zG (uT ?_);cases hb:(pendingOf l).back? with
   |none =>
    dsimp only;exact zG (wY (zH ⟨lo+n,rfl,⋯,p,u.push L t⟩))
   | some J =>
    obtain⟨v,k1,b0⟩:=J;dsimp only;generalize power' a₀.size (2*v+k1) (2*v+k1+k1+n) a₀.size=C;refine zG (wP (xR (I:=λx c a=>c=(none,())/\Wt κ kd a₀ lo a/\Up κ (arrOf a) lo (lo+n))
     (Q:=λc a=>c=(none,())/\Wt κ kd a₀ lo a/\Up κ (arrOf a) lo (lo+n)) ?istep1 (λc a hh=>hh) ⟨rfl,u,t⟩) ?ipost1)
    case istep1 =>
     rintro x c b _ _ ⟨rfl,d,m⟩;refine zG (uT ?_)
     by_cases F:(pendingOf b).size > 1
     ·rw[zJ F];obtain⟨xs,e,f,ys,ep,r⟩:=Cg (p:=pendingOf b) (i:=(pendingOf b).size-2) ⋯;have R:(pendingOf b)[(pendingOf b).size-2]?=some e:=by
       rw[←yT,ep,zZ ⋯,r,uW];rfl
      rw[R];dsimp only;refine nF (λ_=>zH ⟨rfl,d,m⟩) λ_=>?_;refine zG (Ci G D d S ep r.symm λT o N O=>?_);rw[zI (by simp)];exact zH ⟨rfl,o,m.same λi hi _=>O i hi⟩
     ·rw[zI F];exact zH ⟨rfl,d,m⟩
    case ipost1 =>
     rintro c b ⟨rfl,d,m⟩;dsimp only;refine zG (wY ?_);have o:Wt κ kd a₀ lo (setPending b ((pendingOf b).modify ((pendingOf b).size-1) λx=>(x.1,x.2.1,C))):=⟨d.k,d.f,d.m,by
      show Run κ (arrOf b) 0 ((pendingOf b).modify _ _).toList lo;rw[Array.toList_modify];exact Run.modify (f:=λx=>(x.1,x.2.1,C)) (λe=>⟨rfl,rfl⟩) d.r⟩
     exact zG (wY (zH ⟨lo+n,rfl,⋯,p,o.push L m⟩))
  ·have u:=W V k.k k.p k.f k.m λi hi=>k.o i (.inl hi);have p:lo+n<=a₀.size:=⋯
   refine zG (uT ?_);cases hb:(pendingOf V).back? with
   |none =>
    dsimp only;exact zG (wY (zH ⟨lo+n,rfl,⋯,p,u.push M P⟩))
   | some J =>
    obtain⟨v,k1,b0⟩:=J;dsimp only;generalize power' a₀.size (2*v+k1) (2*v+k1+k1+n) a₀.size=C;refine zG (wP (xR (I:=λx c a=>c=(none,())/\Wt κ kd a₀ lo a/\Up κ (arrOf a) lo (lo+n))
     (Q:=λc a=>c=(none,())/\Wt κ kd a₀ lo a/\Up κ (arrOf a) lo (lo+n)) ?istep (λc a hh=>hh) ⟨rfl,u,P⟩) ?ipost)
    case istep =>
     rintro x c b _ _ ⟨rfl,d,m⟩;refine zG (uT ?_)
     by_cases F:(pendingOf b).size > 1
     ·rw[zJ F];obtain⟨xs,e,f,ys,ep,r⟩:=Cg (p:=pendingOf b) (i:=(pendingOf b).size-2) ⋯;have R:(pendingOf b)[(pendingOf b).size-2]?=some e:=by
       rw[←yT,ep,zZ ⋯,r,uW];rfl
      rw[R];dsimp only;refine nF (λ_=>zH ⟨rfl,d,m⟩) λ_=>?_;refine zG (Ci G D d S ep r.symm λT o N O=>?_);rw[zI (by simp)];exact zH ⟨rfl,o,m.same λi hi _=>O i hi⟩
     ·rw[zI F];exact zH ⟨rfl,d,m⟩
    case ipost =>
     rintro c b ⟨rfl,d,m⟩;dsimp only;refine zG (wY ?_);have o:Wt κ kd a₀ lo (setPending b ((pendingOf b).modify ((pendingOf b).size-1) λx=>(x.1,x.2.1,C))):=⟨d.k,d.f,d.m,by
      show Run κ (arrOf b) 0 ((pendingOf b).modify _ _).toList lo;rw[Array.toList_modify];exact Run.modify (f:=λx=>(x.1,x.2.1,C)) (λe=>⟨rfl,rfl⟩) d.r⟩
     exact zG (wY (zH ⟨lo+n,rfl,⋯,p,o.push M m⟩))
 case post =>
  rintro c a ⟨rfl,g⟩;dsimp only;have a6:=g.r.le;rw[zN]at a6;refine zG (wP (xR (I:=λx c a=>c=(none,())/\Wt κ kd a₀ a₀.size a/\((pendingOf a).size<=1\/(pendingOf a).size+x<=a₀.size))
   (Q:=λc a=>c=(none,())/\Wt κ kd a₀ a₀.size a/\(pendingOf a).size<=1) ?fstep ?ffin ⟨rfl,g,.inr ⋯⟩) ?fpost)
  case ffin =>
   rintro c b ⟨rfl,d,K⟩;exact⟨rfl,d,⋯⟩
  case fstep =>
   rintro x c b _ _ ⟨rfl,d,K⟩;refine zG (uT ?_);refine nF (λq=>zH ⟨rfl,d,q⟩) λq=>?_;generalize hi:(if Option.any (λx=>decide (x<(pendingOf b)[(pendingOf b).size-2+1]?.elim 0 λx=>x.2.1)) (if(pendingOf b).size-2 > 0 then Option.map (λx=>x.2.1) (pendingOf b)[(pendingOf b).size-2-1]? else none)=true then(pendingOf b).size-2-1 else(pendingOf b).size-2)=i;have hi':i+1<(pendingOf b).size:=by
    rw[←hi];exact Sh q
   obtain⟨xs,e,f,ys,ep,r⟩:=Cg hi';refine zG (Ci G D d (zE _) ep r.symm λT o N _=>?_);rw[zI (by simp)];refine zH ⟨rfl,o,.inr ?_⟩;have a1:=wH List.length ep;have Y:=wH List.length N;simp only[Array.length_toList,List.length_append,List.length_cons]at a1 Y;omega
  case fpost =>
   rintro c b ⟨rfl,d,K⟩;refine zH (h b d.k d.f d.m ?_);have hr:=d.r;rw[←zN]at K
   match hl:(pendingOf b).toList,hr,K with
   |[],hr,_ =>
    have:0=a₀.size:=hr;rw[←this];exactλi j x y _ _ a9=>absurd a9 (tQ _)
   |[J],hr,_ =>
    have:0+J.2.1=a₀.size:=hr.2.2.2;rw[←this];exact hr.2.2.1
end
def cE(prog:Program)(w:World)(n:Nat):Prop:=∀{A:Around}{E:VP}{s:Shared}{κ:PyProof.Rows.KeyKind}{kd:SortKind}{a₀:Array Keyed}{st:SortSt}{Q:Unit->SortSt->Prop},a₀.size=n->2<=n->Cmp prog w A s κ kd->(∀x∈a₀.toList,Gd κ x)->kindOf st=kd->failedOf st=none->pendingOf st=#[]->arrOf st=a₀ ->
 (∀st',kindOf st'=kd->failedOf st'=none->(arrOf st').Perm a₀->Up κ (arrOf st') 0 a₀.size->Q () st')->wpS (model prog w) A E s sortRuns' Q st
section
variable {prog:Program} {w:World}
theorem Sf(n:Nat):cE prog w n:=λ_ _ b d e a c f h=>Sg b d e a c f h
end
mutual
noncomputable def fl:PyData->LI'
 |.int i=>[i]
 |.tuple xs=>flA xs
 |_=>[]
noncomputable def flA:List PyData->LI'
 |[]=>[]
 |d:: ds=>fl d++flA ds
end
mutual
noncomputable def sm:PyData->PyData->Bool
 |.int _,.int _=>true
 |.tuple xs,.tuple ys=>smA xs ys
 |_,_=>false
noncomputable def smA:List PyData->List PyData->Bool
 |[],[]=>true
 |x:: xs,y:: ys=>sm x y && smA xs ys
 |_,_=>false
end
mutual
theorem aU:∀(x y:PyData),sm x y=true->(fl x).length=(fl y).length
 |.int _,y,h=>by cases y <;> simp[sm]at h <;> simp[fl]
 |.tuple xs,y,h=>by cases y <;> simp[sm]at h <;> simp[fl];exact Ig _ _ h
 |.none,y,h=>by simp[sm]at h
 |.bool _,y,h=>by simp[sm]at h
 |.str _,y,h=>by simp[sm]at h
 |.list _,y,h=>by simp[sm]at h
 |.dict _,y,h=>by simp[sm]at h
theorem Ig:∀(xs ys:List PyData),smA xs ys=true->(flA xs).length=(flA ys).length
 |[],ys,h=>by cases ys <;> simp[smA]at h <;> rfl
 |x:: xs,ys,h=>by
  cases ys <;> simp[smA]at h;simp only[flA,List.length_append];rw[aU _ _ h.1,Ig _ _ h.2]
end
mutual
theorem aV:∀(x y:PyData),sm x y=true->fl x=fl y->x=y
 |.int _,y,h,e=>by cases y <;> simp[sm]at h;simp[fl]at e;rw[e]
 |.tuple xs,y,h,e=>by cases y <;> simp[sm]at h;simp only[fl]at e;rw[Ie _ _ h e]
 |.none,y,h,e=>by simp[sm]at h
 |.bool _,y,h,e=>by simp[sm]at h
 |.str _,y,h,e=>by simp[sm]at h
 |.list _,y,h,e=>by simp[sm]at h
 |.dict _,y,h,e=>by simp[sm]at h
theorem Ie:∀(xs ys:List PyData),smA xs ys=true->flA xs=flA ys->xs=ys
 |[],ys,h,e=>by cases ys <;> simp[smA]at h;rfl
 |x:: xs,ys,h,e=>by
  cases ys <;> simp[smA]at h;simp only[flA]at e;obtain⟨e1,a⟩:=List.append_inj e (aU _ _ h.1);rw[aV _ _ h.1 e1,Ie _ _ h.2 a]
end
noncomputable def lx(a b:LI'):Bool:=decide (a<b)
theorem Cf:∀(a l1 l2:LI'),lx (a++l1) (a++l2)=lx l1 l2
 |[],_,_=>rfl
 |x:: a,l1,l2=>by
  rw[←Cf a l1 l2]
  refine oI.mpr ?_
  simp[List.cons_lt_cons_iff]
theorem Ce:∀(a b l1 l2:LI'),a.length=b.length->a≠b->lx (a++l1) (b++l2)=lx a b
 |[],[],_,_,_,h=>absurd rfl h
 |[],_:: _,_,_,h,_=>by simp at h
 |_:: _,[],_,_,h,_=>by simp at h
 |x:: a,y:: b,l1,l2,h,c=>by
  refine oI.mpr ?_
  simp only[List.cons_append,List.cons_lt_cons_iff]
  by_cases e:x=y
  ·subst e;have:=oI.mp (Ce a b l1 l2 (by simpa using h) (by simpa using c));rw[this]
  ·simp[e]
section
variable {prog:Program} {w:World} {E:VP}
theorem eqT{n:Nat}(j:n<=4){A:Around}{s:Shared}{v u:Value}{x y:PyData}{as bs:LA}{Q:Bool->Shared->Prop}(d:tT n x=true)(g:tT n y=true)(c:Reads s.heap v x as)(f:Reads s.heap u y bs)(i:A.units+8<cLine)(h:Q (decide (x=y)) s):wpAny (model prog w) A (eqBool v u) Q E s:=by
 have a:=gU n _ d;have b:=gU n _ g;have l1:=jZ n _ a;have l2:=jZ n _ b;refine PySem.SeqAt.eqBoolOverData _ _ _ _ _ _ _ _ _ _ _ _ c f l1.1 l2.1 ⋯ ?_;rw[←SeqAt.same_eq_eqv _ _ (aA n _ _ a b)];have e:=aB n _ _ a b
 by_cases z:x=y
 ·rw[zL z]at h;rw[e.mpr z];exact h
 ·rw[zP z]at h;have:same x y=false:=by
   cases q:same x y with
   |false=>rfl
   |true=>exact absurd (e.mp q) z
  rw[this];exact h
theorem ltT:∀(n:Nat),n<=4->∀{A:Around}{s:Shared}{v u:Value}{x y:PyData}{as bs:LA}{Q:VP},tT n x=true->tT n y=true->sm x y=true->Reads s.heap v x as->Reads s.heap u y bs->A.units+8+n<cLine->Q (.bool (lx (fl x) (fl y))) s->wpAny (model prog w) A (richCompare .Lt v u) Q E s:=by
 intro n
 induction n with
 |zero =>
  intro T A s v u x y as bs Q C G F f d X h;cases f <;> simp[tT]at C;cases d <;> simp[tT]at G;refine wpAny_lt_int ?_;simpa [fl,lx,uS]using h
 | succ n Z =>
  intro T A s v u x y as bs Q C G F f d X h;cases f <;> simp only[tT,Bool.false_eq_true]at C
  case int =>
   cases d <;> simp only[sm,Bool.false_eq_true]at F;refine wpAny_lt_int ?_;simpa [fl,lx,uS]using h
  case tuple a o vs m xs hg hc hd hr =>
   cases d <;> simp only[sm,Bool.false_eq_true]at F;rename_i b U us b2 ys N a8 a0 V;simp only[tT]at G;have P:s.TypeIs (.ref a) "tuple" := ⟨o,hg,hc⟩;have O:s.TypeIs (.ref b) "tuple" := ⟨U,N,a8⟩;refine wpAny_richCompare_same_room (op:=.Lt) P O PySem.F.slot_tuple_lt (xJ PySem.F.slot_tuple_lt P PySem.F.entry_tuple_lt ?_ (PySem.F.args_tuple_lt_2 _ _)) ⋯;show wpAny _ _ (isInstance (.ref b) (.type "tuple") >>= _) _ _ s;refine zA (vI O isSubtype_tuple_tuple ?_);simp only[Bool.not_true,Bool.false_eq_true,if_false];refine zA (qG hg hd ?_);refine zA (qG N a0 ?_);refine zA ?_;refine wpAny_forIn_list _
    (λrest r l=>r.1=none/\l=s/\∃j g z t K L,rest=List.zip z t/\ReadsAll s.heap z j K/\ReadsAll s.heap t g L/\j.all (tT n)=true/\g.all (tT n)=true/\smA j g=true/\lx (flA j) (flA g)=lx (flA xs) (flA ys)/\(z.length+us.size=t.length+vs.size))
    _ ?_ ?_ _ _ ⟨rfl,rfl,xs,ys,vs.toList,us.toList,_,_,rfl,hr,V,C,G,F,rfl,by simp;omega⟩
   ·rintro⟨p,q⟩ rest r l ⟨I,rfl,j,g,z,t,K,L,k,J,D,ta,tb,c,i,M⟩;cases J with
    |nil=>simp at k
    | @cons b7 W d' a2 b5 b0 f a7 =>
     cases D with
     |nil=>simp[smA]at c
     |@cons b6 a5 R a4 b1 b8 d S =>
      simp only[List.zip_cons_cons,List.cons.injEq,Prod.mk.injEq]at k;obtain⟨⟨rfl,rfl⟩,rfl⟩:=k;rw[xG,zT]at ta tb;simp only[smA,Bool.and_eq_true]at c;refine zA (eqT (n:=n) ⋯ ta.1 tb.1 f d (by show A.units+1+8<cLine;omega) ?_)
      by_cases e:d'=R
      ·subst e;rw[zL rfl];simp only[Bool.not_true,Bool.false_eq_true,if_false];refine zB ⟨rfl,rfl,a2,a4,W,a5,_,_,rfl,a7,S,ta.2,tb.2,c.2,?_,by simp at M;omega⟩;rw[←i];simp only[flA];rw[Cf]
      ·rw[zP e];simp only[Bool.not_false,if_true];have a9:fl d'≠fl R:=λq=>e (aV _ _ c.1 q);simp only[flA]at i;rw[Ce _ _ _ _ (aU _ _ c.1) a9]at i;refine zA (wX ?_);refine zA (Z ⋯ ta.1 tb.1 c.1 f d (by show A.units+1+8+n<cLine;omega) ?_);rw[i];exact zA (zB (zB (zB ⟨_,rfl,(λe=>nomatch e),h⟩)))
   ·rintro⟨f,d⟩ l ⟨I,rfl,j,g,z,t,K,L,k,J,D,ta,tb,c,i,M⟩;simp only at I;subst I;cases J with
    |cons b4 b3 =>
     cases D with
     |nil=>simp[smA]at c
     |cons a1 Y=>simp at k
    | nil =>
     cases D with
     |cons a1 Y=>simp[smA]at c
     |nil =>
      have a3:vs.size=us.size:=by simp at M;omega
      have a6:lx (flA xs) (flA ys)=false:=by rw[←i];simp[flA,lx]
      refine zB ⟨_,rfl,(λe=>nomatch e),?_⟩;show Q (.bool (decide (vs.size<us.size))) l;have h':Q (.bool (lx (flA xs) (flA ys))) l:=h;rw[a6]at h';rw[a3,zP (xH _)];exact h'
end
mutual
theorem Id:∀(d x y:PyData),sm d x=true->sm d y=true->sm x y=true
 |.int _,x,y,a,b=>by cases x <;> simp[sm]at a;cases y <;> simp[sm]at b;simp[sm]
 |.tuple xs,x,y,a,b=>by cases x <;> simp[sm]at a;cases y <;> simp[sm]at b;simp only[sm];exact Ic _ _ _ a b
 |.none,x,y,a,b=>by simp[sm]at a
 |.bool _,x,y,a,b=>by simp[sm]at a
 |.str _,x,y,a,b=>by simp[sm]at a
 |.list _,x,y,a,b=>by simp[sm]at a
 |.dict _,x,y,a,b=>by simp[sm]at a
theorem Ic:∀(d x y:List PyData),smA d x=true->smA d y=true->smA x y=true
 |[],x,y,b,a=>by cases x <;> simp[smA]at b;cases y <;> simp[smA]at a;simp[smA]
 |d:: ds,x,y,b,a=>by
  cases x <;> simp[smA]at b;cases y <;> simp[smA]at a;simp only[smA,Bool.and_eq_true];exact⟨Id _ _ _ b.1 a.1,Ic _ _ _ b.2 a.2⟩
end
theorem Ib(a:LI'):lx a a=false:=zP (List.lt_irrefl a)
theorem Ia(a b c:LI')(e:lx a b=true)(d:lx b c=true):lx a c=true:=zL (List.lt_trans (yP e) (yP d))
theorem Jz(a b:LI')(d:lx a b=false)(c:lx b a=false):a=b:=List.le_antisymm (oH.mp (tZ c)) (oH.mp (tZ d))
theorem Se(a b c:LI')(h:lx a c=true):lx a b=true\/lx b c=true:=by
 cases h1:lx a b with
 |true=>exact .inl rfl
 | false =>
  refine .inr ?_;cases h2:lx b c with
  |true=>rfl
  |false =>
   have e1:b<=a:=oH.mp (tZ h1);have d:c<=b:=oH.mp (tZ h2);exact absurd (yP h) (oH.mpr (List.le_trans d e1))
open Classical in
def keyT(h:Heap)(d0:PyData)(v:Value):Option (LI'):=if q:∃d,tT 4 d=true/\sm d0 d=true/\∃as,Reads h v d as then some (fl q.choose) else none
theorem Jy{h:Heap}{d0 d:PyData}{v:Value}{as:LA}(a:tT 4 d=true)(z:sm d0 d=true)(r:Reads h v d as):keyT h d0 v=some (fl d):=by
 have q:∃d,tT 4 d=true/\sm d0 d=true/\∃as,Reads h v d as:=⟨d,a,z,as,r⟩;unfold keyT;rw[pS q];obtain⟨t',c,e,b⟩:=q.choose_spec;rw[tS _ _ _ _ _ (jZ 4 _ (gU 4 _ t')).1 b r]
theorem Jx{h:Heap}{d0:PyData}{v:Value}{a:LI'}(e:keyT h d0 v=some a):∃d as,tT 4 d=true/\sm d0 d=true/\Reads h v d as/\a=fl d:=by
 unfold keyT at e
 by_cases q:∃d,tT 4 d=true/\sm d0 d=true/\∃as,Reads h v d as
 ·rw[pS q]at e;obtain⟨t',b,f,c⟩:=q.choose_spec;exact⟨_,f,t',b,c,by cases e;rfl⟩
 ·rw[dif_neg q]at e;cases e
def eF(h:Heap)(d0:PyData):PyProof.Rows.KeyKind where
 α:=LI'
 blt:=lx
 irrefl:=Ib
 trans:=Ia
 negTrans:=Se
 total:=Jz
 keyOf:=keyT h d0
 dflt:=[]
section
variable {prog:Program} {w:World} {A:Around} {s:Shared}
theorem katT(r:A.units+16<cLine){Q:Bool->Shared->Prop}:∀(c a:List PyData)(g f:LW)(k j:LA)(i:Nat),ReadsAll s.heap g c k->ReadsAll s.heap f a j->c.all (tT 3)=true->a.all (tT 3)=true->smA c a=true->Q (lx (flA c) (flA a)) s->PySem.W.KatLex prog w A false false Q (g.zip f) i s
 | [],a,g,f,k,j,i,m,l,_,_,b,h=>by
  cases m;cases a with
  |cons _ _=>simp[smA]at b
  |nil =>
   cases l;refine PySem.W.kat_nil ?_;simpa [flA,lx]using h
 | d :: c,a,g,f,k,j,i,m,l,ta,tb,b,h=>by
  cases a with
  |nil=>simp[smA]at b
  | cons e a =>
   cases m with
   | cons n t =>
    cases l with
    |cons o p =>
     rw[xG,zT]at ta tb;simp only[smA,Bool.and_eq_true]at b;rw[qJ];refine PySem.W.kat_cons (eqT (n:=3) ⋯ ta.1 tb.1 n o ⋯ ?_);simp only[flA]at h
     by_cases z:d=e
     ·subst z;rw[zL rfl];rw[Cf]at h;exact PySem.W.kat_yes (katT r c a _ _ _ _ (i+1) t p ta.2 tb.2 b.2 h)
     ·rw[zP z];rw[Ce _ _ _ _ (aU _ _ b.1) λq=>z (aV _ _ b.1 q)]at h;refine PySem.W.kat_no ?_;show wpAny (model prog w) A (oneLt' false _ _) Q _ s;exact PySem.W.kat_one _ _ (ltT 3 ⋯ ta.1 tb.1 b.1 n o ⋯ h)
theorem cmpT(D:A.units+16<cLine){d0:PyData}(f:∃l,d0=.tuple l):Cmp prog w A s (eF s.heap d0) (tuples' false):=by
 intro E x y a b Q v C h;obtain⟨l,rfl⟩:=f;obtain⟨d,as,k,p,i,rfl⟩:=Jx v;obtain⟨e,bs,q,j,c,rfl⟩:=Jx C;have z:=Id _ _ _ p j;cases i <;> simp only[sm,Bool.false_eq_true]at p
 case tuple a o vs m xs hg hc f hr =>
  cases c <;> simp only[sm,Bool.false_eq_true]at j;rename_i b I us J ys t G F n;simp only[tT]at k q;simp only[sm]at z;have hl:vs.size=us.size:=by
   have e1:∀{h:Heap}{vs:LW}{xs:List PyData}{as:LA},ReadsAll h vs xs as->vs.length=xs.length:=by
    intro h vs xs as r
    induction xs generalizing vs as with
    |nil=>cases r;rfl
    |cons x xs g=>cases r with|cons i c=>simp[g c]
   have u:∀{xs ys:List PyData},smA xs ys=true->xs.length=ys.length:=by
    intro xs
    induction xs with
    |nil=>intro ys h;cases ys <;> simp[smA]at h;rfl
    |cons x xs g=>intro ys h;cases ys <;> simp[smA]at h;simp[g h.2]
   have:=e1 hr;have:=e1 n;have:=u z;simp only[Array.length_toList]at*
   omega
  refine PySem.W.kat_lt hg f t F ?_;rw[zP ⋯];exact katT D xs ys _ _ _ _ 0 hr n k q z h
end
theorem Cd{h h':Heap}(g:∀b o,h.get? b=some o->o.cls=.type "tuple" -> h'.get? b=some o):∀(n:Nat){v:Value}{d:PyData}{as:LA},tT n d=true->Reads h v d as->Reads h' v d as:=by
 intro n
 induction n with
 |zero =>
  intro v d as c r;cases r <;> simp[tT]at c;exact .int _ _
 | succ n i =>
  have all:∀(xs:List PyData)(vs:LW)(as:LA),xs.all (tT n)=true->ReadsAll h vs xs as->ReadsAll h' vs xs as:=by
   intro xs
   induction xs with
   |nil=>intro vs as _ r;cases r;exact .nil
   | cons d ds j =>
    intro vs as c r;cases r with
    |cons e f =>
     rw[xG,zT]at c;exact .cons (i c.1 e) (j _ _ c.2 f)
  intro v d as c r;cases r <;> simp only[tT,Bool.false_eq_true]at c
  case int=>exact .int _ _
  case tuple a o vs k xs hg hc hdd hr=>exact .tuple (g _ _ hg hc) hc hdd (all _ _ _ c hr)
theorem Paired.perm{i f:Type}{F:i->f->Prop}{ys g:List f}(p:ys.Perm g):∀{xs:List i},Paired F xs ys->∃e,e.Perm xs/\Paired F e g:=by
 induction p with
 |nil=>intro xs h;exact⟨xs,List.Perm.refl _,h⟩
 | cons x p o =>
  intro xs h;cases h with
  |@cons a b l1 l2 c d =>
   obtain⟨e,q,h'⟩:=o d;exact⟨a:: e,q.cons _,.cons c h'⟩
 | swap x y l =>
  intro xs h;cases h with
  |@cons a b l1 l2 c d =>
   cases d with
   |@cons u G j D r k=>exact⟨u:: a:: j,List.Perm.swap ..,.cons r (.cons c k)⟩
 |trans I C n t =>
  intro xs h;obtain⟨z,m,c⟩:=n h;obtain⟨w,v,d⟩:=t c;exact⟨w,v.trans m,d⟩
theorem Paired.mem{c b:Type}{F:c->b->Prop}{xs:List c}{ys:List b}(h:Paired F xs ys):∀x∈xs,∃y∈ys,F x y:=by
 induction h with
 |nil=>intro x a;cases a
 |cons d i g =>
  intro x a;rcases xE.mp a with e|a
  ·subst e;exact⟨_,.head _,d⟩
  ·obtain⟨y,f,q⟩:=g x a;exact⟨y,.tail _ f,q⟩
theorem ord_of{κ:PyProof.Rows.KeyKind}{d:Type}{F:d->Value->Prop}{k:d->κ.α}(c:∀p v,F p v->κ.keyOf v=some (k p)):∀(L:List Keyed)(ps:List d),(∀e∈L,e.1=e.2)->L.Pairwise (le' κ)->Paired F ps (L.map (·.2))->ps.Pairwise λp q=>κ.blt (k q) (k p)=false
 |[],ps,_,_,h=>by cases h;exact .nil
 | e:: L,ps,a,f,h=>by
  cases h with
  |@cons p b l1 l2 o i =>
   rw[List.pairwise_cons]at f;refine .cons (λq r=>?_) (ord_of c L l1 (λx n=>a x (.tail _ n)) f.2 i);obtain⟨v,t,m⟩:=Paired.mem i q r;obtain⟨y,j,rfl⟩:=pZ.mp t;have l:=f.1 y j;have k1:ky κ e=k p:=by unfold ky;rw[a e (.head _),c _ _ o];rfl
   have k2:ky κ y=k q:=by unfold ky;rw[a y (.tail _ j),c _ _ m];rfl
   have g:κ.blt (ky κ y) (ky κ e)=false:=l;rw[k1,k2]at g;exact g
structure TV(K:Frag)(H:Hp)(d0:PyData)(p:V×PyData)(v:Value):Prop where
 r:RelV p.1 v
 t:tT 4 p.2=true
 z:sm d0 p.2=true
 d:Dt K H p.1 p.2
theorem TV.vals{K:Frag}{H:Hp}{d0:PyData}{ps:List (V×PyData)}{vs:LW}(h:Paired (TV K H d0) ps vs):Vals (ps.map (·.1)) vs:=by
 induction h with
 |nil=>exact .nil
 |cons b _ a=>exact .cons b.r a
theorem Cc:∀{vs:LW}{e:Keyed},e∈vs.zip vs->e.1=e.2
 |[],e,h=>by cases h
 |v:: vs,e,h=>by
  rw[qJ]at h;rcases xE.mp h with h|h
  ·rw[h]
  ·exact Cc h
theorem nS{b a:Type}{F:b->a->Prop}{xs:List b}{ys:List a}(h:Paired F xs ys):xs.length=ys.length:=by
 induction h with
 |nil=>rfl
 |cons _ _ c=>simp[c]
theorem Cb{c b:Type}{F:c->b->Prop}{xs:List c}{ys:List b}(h:Paired F xs ys):∀y∈ys,∃x∈xs,F x y:=by
 induction h with
 |nil=>intro x a;cases a
 |cons d i g =>
  intro x a;rcases xE.mp a with e|a
  ·subst e;exact⟨_,.head _,d⟩
  ·obtain⟨y,f,q⟩:=g x a;exact⟨y,.tail _ f,q⟩
theorem Sd{l:List Keyed}{n:Nat}(h:l.length=n):seg l 0 n=l:=by
 unfold seg;rw[List.drop_zero,Nat.sub_zero,wV ⋯]
section
variable {X:Cx} {pins:PN} {σ:St} {H:Hp} {s:Shared} {a:Addr} {A:Around} {E:VP} {vs:LW} {ps:List (V×PyData)} {n0:Nat} {R:VP} {d0:PyData} {l0 l1:List PyData}
theorem Sc(a9:cE X.prog X.w vs.length)(b6:A.units+16<cLine)(I:Inv X pins σ H s)(b5:FpOk X pins H a)(C:s.heap.get? a=some (seqObj "list" vs.toArray n0))(P:vs.length<=sizeLine)(a4:d0=.tuple (.tuple l1:: l0))(w:Paired (TV X.K H d0) ps vs)
  (h:∀(n:List (V×PyData)) H' G,Inv X pins σ H' G->Same H H'->H' a=some (.lst (n.map (·.1)))->n.Perm ps->n.Pairwise (λp q=>lx (fl q.2) (fl p.2)=false)->R .none G):
  wpAny (model X.prog X.w) A (Builtin.«list.sort» ⟨[.ref a],[]⟩) (λM G=>∃v,M=.done (.ret v)/\R v G) E s:=by
 obtain⟨O,T,d1,a5,Z,a3⟩:=b5;rw[list_sort_plain];have d2:a<s.heap.objs.size:=zO C;refine zA (listItems_at C rfl ?_);refine zA (listUpdate_at C rfl ?_ (by rw[zX];exact P) (yV _));obtain⟨e1,a2⟩:∃e1,(s.heap.update a (Obj.mapSeq λ_=>(#[]:Array Value))).get? a=some (seqObj "list" #[] e1):=⟨_,get?_update_seq C (λ_=>#[])⟩;have a8:=wF s.heap a (Obj.mapSeq λ_=>(#[]:Array Value));have c1:Inv X pins σ H {s with heap:=s.heap.update a (Obj.mapSeq λ_=>(#[]:Array Value)),toks:=s.toks}:=I.turned (λb o j q=>(a8.2 b j).trans q) O T a5 Z a3;refine zA (seqEpoch_at a2 rfl ?_);refine zA (wpAny_newTuple ?_ P);refine zA (wpAny_newList ?_ (yV _));refine xU ?_;have J:(((s.heap.update a (Obj.mapSeq λ_=>(#[]:Array Value))).push (seqObj "tuple" vs.toArray 0)).push (seqObj "list" #[] 0)).get? a=some (seqObj "list" #[] e1):=zD _ (zD _ a2);have D:Inv X pins σ H {s with heap:=((s.heap.update a (Obj.mapSeq λ_=>(#[]:Array Value))).push (seqObj "tuple" vs.toArray 0)).push (seqObj "list" #[] 0),toks:=s.toks}:=c1.kept λb o q=>zD _ (zD _ q);show wpAny (model X.prog X.w) A _ _ E {s with heap:=((s.heap.update a (Obj.mapSeq λ_=>(#[]:Array Value))).push (seqObj "tuple" vs.toArray 0)).push (seqObj "list" #[] 0),toks:=s.toks};generalize ((s.heap.update a (Obj.mapSeq λ_=>(#[]:Array Value))).push (seqObj "tuple" vs.toArray 0)).push (seqObj "list" #[] 0)=f at*
 dsimp only;have M:∀d:SortSt,(arrOf d).Perm (pairsOf vs)->Srt (eF f d0) (arrOf d).toList->R .none {s with heap:=f.update a (Obj.mapSeq λ_=>(arrOf d).map (·.2))}:=by
  intro d L b1;have pl:(arrOf d).toList.Perm (vs.zip vs):=by rw[←pairsOf_toList];exact Array.perm_iff_toList_perm.mp L
  have S:∀e∈(arrOf d).toList,e.1=e.2:=λe S=>Cc (pl.mem_iff.mp S);have c0:vs.Perm ((arrOf d).toList.map (·.2)):=by
   have:=(pl.map (·.2)).symm;rw[List.map_snd_zip (zE _)]at this;exact this
  obtain⟨n,a0,a1⟩:=Paired.perm c0 w;have c3:∀p v,TV X.K H d0 p v->(eF f d0).keyOf v=some (fl p.2):=λp v i=>by
   obtain⟨as,r⟩:=i.d.reads D i.r;exact Jy i.t i.z r
  have c6:=ord_of (κ:=eF f d0) (k:=λp:V×PyData=>fl p.2) c3 _ n S b1 a1;have c2:((arrOf d).map (·.2)).toList=(arrOf d).toList.map (·.2):=Array.toList_map ..;generalize (arrOf d).map (·.2)=out at*
  have F:=wF f a (Obj.mapSeq λ_=>out);obtain⟨U,W⟩:∃U,(f.update a (Obj.mapSeq λ_=>out)).get? a=some (seqObj "list" (out) U):=⟨_,get?_update_seq J λ_=>out⟩;generalize f.update a (Obj.mapSeq λ_=>out)=c9 at*
  refine h n (upd H a (.lst (n.map (·.1)))) _ ?_ ?_ oQ a0 c6
  ·have y:∀b u,H b=some u->b≠a:=λb u e z=>by rw[z,O]at e;cases e
   refine Inv.step (s:={s with heap:=f,toks:=s.toks}) (h':=c9) (H':=upd H a (.lst (n.map (·.1)))) (I:=D) (g':=s.gens) (d':=s.drawn) (t':=s.toks) (ch:=[a]) (λb j=>?_) (λb o _ _ g e _=>(F.2 b (λz=>g (by simp[z]))).trans e) (λb o _ _ g e _=>⟨o.slots,(F.2 b (λz=>g (by simp[z]))).trans e⟩)
    (λb o g e q=>by rw[oU (λz=>g (by simp[z]))];exact q) (λb o g e=>⟨o,(F.2 b (λz=>g (by simp[z]))).trans e⟩) (λb xs e=>by rw[oU (y _ _ e)];exact e) (λb o u e=>by rw[oU (y _ _ e)];exact e)
    (λb ps e=>⟨#[],by rw[oU (y _ _ e),e];simp⟩) (λm Y=>?_) (λb u e=>?_) D.bare
   ·have e:b=a:=by simpa using j
    subst e;exact⟨a5,T,Z,a3⟩
   ·obtain⟨o,es,ep,C,r⟩:=Y;exact⟨o,es,ep,(F.2 _ (zW T)).trans C,r⟩
   ·by_cases j:b=a
    ·subst j;rw[oQ]at e;cases e;refine⟨?_,(arrOf d).toList.map (·.2),U,TV.vals a1,by rw[W,←c2]⟩;rw[yL,a0.length_eq,nS w];exact P
    ·rw[oU j]at e;refine(D.hok b u e).stay (λc v g q=>(F.2 c ?_).trans q) (λc q=>by rw[oU (y _ _ q)];exact q) λc xs q=>by rw[oU (y _ _ q)];exact q
     rcases g with z|z
     ·rw[z];exact j
     ·exact y c _ z
  ·intro b u q;rw[oU (λz=>by rw[z,O]at q;cases q)];exact q
 have hsz:vs.toArray.size=vs.length:=by simp
 by_cases t:vs.toArray.size<2
 ·rw[zJ t,zJ t];refine zA (zB ?_);rw[StateT.run_pure];refine zA (zB ?_);dsimp only;refine zA (seqEpoch_at J rfl ?_);refine zA (listUpdate_at J rfl ?_ (yV _) (by rw[Array.size_map];show(pairsOf vs).size<=_;rw[pairsOf_size];omega));simp only[bne_self_eq_false,Bool.false_eq_true,if_false];refine zB ⟨_,rfl,M (SortSt.mk' general' (vs.toArray.zip vs.toArray) #[] 7 none) (Array.Perm.refl _) ?_⟩;show Srt _ (pairsOf vs).toList;rw[pairsOf_toList]
  match vs,hsz,t with
  |[],_,_=>exact .nil
  |[_],_,_=>exact .cons (λ_ h=>nomatch h) .nil
  |_:: _:: _,_,t=>simp at t;omega
 ·rw [zI t,zI t];have b3:∀{ps:List (V×PyData)}{vs:LW},Paired (TV X.K H d0) ps vs->∃fs,PySem.W.KatTups f vs fs/\fs.length=vs.length/\∀v∈fs,∃b o,v=.ref b/\f.get? b=some o/\o.cls=.type "tuple" := by
   intro ps vs w
   induction w with
   |nil=>exact⟨[],PySem.W.KatTups.nil,rfl,λ_ h=>nomatch h⟩
   | @cons p v ps vs i _ b7 =>
    obtain⟨fs,k,l,c7⟩:=b7;obtain⟨as,r⟩:=i.d.reads D i.r;have z:=i.z;rw[a4]at z;generalize p.2=dd at*
    cases r <;> simp only[sm,Bool.false_eq_true]at z
    case tuple b o us m xs hg g hd hr =>
     cases xs with
     |nil=>simp[smA]at z
     | cons x xs =>
      simp only[smA,Bool.and_eq_true]at z;cases hr0:us.toList with
      |nil=>rw[hr0]at hr;cases hr
      | cons u d5 =>
       rw[hr0]at hr;cases hr with
       | cons b8 d4 =>
        have c5:=z.1;cases b8 <;> simp only[sm,Bool.false_eq_true]at c5
        case tuple b2 o2 us2 m2 xs2 hg2 W hd2 hr2 =>
         refine⟨.ref b2:: fs,PySem.W.KatTups.cons hg g hd ?_ k,by simp[l],λv K=>?_⟩
         ·rw[←yT,hr0];rfl
         ·rcases xE.mp K with e|K
          ·exact⟨b2,o2,e,hg2,W⟩
          ·exact c7 v K
  obtain⟨fs,a7,d3,b4⟩:=b3 w;refine zA (PySem.W.kat_kind (s:={s with heap:=f,toks:=s.toks}) (T:=.type "tuple") a7 ⋯ (λv K=>?_) rfl ?_)
  ·obtain⟨b,o,rfl,j,g⟩:=b4 v K;exactλA Q E s k q=>tW (T:= "tuple") ⟨o,k _ _ j,g⟩ q
  have b0:(Value.type "tuple" != Value.type "tuple")=false:=∅
  rw[b0];refine zA (xS (a9 (κ:=eF f d0) (kd:=tuples' false) (a₀:=pairsOf vs) (st:=SortSt.mk' (tuples' false) (vs.toArray.zip vs.toArray) #[] 7 none)
   (Q:=λ_ d=>(arrOf d).Perm (pairsOf vs)/\failedOf d=none/\Up (eF f d0) (arrOf d) 0 (pairsOf vs).size) (pairsOf_size _) ⋯ (cmpT (s:={s with heap:=f,toks:=s.toks}) b6 ⟨_,a4⟩) (λx N=>?_) rfl rfl rfl rfl λd _ a6 c8 b9=>⟨c8,a6,b9⟩) ?_ λ_ _ e=>e)
  ·rw[pairsOf_toList]at N;have e:=Cc N;have Y:x.2∈vs:=(rO (a:=x.1) (b:=x.2) N).2;obtain⟨p,_,i⟩:=Cb w x.2 Y;obtain⟨as,r⟩:=i.d.reads D i.r;exact⟨fl p.2,by rw[e];exact Jy i.t i.z r⟩
  rintro⟨⟨⟩,d⟩ G ⟨rfl,L,c4,up⟩;dsimp only;refine zA (seqEpoch_at J rfl ?_);refine zA (listUpdate_at J rfl ?_ (yV _) (by refine yA (rL ((Array.size_map ..).trans (L.size_eq.trans (pairsOf_size _)))) ?_;omega));rw[c4];simp only[bne_self_eq_false,Bool.false_eq_true,if_false];refine zB ⟨_,rfl,M d L ?_⟩;have:=Cj up
  rwa[Sd (by rw[zN];exact L.size_eq)]at this
end
abbrev Asc(ps:List (V×PyData)):Prop:=ps.Pairwise λp q=>lx (fl q.2) (fl p.2)=false
section
variable {X:Cx} {pins:PN} {σ:St} {H:Hp} {s:Shared} {d0:PyData} {l0 l1:List PyData}
theorem Sb{N:Nat}(x:∀n,n<=N->cE X.prog X.w n)(y:X.A.units+64<cLine){ps:List (V×PyData)}{its:LW}{v:Value}{Q:VK}(i:its.length<=sizeLine)(m:its.length<=N)(u:d0=.tuple (.tuple l1:: l0))(j:Paired (TV X.K H d0) ps its)
  (k:∀(g:LW->Shared->Prop)(r:VP),(∀a,Inv X pins σ H a->g its a)->wpAny (model X.prog X.w) X.A.in1 (collect v) g r s)
  (h:∀q(c:List (V×PyData)) H',Same H H'->H q=none->H' q=some (.lst (c.map (·.1)))->c.Perm ps->Asc c->Q (.ref q) H'):
  wpAny (model X.prog X.w) X.A (call (.builtin "sorted") [v]) (EP X pins σ Q) X.xe s:=by
 refine Calls.call_function_entry kind_sorted plain_sorted entry_sorted (args_sorted1 _) ?_;unfold Builtin.«sorted»;refine zA (m:=checkCount "sorted" 1 1 _) (zB ?_);refine zA (k _ _ λa I=>?_);refine zA (wpAny_newList ?_ i);have f:(a.heap.push (seqObj "list" its.toArray 0)).get? a.heap.objs.size=some (seqObj "list" its.toArray 0):=zQ _ rfl;have d:H a.heap.objs.size=none:=I.hok.fresh (zE _);have w:=I.fpOk (zE _) d;have t:Inv X pins σ H {a with heap:=a.heap.push (seqObj "list" its.toArray 0),toks:=a.toks}:=I.kept λb o q=>zD _ q;refine zA (xU (xJ slot_list_sort ⟨_,f,rfl⟩ entry_list_sort ?body (args_list_sort _)));show wpAny (model X.prog X.w) X.A.in1.in1 (Builtin.«list.sort» ⟨[.ref a.heap.objs.size],[]⟩) _ _ {a with heap:=a.heap.push (seqObj "list" its.toArray 0),toks:=a.toks};refine Sc (x _ m) (A:=X.A.in1.in1) (by show X.A.units+1+1+16<cLine;omega) t w f i u j λc H' z l sm e p o=>?_;exact zB ⟨_,rfl,.ref a.heap.objs.size,H',l,rfl,h _ c H' sm d e p o⟩
end
def RawD(h:Heap)(d:Addr)(es:Array DictEntry)(ep:Nat):Prop:=∃o,h.get? d=some o/\o.ExactDict/\o.data=.dict es ep
theorem RawD.at{h h':Heap}{d:Addr}{es:Array DictEntry}{ep:Nat}(x:RawD h d es ep)(e:∀o,h.get? d=some o->h'.get? d=some o):RawD h' d es ep:=let ⟨o,a,r⟩:=x;⟨o,e _ a,r⟩
section
variable {prog:Program} {w:World} {A:Around} {E:VP} {s:Shared} {d it:Addr} {es:Array DictEntry} {ep i:Nat}
theorem RawD.typeIs(x:RawD s.heap d es ep):s.TypeIs (.ref d) "dict" := let ⟨o,b,a,_⟩:=x;⟨o,b,a.1⟩
theorem Sa{Q:VP}(g:(d == sysModules)=false)(b:RawD s.heap d es ep)
  (f:Q (.ref s.heap.objs.size) {s with heap:=s.heap.push {cls:=.type "dict_keyiterator",data:=.fields #[.ref d,.int 0 0,.int es.size 0,.int ep 0]}}):wpAny (model prog w) A (pyIter (.ref d)) Q E s:=by
 obtain⟨o,c,j,e⟩:=id b;have a:=b.typeIs;refine wpAny_pyIter_slot a PySem.F.slot_dict_iter (xJ PySem.F.slot_dict_iter a PySem.F.entry_dict_iter ?_ (PySem.F.args_dict_iter_1 _));unfold Builtin.«dict.__iter__»;refine zA ?_;unfold Builtin.Dict.dictSlotNone;refine zA (rG a ?_);show wpAny _ _ (pure (Value.ref d)) _ _ s;refine zB ?_;show wpAny _ _ (Builtin.Dict.showsAll d >>= _) _ _ s;unfold Builtin.Dict.showsAll;rw[zI (by rw[g];exact yC)];refine zA (zB ?_);refine zA (vS c e ?_);refine zA (uI c e ?_);exact zA (yX (zB ⟨_,rfl,"dict_keyiterator",_,⟨_,zQ _ rfl,rfl⟩,PySem.F.slot_dict_keyiterator_next.lookup,f⟩))
theorem Tz{Q:Option Value->Shared->Prop}(a:s.heap.IsKeyIter it d i es.size ep)(k:RawD s.heap d es ep)(hi:i<es.size)
  (l:∀h',h'.IsKeyIter it d (i+1) es.size ep->Heap.SameBut it s.heap h'->Q (some es[i].key) {s with heap:=h'}):wpAny (model prog w) A (pyNext (.ref it)) Q E s:=by
 obtain⟨o,c,j,b⟩:=id a;obtain⟨n,g,p,f⟩:=id k;unfold pyNext;refine zA (vA (xP (name:=Str.ofString "__next__") a.typeIs wO
  (xJ wO a.typeIs PySem.F.entry_dict_keyiterator_next ?_ (PySem.F.args_dict_keyiterator_next_1 _))))
 refine zA (zB ?_);refine zA ?_;refine zA ?_
 first|refine zA (vF a.typeIs (zB ?_))|refine zA (uD a.typeIs (zB ?_))
 refine zA (qD c b ?_);have m:Builtin.Dict_items.ownsTuple "dict_keyiterator"=false:=∅
 simp only[m,Bool.false_eq_true,if_false];show wpAny _ _ (if(Value.ref d == Value.none)=true then _ else _) _ _ s;rw[zI (show¬ ((Value.ref d == Value.none)=true) from yC)];refine zA (zB ?_);refine zA (vS g f ?_);rw[zI (by simp)];refine zA (zB ?_);refine zA (uI g f ?_);rw[zI (by simp)];refine zB ?_;simp only[show¬ ((i:Int)<0) from⋯,if_false,Int.toNat_natCast,Array.getElem?_eq_getElem hi];refine zA ?_
 first|refine zA (vF a.typeIs (zB ?_))|refine zA (uD a.typeIs (zB ?_))
 refine zA (wpAny_isOneOf_keyiter a.typeIs ?_);show wpAny _ _ (setField (.ref it) 1 (rawInt ((i:Int)+1)) >>= _) _ _ s;refine zA (uU c b (by simp) ?_);have e:(s.heap.update it (Obj.mapFields (·.setIfInBounds 1 (rawInt ((i:Int)+1))))).IsKeyIter it d (i+1) es.size ep:=
  ⟨_,vB _ c (rF (vL b _)),(qO ..).trans j,by rw[vL b];simp[rawInt]⟩
 refine zA (xU ?_);refine zA (wpAny_isOneOf_keyiter (s:={s with heap:=s.heap.update it (Obj.mapFields (·.setIfInBounds 1 (rawInt ((i:Int)+1))))}) e.typeIs ?_);show wpAny _ _ (pure es[i].key) _ _ _;exact zB (zB ⟨_,rfl,zB (l _ e (wF ..))⟩)
theorem Ty{Q:Option Value->Shared->Prop}(hh:A.handled=none)(a:s.heap.IsKeyIter it d es.size es.size ep)(g:RawD s.heap d es ep)
  (j:∀h',Heap.ExtBut it s.heap h'->Q none {s with heap:=h'}):wpAny (model prog w) A (pyNext (.ref it)) Q E s:=by
 obtain⟨o,c,l,b⟩:=id a;obtain⟨m,f,n,e⟩:=id g;unfold pyNext;refine zA (vA (xP (name:=Str.ofString "__next__") a.typeIs wO
  (xJ wO a.typeIs PySem.F.entry_dict_keyiterator_next ?_ (PySem.F.args_dict_keyiterator_next_1 _))))
 refine zA (zB ?_);refine zA ?_;refine zA ?_
 first|refine zA (vF a.typeIs (zB ?_))|refine zA (uD a.typeIs (zB ?_))
 refine zA (qD c b ?_);have k:Builtin.Dict_items.ownsTuple "dict_keyiterator"=false:=∅
 simp only[k,Bool.false_eq_true,if_false];show wpAny _ _ (if(Value.ref d == Value.none)=true then _ else _) _ _ s;rw[zI (show¬ ((Value.ref d == Value.none)=true) from yC)];refine zA (zB ?_);refine zA (vS f e ?_);rw[zI (by simp)];refine zA (zB ?_);refine zA (uI f e ?_);rw[zI (by simp)];refine zB ?_;simp only[show¬ ((es.size:Int)<0) from⋯,if_false,Int.toNat_natCast,Array.getElem?_eq_none (Nat.le_refl _)];refine zA ?_
 first|refine zA (vF a.typeIs (zB ?_))|refine zA (uD a.typeIs (zB ?_))
 show wpAny _ _ (setField (.ref it) 0 .none >>= _) _ _ s;refine zA (uU c b (by simp) ?_);show wpAny _ _ (newExc (.type "StopIteration") [] >>= _) _ _ _;refine zA ?_;simp only[newExc,newTuple];refine zA (yX ?_ (by size_fits));refine zA (m:=firstArgMember _ _) (wpAny_of_eq (a:=Value.none) (by first|rfl|(simp only[firstArgMember];rfl)) ?_);refine yX ?_ (by size_fits);simp only[raiseNew];refine zA (pH ?_);rw[show A.in1.handled=none from hh];refine zA (zB (wpAny_throw ?_));refine zA (vI (T:= "StopIteration") (b:=true) ⟨_,zQ _ rfl,rfl⟩ qC ?_);exact zB (j _ (((wF ..).extBut.push _).push _))
theorem Tx(hh:A.handled=none)(I d:Addr)(j:d≠I)(es:Array DictEntry)(ep:Nat):
  Walks prog w A I [I,d] [I] es.size (λi v=>(es[i]?).map (·.key)=some v) (λi h=>h.IsKeyIter I d i es.size ep/\RawD h d es ep) where
 sub:=λb a=>by simp at a;simp[a]
 frame:=λ_ _ _ st g=>⟨st.1.at λo e=>g I (by simp) o e,st.2.at λo e=>g d (by simp) o e⟩
 item:=λi s Q E hi st c=>by
  refine Tz st.1 st.2 hi λh' l f=>?_;exact c _ h' s.toks (by simp[hi]) ⟨l,st.2.at λo e=>(f.2 d j).trans e⟩ λb o a e=>(f.2 b (λh=>a (by simp[h]))).trans e
 done:=λs Q E st c=>Ty hh st.1 st.2 λh' k=>c h' s.toks λb o a e=>k b o (λh=>a (by simp[h])) e
 self:=λ_ _ _ _ st c=>wpAny_pyIter_keyiter st.1 c
theorem Tw:typeLookup (.type "dict") "__len__"=pure (some (.builtin "dict.__len__")):=PySem.F.slot_dict_len.lookup
theorem Tv{Q:LW->Shared->Prop}(hh:A.handled=none)(V:(d == sysModules)=false)(c:RawD s.heap d es ep)(K:es.size<=sizeLine)
  (h:∀h' tk,(∀b o,s.heap.get? b=some o->h'.get? b=some o)->Q (es.toList.map (·.key)) {s with heap:=h',toks:=tk}):wpAny (model prog w) A (collect (.ref d)) Q E s:=by
 obtain⟨o,N,W,Y⟩:=id c;have r:@LT.lt Nat _ d s.heap.objs.size:=zO N;unfold collect;refine zA (wpAny_runValue (tP PySem.F.entry_proto_collect ?_));rw[uZ PySem.F.plain_proto_collect _];show wpAny _ A.in1 (newList [] >>= λl=>again (.builtin "list.__iadd__" ⟨[l,.ref d],[]⟩)) _ _ s;refine zA (yX ?_);refine zB ⟨qM PySem.F.plain_list_iadd _,tP PySem.F.entry_list_iadd ?_⟩;rw[uZ PySem.F.plain_list_iadd _];have T:(s.heap.push {cls:=.type "list",data:=.seq ([]:LW).toArray}).get? s.heap.objs.size=some {cls:=.type "list",data:=.seq ([]:LW).toArray}:=zQ _ rfl;have u:RawD (s.heap.push {cls:=.type "list",data:=.seq ([]:LW).toArray}) d es ep:=c.at λo e=>zD _ e;have k1:∀b o,s.heap.get? b=some o->(s.heap.push {cls:=.type "list",data:=.seq ([]:LW).toArray}).get? b=some o:=λb o e=>zD _ e;have t:(s.heap.push {cls:=.type "list",data:=.seq ([]:LW).toArray}).objs.size=s.heap.objs.size+1:=size_push' _ _;show wpAny _ A.in1 (Builtin.List.listExtendWith (.ref s.heap.objs.size) (.ref d) (.ref s.heap.objs.size)) _ _ {s with heap:=s.heap.push {cls:=.type "list",data:=.seq ([]:LW).toArray}};generalize s.heap.push {cls:=.type "list",data:=.seq ([]:LW).toArray}=a at*
 unfold Builtin.List.listExtendWith;refine zA (tW (s:={s with heap:=a}) (T:= "dict") (RawD.typeIs (s:={s with heap:=a}) u) ?_);have e1:Builtin.List.listSameRef (.ref s.heap.objs.size) (.ref d)=false:=by simp only[Builtin.List.listSameRef,beq_eq_false_iff_ne];exact zW (yD r)
 rw[zI (by rw[e1];decide)];refine zA (Sa (s:={s with heap:=a}) V u ?_);have n:RawD (a.push {cls:=.type "dict_keyiterator",data:=.fields #[.ref d,.int 0 0,.int es.size 0,.int ep 0]}) d es ep:=u.at λo e=>zD _ e;have I:(a.push {cls:=.type "dict_keyiterator",data:=.fields #[.ref d,.int 0 0,.int es.size 0,.int ep 0]}).IsKeyIter a.objs.size d 0 es.size ep:=⟨_,zQ _ rfl,rfl,rfl⟩;have F:(a.push {cls:=.type "dict_keyiterator",data:=.fields #[.ref d,.int 0 0,.int es.size 0,.int ep 0]}).get? s.heap.objs.size=_:=zD _ T;have k2:∀b o,a.get? b=some o->(a.push {cls:=.type "dict_keyiterator",data:=.fields #[.ref d,.int 0 0,.int es.size 0,.int ep 0]}).get? b=some o:=λb o e=>zD _ e;generalize a.push {cls:=.type "dict_keyiterator",data:=.fields #[.ref d,.int 0 0,.int es.size 0,.int ep 0]}=f at*
 refine zA (xU ?_);unfold Builtin.List.listLengthHint;refine zA (wpAny_specialOf (s:={s with heap:=f}) (RawD.typeIs (s:={s with heap:=f}) n) Tw ?_);generalize hid:("dict.__len__" :String)=C
 (fail_if_success (clear hid C))
 wp_delta
 rw[show splitId C=some ("dict","__len__") from by subst hid;decide +kernel];subst hid;refine zA (vI (b:=true) (RawD.typeIs (s:={s with heap:=f}) n) (by rw[isSubtype_type];kernel_rfl) ?_);refine zA (tW (s:={s with heap:=f}) (T:= "dict") (RawD.typeIs (s:={s with heap:=f}) n) ?_);refine zB ?_;rw[zJ ∅];refine zA (wX ?_);refine zA ?_;show wpAny _ A.in1 (updateSeq s.heap.objs.size (·.push .none) >>= λ_=>updateSeq s.heap.objs.size (·.pop)) _ _ _;refine zA (wpAny_updateSeq F rfl ?_);have D:=vB (Obj.mapSeq (·.push Value.none)) F rfl;refine wpAny_updateSeq D rfl ?_;have M:=vB (Obj.mapSeq (·.pop)) D rfl;have S:d≠a.objs.size:=yD (by rw[t];exact vC r);have x:s.heap.objs.size≠a.objs.size:=by rw[t];exact yD (vJ _)
 have y:s.heap.objs.size≠d:=zW (yD r);have q:∀b o,b≠s.heap.objs.size->f.get? b=some o->((f.update s.heap.objs.size (Obj.mapSeq (·.push Value.none))).update s.heap.objs.size (Obj.mapSeq (·.pop))).get? b=some o:=
  λb o k e=>(uL _ _ (zW k)).trans ((uL _ _ (zW k)).trans e)
 have O:=(Tx (prog:=prog) (w:=w) (A:=A.in1) hh a.objs.size d S es ep).toS;refine zB ⟨qM PySem.F.plain_extend_loop _,codeAny_extend_loopS O K s.heap.objs.size (λc=>by rcases xE.mp c with z|z;exact x z;exact y (pW.mp z)) _ es.size 0 _ _ _ rfl (yV _)
  ⟨I.at λo e=>q _ _ (zW x) e,n.at λo e=>q _ _ (zW y) e⟩ M (ItemsOf.nil _) λm p X c P G=>?_⟩
 show wpAny _ A (load s.heap.objs.size >>= _) _ _ m;refine zA (wpAny_load P ?_);have U:p.toList=es.toList.map (·.key):=by
  apply qP
  intro j;rw[zC,yT,yT];cases hj:p[j]? with
  |some v=>exact(G.2 j v hj).symm
  |none =>
   have:p.size<=j:=Array.getElem?_eq_none_iff.mp hj;rw[Array.getElem?_eq_none (by rw[←G.1];exact this)];rfl
 show wpAny _ _ (pure p.toList) Q E m;rw[U];have L:m={s with heap:=m.heap,toks:=m.toks}:=by
  obtain⟨_,g,J,R,_⟩:=c;cases m;cases g;cases J;cases R;rfl
 rw[L];refine zB (h _ _ λb o e=>c.heap b o ?_ (q b o ?_ (k2 _ _ (k1 _ _ e))))
 ·have k:@LT.lt Nat _ b s.heap.objs.size:=zO e;intro c;rcases xE.mp c with z|z
  ·exact absurd z (yD k)
  ·rw[pW.mp z,t]at k;exact absurd k (Nat.not_lt.mpr (pE _))
 ·exact yD (zO e)
end
def Tu(K:Frag)(N:Nat):List V->Hp->VK->Prop:=λxs H Q=>∃(a:Addr)(kvs:List (PyData×V))(l0 l1:List PyData),xs=[.ref a]/\kvs.length<=N/\DTr K H a kvs/\(∀kv∈kvs,sm (.tuple (.tuple l1:: l0)) kv.1=true) /\
 ∀q(ps':List (V×PyData)) H',Same H H'->H q=none->H' q=some (.lst (ps'.map (·.1)))->(∀p∈ps',tT 4 p.2=true/\Dt K H p.1 p.2)->(ps'.map (·.2)).Perm (kvs.map (·.1))->Asc ps'->Q (.ref q) H'
section
variable {X:Cx}
theorem Jw{N:Nat}(L:∀n,n<=N->cE X.prog X.w n)(M:X.A.units+64<cLine)(P:X.calm=true):kI X (.builtin "sorted") (Tu X.K N):=by
 intro a6 s σ H xs us Q I r h;obtain⟨a,kvs,i,l1,rfl,a5,g,c,q⟩:=h;obtain⟨u,rfl,W⟩:=jV r;cases W;obtain⟨xs,e,d,dd⟩:=iP I g;obtain⟨o,es,ep,U,a2,G,t,_⟩:=id dd;have b2:=g.len;have D:RawD s.heap a es ep:=⟨o,U,a2,G⟩;have F:es.toList.map (·.key)=xs.map λx=>Value.ref x.2.1:=by rw[t,xI];rfl
 have S:∀{kvs:List (PyData×V)}{xs:List (PyData×Addr×Value)},KP X.K H kvs xs->(∀f∈kvs,sm (.tuple (.tuple l1:: i)) f.1=true)->Paired (TV X.K H (.tuple (.tuple l1:: i))) (xs.map λx=>(V.ref x.2.1,x.1)) (xs.map λx=>Value.ref x.2.1)/\(xs.map (·.1))=kvs.map (·.1):=by
  intro kvs xs d
  induction d with
  |nil=>intro _;exact⟨.nil,rfl⟩
  |@cons p q ps a8 b b1 O =>
   intro c;obtain⟨a0,J⟩:=O λf a4=>c f (.tail _ a4);have z:=c p (.head _);rw[b.1]at z;have j:=b.2.1.1;have y:=b.2.1.2;rw[b.1]at j y;refine⟨.cons ⟨rfl,j,z,y⟩ a0,?_⟩;rw[zK,zK,J,b.1]
 obtain⟨l,k⟩:=S d c;have a9:xs.length=kvs.length:=by have:=wH List.length k;simpa using this
 have le:es.size=xs.length:=by have:=wH List.length t;simpa using this
 refine Sb L M (d0:=.tuple (.tuple l1:: i)) (its:=xs.map λx=>Value.ref x.2.1) (ps:=xs.map λx=>(V.ref x.2.1,x.1)) (by rw[yL];omega) (by rw[yL];omega) rfl l (λb0 a7 a1=>?_) λT R H' Z K Y m as=>?_
 ·refine Tv (I.ok.hd P) g.sys D ⋯ λh' tk a3=>?_;rw[F];exact a1 _ (I.kept (t':=tk) a3)
 ·refine q T R H' Z K Y (λp C=>?_) ?_ as
  ·obtain⟨v,_,w⟩:=Paired.mem l p (m.mem_iff.mp C);exact⟨w.t,w.d⟩
  ·have:=m.map (·.2);rw[xI]at this;rw[←k];exact this
end
open Sem (wp)
theorem Tt:typeLookup (.type "list") (Str.ofString "keys")=pure none:=am_miss_of_fast (by kernel_rfl)
theorem Ts:typeLookup (.type "list") "__getattr__"=pure none:=by rw[typeLookup_type,builtinLookup_eq_fast];kernel_rfl
section
variable {prog:Program} {w:World} {A:Around} {E:VP} {h:Heap} {g:Array GenState} {d:Drawn} {t:Nat} {os:OsState} {a:Addr} {o:Obj}
theorem Tr{tk:Tok}{Q:PySem.Fin->Shared->Prop}(hh:A.handled=none)(i:h.get? a=some o)(b:o.cls=.type "list")(c:o.dict=none){xs:Array Value}{n:Nat}(f:o.data=.seq xs n)(j:∀h' tk e,Heap.NewAttrErr h h' e (.ref a) (Str.ofString "keys")->E (.ref e) ⟨h',g,d,tk,os⟩):
  wpAny (model prog w) A (Builtin.«object.__getattribute__» ⟨[.ref a,.str (Str.ofString "keys") tk],[]⟩) Q E ⟨h,g,d,t,os⟩:=by
 have l:(⟨h,g,d,t,os⟩:Shared).TypeIs (.ref a) "list" := ⟨_,i,b⟩;have k:=Tt;unfold Builtin.«object.__getattribute__»
 repeat (any_goals (first|assumption|wp_step))
 rw[f];dsimp only;unfold instanceDict
 repeat (any_goals (first|assumption|wp_step))
 rw[b,c];dsimp only;simp only[Bool.not_false,Bool.true_or,if_true]
 repeat (any_goals (first|assumption|wp_step))
 exact wpAny_raiseAttrError hh j (attrMsg_fits (nofun) (by size_fits))
theorem Tq{Q:Option Value->Shared->Prop}(hh:A.handled=none)(c:h.get? a=some o)(f:o.cls=.type "list")(j:o.dict=none){xs:Array Value}{n:Nat}(k:o.data=.seq xs n)(m:∀h' tk,(∀b i,h.get? b=some i->h'.get? b=some i)->Q none ⟨h',g,d,tk,os⟩):
  wpAny (model prog w) A (getAttr? (.ref a) (Str.ofString "keys")) Q E ⟨h,g,d,t,os⟩:=by
 have l:∀t,(⟨h,g,d,t,os⟩:Shared).TypeIs (.ref a) "list" := λt=>⟨_,c,f⟩;have q:(⟨h,g,d,t+1,os⟩:Shared).TypeIs (.ref a) "list" := ⟨_,c,f⟩;have x:=sub_AttributeError;have y:=PySem.F.slot_list_getattribute.lookup;have v:=PySem.F.slot_list_getattribute.bind (.ref a);have z:=Ts;unfold getAttr? getAttrBy?;refine zA (wpAny_mkText ?_);refine zA (vA ?_);unfold getAttrBy
 repeat (any_goals (first|assumption|((with_reducible show wpAny _ _ (call (Value.builtin "list.__getattribute__") _ _) _ _ _);refine xJ PySem.F.slot_list_getattribute (l _) PySem.F.entry_list_ga (Tr hh c f j k λh' r e c=>?_) (PySem.F.args_list_getattribute_2 _ _))|wp_step))
 obtain⟨t',u,p⟩:=c.there
 repeat (any_goals (first|assumption|wp_step))
 exact m _ _ c.keeps
end
theorem aW:plainId "dict.update.loop"=true:=nofun
theorem Jv:entryFor table "dict.update.loop"=some Builtin.«dict.update.loop»:=entryFor_of_fast (by kernel_rfl)
structure Ent where
 p:Addr
 k:PyData
 b:Addr
 v:Value
def Ent.ok(h:Heap)(t:Ent):Prop:=(∃o n,h.get? t.p=some o/\o.cls=.type "tuple" /\ o.data=.seq #[.ref t.b,t.v] n)/\isT h t.k t.b
theorem Ent.up{h h':Heap}{d:Ent}(x:d.ok h)(c:∀b o,h.get? b=some o->o.cls=.type "tuple" -> h'.get? b=some o):d.ok h':=by
 obtain⟨⟨o,n,i,e,g⟩,a,as,f⟩:=x;exact⟨⟨o,n,c _ _ i e,e,g⟩,a,as,Cd c 4 a f⟩
def putP(xs:List (PyData×Addr×Value))(t:Ent):List (PyData×Addr×Value):=storedH xs t.k t.b t.v
theorem To(xs:List (PyData×Addr×Value))(k:PyData)(b:Addr)(v:Value):(storedH xs k b v).length<=xs.length+1:=by
 unfold storedH;split <;> simp
section
variable {prog:Program} {w:World} {A:Around} {R:Result->Shared->Prop} {d it l:Addr} {items:Array Value}
theorem Ju(hh:A.handled=none)(a4:A.units+32<cLine)(n:d≠it)(S:d≠l)(M:l≠it):
  ∀(rest:List Ent)(i:Nat)(xs:List (PyData×Addr×Value))(s:Shared),(∀j,items[i+j]?=rest[j]?.map λa=>Value.ref a.p)->s.heap.IsListIter it l i->s.heap.IsList l items->s.heap.DictOfH (kF prog w) d xs->(∀a∈rest,a.ok s.heap)->xs.length+rest.length<=sizeLine ->
  (∀h' tk,(∀b o,b≠it->b≠d->s.heap.get? b=some o->h'.get? b=some o)->h'.DictOfH (kF prog w) d (rest.foldl putP xs)->R (.ok (.ret .none)) {s with heap:=h',toks:=tk}) ->
  codeAny (model prog w) A (.builtin "dict.update.loop" ⟨[.ref d,.ref it,.int i 0,.none],[]⟩) R s
 | [],i,xs,s,t,m,hl,F,_,_,C=>by
  refine tP Jv ?_;rw[uZ aW _];show wpAny _ A.in1 (pyNext (.ref it) >>= _) _ _ s;refine zA (wpAny_pyNext_list_end (i:=i) hh m hl (by simpa using t 0) λh' D=>?_);show wpAny _ _ (Builtin.Dict.addKeywords d [] >>= _) _ _ _;refine zA (zB (zB ?_));obtain⟨o,es,ep,c,K⟩:=F;exact C h' s.toks (λb o Y _ e=>D b o Y e) ⟨o,es,ep,D d o n c,by
   obtain⟨f,u,G,I,y⟩:=K;refine⟨f,u,G,λx v=>?_,y⟩;obtain⟨a,as,r⟩:=I x v;refine⟨a,as,Cd (λb o e g=>D b o (λz=>?_) e) 4 a r⟩;obtain⟨a8,e1,a3,_⟩:=m;rw[z,e1]at e;cases e;rw[a3]at g;simp at g⟩
 | a:: rest,i,xs,s,t,m,hl,F,a7,N,C=>by
  refine tP Jv ?_;rw[uZ aW _];show wpAny _ A.in1 (pyNext (.ref it) >>= _) _ _ s;have b5:items[i]?=some (.ref a.p):=by simpa using t 0
  refine zA (wpAny_pyNext_list_item (i:=i) m hl b5 λc a0 p=>?_);obtain⟨a8,X,a9,_⟩:=id m;have P:∀b o,s.heap.get? b=some o->o.cls=.type "tuple" -> c.get? b=some o:=λb o e g=>(p.2 b (λz=>by rw[z,X]at e;cases e;rw[a9]at g;simp at g)).trans e;have O:c.DictOfH (kF prog w) d xs:=by
   obtain⟨o,es,ep,k,f,u,G,I,y⟩:=F;exact⟨o,es,ep,(p.2 d n).trans k,f,u,G,λx v=>let ⟨a,as,r⟩:=I x v;⟨a,as,Cd P 4 a r⟩,y⟩
  have W:c.IsList l items:=by
   obtain⟨o,k,f⟩:=hl;exact⟨o,(p.2 l M).trans k,f⟩
  have L:∀t'∈a:: rest,t'.ok c:=λt' J=>Ent.up (a7 t' J) P;obtain⟨⟨op,b9,T,a2,U⟩,b6⟩:=L a (.head _);refine zA (xU ?_);have a6:xs.length<=sizeLine:=by
   have:=N;simp only[List.length_cons]at this;omega
  refine zA (wpAny_tryCatch ?_);unfold Builtin.Dict.pairItems;refine zA (tW (s:={s with heap:=c}) (T:= "tuple") ⟨op,T,a2⟩ ?_);rw[zJ ∅];refine zA (wM (s:={s with heap:=c}) T U (zB ?_));show wpAny _ A.in1 (holding [.ref a.b,a.v] (dictSet d (.ref a.b) a.v)) _ _ _;refine xU ?_;refine wpAny_dictSet_heap (knd:=kF prog w) (s:={s with heap:=c}) (hsz:=a6) (show A.units+1+8<cLine by omega) b6 O λK a5 q=>?_;obtain⟨c0,b8,c1,b3,b7,c2,_⟩:=id O;have a1:∀b o,c.get? b=some o->o.cls=.type "tuple" -> K.get? b=some o:=λb o e g=>(q.2 b (λz=>by rw[z,b3]at e;cases e;rw[b7.1]at g;simp at g)).trans e;refine zB ⟨qM aW _,?_⟩;have b0:(rawInt ((i:Int)+1))=.int ((i+1:Nat):Int) 0:=rfl;rw[b0];refine Ju hh a4 n S M rest (i+1) (storedH xs a.k a.b a.v) _ (λj=>?_) ?_ ?_ a5 (λt' J=>Ent.up (L t' (.tail _ J)) a1) ?_ λZ V k3 b4=>?_
  ·have:=t (j+1);rw[List.getElem?_cons_succ]at this;rw[←this];congr 1;omega
  ·obtain⟨o,k,f⟩:=a0;exact⟨o,(q.2 it (zW n)).trans k,f⟩
  ·obtain⟨o,k,f⟩:=W;exact⟨o,(q.2 l (zW S)).trans k,f⟩
  ·have:=To xs a.k a.b a.v;have:=N;simp only[List.length_cons]at this;omega
  ·exact C Z V (λb o b1 b2 e=>k3 b o b1 b2 ((q.2 b b2).trans ((p.2 b b1).trans e))) b4
end
section
variable {prog:Program} {w:World} {A:Around} {E:VP} {s:Shared} {l:Addr}
theorem Tn{Q:VP}{es:List Ent}{o:Obj}{n:Nat}(hh:A.handled=none)(X:A.units+48<cLine)(d:s.heap.get? l=some o)(f:o.cls=.type "list")(D:o.dict=none)(m:o.data=.seq (es.map λc=>Value.ref c.p).toArray n)(R:∀c∈es,c.ok s.heap)(M:es.length<=sizeLine)
  (h:∀h' tk,(∀b o,s.heap.get? b=some o->h'.get? b=some o)->h'.DictOfH (kF prog w) s.heap.objs.size (es.foldl putP [])->Q (.ref s.heap.objs.size) {s with heap:=h',toks:=tk}):
  wpAny (model prog w) A (call (.type "dict") [.ref l]) Q E s:=by
 have t:@LT.lt Nat _ l s.heap.objs.size:=zO d;refine callType_codes (Q₁:=λy v=>y=.ref s.heap.objs.size/\v={s with heap:=s.heap.push {cls:=.type "dict",data:=.dict #[]}}) PySem.F.kt_called_dict (PySem.F.kt_typeCall_dict_1 _) PySem.F.entry_dict_init (kt_code_dict_new _ ⟨rfl,rfl⟩) ?_;rintro y v ⟨rfl,rfl⟩;have g:(s.heap.push {cls:=.type "dict",data:=.dict #[]}).DictOfH (kF prog w) s.heap.objs.size []:=Heap.DictOfH.new s.heap;have k1:∀b o,s.heap.get? b=some o->(s.heap.push {cls:=.type "dict",data:=.dict #[]}).get? b=some o:=λb o e=>zD _ e;have Y:(s.heap.push {cls:=.type "dict",data:=.dict #[]}).objs.size=s.heap.objs.size+1:=size_push' _ _;generalize s.heap.push {cls:=.type "dict",data:=.dict #[]}=k at*
 have C:=Heap.DictOfH.typeIs (s:={s with heap:=k}) g;refine⟨C,PySem.F.args_dict_init_2 _ _,?_⟩;unfold Builtin.«dict.__init__»;refine zA ?_;unfold Builtin.Dict.selfAndRest;refine zA (rG C ?_);show wpAny _ _ (pure (s.heap.objs.size,[Value.ref l])) _ _ _;refine zB ?_;show wpAny _ _ (Builtin.Dict.updateFrom "dict.__init__" s.heap.objs.size (.ref l) [] .none) _ _ {s with heap:=k};unfold Builtin.Dict.updateFrom;refine zA (tW (s:={s with heap:=k}) (T:= "list") ⟨o,k1 _ _ d,f⟩ ?_);rw[zJ ∅];refine zA (Tq (A:=A.in1.in1) hh (k1 _ _ d) f D m λa u k2=>?_);rw[zJ (by rfl)];refine zA (wX ?_);have L:a.IsList l (es.map λc=>Value.ref c.p).toArray:=⟨o,k2 _ _ (k1 _ _ d),f,n,m⟩;refine zA (sH (s:={s with heap:=a,toks:=u}) L ?_);have i:s.heap.objs.size+1<=a.objs.size:=by
  obtain⟨z,_,_,e,_⟩:=id g;exact(show @LT.lt Nat _ s.heap.objs.size a.objs.size from zO (k2 _ _ e))
 have k3:∀b o,a.get? b=some o->(a.push {cls:=.type "list_iterator",data:=.fields #[.ref l,.int 0 0]}).get? b=some o:=λb o e=>zD _ e;have J:(a.push {cls:=.type "list_iterator",data:=.fields #[.ref l,.int 0 0]}).IsListIter a.objs.size l 0:=⟨_,zQ _ rfl,rfl,rfl⟩;show wpAny _ _ _ _ _ {s with heap:=a.push {cls:=.type "list_iterator",data:=.fields #[.ref l,.int 0 0]},toks:=u};generalize a.push {cls:=.type "list_iterator",data:=.fields #[.ref l,.int 0 0]}=I at*
 have p:∀b o,s.heap.get? b=some o->I.get? b=some o:=λb o e=>k3 _ _ (k2 _ _ (k1 _ _ e));refine zA (zB ?_);refine zB ⟨qM aW _,?_⟩;refine Ju (A:=A.in1) (items:=(es.map λc=>Value.ref c.p).toArray) hh (by show A.units+1+32<cLine;omega) (yD (zF (vJ _) i)) (zW (yD t)) (yD (zF (vC t) i)) es 0 [] _ (λj=>by simp) J
  ⟨o,p _ _ d,f,n,m⟩ ?_ (λc K=>Ent.up (R c K) λb o e _=>p b o e) (by simpa using M) λU G P W=>?_
 ·obtain⟨z,N,ep,e,r⟩:=id g;obtain⟨O,S,T,_,V⟩:=r;exact⟨z,N,ep,k3 _ _ (k2 _ _ e),O,S,T,λx F=>(nomatch F),V⟩
 ·refine⟨rfl,h U G (λb o e=>?_) W⟩;have q:@LT.lt Nat _ b s.heap.objs.size:=zO e;exact P b o (yD (zF (vC q) i)) (yD q) (p _ _ e)
end
def Tm(K:Frag):List V->Hp->VK->Prop:=λxs H Q=>∃(l:Addr)(ts:List (Addr×PyData×Addr×V)),xs=[.ref l]/\SqL K H l (ts.map λt=>V.ref t.1)/\(∀t∈ts,SqT K H t.1 [.ref t.2.2.1,t.2.2.2]/\tT 4 t.2.1=true/\Dt K H (.ref t.2.2.1) t.2.1)/\(ts.map (·.2.1)).Nodup /\
 ∀D H',Same H H'->H D=none->DTr K H' D (ts.map λt=>(t.2.1,t.2.2.2))->Q (.ref D) H'
theorem Tl{kvs:List (PyData×V)}{k:PyData}(h:k∉kvs.map (·.1)):vT kvs k=none:=by
 induction kvs with
 |nil=>rfl
 |cons p r a =>
  rw[zK,xE,not_or]at h;rw[gE (λe=>h.1 e.symm)];exact a h.2
section
variable {X:Cx}
theorem Tk(b3:X.A.units+64<cLine)(P:X.calm=true):kI X (.type "dict") (Tm X.K):=by
 intro a9 s σ H xs us Q I r h;obtain⟨l,ts,rfl,G,b,J,q⟩:=h;obtain⟨u,rfl,Z⟩:=jV r;cases Z;obtain⟨its,T,⟨o,b0,e,c,W,dd⟩,v⟩:=I.list G;have mk:∀(ts:List (Addr×PyData×Addr×V))(its:LW),Vals (ts.map λa=>V.ref a.1) its->(∀a∈ts,SqT X.K H a.1 [.ref a.2.2.1,a.2.2.2]/\tT 4 a.2.1=true/\Dt X.K H (.ref a.2.2.1) a.2.1) ->
   ∃es:List Ent,its=es.map (λa=>Value.ref a.p)/\Paired (λa(e:Ent)=>e.k=a.2.1/\e.b=a.2.2.1/\RelV a.2.2.2 e.v/\e.ok s.heap) ts es:=by
  intro ts
  induction ts with
  |nil=>intro its r _;cases r;exact⟨[],rfl,.nil⟩
  | cons a ts k =>
   intro its r b;cases r with
   | cons O U =>
    obtain⟨es,e1,g⟩:=k _ U λx i=>b x (.tail _ i);obtain⟨f,p,j⟩:=b a (.head _);obtain⟨b1,a5,⟨op,F,y,R,M⟩,_⟩:=I.tuple f;cases a5 with
    | cons K m =>
     cases m with
     |cons m N =>
      cases N;cases K;cases O;rename_i v2;refine⟨⟨a.1,a.2.1,a.2.2.1,v2⟩:: es,by rw[zK,←e1],.cons ⟨rfl,rfl,m,⟨op,R,F,y,M⟩,gF I p j⟩ g⟩
 obtain⟨es,e1,g⟩:=mk ts its T b;subst e1;have a8:ts.length=es.length:=nS g;refine Tn (es:=es) (I.ok.hd P) ⋯ e c W (by rw[dd]) (λa n=>?_) (by rw[←a8];simpa using v) λh' tk a7 D=>?_
 ·obtain⟨_,_,z⟩:=Cb g a n;exact z.2.2.2
 have Y:∀(ts:List (Addr×PyData×Addr×V))(es:List Ent),Paired (λa(e:Ent)=>e.k=a.2.1/\e.b=a.2.2.1/\RelV a.2.2.2 e.v/\e.ok s.heap) ts es->(∀a∈ts,tT 4 a.2.1=true/\Dt X.K H (.ref a.2.2.1) a.2.1)->∀(kvs:List (PyData×V))(xs:List (PyData×Addr×Value)),KP X.K H kvs xs->(kvs.map (·.1)++ts.map (·.2.1)).Nodup->KP X.K H (kvs++ts.map λa=>(a.2.1,a.2.2.2)) (es.foldl putP xs):=by
  intro ts es S
  induction S with
  |nil=>intro _ kvs xs d _;rw[List.map_nil,uJ];exact d
  | @cons a e ts es L _ k =>
   intro b kvs xs d t;obtain⟨f,p,j,_⟩:=L;have st:=d.put a.2.1 (b a (.head _)).1 (b a (.head _)).2 j;have C:a.2.1∉kvs.map (·.1):=λa1=>by
    have:=(sI.mp t).2.2 _ a1 a.2.1 (by simp);exact this rfl
   have ep:pT kvs a.2.1 a.2.2.2=kvs++[(a.2.1,a.2.2.2)]:=by
    unfold pT;rw[Tl C];rfl
   rw[ep,←f,←p]at st;have:=k (λx i=>b x (.tail _ i)) _ _ st (by rw[yM,yU];simpa [f]using t);rw[yU]at this;rw[f]at this;show KP X.K H _ (List.foldl putP (storedH xs e.k e.b e.v) es);rw[f];exact this
 have d:=Y ts es g (λa n=>(b a n).2) [] [] .nil (by simpa using J);rw[List.nil_append]at d;obtain⟨b4,b2,b5,a0,a6,a3,a4,_,a2⟩:=D;have w:H s.heap.objs.size=none:=I.hok.fresh (zE _);have sm:Same H (upd H s.heap.objs.size (mT s.heap.objs.size (es.foldl putP []))):=Same.new w;refine⟨.ref s.heap.objs.size,_,I.laid (a:=s.heap.objs.size) (o:=mT s.heap.objs.size (es.foldl putP [])) (t':=tk) a7 (zE _) (aL a0 a6 a3 a4),rfl,?_⟩;refine q _ _ sm w ⟨by rw[yL];simpa using v,pV.mpr (zW (yD (Cy I))),_,oQ,a2,d.keeps (mH sm)⟩
end
open Classical in
def rdT(h:Heap)(v:Value):Option PyData:=if q:∃d,tT 4 d=true/\∃as,Reads h v d as then some q.choose else none
theorem Jt{h:Heap}{d:PyData}{v:Value}{as:LA}(b:tT 4 d=true)(r:Reads h v d as):rdT h v=some d:=by
 have q:∃d,tT 4 d=true/\∃as,Reads h v d as:=⟨d,b,as,r⟩;unfold rdT;rw[pS q];obtain⟨t',c,a⟩:=q.choose_spec;rw[tS _ _ _ _ _ (jZ 4 _ (gU 4 _ t')).1 a r]
def rInD(K:Frag)(neg:Bool):R2:=λx y H Q=>∃(p:Addr)(ps:List (V×PyData))(d:PyData),y=.ref p/\(SqL K H p (ps.map (·.1))\/SqT K H p (ps.map (·.1)))/\(∀q∈ps,tT 4 q.2=true/\Dt K H q.1 q.2)/\tT 4 d=true/\Dt K H x d/\Q (.bl (if neg=true then !(ps.any λq=>decide (q.2=d)) else ps.any λq=>decide (q.2=d))) H
section
variable {X:Cx}
theorem Ca{b:PN}{σ:St}{H:Hp}{s:Shared}(I:Inv X b σ H s)(d:PyData):∀{ps:List (V×PyData)}{us:LW},Vals (ps.map (·.1)) us->(∀q∈ps,tT 4 q.2=true/\Dt X.K H q.1 q.2)->us.any (λu=>decide (rdT s.heap u=some d))=ps.any λq=>decide (q.2=d)
 |[],_,.nil,_=>rfl
 |p:: ps,u:: us,.cons r c,h=>by
  rw[tH,tH,Ca I d c λq a=>h q (.tail _ a)];obtain⟨as,f⟩:=(h p (.head _)).2.reads I r;rw[Jt (h p (.head _)).1 f];congr 1;exact oI.mpr ⟨λe=>by cases e;rfl,λe=>by rw[e]⟩
theorem Dz{m:PN}{σ:St}{H:Hp}{s:Shared}(I:Inv X m σ H s){A:Around}(a:A.units+8<cLine){x:V}{v:Value}{d:PyData}(j:RelV x v)(g:tT 4 d=true)(c:Dt X.K H x d):∀{ps:List (V×PyData)}{us:LW},Vals (ps.map (·.1)) us->(∀q∈ps,tT 4 q.2=true/\Dt X.K H q.1 q.2)->∀u∈us,SeqAt.EqAt A s u v (decide (rdT s.heap u=some d))
 |[],_,.nil,_=>λu a=>by cases a
 | p:: ps,u:: us,.cons r n,h=>λi b=>by
  rcases xE.mp b with rfl|b
  ·obtain⟨as,f⟩:=(h p (.head _)).2.reads I r;obtain⟨bs,k⟩:=c.reads I j;have e:decide (rdT s.heap i=some d)=decide (p.2=d):=by
    rw[Jt (h p (.head _)).1 f];exact oI.mpr ⟨λe=>by cases e;rfl,λe=>by rw[e]⟩
   rw[e];intro prog w E Q l;exact eqT (n:=4) (zE _) (h p (.head _)).1 g f k a l
  ·exact Dz I a j g c n (λq o=>h q (.tail _ o)) i b
theorem Tj(l:X.A.units+64<cLine):OpR X (compareOp .In) (rInD X.K false):=by
 intro k s σ H x y v u Q I g i h;obtain⟨p,ps,d,rfl,a,b,f,e,q⟩:=h;cases i;rcases a with a|a
 ·obtain⟨its,r,pl,j⟩:=I.list a;refine SeqAt.in_listAt (λu=>decide (rdT s.heap u=some d)) pl.isList (λw c=>Dz I ?_ g f e r b w (by simpa using c)) ⟨.bl _,H,I,rfl,?_⟩
  ·show X.A.units+1+8<cLine;omega
  rw[show its.toArray.any (λu=>decide (rdT s.heap u=some d))=its.any (λu=>decide (rdT s.heap u=some d)) by simp,Ca I d r b];exact q
 ·obtain⟨its,r,pl,j⟩:=I.tuple a;refine SeqAt.in_tupleAt (λu=>decide (rdT s.heap u=some d)) pl (λw c=>Dz I ?_ g f e r b w (by simpa using c)) ⟨.bl _,H,I,rfl,?_⟩
  ·show X.A.units+1+8<cLine;omega
  rw[show its.toArray.any (λu=>decide (rdT s.heap u=some d))=its.any (λu=>decide (rdT s.heap u=some d)) by simp,Ca I d r b];exact q
end
structure FunD(K:Frag)(x qual:Str)(st:Stmt)(f:Addr)(fd:FuncData)(ds:LW):Prop where
 ex:∃(oc:Value)(od:Option Addr)(T:Addr)(kV doc pm:Value)(an:Option Addr)(cdv ct:Value)(osl:Array (Option Value)),
  fd=PySem.W.fnOf x qual (jL st) (kD st) (oN st) (.ref T) kV doc pm an cdv ct/\K.lookup f=some ⟨oc,od,.func fd,osl⟩/\PySem.W.codeIn K cdv qual=true/\∃(o2:Value)(d2:Option Addr)(n2:Nat)(s2:Array (Option Value)),K.lookup T=some ⟨o2,d2,.seq ds.toArray n2,s2⟩
 kp:PySem.W.keepIn K (.ref f)=true
section
variable {P:Program} {w:World} {K:Frag} {mg:MT} {base:Heap}
theorem FunD.ok{x b:Str}{st:Stmt}{f:Addr}{c:FuncData}{ds:LW}{N ps:List Str}{k:Nat}{sp:Sp}(F:FunD K x b st f c ds)(i:oY N ps (oN st))(len:∀vs H Q E,sp vs H Q E->vs.length=ps.length)
  (e:∀(cdv:Value)(A:Around)(outer:List Env)(s:Shared)(H:Hp)(vs:List V)(Q:VK)(E:XK),Room k (A.deeper (envOfC b (oN st) s.heap.objs.size f cdv))->sp vs H Q E ->
   ∃a,PSs (cxOf CX0 P w K mg base N b (oN st) f cdv A outer s H E).nox (kD st) a/\a {nx:=λ_ H'=>Q .non H',rt:=Q} (jX N vs) H):FnOk P w K mg base CX0 (k+1) f c ps sp:=by
 obtain⟨o,p,T,kV,m,l,r,cdv,n,t,rfl,d,g,_⟩:=F.ex;refine Br d g i len λA outer s H vs Q E hr j=>?_;obtain⟨a,h,q⟩:=e cdv A outer s H vs Q E hr j;exact⟨a,h.nox,q⟩
theorem FunD.binds{x e:Str}{st:Stmt}{f:Addr}{g:FuncData}{ps:List Str}{ds:LW}(F:FunD K x e st f g ds)
  (h:∀(T:Addr)(kV d a:Value)(c:Option Addr)(cdv b:Value)(us:LW),us.length+ds.length=ps.length->∃k,bindArgs (PySem.W.fnOf x e (jL st) (kD st) (oN st) (.ref T) kV d a c cdv b) ⟨us,[]⟩=seqItems? (.ref T) >>= k/\k (some ds.toArray)=pure (ps.zip (us++ds))):lI K g ps ds:=by
 obtain⟨o,q,T,kV,d,a,c,cdv,b,r,rfl,m,p,l,t,n,u,lt⟩:=F.ex;intro s us j hl;obtain⟨k,e1,i⟩:=h T kV d a c cdv b us (by simpa using hl);exact BindsTo.of_defaults (T:=T) rfl (j _ _ lt) rfl e1 i
theorem FunD.bindsA{x e:Str}{st:Stmt}{f:Addr}{g:FuncData}{ps:List Str}{ds:LW}(F:FunD K x e st f g ds)
  (h:∀(T:Addr)(kV d a:Value)(c:Option Addr)(cdv b:Value)(us:LW),us.length=ps.length->∃k,bindArgs (PySem.W.fnOf x e (jL st) (kD st) (oN st) (.ref T) kV d a c cdv b) ⟨us,[]⟩=seqItems? (.ref T) >>= k/\k (some ds.toArray)=pure (ps.zip us)):lI K g ps []:=by
 obtain⟨o,q,T,kV,d,a,c,cdv,b,r,rfl,m,p,l,t,n,u,lt⟩:=F.ex;intro s us j hl;rw[uJ]at hl ⊢;obtain⟨k,e1,i⟩:=h T kV d a c cdv b us hl;exact BindsTo.of_defaults (T:=T) rfl (j _ _ lt) rfl e1 i
theorem Js{x a:Str}{st:Stmt}{f T:Addr}{m i:Value}{n p e:Option Addr}{o q:Array (Option Value)}{kV g b cdv d:Value}{ds:LW}{j:Nat}(l:K.lookup f=some ⟨m,n,.func (PySem.W.fnOf x a (jL st) (kD st) (oN st) (.ref T) kV g b e cdv d),o⟩)
  (c:PySem.W.codeIn K cdv a=true)(k:PySem.W.keepIn K (.ref f)=true)(l2:K.lookup T=some ⟨i,p,.seq ds.toArray j,q⟩):FunD K x a st f (PySem.W.fnOf x a (jL st) (kD st) (oN st) (.ref T) kV g b e cdv d) ds:=⟨⟨m,n,T,kV,g,b,e,cdv,d,o,rfl,l,c,i,p,j,q,l2⟩,k⟩
end
section
variable {prog:Program} {w:World} {A:Around} {E:VP} {s:Shared} {d it v:Addr} {es:Array DictEntry} {ep i:Nat}
theorem Ti{Q:VP}(a:s.heap.IsValuesView v d)(e:RawD s.heap d es ep)
  (f:Q (.ref s.heap.objs.size) {s with heap:=s.heap.push {cls:=.type "dict_valueiterator",data:=.fields #[.ref d,.int 0 0,.int es.size 0,.int ep 0]}}):wpAny (model prog w) A (pyIter (.ref v)) Q E s:=by
 obtain⟨n,j,l,k⟩:=id a;obtain⟨o,b,m,c⟩:=id e;refine wpAny_pyIter_slot a.typeIs PySem.F.slot_dict_values_iter (xJ PySem.F.slot_dict_values_iter a.typeIs PySem.F.entry_dict_values_iter ?_ (PySem.F.args_dict_values_iter_1 _));unfold Builtin.«dict_values.__iter__»;refine zA (zB ?_);refine zA ?_;unfold Builtin.Dict_items.dictOf;refine zA (xZ j k (x:=.ref d) rfl (zB ?_));refine zA ?_;unfold Builtin.Dict_items.newIterator;refine zA (vS b c ?_);refine zA (uI b c ?_);have g:Builtin.Dict_items.ownsTuple "dict_valueiterator"=false:=∅
 simp only[g,Bool.false_eq_true,if_false];refine yX (zB ⟨_,rfl,"dict_valueiterator",_,⟨_,zQ _ rfl,rfl⟩,PySem.F.slot_dict_valueiterator_next.lookup,?_⟩);simpa [rawInt]using f
theorem Th{Q:Option Value->Shared->Prop}(a:s.heap.IsValIter it d i es.size ep)(k:RawD s.heap d es ep)(hi:i<es.size)
  (l:∀h',h'.IsValIter it d (i+1) es.size ep->Heap.SameBut it s.heap h'->Q (some es[i].val) {s with heap:=h'}):wpAny (model prog w) A (pyNext (.ref it)) Q E s:=by
 obtain⟨o,e,j,b⟩:=id a;obtain⟨n,g,p,f⟩:=id k;unfold pyNext;refine zA (vA (xP (name:=Str.ofString "__next__") a.typeIs wJ
  (xJ wJ a.typeIs PySem.F.entry_dict_valueiterator_next ?_ (PySem.F.args_dict_valueiterator_next_1 _))))
 refine zA (zB ?_);refine zA ?_;refine zA ?_
 first|refine zA (vE a.typeIs (zB ?_))|refine zA (vY a.typeIs (zB ?_))
 refine zA (qD e b ?_);have m:Builtin.Dict_items.ownsTuple "dict_valueiterator"=false:=∅
 simp only[m,Bool.false_eq_true,if_false];show wpAny _ _ (if(Value.ref d == Value.none)=true then _ else _) _ _ s;rw[zI (show¬ ((Value.ref d == Value.none)=true) from yC)];refine zA (zB ?_);refine zA (vS g f ?_);rw[zI (by simp)];refine zA (zB ?_);refine zA (uI g f ?_);rw[zI (by simp)];refine zB ?_;simp only[show¬ ((i:Int)<0) from⋯,if_false,Int.toNat_natCast,Array.getElem?_eq_getElem hi];refine zA ?_
 first|refine zA (vE a.typeIs (zB ?_))|refine zA (vY a.typeIs (zB ?_))
 refine zA (rH a.typeIs ?_);show wpAny _ _ (setField (.ref it) 1 (rawInt ((i:Int)+1)) >>= _) _ _ s;refine zA (uU e b (by simp) ?_);have c:(s.heap.update it (Obj.mapFields (·.setIfInBounds 1 (rawInt ((i:Int)+1))))).IsValIter it d (i+1) es.size ep:=
  ⟨_,vB _ e (rF (vL b _)),(qO ..).trans j,by rw[vL b];simp[rawInt]⟩
 refine zA (xU ?_);refine zA (rH (s:={s with heap:=s.heap.update it (Obj.mapFields (·.setIfInBounds 1 (rawInt ((i:Int)+1))))}) c.typeIs ?_);refine zA (rH (s:={s with heap:=s.heap.update it (Obj.mapFields (·.setIfInBounds 1 (rawInt ((i:Int)+1))))}) c.typeIs ?_);show wpAny _ _ (pure es[i].val) _ _ _;exact zB (zB ⟨_,rfl,zB (l _ c (wF ..))⟩)
theorem Tg{Q:Option Value->Shared->Prop}(hh:A.handled=none)(a:s.heap.IsValIter it d es.size es.size ep)(g:RawD s.heap d es ep)
  (j:∀h',Heap.ExtBut it s.heap h'->Q none {s with heap:=h'}):wpAny (model prog w) A (pyNext (.ref it)) Q E s:=by
 obtain⟨o,c,l,b⟩:=id a;obtain⟨m,f,n,e⟩:=id g;unfold pyNext;refine zA (vA (xP (name:=Str.ofString "__next__") a.typeIs wJ
  (xJ wJ a.typeIs PySem.F.entry_dict_valueiterator_next ?_ (PySem.F.args_dict_valueiterator_next_1 _))))
 refine zA (zB ?_);refine zA ?_;refine zA ?_
 first|refine zA (vE a.typeIs (zB ?_))|refine zA (vY a.typeIs (zB ?_))
 refine zA (qD c b ?_);have k:Builtin.Dict_items.ownsTuple "dict_valueiterator"=false:=∅
 simp only[k,Bool.false_eq_true,if_false];show wpAny _ _ (if(Value.ref d == Value.none)=true then _ else _) _ _ s;rw[zI (show¬ ((Value.ref d == Value.none)=true) from yC)];refine zA (zB ?_);refine zA (vS f e ?_);rw[zI (by simp)];refine zA (zB ?_);refine zA (uI f e ?_);rw[zI (by simp)];refine zB ?_;simp only[show¬ ((es.size:Int)<0) from⋯,if_false,Int.toNat_natCast,Array.getElem?_eq_none (Nat.le_refl _)];refine zA ?_
 first|refine zA (vE a.typeIs (zB ?_))|refine zA (vY a.typeIs (zB ?_))
 show wpAny _ _ (setField (.ref it) 0 .none >>= _) _ _ s;refine zA (uU c b (by simp) ?_);show wpAny _ _ (newExc (.type "StopIteration") [] >>= _) _ _ _;refine zA ?_;simp only[newExc,newTuple];refine zA (yX ?_ (by size_fits));refine zA (m:=firstArgMember _ _) (wpAny_of_eq (a:=Value.none) (by first|rfl|(simp only[firstArgMember];rfl)) ?_);refine yX ?_ (by size_fits);simp only[raiseNew];refine zA (pH ?_);rw[show A.in1.handled=none from hh];refine zA (zB (wpAny_throw ?_));refine zA (vI (T:= "StopIteration") (b:=true) ⟨_,zQ _ rfl,rfl⟩ qC ?_);exact zB (j _ (((wF ..).extBut.push _).push _))
theorem Tf(hh:A.handled=none)(I d:Addr)(j:d≠I)(es:Array DictEntry)(ep:Nat):
  Walks prog w A I [I,d] [I] es.size (λi v=>(es[i]?).map (·.val)=some v) (λi h=>h.IsValIter I d i es.size ep/\RawD h d es ep) where
 sub:=λb a=>by simp at a;simp[a]
 frame:=λ_ _ _ st g=>⟨st.1.at λo e=>g I (by simp) o e,st.2.at λo e=>g d (by simp) o e⟩
 item:=λi s Q E hi st c=>by
  refine Th st.1 st.2 hi λh' l f=>?_;exact c _ h' s.toks (by simp[hi]) ⟨l,st.2.at λo e=>(f.2 d j).trans e⟩ λb o a e=>(f.2 b (λh=>a (by simp[h]))).trans e
 done:=λs Q E st c=>Tg hh st.1 st.2 λh' k=>c h' s.toks λb o a e=>k b o (λh=>a (by simp[h])) e
 self:=λ_ _ _ _ st c=>wpAny_pyIter_valiter st.1 c
end
section
variable {prog:Program} {w:World} {d r:Addr} {es:Array DictEntry} {ep:Nat}
theorem RawD.lt{h:Heap}(x:RawD h d es ep):d<h.objs.size:=let ⟨_,a,_⟩:=x;zO a
theorem Te(d:Addr)(a:(d == sysModules)=false):
  MeetsIn prog w (Builtin.«dict.values» ⟨[.ref d],[]⟩) (λ_ R s=>(∃es ep,RawD s.heap d es ep)/\R (.ok (.ret (.ref s.heap.objs.size))) {s with heap:=s.heap.push {cls:=.type "dict_values",data:=.fields #[.ref d]}}):=
 .of_wp λA R s⟨⟨es,ep,b⟩,h⟩=>by
  refine zA ?_;unfold Builtin.Dict.noArgs;refine zA (rG b.typeIs ?_);show wpAny _ _ (pure d) _ _ s;refine zB ?_;show wpAny _ _ (Builtin.Dict.showsAll d >>= _) _ _ s;unfold Builtin.Dict.showsAll;rw[zI (by rw[a];exact yC)];refine zA (zB ?_);exact zA (yX (zB ⟨_,rfl,h⟩))
theorem Td:PySem.W.KdlSrc prog w "dict_values" r d es.size (λi v=>(es[i]?).map (·.val)=some v) (λh=>h.IsValuesView r d/\RawD h d es ep) where
 type:=λ_ a=>a.1.typeIs
 there:=λ_ a=>⟨let ⟨_,c,_⟩:=a.1;zO c,a.2.lt⟩
 keep:=λ_ _ a f=>⟨let ⟨o,c,x⟩:=a.1;⟨o,f r (.inl rfl) o c,x⟩,a.2.at λo e=>f d (.inr rfl) o e⟩
 notList:=∅
 notTuple:=∅
 hint:=λ_ _ _ _ a b=>PySem.W.kdl_hint_values a.1.typeIs b
 iter:=λ_ _ hh a=>⟨_,_,(λ_ _ b=>Ti a.1 a.2 b),Tf hh _ d (yD a.2.lt) es ep,⟨⟨_,zQ _ rfl,rfl,rfl⟩,a.2.at λo e=>zD _ e⟩⟩
end
section
variable {X:Cx}
def Tc(K:Frag):V->List V->Hp->VK->Prop:=λx vs H Q=>∃a kvs b k y,x=.ref a/\vs=[.ref b,y]/\DTr K H a kvs/\tT 4 k=true/\Dt K H (.ref b) k/\Q ((vT kvs k).getD y) H
theorem Ta(n:X.A.units+64<cLine):MtM X "dict.get" (Tc X.K):=by
 intro m s σ H x vs v us Q I j d h;obtain⟨a,kvs,b,k,y,rfl,rfl,g,tk,f,q⟩:=h;cases j;obtain⟨u,l,rfl,c,i⟩:=d.two;cases c;obtain⟨xs,e,r,dd⟩:=iP I g;refine pL uY dd.typeIs PySem.F.entry_dict_get (PySem.F.args_dict_get_3 _ _ _) (meetsH_dict_get_default (kF X.prog X.w) a b g.sys _) ⟨show X.A.units+1+8<cLine by omega,k,xs,gF I tk f,dd,⟨_,H,I.tok _,?_,q⟩⟩;exact Iw (r.val k) i
def Dy(K:Frag)(to:TE):TE:=λσ H Q=>to σ H λx H1=>∃a kvs,x=.ref a/\DTr K H1 a kvs/\∀l,H1 l=none->Q (.ref l) (upd H1 l (.lst (kvs.map (·.2))))
theorem Jr{K:Frag}{H:Hp}{kvs:List (PyData×V)}{xs:List (PyData×Addr×Value)}(h:KP K H kvs xs):Vals (kvs.map (·.2)) (xs.map (·.2.2)):=by
 induction h with
 |nil=>exact .nil
 |cons a _ b=>exact .cons a.2.2 b
theorem Uz{o:Expr}{y:TE}{P N f d:Pos}(U:X.calm=true)(O:X.mg "list"=none)(W:PE X o y)(Y:Gl X "list" := by rfl)
  (G:bootBuiltins "list"=some (.type "list"):=by decide +kernel)(z:attributeBase o "values" X.env (eval o X.env)=eval o X.env:=by rfl)(a2:(f.endLine == d.line)=true:=by rfl)
  (t:starEach [.Call (.Attribute o "values" f) [] [] d] X.env=[(false,eval (.Call (.Attribute o "values" f) [] [] d) X.env)]:=by rfl):
  PE X (.Call (.Name "list" P) [.Call (.Attribute o "values" f) [] [] d] [] N) (Dy X.K y):=by
 intro F s σ H Q I h;refine uH (gO I Y O G ?_);refine wR ?_ (by rw[t];rfl) (by rfl);rw[t];show wpAny _ _ (spliced ((false,eval (.Call (.Attribute o "values" f) [] [] d) X.env):: [])) _ _ s;refine Calls.spliced_cons ?_;refine wpAny_Call_method0_late z a2 (thn (W F s σ H _ I h) ?_);rintro v c ⟨x,a8,l,T,a,kvs,S,g,D⟩;subst S;cases T;obtain⟨xs,a7,r,dd⟩:=iP l g;obtain⟨Z,es,ep,a0,a4,K,u,_⟩:=id dd;have m:RawD c.heap a es ep:=⟨Z,a0,a4,K⟩;refine⟨"dict","dict.values",sG,PySem.F.slot_dict_values,PySem.F.type_dict_values,dd.typeIs,dictOfH_noDict dd,uM rfl (PySem.evalArgs_none ?_)⟩;have q:∀b o,c.heap.get? b=some o->(c.heap.push {cls:=.type "dict_values",data:=.fields #[.ref a]}).get? b=some o:=λb o e=>zD _ e;have p:c.heap.objs.size<=(c.heap.push {cls:=.type "dict_values",data:=.fields #[.ref a]}).objs.size:=by simp[Heap.push]
 have lx:xs.length=kvs.length:=by have:=(Jr r).length;simpa using this.symm
 have le:es.size=xs.length:=by have:=wH List.length u;simpa using this
 have a6:=g.len;refine pL PySem.F.slot_dict_values dd.typeIs PySem.F.entry_dict_values (PySem.F.args_dict_values_1 _) (Te a g.sys) ⟨⟨es,ep,m⟩,?_⟩;refine Calls.spliced_nil ?_;refine PySem.W.kdl_call (Td (r:=c.heap.objs.size) (d:=a) (es:=es) (ep:=ep)) (l.ok.hd U) ⟨⟨_,zQ _ rfl,rfl,rfl⟩,m.at λo e=>q a o e⟩ ⋯ λh' tk i a3 J M L=>?_;have k2:∀b o,c.heap.get? b=some o->h'.get? b=some o:=λb o e=>J b o (q b o e);have V:i.toList=xs.map (·.2.2):=by
  refine qP λj=>?_;obtain⟨n,C⟩:=L
  by_cases a5:j<es.size
  ·have w:j<i.size:=by rw[n];exact a5
   have k:=C j i[j] (by simp[w]);have a1:es[j]?=(xs.map (entryOfKey (kF X.prog X.w)))[j]?:=by rw[←u,yT]
   rw[yT,vV w,←k,a1,zC,zC];cases xs[j]? <;> rfl
  ·rw[wG (by rw[zN,n];omega),wG (by rw[yL];omega)]
 have R:Vals (kvs.map (·.2)) i.toList:=by rw[V];exact Jr r
 exact⟨.ref _,_,l.laid (t':=tk) k2 p (show mK X.prog X.w _ h' _ (.lst (kvs.map (·.2))) from⟨by rw[yL];exact a6,i.toList,a3,R,by rw[Array.toArray_toList];exact M⟩),rfl,D _ (l.hok.fresh p)⟩
end
end L2
namespace Cw
open PySem L2
abbrev pa':List Str:=["_law_rows","_law_tops","_law_parts","_law_steps","_law_spot"]
abbrev pb':List Str:=["_law_cells","_law_members","_law_frame_here"]
abbrev pc':List Str:=["_law_cell","_law_kind","_law_parts"]
abbrev pd':List Str:=["_law_cell","_law_base","_law_many"]
abbrev pe':List Str:=["_law_spots_here","_law_members"]
abbrev pf':List Str:=["_law_cells","_law_frame_here"]
abbrev pg':List Str:=["_law_cell","_law_frame_here"]
abbrev ph':List Str:=["self","d","makers","most"]
abbrev pi':List Str:=["_law_part","_law_number"]
abbrev pj':List Str:=["_law_tops","_law_under"]
abbrev pk':List Str:=["_law_rows","_law_steps"]
abbrev pl':List Str:=["_law_tops","_law_steps"]
abbrev pm':List Str:=["_law_one","_law_other"]
abbrev pn':List Str:=["_law_rows","_law_tops"]
abbrev po':List Str:=["_law_script","_law_k"]
abbrev pq':List Str:=["_law_one","_law_spot"]
abbrev pr':List Str:=["rows","tops","under"]
abbrev pt':List Str:=["group","way","most"]
abbrev pu':List Str:=["_law_cell","_law_d"]
abbrev pv':List Str:=["d","makers","most"]
abbrev pw':List Str:=["group","vectors"]
abbrev px':List Str:=["count","vectors"]
abbrev py':List Str:=["vectors","spot"]
abbrev pz':List Str:=["rows","i","k"]
abbrev pA':List Str:=["rows","count"]
abbrev pB':List Str:=["table","spot"]
abbrev pC':List Str:=["one","other"]
abbrev pD':List Str:=["rows","spot"]
abbrev pE':List Str:=["_law_script"]
abbrev pF':List Str:=["axes","one"]
abbrev pG':List Str:=["spot","one"]
abbrev pH':List Str:=["self","one"]
abbrev pI':List Str:=["_law_found"]
abbrev pJ':List Str:=["_law_kind"]
abbrev pK':List Str:=["_law_spot"]
abbrev pL':List Str:=["rows"]
abbrev pM':List Str:=["self"]
abbrev pN':List Str:=["one"]
open PySem.W (nsIn keepIn codeIn findIn fnOf mg_of kitOne)
open PyProof.Rows (mulOk_of_bits)
theorem zqe{a b:Type}{l:List a}{f:a->b}:(l.map f).length=l.length:=yL ..
theorem zqa{b:Type}{l:List b}{i:Nat}{a:b}(h:l[i]?=some a):∃h:i<l.length,l[i]=a:=oB.mp h
theorem zqb{b:Type}{l:List b}{i:Nat}{a:b}(h:l[i]?=some a):a∈l:=yK h
theorem zqc{b:Type}{l:List b}{i:Nat}{a:b}:l.getD i a=l[i]?.getD a:=tI
theorem zqd{a:Type}{l:List a}{i:Nat}(h:i<l.length):l[i]?=some l[i]:=xV h
open PySem.W (Frag)
abbrev LM:=List (LI')
def top(i:Nat):Stmt:=PySem.Challenge.pw_crystalwords_k63_gathered.main.body.getD i (.Pass ⟨0,0,0,0⟩)
abbrev s_12:Stmt:=top 11
noncomputable abbrev N_12:List Str:=["one","other","greater","lesser","remainder"]
abbrev s_16:Stmt:=top 12
noncomputable abbrev N_16:List Str:=["numbers","least","number"]
abbrev aX:Stmt:=top 14
noncomputable abbrev N_v:List Str:=["tops","under","common","top"]
abbrev aY:Stmt:=top 15
noncomputable abbrev N_k:List Str:=["one","under"]
abbrev aZ:Stmt:=top 16
noncomputable abbrev N_w:List Str:=["one","other","tops"]
abbrev s_17:Stmt:=top 17
noncomputable abbrev N_17:List Str:=pN'
abbrev Dx:Stmt:=top 18
noncomputable abbrev N_u:List Str:=pC'
abbrev Az:Stmt:=top 20
noncomputable abbrev N_g:List Str:=["size"]
abbrev s_1p:Stmt:=top 21
noncomputable abbrev N_1p:List Str:=pC'
abbrev s_1b:Stmt:=top 22
noncomputable abbrev N_1b:List Str:=pL'
abbrev s_1l:Stmt:=top 23
noncomputable abbrev N_1l:List Str:=["one","other","columns"]
abbrev s_1a:Stmt:=top 24
noncomputable abbrev N_1a:List Str:=pz'
abbrev s_1:Stmt:=top 25
noncomputable abbrev N_1:List Str:=["rows","total","sign","k","number"]
abbrev s_14:Stmt:=top 26
noncomputable abbrev N_14:List Str:=["rows","i","k","sign"]
abbrev s_1d:Stmt:=top 27
noncomputable abbrev N_1d:List Str:=["rows","size"]
abbrev s_1i:Stmt:=top 28
noncomputable abbrev N_1i:List Str:=pA'
abbrev s_18:Stmt:=top 30
noncomputable abbrev N_18:List Str:=pD'
abbrev s_1m:Stmt:=top 31
noncomputable abbrev N_1m:List Str:=["rows","tops","under","axes"]
abbrev s_1n:Stmt:=top 32
noncomputable abbrev N_1n:List Str:=["d"]
abbrev s_1r:Stmt:=top 33
noncomputable abbrev N_1r:List Str:=pN'
abbrev s_1g:Stmt:=top 34
noncomputable abbrev N_1g:List Str:=["one","spot","tops"]
abbrev s_1f:Stmt:=top 35
noncomputable abbrev N_1f:List Str:=["one","other","columns","rows"]
abbrev s_1o:Stmt:=top 36
noncomputable abbrev N_1o:List Str:=pN'
abbrev s_1k:Stmt:=top 38
noncomputable abbrev N_1k:List Str:=["group","spot","numbers","number","member","reached"]
abbrev Dw:Stmt:=top 39
noncomputable abbrev N_x:List Str:=["group","spots","lists","number","spot","first"]
abbrev s_1e:Stmt:=top 41
noncomputable abbrev N_1e:List Str:=["vectors","spot","axes"]
abbrev s_9:Stmt:=top 42
noncomputable abbrev N_9:List Str:=pF'
abbrev s_1h:Stmt:=top 43
noncomputable abbrev N_1h:List Str:=["one","under","columns"]
abbrev s_1q:Stmt:=top 44
noncomputable abbrev N_1q:List Str:=["one","table"]
abbrev s_1v:Stmt:=top 45
noncomputable abbrev N_1v:List Str:=pB'
abbrev s_10:Stmt:=top 46
noncomputable abbrev N_10:List Str:=pG'
abbrev cF:Stmt:=top 47
noncomputable abbrev N_q:List Str:=["one","way","old","new","rows","under","whole"]
abbrev Dv:Stmt:=top 50
noncomputable abbrev N_o:List Str:=["most"]
abbrev Du:Stmt:=top 51
noncomputable abbrev N_t:List Str:=["d","makers","maker"]
abbrev s_1c:Stmt:=top 52
noncomputable abbrev N_1c:List Str:=["d","makers","most","steps","found","words","at","number","step","reached"]
abbrev s_0:Stmt:=dM (top 53) 0
noncomputable abbrev N_0:List Str:=["self","d","makers","most","words"]
abbrev Ds:Stmt:=dM (top 53) 1
noncomputable abbrev N_e:List Str:=pM'
abbrev Dr:Stmt:=dM (top 53) 2
noncomputable abbrev N_a:List Str:=pM'
abbrev s_2:Stmt:=dM (top 53) 3
noncomputable abbrev N_2:List Str:=pM'
abbrev Dq:Stmt:=dM (top 53) 5
noncomputable abbrev N_r:List Str:=pH'
abbrev s_15:Stmt:=top 54
noncomputable abbrev N_15:List Str:=["d","deeds","group","one"]
abbrev Dp:Stmt:=top 56
noncomputable abbrev N_n:List Str:=["group","vectors","vector"]
abbrev s_1j:Stmt:=top 57
noncomputable abbrev N_1j:List Str:=["count","vectors","top","under","vector"]
abbrev s_7:Stmt:=top 58
noncomputable abbrev N_7:List Str:=["group","way","most","deeds","units"]
abbrev Do:Stmt:=top 60
noncomputable abbrev N_f:List Str:=po'
abbrev Dm:Stmt:=top 61
noncomputable abbrev N_y:List Str:=pI'
abbrev Dl:Stmt:=top 62
noncomputable abbrev N_c:List Str:=["_law_cell","_law_base","_law_many","_law_some","_law_k"]
abbrev Dk:Stmt:=top 63
noncomputable abbrev N_s:List Str:=pi'
abbrev Ay:Stmt:=top 64
noncomputable abbrev N_h:List Str:=["_law_tops","_law_under","_law_by","_law_top"]
abbrev cG:Stmt:=top 65
noncomputable abbrev N_m:List Str:=pJ'
abbrev s_8:Stmt:=top 66
noncomputable abbrev N_8:List Str:=pm'
abbrev s_19:Stmt:=top 67
noncomputable abbrev N_19:List Str:=pn'
abbrev Ax:Stmt:=top 68
noncomputable abbrev N_p:List Str:=["_law_cell","_law_kind","_law_parts","_law_generators","_law_many","_law_rows","_law_k"]
abbrev s_13:Stmt:=top 69
noncomputable abbrev N_13:List Str:=["_law_cell","_law_d","_law_i"]
abbrev s_3:Stmt:=top 70
noncomputable abbrev N_3:List Str:=["_law_rows","_law_steps","_law_i","_law_j","_law_many"]
abbrev s_5:Stmt:=top 71
noncomputable abbrev N_5:List Str:=["_law_tops","_law_steps","_law_i","_law_j","_law_many"]
abbrev s_4:Stmt:=top 72
noncomputable abbrev N_4:List Str:=["_law_rows","_law_tops","_law_parts","_law_steps","_law_spot","_law_far","_law_under"]
abbrev cH:Stmt:=top 73
noncomputable abbrev N_l:List Str:=["_law_script","_law_cell","_law_kind","_law_generators","_law_most","_law_d","_law_parts","_law_steps","_law_spot"]
abbrev Dj:Stmt:=top 74
noncomputable abbrev N_j:List Str:=["_law_cells","_law_frame_here","_law_kind","_law_parts","_law_steps","_law_spot","_law_made","_law_cell","_law_rows","_law_tops"]
abbrev Aw:Stmt:=top 75
noncomputable abbrev N_d:List Str:=["_law_one","_law_spot","_law_far","_law_tops"]
abbrev Av:Stmt:=top 76
noncomputable abbrev N_z:List Str:=pK'
abbrev s_6:Stmt:=top 77
noncomputable abbrev N_6:List Str:=["_law_cell","_law_frame_here","_law_kind","_law_parts","_law_steps","_law_spot","_law_d","_law_small","_law_tops"]
abbrev eG:Stmt:=top 78
noncomputable abbrev N_i:List Str:=["_law_cells","_law_members","_law_frame_here","_law_spots_here","_law_cell","_law_ahead","_law_reached_here","_law_far","_law_tops"]
abbrev s_11:Stmt:=top 79
noncomputable abbrev N_11:List Str:=["_law_spots_here","_law_members","_law_due_here","_law_firsts","_law_number","_law_spot","_law_at","_law_k","_law_places"]
abbrev s_1s:Stmt:=top 80
noncomputable abbrev N_1s:List Str:=["_law_script","_law_frame_here","_law_makers_here","_law_group","_law_members","_law_spots_here","_law_handed","_law_found","_law_row","_law_due_here","_law_d","_law_units"]
local macro_rules | `(tactic| walk_at "s")=>`(tactic| exact ⟨rfl,rfl,rfl,by decide +kernel,rfl,by decide +kernel,by decide +kernel⟩)
local macro_rules | `(tactic| walk_at "v")=>`(tactic| (intro _ _ _ _ h; first | (obtain ⟨_,hh,_⟩:=h; subst hh; rfl) | (obtain ⟨_,_,hh,_⟩:=h; subst hh; rfl) | (obtain ⟨_,_,_,hh,_⟩:=h; subst hh; rfl) | (obtain ⟨_,_,_,_,hh,_⟩:=h; subst hh; rfl) | (obtain ⟨_,_,_,_,_,hh,_⟩:=h; subst hh; rfl) | (obtain ⟨_,_,_,_,_,_,hh,_⟩:=h; subst hh; rfl) | (obtain ⟨_,_,_,_,_,_,_,hh,_⟩:=h; subst hh; rfl) | (obtain ⟨_,_,_,_,_,_,_,_,hh,_⟩:=h; subst hh; rfl) | (obtain ⟨_,_,_,_,_,_,_,_,_,hh,_⟩:=h; subst hh; rfl) | (obtain ⟨_,_,_,_,_,_,_,_,_,_,_,hh,_⟩:=h; subst hh; rfl) | (obtain ⟨_,_,_,_,_,_,_,_,_,_,_,_,hh,_⟩:=h; subst hh; rfl)))
theorem sc_12:oY N_12 pC' (oN s_12):=by walk_at "s"
theorem sc_16:oY N_16 ["numbers"] (oN s_16):=by walk_at "s"
theorem sc_v:oY N_v ["tops","under"] (oN aX):=by walk_at "s"
theorem sc_k:oY N_k pN' (oN aY):=by walk_at "s"
theorem sc_w:oY N_w pC' (oN aZ):=by walk_at "s"
theorem sc_17:oY N_17 pN' (oN s_17):=by walk_at "s"
theorem sc_u:oY N_u pC' (oN Dx):=by walk_at "s"
theorem sc_g:oY N_g ["size"] (oN Az):=by walk_at "s"
theorem sc_1p:oY N_1p pC' (oN s_1p):=by walk_at "s"
theorem sc_1b:oY N_1b pL' (oN s_1b):=by walk_at "s"
theorem sc_1l:oY N_1l pC' (oN s_1l):=by walk_at "s"
theorem sc_1a:oY N_1a pz' (oN s_1a):=by walk_at "s"
theorem sc_1:oY N_1 pL' (oN s_1):=by walk_at "s"
theorem sc_14:oY N_14 pz' (oN s_14):=by walk_at "s"
theorem sc_1d:oY N_1d pL' (oN s_1d):=by walk_at "s"
theorem sc_1i:oY N_1i pA' (oN s_1i):=by walk_at "s"
theorem sc_18:oY N_18 pD' (oN s_18):=by walk_at "s"
theorem sc_1m:oY N_1m pr' (oN s_1m):=by walk_at "s"
theorem sc_1n:oY N_1n ["d"] (oN s_1n):=by walk_at "s"
theorem sc_1r:oY N_1r pN' (oN s_1r):=by walk_at "s"
theorem sc_1g:oY N_1g ["one","spot"] (oN s_1g):=by walk_at "s"
theorem sc_1f:oY N_1f pC' (oN s_1f):=by walk_at "s"
theorem sc_1o:oY N_1o pN' (oN s_1o):=by walk_at "s"
theorem sc_1k:oY N_1k ["group","spot"] (oN s_1k):=by walk_at "s"
theorem sc_x:oY N_x ["group","spots"] (oN Dw):=by walk_at "s"
theorem sc_1e:oY N_1e py' (oN s_1e):=by walk_at "s"
theorem sc_9:oY N_9 pF' (oN s_9):=by walk_at "s"
theorem sc_1h:oY N_1h pN' (oN s_1h):=by walk_at "s"
theorem sc_1q:oY N_1q pN' (oN s_1q):=by walk_at "s"
theorem sc_1v:oY N_1v pB' (oN s_1v):=by walk_at "s"
theorem sc_10:oY N_10 pG' (oN s_10):=by walk_at "s"
theorem sc_q:oY N_q ["one","way"] (oN cF):=by walk_at "s"
theorem sc_o:oY N_o ["most"] (oN Dv):=by walk_at "s"
theorem sc_t:oY N_t ["d","makers"] (oN Du):=by walk_at "s"
theorem sc_1c:oY N_1c pv' (oN s_1c):=by walk_at "s"
theorem sc_0:oY N_0 ph' (oN s_0):=by walk_at "s"
theorem sc_e:oY N_e pM' (oN Ds):=by walk_at "s"
theorem sc_a:oY N_a pM' (oN Dr):=by walk_at "s"
theorem sc_2:oY N_2 pM' (oN s_2):=by walk_at "s"
theorem sc_r:oY N_r pH' (oN Dq):=by walk_at "s"
theorem sc_15:oY N_15 ["d","deeds"] (oN s_15):=by walk_at "s"
theorem sc_n:oY N_n pw' (oN Dp):=by walk_at "s"
theorem sc_1j:oY N_1j px' (oN s_1j):=by walk_at "s"
theorem sc_7:oY N_7 pt' (oN s_7):=by walk_at "s"
theorem sc_f:oY N_f po' (oN Do):=by walk_at "s"
theorem sc_y:oY N_y pI' (oN Dm):=by walk_at "s"
theorem sc_c:oY N_c pd' (oN Dl):=by walk_at "s"
theorem sc_s:oY N_s pi' (oN Dk):=by walk_at "s"
theorem sc_h:oY N_h pj' (oN Ay):=by walk_at "s"
theorem sc_m:oY N_m pJ' (oN cG):=by walk_at "s"
theorem sc_8:oY N_8 pm' (oN s_8):=by walk_at "s"
theorem sc_19:oY N_19 pn' (oN s_19):=by walk_at "s"
theorem sc_p:oY N_p pc' (oN Ax):=by walk_at "s"
theorem sc_13:oY N_13 pu' (oN s_13):=by walk_at "s"
theorem sc_3:oY N_3 pk' (oN s_3):=by walk_at "s"
theorem sc_5:oY N_5 pl' (oN s_5):=by walk_at "s"
theorem sc_4:oY N_4 pa' (oN s_4):=by walk_at "s"
theorem sc_l:oY N_l pE' (oN cH):=by walk_at "s"
theorem sc_j:oY N_j pf' (oN Dj):=by walk_at "s"
theorem sc_d:oY N_d pq' (oN Aw):=by walk_at "s"
theorem sc_z:oY N_z pK' (oN Av):=by walk_at "s"
theorem sc_6:oY N_6 pg' (oN s_6):=by walk_at "s"
theorem sc_i:oY N_i pb' (oN eG):=by walk_at "s"
theorem sc_11:oY N_11 pe' (oN s_11):=by walk_at "s"
theorem sc_1s:oY N_1s pE' (oN s_1s):=by walk_at "s"
set_option genInjectivity false in
structure Adr where
 (a_12 a_16 a_v a_k a_w a_17 a_u a_g a_1p a_1b a_1l a_1a a_1 a_14 a_1d a_1i a_18 a_1m a_1n a_1r a_1g a_1f a_1o a_1k a_x a_1e a_9 a_1h a_1q a_1v a_10 a_q a_o a_t a_1c a_0 a_e a_a a_2 a_r a_15 a_n a_1j a_7 a_f a_y a_c a_s a_h a_m a_8 a_19 a_p a_13 a_3 a_5 a_4 a_l a_j a_d a_z a_6 a_i a_11 a_1s:Addr)
 (d_12 d_16 d_v d_k d_w d_17 d_u d_g d_1p d_1b d_1l d_1a d_1 d_14 d_1d d_1i d_18 d_1m d_1n d_1r d_1g d_1f d_1o d_1k d_x d_1e d_9 d_1h d_1q d_1v d_10 d_q d_o d_t d_1c d_0 d_e d_a d_2 d_r d_15 d_n d_1j d_7 d_f d_y d_c d_s d_h d_m d_8 d_19 d_p d_13 d_3 d_5 d_4 d_l d_j d_d d_z d_6 d_i d_11 d_1s:FuncData)
 a_1w:Addr
 a_1t:Addr
 a_1u:Addr
 a_20:Addr
 a_1x:Addr
 a_b:Addr
 a_1z:Addr
 a_1y:Addr
 k_0:Tok
 k_7:Tok
structure Txt(K:Frag)(mg:MT)(t:Adr):Prop where
 F_12:FunT K mg "divisor" s_12 t.a_12 t.d_12 pC'
 F_16:FunT K mg "multiple" s_16 t.a_16 t.d_16 ["numbers"]
 F_v:FunT K mg "place" aX t.a_v t.d_v ["tops","under"]
 F_k:FunT K mg "rest_place" aY t.a_k t.d_k pN'
 F_w:FunT K mg "place_sum" aZ t.a_w t.d_w pC'
 F_17:FunT K mg "opposite" s_17 t.a_17 t.d_17 pN'
 F_u:FunT K mg "place_less" Dx t.a_u t.d_u pC'
 F_g:FunT K mg "still_rows" Az t.a_g t.d_g ["size"]
 F_1p:FunT K mg "dot" s_1p t.a_1p t.d_1p pC'
 F_1b:FunT K mg "turned" s_1b t.a_1b t.d_1b pL'
 F_1l:FunT K mg "times" s_1l t.a_1l t.d_1l pC'
 F_1a:FunT K mg "without" s_1a t.a_1a t.d_1a pz'
 F_1:FunT K mg "determinant" s_1 t.a_1 t.d_1 pL'
 F_14:FunT K mg "cofactor" s_14 t.a_14 t.d_14 pz'
 F_1d:FunT K mg "crossed" s_1d t.a_1d t.d_1d pL'
 F_1i:FunT K mg "scaled" s_1i t.a_1i t.d_1i pA'
 F_18:FunT K mg "joined" s_18 t.a_18 t.d_18 pD'
 F_1m:FunT K mg "deed" s_1m t.a_1m t.d_1m pr'
 F_1n:FunT K mg "still" s_1n t.a_1n t.d_1n ["d"]
 F_1r:FunT K mg "move" s_1r t.a_1r t.d_1r pN'
 F_1g:FunT K mg "moved" s_1g t.a_1g t.d_1g ["one","spot"]
 F_1f:FunT K mg "behind" s_1f t.a_1f t.d_1f pC'
 F_1o:FunT K mg "rest" s_1o t.a_1o t.d_1o pN'
 F_1k:FunT K mg "alike" s_1k t.a_1k t.d_1k ["group","spot"]
 F_x:FunT K mg "gathered" Dw t.a_x t.d_x ["group","spots"]
 F_1e:FunT K mg "change" s_1e t.a_1e t.d_1e py'
 F_9:FunT K mg "check_beside" s_9 t.a_9 t.d_9 pF'
 F_1h:FunT K mg "forth" s_1h t.a_1h t.d_1h pN'
 F_1q:FunT K mg "home" s_1q t.a_1q t.d_1q pN'
 F_1v:FunT K mg "led" s_1v t.a_1v t.d_1v pB'
 F_10:FunT K mg "new_place" s_10 t.a_10 t.d_10 pG'
 F_q:FunT K mg "new_deed" cF t.a_q t.d_q ["one","way"]
 F_o:FunT K mg "check_most" Dv t.a_o t.d_o ["most"]
 F_t:FunT K mg "check_axes" Du t.a_t t.d_t ["d","makers"]
 F_1c:FunT K mg "closed" s_1c t.a_1c t.d_1c pv'
 F_0:FunD K "__init__" "Group.__init__" s_0 t.a_0 t.d_0 [.int 200 t.k_0]
 bd_Group___init__:lI K t.d_0 ph' [.int 200 t.k_0]
 b_0:lI K t.d_0 ph' []
 F_e:Fun K "axes" "Group.axes" Ds t.a_e t.d_e
 b_e:lI K t.d_e pM' []
 F_a:Fun K "makers" "Group.makers" Dr t.a_a t.d_a
 b_a:lI K t.d_a pM' []
 F_2:Fun K "members" "Group.members" s_2 t.a_2 t.d_2
 b_2:lI K t.d_2 pM' []
 F_r:Fun K "at" "Group.at" Dq t.a_r t.d_r
 b_r:lI K t.d_r pH' []
 F_15:FunT K mg "group_of" s_15 t.a_15 t.d_15 ["d","deeds"]
 F_n:FunT K mg "check_moves" Dp t.a_n t.d_n pw'
 F_1j:FunT K mg "grown" s_1j t.a_1j t.d_1j px'
 F_7:FunD K "changed" "changed" s_7 t.a_7 t.d_7 [.int 200 t.k_7]
 bd_changed:lI K t.d_7 pt' [.int 200 t.k_7]
 m_7:mg "changed"=some (.ref t.a_7)
 b_7:lI K t.d_7 pt' []
 F_f:FunT K mg "_law_cell_at" Do t.a_f t.d_f po'
 F_y:FunT K mg "_law_whole" Dm t.a_y t.d_y pI'
 F_c:FunT K mg "_law_digits" Dl t.a_c t.d_c pd'
 F_s:FunT K mg "_law_shared" Dk t.a_s t.d_s pi'
 F_h:FunT K mg "_law_place" Ay t.a_h t.d_h pj'
 F_m:FunT K mg "_law_family" cG t.a_m t.d_m pJ'
 F_8:FunT K mg "_law_rows_times" s_8 t.a_8 t.d_8 pm'
 F_19:FunT K mg "_law_led" s_19 t.a_19 t.d_19 pn'
 F_p:FunT K mg "_law_maker" Ax t.a_p t.d_p pc'
 F_13:FunT K mg "_law_step" s_13 t.a_13 t.d_13 pu'
 F_3:FunT K mg "_law_rows_there" s_3 t.a_3 t.d_3 pk'
 F_5:FunT K mg "_law_tops_there" s_5 t.a_5 t.d_5 pl'
 F_4:FunT K mg "_law_deed_there" s_4 t.a_4 t.d_4 pa'
 F_l:FunT K mg "_law_frame" cH t.a_l t.d_l pE'
 F_j:FunT K mg "_law_makers" Dj t.a_j t.d_j pf'
 F_d:FunT K mg "_law_reached" Aw t.a_d t.d_d pq'
 F_z:FunT K mg "_law_rest" Av t.a_z t.d_z pK'
 F_6:FunT K mg "_law_asked_at" s_6 t.a_6 t.d_6 pg'
 F_i:FunT K mg "_law_spots" eG t.a_i t.d_i pb'
 F_11:FunT K mg "_law_due" s_11 t.a_11 t.d_11 pe'
 F_1s:FunT K mg "law" s_1s t.a_1s t.d_1s pE'
 z_any:mg "any"=none
 z_sum:mg "sum"=none
 z_zip:mg "zip"=none
 z_enumerate:mg "enumerate"=none
 z_range:mg "range"=none
 z_len:mg "len"=none
 z_abs:mg "abs"=none
 z_isinstance:mg "isinstance"=none
 z_int:mg "int"=none
 z_bool:mg "bool"=none
 z_list:mg "list"=none
 z_tuple:mg "tuple"=none
 z_sorted:mg "sorted"=none
 z_dict:mg "dict"=none
 m_1w:mg "CrystalError"=some (.ref t.a_1w)
 m_1t:mg "NoPlace"=some (.ref t.a_1t)
 m_1u:mg "NoDeed"=some (.ref t.a_1u)
 m_20:mg "TooMany"=some (.ref t.a_20)
 m_1x:mg "NoNumber"=some (.ref t.a_1x)
 m_b:mg "Group"=some (.ref t.a_b)
 m_1z:mg "NotKept"=some (.ref t.a_1z)
 m_1y:mg "NoChange"=some (.ref t.a_1y)
 g_MOST_MEMBERS:∃u,mg "MOST_MEMBERS"=some u/\RelV (.int 200) u
 h_d:kitOne K (.type "int") (.type "int")=some true
 h_e:kitOne K (.type "int") (.type "bool")=some false
 h_f:kitOne K (.type "tuple") (.type "tuple")=some true
 h_g:kitOne K (.type "list") (.type "list")=some true
 x_1t:PySem.W.excIn K t.a_1t [.type "ValueError",.type "Exception",.type "BaseException",.type "object"] "ValueError.__new__"=true
 x_1u:PySem.W.excIn K t.a_1u [.type "ValueError",.type "Exception",.type "BaseException",.type "object"] "ValueError.__new__"=true
 cl_b:L2.Cls K t.a_b
 mk_b:L2.Mk K t.a_b t.a_0
 me_2:L2.Meth K t.a_b "members" t.a_2
 h_3:findIn K (.ref t.a_b) "dimension"=some none
 h_c:findIn K (.ref t.a_b) "given"=some none
 h_6:findIn K (.ref t.a_b) "ordered"=some none
 h_4:findIn K (.ref t.a_b) "shortest"=some none
 h_7:findIn K (.ref t.a_b) "numbers"=some none
 me_e:L2.Meth K t.a_b "axes" t.a_e
 me_a:L2.Meth K t.a_b "makers" t.a_a
 me_r:L2.Meth K t.a_b "at" t.a_r
 bl:∀(s:Shared)(u:Value),BindsTo s t.d_1s ⟨[u],[]⟩ [("_law_script",u)]
local macro_rules | `(tactic| walk_at "r")=>`(tactic| simp only [tSeq,tAsg,oV,tVar,qVar,tC,tOp,Pc,Pb,t_P,tUn,fN,tB,tIfS,tIf,tAnd,tOr,tNot,Nr,tOrV,Nq,tRet,t_M,Fq,Fp,mJ,t_g,oW,tNil,tCB,tTup,tLst,tPar,Gh,tBM,tBM0,tSl,Bp,Bq,List.getElem?_cons_zero,List.getElem?_cons_succ,Option.some.injEq,exists_eq_left',exists_eq_left,List.set_cons_zero,List.set_cons_succ,List.cons.injEq,V.int.injEq,V.bl.injEq,V.ref.injEq,and_true,true_and,List.append_nil,ne_eq,exists_and_left,and_assoc,↓reduceIte,Bool.not_true,Bool.not_false,Bool.false_eq_true])
set_option hygiene false in
local macro_rules | `(tactic|apply $e:term)=>`(tactic|refine $e (by walk_at "v") (λcdv A outer s H vs Q E hr h=>?_))
set_option hygiene false in
local macro_rules | `(tactic|left)=>`(tactic|(subst e1;refine st λN1 e1=>?_;ext))
set_option hygiene false in
local macro_rules | `(tactic|right)=>`(tactic|(refine st λN1 e1=>?_;ext))
set_option hygiene false in
local macro_rules | `(tactic|symm)=>`(tactic|(subst e1;ext))
set_option hygiene false in
local macro_rules | `(tactic|exfalso)=>`(tactic|(refine nC λB eB=>?_;simp only[iSeq];ext))
noncomputable def gcdI(a b:Int):Int:=(Int.gcd a b:Int)
noncomputable def absI(u:Int):Int:=if u<0 then -u else u
def gl(u:Int)(ns:LI'):Int:=ns.foldl gcdI (absI u)
theorem Uy(u:Int):0<=absI u:=by unfold absI;split <;> omega
theorem Ux{d u:Int}:d∣absI u↔d∣u:=by
 unfold absI;split
 ·exact oA
 ·exact Iff.rfl
theorem Jq{d:Int}:∀(ns:LI')(c:Int),d∣ns.foldl gcdI c↔d∣c/\∀f∈ns,d∣f
 |[],c=>by simp
 | f:: r,c=>by
  rw[wQ,Jq r];unfold gcdI;rw[Int.dvd_coe_gcd_iff];constructor
  ·rintro⟨⟨g,a⟩,i⟩;refine⟨g,λx b=>?_⟩;rcases xE.mp b with e|e
   ·rw[e];exact a
   ·exact i x e
  ·rintro⟨g,a⟩;exact⟨⟨g,a f zV⟩,λx b=>a x (zM _ b)⟩
theorem gI{d u:Int}{ns:LI'}:d∣gl u ns↔d∣u/\∀t∈ns,d∣t:=by
 unfold gl;rw[Jq,Ux]
theorem Jp:∀(ns:LI')(c:Int),0<=c->0<=ns.foldl gcdI c
 |[],_,h=>h
 |t:: r,c,_=>Jp r _ (Int.natCast_nonneg _)
theorem eH(u:Int)(ns:LI'):0<=gl u ns:=Jp ns _ (Uy u)
theorem gl_u(u:Int)(ns:LI'):gl u ns∣u:=(gI.mp (uA _)).1
theorem cI{u t:Int}{ns:LI'}(h:t∈ns):gl u ns∣t:=(gI.mp (uA _)).2 t h
theorem Au{u:Int}(ns:LI')(h:u≠0):0<gl u ns:=by
 have:=eH u ns;rcases Int.lt_or_eq_of_le this with q|q
 ·exact q
 ·obtain⟨k,e⟩:=gl_u u ns;rw[←q,sD]at e;exact absurd e h
theorem Jo{u v:Int}{ns ms:LI'}(h:∀d:Int,(d∣u/\∀t∈ns,d∣t)↔(d∣v/\∀t∈ms,d∣t)):gl u ns=gl v ms:=
 Int.dvd_antisymm (eH _ _) (eH _ _) (gI.mpr ((h _).mp (gI.mp (uA _)))) (gI.mpr ((h _).mpr (gI.mp (uA _))))
theorem Uw(u:Int)(ns:LI')(t:Int):gl u (ns++[t])=gcdI (gl u ns) t:=by unfold gl;rw[uN];rfl
def cs(u:Int)(ns:LI'):Int:=if u<0 then -(gl u ns) else gl u ns
theorem eI{u:Int}(ns:LI')(h:u≠0):cs u ns≠0:=by
 have:=Au ns h;unfold cs;split <;> omega
theorem jO{u x:Int}{ns:LI'}(h:gl u ns∣x):cs u ns∣x:=by
 unfold cs;split
 ·exact Int.neg_dvd.mpr h
 ·exact h
theorem iF{c x:Int}(a:c≠0)(h:c∣x):x.fdiv c*c=x:=by
 obtain⟨k,e⟩:=h;subst e;rw[vN c k,Int.mul_fdiv_cancel _ a]
theorem At{u:Int}(ns:LI')(h:u≠0):0<u.fdiv (cs u ns):=by
 have e:=iF (eI ns h) (jO (gl_u u ns));have g:=Au ns h;rcases Int.lt_trichotomy (u.fdiv (cs u ns)) 0 with q|q|q
 ·refine False.elim ?_;unfold cs at e q;split at e
  ·rename_i a;rw[zJ a]at q;have:=Int.mul_nonneg_of_nonpos_of_nonpos (uC q) (show -(gl u ns)<=0 by omega);omega
  ·rename_i a;rw[zI a]at q;have:=Int.mul_neg_of_neg_of_pos q g;omega
 ·rw[q,sD]at e;exact absurd e.symm h
 ·exact q
theorem Di{u:Int}{ns:LI'}(h:u≠0):gl (u.fdiv (cs u ns)) (ns.map λa=>a.fdiv (cs u ns))=1:=by
 have c:=eI ns h;have e1:=iF c (jO (gl_u u ns));have n:=eH (u.fdiv (cs u ns)) (ns.map λa=>a.fdiv (cs u ns));have d:=gI.mp (uA (gl (u.fdiv (cs u ns)) (ns.map λa=>a.fdiv (cs u ns))));generalize gl (u.fdiv (cs u ns)) (ns.map λa=>a.fdiv (cs u ns))=g at*
 have b:g*cs u ns∣gl u ns:=by
  refine gI.mpr ⟨?_,λa f=>?_⟩
  ·have:=qZ d.1 (uA (cs u ns));rw[e1]at this;exact this
  ·have:=qZ (d.2 _ (pZ.mpr ⟨a,f,rfl⟩)) (uA (cs u ns));rw[iF c (jO (cI (u:=u) f))]at this;exact this
 have i:g*cs u ns∣1*cs u ns:=by
  rw[tM];unfold cs at b ⊢;split at b
  ·rename_i e;rw[zJ e];exact oA.mpr b
  ·rename_i e;rw[zI e];exact b
 have:g∣1:=Int.dvd_of_mul_dvd_mul_right c i;have:=Int.le_of_dvd ∅ this;rcases(show g=0\/g=1 by omega) with q|q
 ·subst q;have z:=d.1;rw[Int.zero_dvd]at z;rw[z,sD]at e1;exact absurd e1.symm h
 ·exact q
theorem Jn{u:Int}{ns:LI'}(h:0<u)(g:gl u ns=1):cs u ns=1:=by
 unfold cs;rw[zI ⋯,g]
theorem Uv{u:Int}{ns:LI'}(h:0<u)(g:gl u ns=1):(ns.map λt=>t.fdiv (cs u ns))=ns/\u.fdiv (cs u ns)=u:=by
 rw[Jn h g];refine⟨?_,sE u⟩;rw[show(λt:Int=>t.fdiv 1)=id from funext λt=>sE t,qF]
theorem Jm{d u t:Int}(h:d∣u):d∣t.fmod u↔d∣t:=by
 rw[Int.fmod_def];have q:d∣u*t.fdiv u:=Int.dvd_mul_of_dvd_left h;constructor
 ·intro z;have:=pQ z q
  rwa[Int.sub_add_cancel]at this
 ·intro z;exact pR z q
theorem Uu(u:Int)(ns:LI'):gl u (ns.map λa=>a.fmod u)=gl u ns:=by
 refine Jo λd=>?_;constructor
 ·rintro⟨b,c⟩;exact⟨b,λa f=>(Jm b).mp (c _ (pZ.mpr ⟨a,f,rfl⟩))⟩
 ·rintro⟨b,c⟩;refine⟨b,λx g=>?_⟩;obtain⟨a,f,e⟩:=pZ.mp g;subst e;exact(Jm b).mpr (c a f)
theorem Ut{u:Int}(b:0<u)(a:Int):(a.fmod u-a).fmod u=0:=by
 rw[xW a (uC b),xW _ (uC b)];exact Int.emod_eq_zero_of_dvd (by
  have:=Int.emod_add_mul_ediv a u;exact⟨-(a/u),by rw[Int.mul_neg];omega⟩)
theorem Jl(g l:Int):Int.gcd l (Int.fmod g l)=Int.gcd g l:=by
 rw[Int.fmod_def,Int.gcd_sub_mul_left_right,pM]
theorem Us(a b:Int):Int.gcd (if a<0 then -a else a) (if b<0 then -b else b)=Int.gcd a b:=by
 split <;> split <;> simp
theorem Jk(a:Int):0<=(if a<0 then -a else a):=by split <;> omega
theorem Ur{g l a b:Int}(h:Int.gcd g l=Int.gcd a b)(c:0<=g)(z:l=0):g=gcdI a b:=by
 rw[z,Int.gcd_zero_right]at h;unfold gcdI;rw[←h];omega
def Jj:Sp:=λvs H Q _=>∃a b,vs=[.int a,.int b]/\Q (.int (gcdI a b)) H
abbrev sp_12:Sp:=Jj
def nI(H:Hp)(p:Addr)(ns:LI')(u:Int):Prop:=∃q,H p=some (.tup [.ref q,.int u])/\H q=some (.tup (ns.map V.int))
theorem nI.up{H H':Hp}{p:Addr}{ns:LI'}{u:Int}(h:nI H p ns u)(s:Same H H'):nI H' p ns u:=let ⟨q,b,a⟩:=h;⟨q,s _ _ b,s _ _ a⟩
def kN(n:Int):Prop:=n.natAbs<2^8990
theorem Ji{c:Int}(h:kN c)(z:c≠0):c.natAbs.log2<9000:=zF ((sU ⋯).mpr h) ∅
theorem Jh{c u:Int}(h:kN u)(z:u≠0)(d:c∣u):kN c:=by
 have:=Int.natAbs_dvd_natAbs.mpr d;have:=Nat.le_of_dvd ⋯ this;unfold kN at*
 omega
def redT(u:Int)(ns:LI'):LI':=ns.map λt=>t.fdiv (cs u ns)
def redU(u:Int)(ns:LI'):Int:=u.fdiv (cs u ns)
noncomputable def nX(u:Int)(ns:LI'):LI':=ns.map λt=>t.fmod u
def sp_v(K:Frag)(C:Addr):Sp:=λvs H Q E=>E4 λ(b:Bool)(a:Addr)(ns:LI')(u:Int)=>A6 (vs=[.ref a,.int u]) (SqB b K H a (ns.map V.int)) (ns.length<=100) (kN u) (((u=0\/ns=[])->E (.ref C) none H)) ((u≠0->ns≠[]->∀p H',Same H H'->nI H' p (redT u ns) (redU u ns)->Q (.ref p) H'))
def sp_k(K:Frag):Sp:=λvs H Q _=>E3 λ(p:Addr)(ns:LI')(u:Int)=>A5 (vs=[.ref p]) (nI H p ns u) (ns.length<=100) (0<u) (∀p' H',Same H H'->nI H' p' (nX u ns) u->Q (.ref p') H')
theorem Jg{a:Type}{ns:List a}{i:Nat}{n:a}(h:ns[i]?=some n):ns.take (i+1)=ns.take i++[n]:=by
 rw[sL,h];rfl
def sp_1p(K:Frag):Sp:=λvs H Q _=>E6 λ(b1 b2:Bool)(p q:Addr)(ms ns:LI')=>A7 (vs=[.ref p,.ref q]) (SqB b1 K H p (ms.map V.int)) (SqB b2 K H q (ns.map V.int)) (ms.length=ns.length) (ms.length<=1000) ((∀(i:Nat) m n,ms[i]?=some m->ns[i]?=some n->IntMulOk m n)) (∀H',Same H H'->Q (.int (dotI ms ns)) H')
def sp_1b(K:Frag):Sp:=λvs H Q _=>E5 λ(b1 b2:Bool)(a:Addr)(rows:LM)(w:Nat)=>A7 (vs=[.ref a]) (MatB b1 b2 K H a rows) (rows≠[]) ((∀r∈rows,r.length=w)) (w<=1000) (rows.length<=1000) (∀r H',H r=none->Same H H'->MatL H' r (gD w rows)->Q (.ref r) H')
def Uq(A B:LM):Prop:=∀r∈A,∀x∈r,∀r'∈B,∀y∈r',IntMulOk x y
def sp_1l(K:Frag):Sp:=λvs H Q _=>E9 λ(b1 b2 b3 b4:Bool)(a b:Addr)(A B:LM)(w:Nat)=>A11 (vs=[.ref a,.ref b]) (MatB b1 b2 K H a A) (MatB b3 b4 K H b B) (B≠[]) ((∀r∈B,r.length=w)) ((∀r∈A,r.length=B.length)) (w<=1000) (A.length<=1000) (B.length<=1000) (Uq A B) (∀r H',H r=none->Same H H'->MatL H' r (mulM w A B)->Q (.ref r) H')
noncomputable def jP(i k:Nat)(rows:LM):LM:=(rows.eraseIdx i).map λr=>r.eraseIdx k
noncomputable def sg(k:Nat):Int:=if k%2=0 then 1 else -1
def altS(f:Nat->Int):Nat->Int
 |0=>0
 |k+1=>altS f k+sg k*f k
def detM:Nat->LM->Int
 |0,_=>1
 |1,rows=>(rows.getD 0 []).getD 0 0
 |n+2,rows=>altS (λk=>(rows.getD 0 []).getD k 0*detM (n+1) (jP 0 k rows)) (n+2)
def Sq(n:Nat)(rows:LM):Prop:=rows.length=n/\∀r∈rows,r.length=n
def mF(B:Nat)(rows:LM):Prop:=∀r∈rows,∀x∈r,x.natAbs<2^B
theorem Uo(k:Nat):-sg k=sg (k+1):=by
 unfold sg
 by_cases h:k%2=0
 ·rw[zJ h,zI ⋯]
 ·rw[zI h,zJ ⋯];rfl
theorem Jf(k:Nat):(sg k).natAbs=1:=by unfold sg;split <;> rfl
theorem Sq.minor{n i k:Nat}{a:LM}(h:Sq (n+1) a)(hi:i<n+1)(b:k<n+1):Sq n (jP i k a):=by
 refine⟨?_,λr hr=>?_⟩
 ·unfold jP;rw[zqe,rT,h.1,zJ hi];rfl
 ·obtain⟨z,c,rfl⟩:=pZ.mp hr;have hl:=h.2 z (tU c);rw[rT,hl,zJ b];rfl
theorem mF.minor{B i k:Nat}{a:LM}(h:mF B a):mF B (jP i k a):=λr hr x b=>by
 obtain⟨z,c,rfl⟩:=pZ.mp hr;exact h z (tU c) x (tU b)
theorem Je{f:Nat->Int}{M:Nat}:∀n:Nat,(∀k<n,(f k).natAbs<=M)->(altS f n).natAbs<=n*M
 |0,_=>by simp[altS]
 |n+1,h=>by
  have d:=Je n λk c=>h k ⋯;have b:=h n ⋯;show(altS f n+sg n*f n).natAbs<=_;have a:=uP (altS f n) (sg n*f n);rw[xC,Jf,pO]at a;rw[rY];omega
theorem row0{n:Nat}{a:LM}(h:Sq (n+1) a):a[0]?=some (a.getD 0 [])/\a.getD 0 []∈a:=by
 have hl:0<a.length:=by have:=h.1;omega
 have e:a.getD 0 []=a[0]:=by simp[hl]
 rw[e];exact⟨by simp[hl],xO hl⟩
theorem Jd{B:Nat}:∀(n:Nat)(a:LM),1<=n->n<=4->Sq n a->mF B a->(detM n a).natAbs<=2^(n*(B+2))
 |0,_,h,_,_,_=>⋯
 |1,a,_,_,b,c=>by
  have hr:=row0 b;have hl:0<(a.getD 0 []).length:=by rw[b.2 _ hr.2];decide
  have:=c _ hr.2 _ (L2.getD_mem hl);show((a.getD 0 []).getD 0 0).natAbs<=_;have:2^B<=2^(1*(B+2)):=zY ∅ ⋯;omega
 | n+2,a,_,j,b,c=>by
  have hr:=row0 b;have f:∀k<n+2,((a.getD 0 []).getD k 0*detM (n+1) (jP 0 k a)).natAbs<=2^B*2^((n+1)*(B+2)):=λk d=>by
   have hl:k<(a.getD 0 []).length:=by rw[b.2 _ hr.2];exact d
   have g:=c _ hr.2 _ (L2.getD_mem hl);have i:=Jd (n+1) (jP 0 k a) ⋯ ⋯ (b.minor ⋯ d) c.minor;rw[xC];exact wN (xX g) i
  have:=Je (n+2) f;have e:2^((n+2)*(B+2))=4*(2^B*2^((n+1)*(B+2))):=by
   rw[←vK,show(4:Nat)=2^2 from rfl,←vK];congr 1;rw[Nat.add_mul,Nat.add_mul];omega
  show(altS _ (n+2)).natAbs<=_;rw[e];refine yA this (wD _ ⋯)
theorem nH{x:Int}{B:Nat}(h:x.natAbs<2^B):Builtin.Int.intBits x<=B:=intBits_le_iff.mpr h
def sp_1a(K:Frag):Sp:=λvs H Q _=>E7 λ(b1 b2:Bool)(a:Addr)(rows:LM)(i k w:Nat)=>A7 (vs=[.ref a,.int i,.int k]) (MatB b1 b2 K H a rows) ((∀r∈rows,r.length=w)) (k<w) (w<=1000) (rows.length<=1000) (∀r H',H r=none->Same H H'->MatL H' r (jP i k rows)->Q (.ref r) H')
def sp_1(K:Frag):Nat->Sp
 |0=>λ_ _ _ _=>False
 |n+1=>λvs H Q _=>∃(b1 b2:Bool)(a:Addr)(rows:LM)(B:Nat),vs=[.ref a]/\MatB b1 b2 K H a rows/\Sq (n+1) rows/\n<=3/\mF B rows/\B<=1000000/\∀H',Same H H'->Q (.int (detM (n+1) rows)) H'
section
variable {g:TG} {tt:TOx} {fr:List (Str×Nat)} {σ:St} {a:Addr} {H:Hp} {Q:VK} {K:Frag}
theorem Um{b:Bool}{l:Addr}{xs:List V}(P:Nat->List V->Hp->Prop)(w:H a=none)(f:SqB b K H l xs)(n:xs.length<=1000)(I:P 0 [] (upd H a (.lst [])))
  (hl:∀i zs c,P i zs c->zs.length<=i)(mono:∀i zs c d,P i zs c->kS a c d->P i zs d)
  (t:∀i x c zs,xs[i]?=some x->Same H c->c a=some (.lst zs)->P i zs c->∀C:Option V->Hp->Prop,
   (∀y d,Same c d->P (i+1) (zs++[y]) d->C (some y) d)->(∀d,Same c d->P (i+1) zs d->C none d)->tt (some (.int i):: some x:: lK fr σ) c C)
  (J:∀c ys,Same H c->c a=some (.lst ys)->P xs.length ys c->Q (.ref a) c):
  kA (Ite K b l) (gTup K 2 (nR (oV 0) (nR (oV 1) gNil))) tt 2 fr σ a H Q:=by
 refine bY xs.length P w n I hl mono (λi c hi s=>⟨xs,xs[i],f.up s,by simp[hi]⟩) (λc s=>⟨xs,f.up s,rfl⟩) ?_ J;intro i c zs hi j z p D x M u F C G v;obtain⟨q,x,rfl,k,rfl,m⟩:=F;refine⟨q,[.int i,x],rfl,SqT.of oQ,rfl,_,[x],rfl,x,[],rfl,rfl,?_⟩;have sn:Same c (upd c q (.tup [.int i,x])):=Same.new k
 match D,u with
 |[o,L],_ =>
  exact⟨⟨[some (.int i),some x],rfl,rfl⟩,t i x _ zs (m xs (f.up j)) (j.trans sn) (sn _ _ z) (mono _ _ _ _ p sn.x) C (λy d e r=>G y d (sn.trans e) r) λd e r=>v d (sn.trans e) r⟩
end
theorem SqB.cut{b:Bool}{K:Frag}{H:Hp}{p:Addr}{xs:List V}:SqB b K (upd H p (seqO b xs)) p xs:=by
 cases b
 ·exact SqB.lst oQ
 ·exact SqB.tup oQ
theorem Ul{d:Type}{b:List d}{c a:Nat}{r:d}(e:b[a]?=some r):(b.take (a+1)).eraseIdx c=if a=c then(b.take a).eraseIdx c else(b.take a).eraseIdx c++[r]:=by
 have g:a<b.length:=(zqa e).1;have hl:(b.take a).length=a:=by rw[xF];omega
 rw[sL,e];show(b.take a++[r]).eraseIdx c=_
 by_cases h:a=c
 ·rw[zJ h,vX ⋯,hl,h,uW,tK (l:=b.take c) (by rw[xF];omega)];simp
 ·rw[zI h]
  by_cases f:c<a
  ·rw[List.eraseIdx_append_of_lt_length ⋯]
  ·rw[vX ⋯,hl,tK (l:=b.take a) ⋯];congr 1;rw[tK];simp;omega
theorem Jc{B C:Nat}:∀(ms ns:LI'),(∀x∈ms,x.natAbs<2^B)->(∀y∈ns,y.natAbs<2^C)->(dotI ms ns).natAbs<=ms.length*2^(B+C)
 |[],ns,_,_=>by simp[dotI]
 |m:: ms,[],_,_=>by simp[dotI]
 | m:: ms,n:: ns,b,a=>by
  have k:=Jc ms ns (λx d=>b x (zM _ d)) (λy f=>a y (zM _ f));have e:dotI (m:: ms) (n:: ns)=m*n+dotI ms ns:=by simp[dotI]
  have c:=b m zV;have g:=a n zV;have j:(m*n).natAbs<=2^(B+C):=by
   rw[xC,vK];exact wN (xX c) (xX g)
  have i:=uP (m*n) (dotI ms ns);rw[e,yE,rY];omega
noncomputable def idM(d:Nat):LM:=(List.range d).map λi=>(List.range d).map λk=>if i=k then(1:Int) else 0
def sp_g:Sp:=λvs H Q _=>E1 λ(n:Nat)=>A3 (vs=[.int n]) (n<=1000) (∀r H',H r=none->Same H H'->MatL H' r (idM n)->Q (.ref r) H')
def lA(K:Frag)(H:Hp)(p:Addr)(M:LM)(ts:LI')(u:Int):Prop:=∃pr pt,H p=some (.tup [.ref pr,.ref pt,.int u])/\MatB true true K H pr M/\H pt=some (.tup (ts.map V.int))
theorem lA.up{K:Frag}{H H':Hp}{p:Addr}{M:LM}{ts:LI'}{u:Int}(h:lA K H p M ts u)(s:Same H H'):lA K H' p M ts u:=let ⟨c,pt,d,a,b⟩:=h;⟨c,pt,s _ _ d,a.up s,s _ _ b⟩
def sp_18(K:Frag):Sp:=λvs H Q _=>E7 λ(b1 b2:Bool)(a p:Addr)(M:LM)(ts:LI')(u:Int)=>A5 (vs=[.ref a,.ref p]) (MatB b1 b2 K H a M) (nI H p ts u) (M.length<=100) (∀q H',Same H H'->lA K H' q M ts u->Q (.ref q) H')
def PlS(K:Frag)(H:Hp)(p:Addr)(ns:LI')(u:Int):Prop:=∃q,SqT K H p [.ref q,.int u]/\SqT K H q (ns.map V.int)
theorem nI.s{K:Frag}{H:Hp}{p:Addr}{ns:LI'}{u:Int}(h:nI H p ns u):PlS K H p ns u:=let ⟨q,b,a⟩:=h;⟨q,SqT.of b,SqT.of a⟩
theorem PlS.up{K:Frag}{H H':Hp}{p:Addr}{ns:LI'}{u:Int}(h:PlS K H p ns u)(s:Same H H'):PlS K H' p ns u:=let ⟨q,b,a⟩:=h;⟨q,mH s _ _ b,mH s _ _ a⟩
theorem As{K:Frag}{H:Hp}{p:Addr}{ns:LI'}{u:Int}{Q:VK}(h:PlS K H p ns u)(k:∀q,SqT K H q (ns.map V.int)->Q (.ref q) H):rIxB K (.ref p) (.int 0) H Q:=let ⟨q,b,a⟩:=h;⟨true,p,_,_,_,rfl,rfl,(b:SqB true K H p _),rfl,k q a⟩
theorem eJ{K:Frag}{H:Hp}{p:Addr}{ns:LI'}{u:Int}{Q:VK}(h:PlS K H p ns u)(k:Q (.int u) H):rIxB K (.ref p) (.int 1) H Q:=let ⟨q,a,b⟩:=h;⟨true,p,_,_,_,rfl,rfl,(a:SqB true K H p _),rfl,k⟩
def jE(K:Frag)(H:Hp)(p:Addr)(M:LM)(ts:LI')(u:Int):Prop:=∃v0 v1,SqT K H p [.ref v0,.ref v1,.int u]/\MatB true true K H v0 M/\SqT K H v1 (ts.map V.int)
theorem jE.up{K:Frag}{H H':Hp}{p:Addr}{M:LM}{ts:LI'}{u:Int}(h:jE K H p M ts u)(s:Same H H'):jE K H' p M ts u:=let ⟨a,e,c,d,b⟩:=h;⟨a,e,mH s _ _ c,d.up s,mH s _ _ b⟩
theorem lA.s{K:Frag}{H:Hp}{p:Addr}{M:LM}{ts:LI'}{u:Int}(h:lA K H p M ts u):jE K H p M ts u:=let ⟨a,e,c,d,b⟩:=h;⟨a,e,SqT.of c,d,SqT.of b⟩
theorem cJ{K:Frag}{H:Hp}{p:Addr}{M:LM}{ts:LI'}{u:Int}{Q:VK}(h:jE K H p M ts u)(q:∀x,MatB true true K H x M->Q (.ref x) H):rIxB K (.ref p) (.int 0) H Q:=let ⟨x,y,b,a,c⟩:=h;⟨true,p,_,_,_,rfl,rfl,(b:SqB true K H p _),rfl,q x a⟩
theorem Jb{K:Frag}{H:Hp}{p:Addr}{M:LM}{ts:LI'}{u:Int}{Q:VK}(h:jE K H p M ts u)(q:∀x,SqT K H x (ts.map V.int)->Q (.ref x) H):rIxB K (.ref p) (.int 1) H Q:=let ⟨x,y,b,c,a⟩:=h;⟨true,p,_,_,_,rfl,rfl,(b:SqB true K H p _),rfl,q y a⟩
theorem Dh{K:Frag}{H:Hp}{p:Addr}{M:LM}{ts:LI'}{u:Int}{Q:VK}(h:jE K H p M ts u)(q:Q (.int u) H):rIxB K (.ref p) (.int 2) H Q:=let ⟨x,y,a,b,c⟩:=h;⟨true,p,_,_,_,rfl,rfl,(a:SqB true K H p _),rfl,q⟩
def movT(M:LM)(ts:LI')(u:Int)(ns:LI')(v:Int):LI':=List.zipWith (λr t=>dotI r ns*u+t*v) M ts
def nY(B:Nat)(ns:LI'):Prop:=∀x∈ns,x.natAbs<2^B
structure Fine(d:Nat)(M:LM)(ts:LI')(u:Int):Prop where
 sq:Sq d M
 len:ts.length=d
 pos:0<u
 bm:mF 200000 M
 bt:nY 200000 ts
 bu:u<2^1500
def sp_1g(K:Frag):Sp:=λvs H Q _=>E8 λ(p q:Addr)(M:LM)(ts ns:LI')(u v:Int)(d:Nat)=>A11 (vs=[.ref p,.ref q]) (jE K H p M ts u) (PlS K H q ns v) (Fine d M ts u) (1<=d) (d<=4) (ns.length=d) (nY 200000 ns) (0<v) (v<2^1500) (∀r H',Same H H'->nI H' r (redT (u*v) (movT M ts u ns v)) (redU (u*v) (movT M ts u ns v))->Q (.ref r) H')
def sp_1f(K:Frag):Sp:=λvs H Q _=>E9 λ(p q:Addr)(M N:LM)(ts ns:LI')(u v:Int)(d:Nat)=>A8 (vs=[.ref p,.ref q]) (jE K H p M ts u) (jE K H q N ns v) (Fine d M ts u) (Fine d N ns v) (1<=d) (d<=4) (∀r H',Same H H'->lA K H' r (mulM d N M) (redT (v*u) (movT N ns v ts u)) (redU (v*u) (movT N ns v ts u))->Q (.ref r) H')
def sp_1o(K:Frag):Sp:=λvs H Q _=>E4 λ(p:Addr)(M:LM)(ts:LI')(u:Int)=>A6 (vs=[.ref p]) (lA K H p M ts u) (M.length<=100) (ts.length<=100) (0<u) (∀r H',Same H H'->lA K H' r M (nX u ts) u->Q (.ref r) H')
theorem eK{u:Int}(b:0<u)(a:u<2^1500):u.natAbs<2^1500:=by
 have e:((2^1500:Nat):Int)=(2:Int)^1500:=nofun
 omega
theorem jF{u:Int}{B:Nat}(h:u.natAbs<2^B)(a:B<=8990):kN u:=zF h (zY ∅ a)
theorem Uk{u v:Int}(a:0<u)(d:u<2^1500)(b:0<v)(c:v<2^1500):kN (u*v)/\0<u*v:=by
 refine⟨jF (B:=1500+1500) ?_ ∅,yZ a b⟩;rw[xC,vK];exact rC (eK a d) (eK b c)
theorem mF.le{B C:Nat}{M:LM}(h:mF B M)(b:B<=C):mF C M:=λr hr x a=>zF (h r hr x a) (zY ∅ b)
section
variable {P:Program} {w:World} {K:Frag} {mg:MT} {base:Heap} {t:Adr}
theorem Dg{ns:LI'}{k:Int}(a:0<=k)(b:k<ns.length):atI (ns.map V.int) k=some (.int (ns.getD k.toNat 0)):=by
 obtain⟨j,rfl⟩:=xQ a;exact mZ (kB (getD_at ⋯)) rfl
def sp_f(K:Frag):Sp:=λvs H Q _=>E3 λ(p:Addr)(ns:LI')(k:Int)=>A4 (vs=[.ref p,.int k]) (SqL K H p (ns.map V.int)) (0<=k) (Q (.int (ns.getD k.toNat 0)) H)
def sp_y:Sp:=λvs H Q _=>∃i,vs=[.int i]/\Q (.bl true) H
theorem ok_f(T:Txt K mg t):FnOk P w K mg base CX0 1 t.a_f t.d_f po' (sp_f K):=by
 apply T.F_f.ok sc_f
 ·obtain⟨p,ns,k,rfl,a,b,q⟩:=h;refine⟨_,(oM (nV (nN bJ (pq 1) (nU T.z_len (pq 0)) (nM _))
   (oO (nB (mC ix_B (pq 0) (pq 1) (λ_ _=>rfl))))
   mB)
   (oO (nB oR))),?_⟩
  show tSeq _ _ _ [some (.ref p),some (.int k)] H;ext;refine lO (b:=false) a ?_;ext
  by_cases z:k<ns.length
  ·rw[zL z];exact iteT ⟨false,p,_,_,_,rfl,rfl,a,Dg b z,q⟩
  ·rw[zP z];refine iteF ?_;have e:ns.getD k.toNat 0=0:=by
    rw[zqc,wG ⋯];rfl
   rw[e]at q;exact q
theorem ok_y(T:Txt K mg t):FnOk P w K mg base CX0 1 t.a_y t.d_y pI' sp_y:=by
 apply T.F_y.ok sc_y
 ·obtain⟨i,rfl,q⟩:=h;refine⟨_,(oO (nB (No (lJ bU rfl T.z_isinstance (nofun) (oJ (pq 0) (oJ (bG (v:=.ty "int") rfl T.z_int (nofun) rfl) oK))) (Np (Nn (lJ bU rfl T.z_isinstance (nofun) (oJ (pq 0) (oJ (bG (v:=.ty "bool") rfl T.z_bool (nofun) rfl) oK)))))))),?_⟩;show tRet _ _ [some (.int i)] H;ext;refine⟨_,_,_,_,rfl,.ty (.int i),rfl,T.h_d,?_⟩;ext;refine⟨_,_,_,_,rfl,.ty (.int i),rfl,T.h_e,?_⟩;ext;exact q
theorem Uj{a b:Int}{H:Hp}{Q:VK}{E:XK}:Jj [.int a,.int b] H Q E=Q (.int (gcdI a b)) H:=propext ⟨λ⟨_,_,e,q⟩=>by cases e;exact q,λq=>⟨_,_,rfl,q⟩⟩
theorem ok_12(T:Txt K mg t):FnOk P w K mg base CX0 1 t.a_12 t.d_12 pC' sp_12:=by
 apply T.F_12.ok sc_12
 ·obtain⟨a,b,rfl,k⟩:=h;refine⟨_,(oM (oX (i:=2) sc_12.nd rfl (Or.inl rfl) (lJ fO rfl T.z_abs (nofun) (oJ (pq 0) oK)))
   (oM (oX (i:=3) sc_12.nd rfl (Or.inl rfl) (lJ fO rfl T.z_abs (nofun) (oJ (pq 1) oK)))
   (oM (Bx yF (nN jM (pq 3) oR (nM _))
   (oM (oX (i:=4) sc_12.nd rfl (Or.inl rfl) (oP mL (pq 2) (pq 3)))
   (oM (oX (i:=2) sc_12.nd rfl (Or.inl rfl) (pq 3))
   (oO (oX (i:=3) sc_12.nd rfl (Or.inl rfl) (pq 4))))))
   (oO (nB (pq 2)))))),?_⟩
  show tSeq _ _ _ [some (.int a),some (.int b),none,none,none] H;ext;refine⟨λm σ c=>∃g l r,σ=[some (.int a),some (.int b),some (.int g),some (.int l),r]/\c=H/\0<=g/\0<=l/\Int.gcd g l=Int.gcd a b/\m=l.toNat,
   ⟨_,_,_,_,rfl,rfl,Jk a,Jk b,Us a b,rfl⟩,?_⟩
  rintro m σ c ⟨g,l,r,rfl,rfl,f,hl,e,rfl⟩;ext
  by_cases z:l=0
  ·rw[zL z];refine iteF ?_;rw[Ur e f z];exact k
  ·rw[zP z];refine iteT ⟨λd H'=>d=[some (.int a),some (.int b),some (.int l),some (.int (g.fmod l)),some (.int (g.fmod l))]/\H'=c,?_,z,rfl,rfl⟩;rintro d H' ⟨rfl,rfl⟩;have l1:=tY g (show 0<l by omega);have l2:=uK g (show 0<l by omega);exact⟨(g.fmod l).toNat,⋯,_,_,_,rfl,rfl,hl,l2,by rw[Jl];exact e,rfl⟩
theorem ok_v(T:Txt K mg t):FnOk P w K mg base (CX1 P w) 2 t.a_v t.d_v ["tops","under"] (sp_v K t.a_1t):=by
 have D:=@ok_12 P w K mg base t T;refine T.F_v.okX sc_v (λvs H Q E h=>?_) (λcdv A outer s H vs Q E hr h=>?_)
 ·obtain⟨b,a,ns,u,rfl,_⟩:=h;rfl
 ·obtain⟨b,a,ns,u,rfl,c,hl,I,v,R⟩:=h;refine⟨_,(oM (nV (nN lZ (pq 1) oR (nM _))
   (oO (fR rfl fQ rfl T.m_1t T.x_1t wE (oJ fJ oK)))
   mB)
   (oM (nV (nN lZ (nU T.z_len (pq 0)) oR (nM _))
   (oO (fR rfl fQ rfl T.m_1t T.x_1t wE (oJ fJ oK)))
   mB)
   (oM (oX (i:=2) sc_v.nd rfl (Or.inr rfl) (lJ fO rfl T.z_abs (nofun) (oJ (pq 1) oK)))
   (oM (PS.nox (lC yF rfl (nE (pq 0)) (nL (i:=3) sc_v.nd rfl (Or.inl rfl))
   (oO (oX (i:=2) sc_v.nd rfl (Or.inr rfl) (oS D hr.mo T.F_12 (oJ (pq 2) (oJ (pq 3) oK)))))))
   (oM (nV (nN bJ (pq 1) oR (nM _))
   (oO (oX (i:=2) sc_v.nd rfl (Or.inr rfl) (iV iW (pq 2))))
   mB)
   (oO (nB (mO (oJ (mP kJ rfl T.z_tuple (nofun) (oJ (nP (sc:=oN aX) (N:=N_v) (fr:=[("common",2)]) (te:=(tOp (rI kE λi j=>.int (i.fdiv j)) (tVar 0) (tVar 1))) rfl rfl (nofun) rfl (nofun) (nE (pq 0)) (λ_ _ _ a1=>(oP lD (pv 0) (pv 1)))) oK)) (oJ (oP lD (pq 1) (pq 2)) oK)))))))))),?_⟩
  show tSeq _ _ _ [some (.ref a),some (.int u),none,none] H;refine st λN1 e1=>?_;simp only[iL];ext;refine ite2 (λz=>⟨∅,v (.inl (yP z))⟩) (λz=>?_);have g:u≠0:=λq=>z (zL q);subst e1;refine st λN1 e1=>?_;simp only[iL];ext;refine lO c ?_;ext;refine ite2 (λz=>⟨∅,v (.inr ?_)⟩) (λz=>?_)
  ·have:=yP z;exact List.eq_nil_of_length_eq_zero ⋯
  have Y:ns≠[]:=λq=>z (zL (by rw[q];rfl));left;subst e1;refine st λN1 e1=>lF λB eB=>?_;simp only[iSeq];ext;refine⟨b,⟨_,c⟩,?_⟩;refine kX (g:=oV 3) (tb:=B) (λi σ d=>∃v3,σ=[some (.ref a),some (.int u),some (.int (gl u (ns.take i))),v3]/\d=H) ⟨_,rfl,rfl⟩ (λi σ d _⟨_,_,e⟩=>e ▸ c) ?_ ?_
  ·rintro i x σ d hi ⟨v3,rfl,rfl⟩;obtain⟨n,k,rfl⟩:=mS hi;subst eB;ext;simp only[Uj];rw[Jg k,Uw]
   first|trivial|exact⟨_,rfl,rfl⟩
  ·rintro σ d ⟨v3,rfl,rfl⟩;rw[zqe,tE];subst e1;refine st λO M=>?_;have f:O [some (.ref a),some (.int u),some (.int (cs u ns)),v3] d:=by
    subst M;have S:kN (cs u ns):=Jh I g (jO (gl_u u ns));have C:∀x,kE x (cs u ns):=λx=>⟨eI ns g,Ji S (eI ns g)⟩;ext;exfalso;refine⟨b,⟨_,c⟩,λW N=>nQ (λj y _=>∃n,ns[j]?=some n/\y=.int (n.fdiv (cs u ns))) N c (by rw[zqe];omega) (λ_ _ _ _ r _=>r) ?_ ?_⟩
    ·intro i x m zs G _ _ Z X;obtain⟨n,k,rfl⟩:=mS G;subst eB;show tOp _ _ _ [some (.int n),some (.int (cs u ns))] m Z;ext;exact⟨C n,X _ m (Same.refl _) ⟨n,k,rfl⟩⟩
    ·intro m ys F e1 U L;have a0:ys=(redT u ns).map V.int:=by
      unfold redT;rw[xI];exact nW (by simpa using U) L
     subst a0;refine⟨W,_,rfl,.inl ⟨SqL.of e1,λl J=>?_⟩⟩;ext;refine⟨C u,(by show 2<=sizeLine;decide),λp o=>R g Y p _ ((F.trans (Same.new J)).trans (Same.new o)) ⟨l,oQ,?_⟩⟩;rw[oU (mI oQ o)];exact oQ
   ext;unfold cs at f;refine ite2 (λz=>?_) (λz=>?_)
   ·rw[zJ (yP z)]at f;exact f
   ·rw[zI (λq=>z (zL q))]at f;exact f
theorem kZ{H:Hp}{p:Addr}{ns:LI'}{u:Int}{Q:VK}(h:nI H p ns u)(q:∀x,H x=some (.tup (ns.map V.int))->Q (.ref x) H):rIxB K (.ref p) (.int 0) H Q:=let ⟨x,b,a⟩:=h;⟨true,p,_,_,_,rfl,rfl,SqB.tup b,rfl,q x a⟩
theorem jQ{H:Hp}{p:Addr}{ns:LI'}{u:Int}{Q:VK}(h:nI H p ns u)(q:Q (.int u) H):rIxB K (.ref p) (.int 1) H Q:=let ⟨x,a,b⟩:=h;⟨true,p,_,_,_,rfl,rfl,SqB.tup a,rfl,q⟩
theorem ok_k(T:Txt K mg t):FnOk P w K mg base CX0 1 t.a_k t.d_k pN' (sp_k K):=by
 apply T.F_k.ok sc_k
 ·obtain⟨p,ns,u,rfl,d,hl,I,q⟩:=h;refine⟨_,(oM (oX (i:=1) sc_k.nd rfl (Or.inr rfl) (oT (pq 0)))
   (oO (nB (mO (oJ (mP kJ rfl T.z_tuple (nofun) (oJ (nP (sc:=oN aY) (N:=N_k) (fr:=[("under",1)]) (te:=(tOp (rI (λ_ j=>j≠0) λi j=>.int (i.fmod j)) (tVar 0) (tVar 1))) rfl rfl (nofun) rfl (nofun) (nE (oT (pq 0))) (λ_ _ _ G=>(oP mL (pv 0) (pv 1)))) oK)) (oJ (pq 1) oK)))))),?_⟩
  show tSeq _ _ _ [some (.ref p),none] H;right;refine jQ d ?_;symm;exfalso;refine kZ d λx a=>⟨true,x,rfl,⟨_,SqB.tup a⟩,λF k=>nQ (λj y _=>∃n,ns[j]?=some n/\y=.int (n.fmod u)) k (SqB.tup a) (by rw[zqe];omega) (λ_ _ _ _ r _=>r) ?_ ?_⟩
  ·intro i x b zs a _ _ m g;obtain⟨n,z,rfl⟩:=mS a;subst eB;show tOp _ _ _ [some (.int n),some (.int u)] b m;ext;exact⟨⋯,g _ b (Same.refl _) ⟨n,z,rfl⟩⟩
  ·intro b ys f e1 C e;have D:ys=(nX u ns).map V.int:=by
    unfold nX;rw[xI];exact nW (by simpa using C) e
   subst D;refine⟨F,_,rfl,.inl ⟨SqL.of e1,λl o=>?_⟩⟩;refine⟨(by show 2<=sizeLine;decide),λv c=>q v _ ((f.trans (Same.new o)).trans (Same.new c)) ⟨l,oQ,?_⟩⟩;rw[oU (mI oQ c)];exact oQ
theorem ok_1p(T:Txt K mg t):FnOk P w K mg base CX0 1 t.a_1p t.d_1p pC' (sp_1p K):=by
 apply T.F_1p.ok sc_1p
 ·obtain⟨b1,b2,p,q,ms,ns,rfl,u,o,hl,L,v,D⟩:=h;refine⟨_,(oO (nB (lJ (Bf rfl) rfl T.z_sum (nofun) (oJ (kQ (xs:=["left","right"]) (fr:=[]) (g:=(gTup K 2 (nR (oV 0) (nR (oV 1) gNil)))) (tt:=(tEl (tOp (rI (λi j=>IntMulOk i j) λi j=>.int (i*j)) (tVar 0) (tVar 1)))) (lL (sc:=oN s_1p) (N:=N_1p) rfl rfl (nofun)) rfl (Bg rfl T.z_zip (oJ (pq 0) (oJ (pq 1) oK))) (λ_ _ _ d=>(lR rfl (nO (kR (N:=["left","right"]) (i:=0) d rfl (nofun)) (nO (kR (N:=["left","right"]) (i:=1) d rfl (nofun)) lQ)))) (λ_ _ _ d=>(lU (oP nT (pv 0) (pv 1))))) oK)))),?_⟩;show tRet _ _ [some (.ref p),some (.ref q)] H;ext;refine nC λB eB=>?_;simp only[iZip];ext;refine⟨b1,⟨_,u⟩,b2,⟨_,o⟩,λa F=>?_⟩;refine Be (λj y _=>∃m n,ms[j]?=some m/\ns[j]?=some n/\y=.int (m*n)) F u o (by simpa using hl) (by simpa using L) (λ_ _ _ _ r _=>r) ?_ ?_
  ·intro i x y g zs J f k l C z;obtain⟨m,b,rfl⟩:=mS J;obtain⟨n,c,rfl⟩:=mS f;subst eB;show tOp _ _ _ [some (.int m),some (.int n)] g C;ext;exact⟨v i m n b c,z _ _ (Same.refl _) ⟨m,n,b,c,rfl⟩⟩
  ·intro g zs k l G I;have f:zs=(List.zipWith (·*·) ms ns).map V.int:=by
    refine nW (by simp at G ⊢;omega) λj y e=>?_;obtain⟨m,n,b,c,rfl⟩:=I j y e;exact⟨m*n,by rw[yW,b,c],rfl⟩
   subst f;exact⟨_,rfl,_,SqL.of l,D g k⟩
theorem ok_1b(T:Txt K mg t):FnOk P w K mg base CX0 1 t.a_1b t.d_1b pL' (sp_1b K):=by
 apply T.F_1b.ok sc_1b
 ·obtain⟨b1,b2,a,b,w,rfl,D,a1,o,S,a7,N⟩:=h;refine⟨_,(oO (nB (kQ (xs:=["k"]) (fr:=[("rows",0)]) (g:=(oV 0)) (tt:=(tEl (mE (iSeq K (tVar 1)) (oV 0) (tEl (tOp (rIxB K) (tVar 0) (tVar 1))) 1 [("k",0)]))) (lL (sc:=oN s_1b) (N:=N_1b) rfl rfl (nofun)) rfl (mU rfl T.z_range (oJ (nU T.z_len (oT (pq 0))) oK)) (λ_ _ _ l=>(jC (N:=["k","rows"]) (i:=0) l rfl (nofun) rfl)) (λ_ _ _ l=>(lU (nP (N:=["k","rows"]) (fr:=[("k",0)]) (te:=(tOp (rIxB K) (tVar 0) (tVar 1))) l rfl (nofun) rfl (nofun) (nE (pv 1)) (λ_ _ _ a5=>(mC ix_B (pv 0) (pv 1) (λ_ _=>rfl))))))))),?_⟩;show tRet _ _ [some (.ref a)] H;ext;refine nC λB eB=>?_;simp only[mD];ext;obtain⟨d,C⟩:∃d,b[0]?=some d:=by cases b with|nil=>exact absurd rfl a1|cons r _=>exact⟨r,rfl⟩
  have I:d.length=w:=o d (zqb C);obtain⟨ps,p,k1,k2,k3,W⟩:=D.row C;refine⟨b1,a,_,0,_,rfl,rfl,k1,mZ k2 rfl,b2,p,_,rfl,W,?_⟩;rw[zqe,I];refine⟨_,rfl,⋯,⋯,λm q=>?_⟩;rw[zR];refine lG (RowR m λk=>colI k b) q S (RowR.mono (a:=m)) ?_ ?_
  ·intro i n zs hi f Z a2 Y;subst eB;show mE _ _ _ _ _ [some (.int (0+(i:Int))),some (.ref a)] n a2;exfalso;obtain⟨xs,u,a6,a0⟩:=(D.up f).walk;refine⟨b1,⟨_,u⟩,λG F=>?_⟩;refine nQ (λj y _=>∃r,b[j]?=some r/\y=.int (r.getD i 0)) F u ⋯ (λ_ _ _ _ r _=>r) ?_ ?_
   ·intro j x z a9 R g a8 O X;obtain⟨p,r,rfl,c,J⟩:=a0 j x R;subst eB;show tOp _ _ _ [some (.ref p),some (.int (0+(i:Int)))] z O;ext;have a3:i<r.length:=by rw[o r (zqb c)];exact hi
    exact⟨b2,p,_,_,_,rfl,rfl,J.up g,mZ (kB (getD_at a3)) ⋯,X _ _ (Same.refl _) ⟨r,c,rfl⟩⟩
   ·intro z ys g M v L;have a4:ys=(colI i b).map V.int:=by
     refine nW (by simp[colI];omega) λj y e=>?_;obtain⟨r,c,rfl⟩:=L j y e;exact⟨r.getD i 0,by unfold colI;rw[zC,c];rfl,rfl⟩
    subst a4;exact Y _ _ g ⟨G,rfl,zW (mI Z F),M⟩
  ·intro n ys f e1 v U;have:=MatL.of e1 U;rw[v]at this;exact N m n q f this
theorem ok_1l(T:Txt K mg t):FnOk P w K mg base CX0 2 t.a_1l t.d_1l pC' (sp_1l K):=by
 have b6:=@ok_1b P w K mg base t T;have a3:=@ok_1p P w K mg base t T;apply T.F_1l.ok sc_1l
 ·obtain⟨b1,b2,a8,a1,a,b,C,d,w,rfl,c6,b5,c8,N,c0,b8,e2,c9,d5,b0⟩:=h;refine⟨_,(oM (oX (i:=2) sc_1l.nd rfl (Or.inr rfl) (oS b6 hr.mo T.F_1b (oJ (pq 1) oK)))
   (oO (nB (kQ (xs:=["row"]) (fr:=[("columns",2)]) (g:=(oV 0)) (tt:=(tEl (mE (iSeq K (tVar 1)) (oV 0) (tEl (mJ (sp_1p K) [] E0 (oW (tVar 1) (oW (tVar 0) tNil)))) 1 [("row",0)]))) (lL (sc:=oN s_1l) (N:=N_1l) rfl rfl (nofun)) rfl (nE (pq 0)) (λ_ _ _ F=>(jC (N:=["row","columns"]) (i:=0) F rfl (nofun) rfl)) (λ_ _ _ F=>(lU (nP (N:=["row","columns"]) (fr:=[("row",0)]) (te:=(mJ (sp_1p K) [] E0 (oW (tVar 1) (oW (tVar 0) tNil)))) F rfl (nofun) rfl (nofun) (nE (pv 1)) (λ_ _ _ d6=>(oS a3 hr.mo T.F_1p (oJ (pv 1) (oJ (pv 0) oK))))))))))),?_⟩
  show tSeq _ _ _ [some (.ref a),some (.ref b),none] H;right;refine⟨a8,a1,b,d,w,rfl,b5,c8,N,b8,c9,λc e5 e0 D c2=>?_⟩;symm;exfalso;obtain⟨xs,O,a0,c7⟩:=(c6.up D).walk;refine⟨b1,⟨_,O⟩,λl I=>?_⟩;refine nQ (RowR l λj=>(List.range w).map λk=>dotI (C.getD j []) (colI k d)) I O ⋯ (RowR.mono (a:=l)) ?_ ?_
  ·intro i x L zs b9 v c4 d1 c3;obtain⟨p,r,rfl,G,a2⟩:=c7 i x b9;have b7:C.getD i []=r:=by rw[zqc,G];rfl
   have a9:r.length=d.length:=c0 r (zqb G);subst eB;show mE _ _ _ _ _ [some (.ref p),some (.ref c)] L d1;exfalso;obtain⟨e4,W,d9,d4⟩:=((c2.up v).b (K:=K)).walk;refine⟨false,⟨_,W⟩,λZ Y=>?_⟩;have d8:(gD w d).length=w:=by simp[gD]
   refine nQ (λj y _=>y=.int (dotI r (colI j d))/\j<w) Y W ⋯ (λ_ _ _ _ r _=>r) ?_ ?_
   ·intro j y X d7 M u e6 b4 c1;obtain⟨q,col,rfl,z,a5⟩:=d4 j y M;have g:j<w:=by have:=(zqa z).1;omega
    have b3:col=colI j d:=by
     unfold gD at z;rw[zC,yR g]at z;exact(zU z).symm
    subst eB b3;show mJ _ _ _ _ [some (.ref q),some (.ref p)] X b4;ext;refine⟨b2,false,p,q,r,colI j d,rfl,(a2.up v).up u,a5.up u,by simp[colI,a9],⋯,λa4 m n e1 f=>?_,λe3 d0=>c1 _ _ d0 ⟨rfl,g⟩⟩;unfold colI at f;rw[zC]at f;cases eb:d[a4]? with
    |none=>rw[eb]at f;cases f
    |some J =>
     rw[eb]at f;have d2:J.getD j 0=n:=zU f;subst d2;have U:=zqb eb;exact d5 r (zqb G) m (zqb e1) J U _ (L2.getD_mem (by rw[N J U];exact g))
   ·intro X ys u c5 R d3;have M:ys=((List.range w).map λk=>dotI r (colI k d)).map V.int:=by
     refine nW (by simp;omega) λj y e=>?_;obtain⟨rfl,g⟩:=d3 j y e;exact⟨_,by rw[zC,yR g];rfl,rfl⟩
    subst M;exact c3 _ _ u ⟨Z,rfl,zW (mI c4 Y),by dsimp only;rw[b7];exact c5⟩
  ·intro L ys v f R a7;have:=MatL.of f a7;have e:(List.range ys.length).map (λj=>(List.range w).map λk=>dotI (C.getD j []) (colI k d))=mulM w C d:=by
    rw[R,a0];unfold mulM;refine xY (by simp) λi S e7=>?_;simp at S;simp[S]
   rw[e]at this;have a6:H l=none:=by
    cases q:H l with
    |none=>rfl
    |some o=>rw[D _ _ q]at I;cases I
   exact b0 l L a6 (D.trans v) this
theorem ok_1a(T:Txt K mg t):FnOk P w K mg base CX0 1 t.a_1a t.d_1a pz' (sp_1a K):=by
 apply T.F_1a.ok sc_1a
 ·obtain⟨b1,b2,a,X,d,k,w,rfl,b0,a1,b6,b8,b5,a3⟩:=h;refine⟨_,(oO (nB (kQ (xs:=["at","row"]) (fr:=[("i",1),("k",2)]) (g:=(gTup K 2 (nR (oV 0) (nR (oV 1) gNil)))) (tt:=(iM (fN (tOp (rI0 λi j=>.bl (!decide (i=j))) (tVar 0) (tVar 2))) (tOp rCat (tCB (dR K) (oW (tSl (rSlB K) (tVar 1) Bq (Bp (tVar 3))) tNil)) (tCB (dR K) (oW (tSl (rSlB K) (tVar 1) (Bp (tOp (rI0 λi j=>.int (i+j)) (tVar 3) (tC (.int 1)))) Bq) tNil))))) (lL (sc:=oN s_1a) (N:=N_1a) rfl rfl (nofun)) rfl (hZ rfl T.z_enumerate (oJ (pq 0) oK)) (λ_ _ _ J=>(lR rfl (nO (kR (N:=["at","row","i","k"]) (i:=0) J rfl (nofun)) (nO (kR (N:=["at","row","i","k"]) (i:=1) J rfl (nofun)) lQ)))) (λ_ _ _ J=>(Hz (nN jM (pv 0) (pv 2) (nM _)) (oP dL (mP gC rfl T.z_list (nofun) (oJ (dJ sl_B (pv 1) Gz (iY (pv 3))) oK)) (mP gC rfl T.z_list (nofun) (oJ (dJ sl_B (pv 1) (iY (oP mY (pv 3) oR)) Gz) oK)))))))),?_⟩;show tRet _ _ [some (.ref a),some (.int d),some (.int k)] H;ext;refine Hq λc0 b9 a5 eB=>?_;simp only[iN];ext;obtain⟨xs,U,a0,a8⟩:=b0.walk;refine⟨b1,⟨_,U⟩,λW S=>?_⟩;refine Um (λt zs b=>kK W b zs (((X.take t).eraseIdx d).map λ(r:LI')=>r.eraseIdx k)) S U ⋯ kK.nil ?_ (λ_ _ _ _ r s=>r.mono s) ?_ ?_
  ·intro i zs b p;rw[p.len,zqe,rT];have:=List.length_take_le i X;split <;> omega
  ·intro i x b zs a4 F a7 p C M L;obtain⟨I,r,rfl,R,m⟩:=a8 i x a4;have b7:r.length=w:=a1 r (zqb R);replace m:=m.up F;rw[Ul R]at M L;subst a5 eB;show iM _ _ [some (.int i),some (.ref I),some (.int d),some (.int k)] b C;simp only[iM];ext
   by_cases z:i=d
   ·subst z;rw[zJ rfl]at L;rw[zL rfl];exact L b (Same.refl _) p
   ·rw[zI z]at M;rw[zP (show¬ (i:Int)=d by omega)];refine iteT ?_;refine⟨b2,I,_,rfl,m,λ_=>by rw[zqe,HT.sIx_none,HT.sIx_nat];omega,λc a9=>?_⟩;have sq1:SqB b2 K (upd b c (seqO b2 (cutV (r.map V.int) none (some (k:Int))))) c (cutV (r.map V.int) none (some (k:Int))):=SqB.cut;have q:Same b (upd b c (seqO b2 (cutV (r.map V.int) none (some (k:Int))))):=Same.new a9;generalize upd b c _=u at sq1 q;rw[Qe ⋯]at sq1;refine⟨b2,c,_,rfl,sq1,λg a6=>?_⟩;have O:(upd u g (.lst ((r.take k).map V.int))) g=some (.lst ((r.take k).map V.int)):=oQ;have n:Same u (upd u g (.lst ((r.take k).map V.int))):=Same.new a6;generalize upd u g _=y at O n;refine⟨b2,I,_,rfl,(m.up q).up n,λ_=>by rw[zqe,HT.sIx_none,show(k:Int)+1=((k+1:Nat):Int) by omega,HT.sIx_nat];omega,λl a2=>?_⟩;have sq3:SqB b2 K (upd y l (seqO b2 (cutV (r.map V.int) (some ((k:Int)+1)) none))) l (cutV (r.map V.int) (some ((k:Int)+1)) none):=SqB.cut;have D:Same y (upd y l (seqO b2 (cutV (r.map V.int) (some ((k:Int)+1)) none))):=Same.new a2;generalize upd y l _=v at sq3 D;rw[show(k:Int)+1=((k+1:Nat):Int) by omega,Qd ⋯]at sq3;refine⟨b2,l,_,rfl,sq3,λf b3=>?_⟩;have o:Same v (upd v f (.lst ((r.drop (k+1)).map V.int))):=Same.new b3;have Y:(upd v f (.lst ((r.drop (k+1)).map V.int))) f=some (.lst ((r.drop (k+1)).map V.int)):=oQ;generalize upd v f _=b4 at Y o;refine⟨g,f,_,_,rfl,rfl,o _ _ (D _ _ O),Y,by rw[zqe,zqe,xF,tG];exact xX (dN ⋯),λZ G=>?_⟩;have N:Same b (upd b4 Z (.lst ((r.take k).map V.int++(r.drop (k+1)).map V.int))):=(((q.trans n).trans D).trans o).trans (Same.new G);refine M _ _ N ?_;rw[yM];refine(p.mono N.x).snoc (λe=>?_) ?_
    ·subst e;rw[o _ _ (D _ _ (n _ _ (q _ _ a7)))]at G;cases G
    ·rw[oQ];dsimp only;rw[List.eraseIdx_eq_take_drop_succ,yM]
  ·intro b ys F e1 p;rw[a0,tE]at p;exact a3 W b S F (kK.mat e1 p)
theorem ok_1(T:Txt K mg t):∀n:Nat,FnOk P w K mg base CX0 (n+1) t.a_1 t.d_1 pL' (sp_1 K n)
 |0=>⟨λ_ _ _ _ h=>h.elim,λ_ _ _ _ _ _ _ _ _ _ _ _ _ h=>h.elim⟩
 | n+1=>by
  have a2:FnOk P w K mg base CX0 (n+1) t.a_1 t.d_1 pL' (sp_1 K n):=ok_1 T n;have a0:=@ok_1a P w K mg base t T;apply T.F_1.ok sc_1
  ·obtain⟨b1,b2,a,c,B,rfl,g,d,a5,C,Y,J⟩:=h;refine⟨_,(oM (nV (nN lZ (nU T.z_len (pq 0)) oR (nM _))
   (oO (nB (oT (oT (pq 0)))))
   mB)
   (oM (oX (i:=1) sc_1.nd rfl (Or.inl rfl) oR)
   (oM (oX (i:=2) sc_1.nd rfl (Or.inl rfl) oR)
   (oM (lC yF rfl (hZ rfl T.z_enumerate (oJ (oT (pq 0)) oK)) (lR rfl (nO (nL (i:=3) sc_1.nd rfl (Or.inl rfl)) (nO (nL (i:=4) sc_1.nd rfl (Or.inl rfl)) lQ)))
   (oM (nV (nN jM (pq 4) oR (nM _))
   (oO (Fo (i:=1) sc_1.nd rfl (Or.inl rfl) (oP nT (oP nT (pq 2) (pq 4)) (oS a2 hr.mo T.F_1 (oJ (oS a0 hr.mo T.F_1a (oJ (pq 0) (oJ oR (oJ (pq 3) oK)))) oK))) Fn))
   mB)
   (oO (oX (i:=2) sc_1.nd rfl (Or.inl rfl) (iV iW (pq 2))))))
   (oO (nB (pq 1))))))),?_⟩
   show tSeq _ _ _ [some (.ref a),none,none,none,none] H;obtain⟨N,R⟩:=row0 d;have U:(c.getD 0 []).length=n+1:=d.2 _ R;right;refine iA g ?_;ext;rw[d.1]
   by_cases z:n=0
   ·subst z;rw[zL (by rfl)];exact iteT (aF g N (getD_at (k:=0) ⋯) rfl rfl (J H (Same.refl _)))
   ·rw[zP (show¬ ((n+1:Nat):Int)=1 by omega)];refine iteF ?_;obtain⟨n,rfl⟩:∃m,n=m+1:=⟨n-1,⋯⟩;left;left;subst e1;refine st λN1 e1=>lF λa7 eB=>?_;simp only[iN];ext;refine Qf g N rfl λp v=>⟨b2,_,rfl,⟨_,v⟩,?_⟩;generalize hf:(λk=>(c.getD 0 []).getD k 0*detM (n+1) (jP 0 k c))=f;refine fT (nx:=N1) (rt:=Q) (λk σ e=>∃v3 u,σ=[some (.ref a),some (.int (altS f k)),some (.int (sg k)),v3,u]/\Same H e) ⟨_,_,rfl,Same.refl _⟩ (λ_ _ _ _⟨_,_,_,b⟩=>v.up b) ?_ ?_
    ·rintro k x q σ e Z ⟨v3,u,rfl,b⟩ V;obtain⟨x,I,rfl⟩:=mS Z;have D:k<n+2:=by have:=(zqa I).1;omega
     refine⟨q,[.int k,.int x],rfl,SqT.of oQ,rfl,_,_,rfl,_,_,rfl,rfl,?_⟩;replace b:=b.trans (Same.new (o:=.tup [.int k,.int x]) V);generalize upd e q (.tup [.int k,.int x])=M at b;subst eB;show tSeq _ _ _ [some (.ref a),some (.int (altS f k)),some (.int (sg k)),some (.int k),some (.int x)] M;refine st λX W=>?_;have L:∀i(l:Int),Same H i->l=altS f (k+1)->X [some (.ref a),some (.int l),some (.int (sg k)),some (.int k),some (.int x)] i:=by
      intro i l j S;subst W S;ext;rw[Uo];exact⟨rfl,j⟩
     ext;have O:(c.getD 0 []).getD k 0=x:=Qg I;have y:f k=x*detM (n+1) (jP 0 k c):=by rw[←hf];dsimp only;rw[O]
     have F:=d.minor (i:=0) (k:=k) ⋯ D;have G:mF B (jP 0 k c):=C.minor
     by_cases o:x=0
     ·rw[zL o];refine iteF (L M _ b ?_);show _=altS f k+sg k*f k;rw[y,o];simp
     ·rw[zP o];refine iteT ?_;simp only[tAug,ipI];ext;refine⟨wL (by unfold sg;split <;> decide),b1,b2,a,c,0,k,_,rfl,g.up b,d.2,D,⋯,by rw[d.1];omega,λr i _ j a4=>?_⟩;refine⟨false,false,r,_,B,rfl,a4.b,F,⋯,G,Y,λa1 a3=>?_⟩;ext;have a8:=C _ R x (by rw[←O];exact L2.getD_mem ⋯);have a6:=Jd (n+1) _ ⋯ ⋯ F G;refine⟨yG (m:=B+1) (n:=(n+1)*(B+2)+1) (nH ?_) (nH ?_) ?_,?_⟩
      ·rw[xC,Jf,pO,qT];omega
      ·rw[qT];have:=vQ ((n+1)*(B+2));omega
      ·have:(n+1)*(B+2)<=4*1000002:=wN ⋯ ⋯;omega
      ·refine L a1 _ ((b.trans j).trans a3) ?_;show _=altS f k+sg k*f k;rw[y,Int.mul_assoc]
    ·rintro σ e ⟨v3,u,rfl,b⟩;symm;rw[zqe,U];have:altS f (n+2)=detM (n+2) c:=by rw[←hf];rfl
     rw[this];exact J e b
theorem ok_g(T:Txt K mg t):FnOk P w K mg base CX0 1 t.a_g t.d_g ["size"] sp_g:=by
 apply T.F_g.ok sc_g
 ·obtain⟨n,rfl,l,F⟩:=h;refine⟨_,(oO (nB (kQ (xs:=["i"]) (fr:=[("size",0)]) (g:=(oV 0)) (tt:=(tEl (mE (mD (oW (tVar 1) tNil)) (oV 0) (tEl (tIf (fN (tOp (rI0 λi j=>.bl (decide (i=j))) (tVar 1) (tVar 0))) (tC (.int 1)) (tC (.int 0)))) 1 [("i",0)]))) (lL (sc:=oN Az) (N:=N_g) rfl rfl (nofun)) rfl (mU rfl T.z_range (oJ (pq 0) oK)) (λ_ _ _ a=>(jC (N:=["i","size"]) (i:=0) a rfl (nofun) rfl)) (λ_ _ _ a=>(lU (nP (N:=["i","size"]) (fr:=[("i",0)]) (te:=(tIf (fN (tOp (rI0 λi j=>.bl (decide (i=j))) (tVar 1) (tVar 0))) (tC (.int 1)) (tC (.int 0)))) a rfl (nofun) rfl (nofun) (mU rfl T.z_range (oJ (pv 1) oK)) (λ_ _ _ S=>(Fr (nN lZ (pv 1) (pv 0) (nM _)) oR oR)))))))),?_⟩;show tRet _ _ [some (.int n)] H;ext;refine nC λB eB=>?_;simp only[mD];ext;refine⟨⋯,⋯,λd p=>?_⟩;rw[zR];refine lG (RowR d λi=>(List.range n).map λk=>if i=k then(1:Int) else 0) p l (RowR.mono (a:=d)) ?_ ?_
  ·intro i c zs hi m J M I;subst eB;show mE _ _ _ _ _ [some (.int (0+(i:Int))),some (.int n)] c M;refine nC λB eB=>?_;simp only[mD];ext;refine⟨⋯,⋯,λx v=>?_⟩;rw[zR];refine lG (λk y _=>k<n/\y=.int (if i=k then 1 else 0)) v l (λ_ _ _ _ r _=>r) ?_ ?_
   ·intro k u U f g W G q;subst eB;show tIf _ _ _ [some (.int (0+(k:Int))),some (.int (0+(i:Int)))] u G;ext
    by_cases z:i=k
    ·rw[zL ⋯];exact iteT (q _ _ (Same.refl _) ⟨f,by rw[zJ z]⟩)
    ·rw[zP ⋯];exact iteF (q _ _ (Same.refl _) ⟨f,by rw[zI z]⟩)
   ·intro u ys g L b N;have O:ys=((List.range n).map λk=>if i=k then(1:Int) else 0).map V.int:=by
     refine nW (by simpa using b) λj y e=>?_;obtain⟨R,rfl⟩:=N j y e;exact⟨_,by rw[zC,yR R];rfl,rfl⟩
    subst O;exact I _ _ g ⟨x,rfl,zW (mI J v),L⟩
  ·intro c ys m D b C;have o:=MatL.of D C;rw[b]at o;exact F d c p m o
theorem Ja{H:Hp}{p:Addr}{M:LM}{ts:LI'}{u:Int}{Q:VK}(h:lA K H p M ts u)(q:∀x,MatB true true K H x M->Q (.ref x) H):rIxB K (.ref p) (.int 0) H Q:=let ⟨x,y,b,a,c⟩:=h;⟨true,p,_,_,_,rfl,rfl,SqB.tup b,rfl,q x a⟩
theorem Ui{H:Hp}{p:Addr}{M:LM}{ts:LI'}{u:Int}{Q:VK}(h:lA K H p M ts u)(q:∀x,H x=some (.tup (ts.map V.int))->Q (.ref x) H):rIxB K (.ref p) (.int 1) H Q:=let ⟨x,y,b,c,a⟩:=h;⟨true,p,_,_,_,rfl,rfl,SqB.tup b,rfl,q y a⟩
theorem Uh{H:Hp}{p:Addr}{M:LM}{ts:LI'}{u:Int}{Q:VK}(h:lA K H p M ts u)(q:Q (.int u) H):rIxB K (.ref p) (.int 2) H Q:=let ⟨x,y,a,b,c⟩:=h;⟨true,p,_,_,_,rfl,rfl,SqB.tup a,rfl,q⟩
theorem Kz{H:Hp}{a f:Addr}{M:LM}{σ:St}{Q:VK}{b1 b2:Bool}(F:MatB b1 b2 K H a M)(hl:M.length<=1000)(n:H f=none)
  (o:∀b zs,Same H b->b f=some (.lst zs)->(∀l,b l=none->MatB true true K (upd b l (.tup zs)) l M)->Q (.ref f) b):kA (Its K b1 a) (oV 0) (tEl (tCB (gT K) (oW (tVar 0) tNil))) 1 [] σ f H Q:=by
 cases b2 with
 |false =>
  refine Qb F hl n λb c G=>?_;obtain⟨zs,d,_⟩:=id G;refine o b _ c d λl g=>?_;obtain⟨Z,C,L⟩:=G.tuple (K:=K) g;rw[d]at C;cases C;exact L
 | true =>
  obtain⟨xs,N,Y,W⟩:=F.walk;refine nQ (λj y _=>∃p r,y=.ref p/\M[j]?=some r/\SqB true K H p (r.map V.int)) n N ⋯ (λ_ _ _ _ r _=>r) ?_ ?_
  ·intro i x b zs O c a0 a2 S;obtain⟨p,r,rfl,J,m⟩:=W i x O;exact⟨_,rfl,p,_,rfl,.inr ⟨m.up c,S _ _ (Same.refl _) ⟨p,r,rfl,J,m⟩⟩⟩
  ·intro b ys c e1 u v;have T:∃ps:LA,ys=ps.map V.ref:=by
    clear e1 u;have:∀(zs:List V),(∀(j:Nat) y,zs[j]?=some y->∃p:Addr,y=.ref p)->∃ps:LA,zs=ps.map V.ref:=by
     intro zs
     induction zs with
     |nil=>intro _;exact⟨[],rfl⟩
     |cons z r R =>
      intro d;obtain⟨p,e⟩:=d 0 z rfl;obtain⟨ps,k⟩:=R λj y q=>d (j+1) y (by simpa using q);exact⟨p:: ps,by rw[e,k];rfl⟩
    exact this ys λj y e=>let ⟨p,r,e1,_⟩:=v j y e;⟨p,e1⟩
   obtain⟨ps,rfl⟩:=T;refine o b _ c e1 λl g=>⟨ps,SqB.tup oQ,by simp at u;omega,λi p r k U=>?_⟩;obtain⟨a1,a3,X,D,I⟩:=v i (.ref p) (by simp[k]);cases X;rw[U]at D;cases D;exact I.up (c.trans (Same.new g))
theorem ok_18(T:Txt K mg t):FnOk P w K mg base CX0 1 t.a_18 t.d_18 pD' (sp_18 K):=by
 apply T.F_18.ok sc_18
 ·obtain⟨b1,b2,a,p,M,ts,u,rfl,f,i,hl,o⟩:=h;refine⟨_,(oO (nB (mO (oJ (mP kJ rfl T.z_tuple (nofun) (oJ (nP (sc:=oN s_18) (N:=N_18) (fr:=[]) (te:=(tCB (gT K) (oW (tVar 0) tNil))) rfl rfl (nofun) rfl (nofun) (nE (pq 0)) (λ_ _ _ y=>(mP kJ rfl T.z_tuple (nofun) (oJ (pv 0) oK)))) oK)) (oJ (oT (pq 1)) (oJ (oT (pq 1)) oK)))))),?_⟩;show tRet _ _ [some (.ref a),some (.ref p)] H;ext;exfalso;obtain⟨xs,j,_⟩:=f.walk;refine⟨b1,⟨_,j⟩,λv n=>?_⟩;subst eB;refine Kz f ⋯ n λe zs k r b=>?_;refine⟨v,_,rfl,.inl ⟨SqL.of r,λl g=>?_⟩⟩;have c:Same H (upd e l (.tup zs)):=k.trans (Same.new g);replace b:=b l g;generalize upd e l (.tup zs)=z at c b;refine kZ (i.up c) λx m=>jQ (i.up c) ⟨(by show 3<=sizeLine;decide),λq d=>o q _ (c.trans (Same.new d)) ⟨l,x,oQ,b.up (Same.new d),Same.new d _ _ m⟩⟩
theorem ok_1o(T:Txt K mg t):FnOk P w K mg base CX0 2 t.a_1o t.d_1o pN' (sp_1o K):=by
 have z:=@ok_18 P w K mg base t T;have r:=@ok_k P w K mg base t T;apply T.F_1o.ok sc_1o
 ·obtain⟨p,M,ts,u,rfl,b,hl,j,n,g⟩:=h;refine⟨_,(oO (nB (oS z hr.mo T.F_18 (oJ (oT (pq 0)) (oJ (oS r hr.mo T.F_k (oJ (mO (oJ (oT (pq 0)) (oJ (oT (pq 0)) oK))) oK)) oK))))),?_⟩;show tRet _ _ [some (.ref p)] H;ext;refine Ja b λx e=>Ui b λy k=>Uh b ⟨(by show 2<=sizeLine;decide),λl f=>?_⟩;have a:Same H (upd H l (.tup [.ref y,.int u])):=Same.new f;refine⟨l,ts,u,rfl,⟨y,oQ,a _ _ k⟩,j,n,λv C c i=>?_⟩;exact⟨true,true,x,v,M,_,u,rfl,e.up (a.trans c),i,hl,λq d m o=>g q d ((a.trans c).trans m) o⟩
theorem ok_1g(T:Txt K mg t):FnOk P w K mg base CX0 3 t.a_1g t.d_1g ["one","spot"] (sp_1g K):=by
 have Y:=@ok_1p P w K mg base t T;have a1:=@ok_v P w K mg base t T;apply T.F_1g.ok sc_1g
 ·obtain⟨p,q,M,ts,ns,u,v,d,rfl,f,l,a,c1,c5,c3,L,F,D,a5⟩:=h;refine⟨_,(oM (gS (i:=2) (xs:=["row","top"]) (fr:=[("one",0),("spot",1)]) (g:=(gTup K 2 (nR (oV 0) (nR (oV 1) gNil)))) (tt:=(tEl (tOp (rI0 λi j=>.int (i+j)) (tOp (rI (λi j=>IntMulOk i j) λi j=>.int (i*j)) (mJ (sp_1p K) [] E0 (oW (tVar 0) (oW (tOp (rIxB K) (tVar 3) (tC (.int 0))) tNil))) (tOp (rIxB K) (tVar 2) (tC (.int 2)))) (tOp (rI (λi j=>IntMulOk i j) λi j=>.int (i*j)) (tVar 1) (tOp (rIxB K) (tVar 3) (tC (.int 1))))))) (lL (sc:=oN s_1g) (N:=N_1g) rfl rfl (nofun)) rfl sc_1g.nd rfl rfl (Bg rfl T.z_zip (oJ (oT (pq 0)) (oJ (oT (pq 0)) oK))) (λ_ _ _ o=>(lR rfl (nO (kR (N:=["row","top","one","spot"]) (i:=0) o rfl (nofun)) (nO (kR (N:=["row","top","one","spot"]) (i:=1) o rfl (nofun)) lQ)))) (λ_ _ _ o=>(lU (oP mY (oP nT (oS Y hr.mo T.F_1p (oJ (pv 0) (oJ (oT (pv 3)) oK))) (oT (pv 2))) (oP nT (pv 1) (oT (pv 3)))))))
   (oO (nB (jW a1 hr.mo rfl T.F_v.m T.F_v.kp T.F_v.b .nil hJ (oJ (pq 2) (oJ (oP nT (oT (pq 0)) (oT (pq 1))) oK)))))),?_⟩
  show tSeq _ _ _ [some (.ref p),some (.ref q),none] H;right;refine nC λB eB=>?_;simp only[iZip];ext;refine cJ f λx a0=>Jb f λy U=>?_;obtain⟨xs,N,g,b0⟩:=a0.walk;refine⟨true,true,x,rfl,y,rfl,⟨_,N⟩,⟨_,(U:SqB true K H y _)⟩,λa6 a4=>?_⟩;have b1:∀(i:Nat)(r:LI')(tt:Int),M[i]?=some r->ts[i]?=some tt->(movT M ts u ns v)[i]?=some (dotI r ns*u+tt*v):=λi r tt e1 C=>by
   unfold movT;rw[yW,e1,C]
  refine Be (λj z _=>∃n,(movT M ts u ns v)[j]?=some n/\z=.int n) a4 N ((U:SqB true K H y _)) (by rw[g,a.sq.1,zqe,a.len]) (by rw[g,a.sq.1];omega) (λ_ _ _ _ r _=>r) ?_ ?_
  ·intro i Z b8 G zs a3 W b c4 b2 a8;obtain⟨S,r,rfl,k,X⟩:=b0 i Z a3;obtain⟨tt,J,rfl⟩:=mS W;have c2:r.length=d:=a.sq.2 r (zqb k);have R:=a.bm r (zqb k);subst eB;show tOp _ _ _ [some (.ref S),some (.int tt),some (.ref p),some (.ref q)] G b2;ext;refine As (l.up b) λz a2=>?_;refine⟨true,true,S,z,r,ns,rfl,X.up b,(a2:SqB true K G z _),⋯,⋯,λb9 m n e1 C=>yG (nH (R m (zqb e1))) (nH (L n (zqb C))) ∅,λO c=>?_⟩;refine Dh (f.up (b.trans c)) ?_;ext;have c0:=Jc r ns R L;have a9:(dotI r ns).natAbs<2^400010:=by
    have:r.length*2^(200000+200000)<=4*2^(200000+200000):=wD _ ⋯;have e:(2:Nat)^400010=1024*2^(200000+200000):=by rw[show(400010:Nat)=10+(200000+200000) from rfl,vK]
    have:=vQ (200000+200000);omega
   refine⟨yG (nH a9) (nH (eK a.pos a.bu)) ∅,?_⟩;refine eJ (l.up (b.trans c)) ?_;ext;refine⟨yG (nH (a.bt tt (zqb J))) (nH (eK F D)) ∅,?_⟩;exact a8 _ _ c ⟨_,b1 i r tt k J,rfl⟩
  ·intro G zs b b3 b4 a7;have I:(movT M ts u ns v).length=d:=by unfold movT;rw[xD,a.sq.1,a.len];omega
   have b7:zs=(movT M ts u ns v).map V.int:=nW (by rw[b4,g,a.sq.1,I]) a7;subst b7;symm;refine Dh (f.up b) ?_;refine eJ (l.up b) ?_;ext;have b5:=Uk a.pos a.bu F D;refine⟨yG (nH (eK a.pos a.bu)) (nH (eK F D)) ∅,?_⟩;refine⟨false,a6,_,_,rfl,SqB.lst b3,⋯,b5.1,λz=>?_,λ_ _ r O c b6=>a5 r O (b.trans c) b6⟩;rcases z with z|z
   ·omega
   ·rw[z]at I;simp at I;omega
theorem ok_1f(T:Txt K mg t):FnOk P w K mg base CX0 4 t.a_1f t.d_1f pC' (sp_1f K):=by
 have b0:=@ok_1p P w K mg base t T;have d2:=@ok_1b P w K mg base t T;have c9:=@ok_1g P w K mg base t T;have d5:=@ok_18 P w K mg base t T;apply T.F_1f.ok sc_1f
 ·obtain⟨p,q,M,N,ts,ns,u,v,d,rfl,O,a8,a,g,b1,c7,b3⟩:=h;refine⟨_,(oM (oX (i:=2) sc_1f.nd rfl (Or.inr rfl) (oS d2 hr.mo T.F_1b (oJ (oT (pq 0)) oK)))
   (oM (gS (i:=3) (xs:=["row"]) (fr:=[("columns",2)]) (g:=(oV 0)) (tt:=(tEl (mE (iSeq K (tVar 1)) (oV 0) (tEl (mJ (sp_1p K) [] E0 (oW (tVar 1) (oW (tVar 0) tNil)))) 1 [("row",0)]))) (lL (sc:=oN s_1f) (N:=N_1f) rfl rfl (nofun)) rfl sc_1f.nd rfl rfl (nE (oT (pq 1))) (λ_ _ _ R=>(jC (N:=["row","columns"]) (i:=0) R rfl (nofun) rfl)) (λ_ _ _ R=>(lU (nP (N:=["row","columns"]) (fr:=[("row",0)]) (te:=(mJ (sp_1p K) [] E0 (oW (tVar 1) (oW (tVar 0) tNil)))) R rfl (nofun) rfl (nofun) (nE (pv 1)) (λ_ _ _ e9=>(oS b0 hr.mo T.F_1p (oJ (pv 1) (oJ (pv 0) oK))))))))
   (oO (nB (oS d5 hr.mo T.F_18 (oJ (pq 3) (oJ (oS c9 hr.mo T.F_1g (oJ (pq 1) (oJ (mO (oJ (oT (pq 0)) (oJ (oT (pq 0)) oK))) oK))) oK))))))),?_⟩
  show tSeq _ _ _ [some (.ref p),some (.ref q),none,none] H;right;have c6:M≠[]:=λz=>by have:=a.sq.1;rw[z]at this;simp at this;omega
  refine cJ O λx e2=>⟨true,true,x,M,d,rfl,e2,c6,a.sq.2,⋯,by rw[a.sq.1];omega,λc f1 f0 a0 b4=>?_⟩;left;exfalso;refine cJ (a8.up a0) λy d4=>?_;obtain⟨xs,Y,a5,e7⟩:=d4.walk;refine⟨true,y,rfl,⟨_,Y⟩,λX c2=>?_⟩;refine nQ (RowR X λj=>(List.range d).map λk=>dotI (N.getD j []) (colI k M)) c2 Y (by rw[a5,g.sq.1];omega) (RowR.mono (a:=X)) ?_ ?_
  ·intro i x D zs e5 C c4 d6 c3;obtain⟨W,r,rfl,U,e0⟩:=e7 i x e5;have d3:N.getD i []=r:=by rw[zqc,U];rfl
   have b2:r.length=d:=g.sq.2 r (zqb U);have b5:=g.bm r (zqb U);subst eB;show mE _ _ _ _ _ [some (.ref W),some (.ref c)] D d6;exfalso;obtain⟨f7,a2,f6,b7⟩:=((b4.up C).b (K:=K)).walk;refine⟨false,⟨_,a2⟩,λc8 Z=>?_⟩;have f4:(gD d M).length=d:=by simp[gD]
   refine nQ (λj y _=>y=.int (dotI r (colI j M))/\j<d) Z a2 ⋯ (λ_ _ _ _ r _=>r) ?_ ?_
   ·intro j y a3 f5 L b f2 d1 e6;obtain⟨a9,col,rfl,F,J⟩:=b7 j y L;have o:j<d:=by have:=(zqa F).1;omega
    have d0:col=colI j M:=by
     unfold gD at F;rw[zC,yR o]at F;exact(zU F).symm
    subst eB d0;show mJ _ _ _ _ [some (.ref a9),some (.ref W)] a3 d1;ext;refine⟨true,false,W,a9,r,colI j M,rfl,(e0.up C).up b,J.up b,by simp[colI,b2,a.sq.1],⋯,λb8 m n e1 f=>?_,λe8 G=>e6 _ _ G ⟨rfl,o⟩⟩;unfold colI at f;rw[zC]at f;cases eb:M[b8]? with
    |none=>rw[eb]at f;cases f
    |some S =>
     rw[eb]at f;have d8:S.getD j 0=n:=zU f;subst d8;have a7:=zqb eb;exact yG (nH (b5 m (zqb e1))) (nH (a.bm S a7 _ (L2.getD_mem (by rw[a.sq.2 S a7];exact o)))) ∅
   ·intro a3 ys b c5 a1 d9;have L:ys=((List.range d).map λk=>dotI r (colI k M)).map V.int:=by
     refine nW (by simp;omega) λj y e=>?_;obtain⟨rfl,o⟩:=d9 j y e;exact⟨_,by rw[zC,yR o];rfl,rfl⟩
    subst L;exact c3 _ _ b ⟨c8,rfl,zW (mI c4 Z),by dsimp only;rw[d3];exact c5⟩
  ·intro D ys C f a1 c1;have a4:=MatL.of f c1;have e:(List.range ys.length).map (λj=>(List.range d).map λk=>dotI (N.getD j []) (colI k M))=mulM d N M:=by
    rw[a1,a5];unfold mulM;refine xY (by simp) λi a6 f3=>?_;simp at a6;simp[a6]
   rw[e]at a4;have I:=a0.trans C;symm;refine Jb (O.up I) λz c0=>Dh (O.up I) ⟨(by show 2<=sizeLine;decide),λl e3=>?_⟩;have b:Same D (upd D l (.tup [.ref z,.int u])):=Same.new e3;refine⟨q,l,N,ns,ts,v,u,d,rfl,(a8.up I).up b,⟨z,SqT.of oQ,mH b _ _ c0⟩,g,b1,c7,a.len,a.bt,a.pos,a.bu,λr e8 G e4=>?_⟩;exact⟨false,false,X,r,_,_,_,rfl,((a4.up b).up G).b,e4,by simp[mulM,g.sq.1];omega,λb6 d7 b9 J=>b3 b6 d7 (((I.trans b).trans G).trans b9) J⟩
def Df(rows:LM)(tops:LI')(u:Int):Prop:=(rows.length=2\/rows.length=3)/\(∀r∈rows,r.length=rows.length)/\tops.length=rows.length/\u≠0/\(detM rows.length rows=1\/detM rows.length rows=-1)
def sp_1m(K:Frag)(C:Addr):Sp:=λvs H Q E=>E9 λ(b1 b2 b3:Bool)(a p:Addr)(rows:LM)(tops:LI')(u:Int)(B:Nat)=>A10 (vs=[.ref a,.ref p,.int u]) (MatB b1 b2 K H a rows) (SqB b3 K H p (tops.map V.int)) (rows.length<=100) (tops.length<=100) (mF B rows) (B<=1000000) (kN u) ((¬ Df rows tops u->∀H',Same H H'->E (.ref C) none H')) ((Df rows tops u->∀q H',Same H H'->lA K H' q rows (redT u tops) (redU u tops)->Q (.ref q) H'))
theorem inV2(L x y:Int):inV (.int L) [.int x,.int y]=decide (L=x\/L=y):=by
 have e:inV (.int L) [.int x,.int y]=(eqV (.int x) (.int L) || (eqV (.int y) (.int L) || false)):=rfl;have f:∀a b:Int,eqV (.int a) (.int b)=decide (a=b):=λa b=>by
  first|rfl|(unfold eqV;rfl)|(simp only[eqV];by_cases h:a=b <;> simp[h])
 rw[e,f,f,Bool.or_false]
 by_cases d:x=L
 ·rw[zL d,zL (p:=L=x\/L=y) (Or.inl d.symm)];rfl
 ·rw[zP d]
  by_cases c:y=L
  ·rw[zL c,zL (p:=L=x\/L=y) (Or.inr c.symm)];rfl
  ·rw[zP c,zP (p:=L=x\/L=y) ⋯];rfl
theorem Ar{H:Hp}{Q:VK}{E:XK}{b1 b2:Bool}{a:Addr}{b:LM}{n B:Nat}(i:1<=n)(d:n<=4)(e:MatB b1 b2 K H a b)(c:Sq n b)(f:mF B b)(g:B<=1000000)(q:∀H',Same H H'->Q (.int (detM n b)) H'):sp_1 K n [.ref a] H Q E:=by
 match n,i,d,c,q with
 |m+1,_,d,c,q=>exact⟨b1,b2,a,b,B,rfl,e,c,⋯,f,g,q⟩
theorem ok_1m(T:Txt K mg t):FnOk P w K mg base (CX1 P w) 6 t.a_1m t.d_1m pr' (sp_1m K t.a_1u):=by
 have a4:=@ok_v P w K mg base t T;have c9:=@ok_18 P w K mg base t T;refine T.F_1m.okX sc_1m (λvs H Q E h=>?_) (λcdv A outer s H vs Q E hr h=>?_)
 ·obtain⟨b1,b2,W,a,p,c,D,u,B,rfl,_⟩:=h;rfl
 ·obtain⟨b1,b2,W,a,p,c,D,u,B,rfl,v,U,a5,c7,b8,a2,a3,f,b7⟩:=h;obtain⟨n,d9,F⟩:∃n:Nat,n<=3/\((c.length=2\/c.length=3)->n=c.length):=by
   by_cases z:c.length=2\/c.length=3
   ·exact⟨c.length,⋯,λ_=>rfl⟩
   ·exact⟨0,⋯,λh=>absurd h z⟩
  have d0:FnOk P w K mg base CX0 (n+1) t.a_1 t.d_1 pL' (sp_1 K n):=ok_1 T n;refine⟨_,(oM (oX (i:=3) sc_1m.nd rfl (Or.inr rfl) (nU T.z_len (pq 0)))
   (oM (nV (nN bP (pq 3) (mO (oJ oR (oJ oR oK))) rfl)
   (oO (fR rfl fQ rfl T.m_1u T.x_1u wE (oJ fJ oK)))
   mB)
   (oM (nV (PW.pt (fM (fK (lJ (aJ rfl) rfl T.z_any (nofun) (oJ (nP (sc:=oN s_1m) (N:=N_1m) (fr:=[("axes",3)]) (te:=(tOp (rI0 λi j=>.bl (!decide (i=j))) (tCB (jD K) (oW (tVar 0) tNil)) (tVar 1))) rfl rfl (nofun) rfl (nofun) (nE (pq 0)) (λ_ _ _ d4=>(gP jM (nU T.z_len (pv 0)) (pv 1) (nM _)))) oK))) (fL (nN jM (nU T.z_len (pq 1)) (pq 3) (nM _)))))
   (oO (fR rfl fQ rfl T.m_1u T.x_1u wE (oJ fJ oK)))
   mB)
   (oM (nV (nN lZ (pq 2) oR (nM _))
   (oO (fR rfl fQ rfl T.m_1u T.x_1u wE (oJ fJ oK)))
   mB)
   (oM (nV (nN bP (oS d0 hr.mo T.F_1 (oJ (pq 0) oK)) (mO (oJ oR (oJ (iV iW oR) oK))) rfl)
   (oO (fR rfl fQ rfl T.m_1u T.x_1u wE (oJ fJ oK)))
   mB)
   (oO (nB (oS c9 hr.mo T.F_18 (oJ (pq 0) (oJ (jW a4 hr.mo rfl T.F_v.m T.F_v.kp T.F_v.b .nil hJ (oJ (pq 1) (oJ (pq 2) oK))) oK)))))))))),?_⟩
  show tSeq _ _ _ [some (.ref a),some (.ref p),some (.int u),none] H;right;refine iA v ?_;subst e1;refine st λN1 e1=>?_;simp only[iL];ext;refine⟨by show 2<=sizeLine;decide,λO b6=>?_⟩;have l:Same H (upd H O (.tup [.int 2,.int 3])):=Same.new b6;refine⟨O,_,rfl,.inr (SqT.of oQ),rfl,rfl,_,rfl,?_⟩;generalize upd H O (.tup [.int 2,.int 3])=d8 at l;rw[inV2]
  by_cases J:c.length=2\/c.length=3
  case neg =>
   rw[zP ⋯];refine iteT ?_;simp only[iL];ext;exact⟨∅,f (λg=>J g.1) _ l⟩
  rw[zL ⋯];refine iteF ?_;replace F:=F J;subst F;left;refine nC λC c3=>?_;simp only[iSeq];ext;obtain⟨xs,Y,d3,c8⟩:=(v.up l).walk;refine⟨b1,⟨_,Y⟩,λc0 b5=>?_⟩;refine nQ (λj y _=>∃r,c[j]?=some r/\y=.bl (!decide (r.length=c.length))) b5 Y ⋯ (λ_ _ _ _ r _=>r) ?_ ?_
  ·intro i x Z zs b9 G d6 d1 c5;obtain⟨c4,R,rfl,b4,a1⟩:=c8 i x b9;subst c3;show tOp _ _ _ [some (.ref c4),some (.int c.length)] Z d1;ext;refine lO (a1.up G) ?_
   try ext
   refine c5 _ _ (Same.refl _) ⟨R,b4,?_⟩
   by_cases z:R.length=c.length
   ·rw[zL z,zL ⋯]
   ·rw[zP z,zP ⋯]
  ·intro Z ys G b3 d5 L;have d2:ys=(c.map λr=>!decide (r.length=c.length)).map V.bl:=by
    rw[xI];exact nW ⋯ L
   subst d2;refine⟨c0,rfl,_,SqL.of b3,?_⟩
   try ext
   have d:=l.trans G
   by_cases e:∀r∈c,r.length=c.length
   case neg =>
    have M:(c.map λr=>!decide (r.length=c.length)).any id=true:=by
     rw[List.any_eq_true];obtain⟨r,hr⟩:=Classical.not_forall.mp e;obtain⟨c1,L⟩:=Classical.not_imp.mp hr;exact⟨true,pZ.mpr ⟨r,c1,by rw[zP L];rfl⟩,rfl⟩
    rw[M];refine iteT ?_;simp only[iL];ext;exact⟨∅,f (λg=>e g.2.1) _ d⟩
   have M:(c.map λr=>!decide (r.length=c.length)).any id=false:=by
    rw[sK];intro b a6;obtain⟨r,hr,rfl⟩:=pZ.mp a6;rw[zL (e r hr)]
    decide
   rw[M];refine iteF ?_;refine lO (U.up d) ?_
   try ext
   by_cases o:D.length=c.length
   case neg =>
    rw[zP ⋯];refine iteT ?_;simp only[iL];ext;exact⟨∅,f (λg=>o g.2.2.1) _ d⟩
   rw[zL ⋯];refine iteF ?_;subst e1;refine st λN1 e1=>?_;simp only[iL];ext;refine ite2 (λz=>⟨∅,f (λg=>g.2.2.2.1 (yP z)) _ d⟩) (λz=>?_);have X:u≠0:=λq=>z (zL q);left;refine Ar ⋯ ⋯ (v.up d) ⟨rfl,e⟩ b8 a2 λN a8=>?_
   try ext
   refine⟨by show 2<=sizeLine;decide,λI c6=>?_⟩;have a0:Same N (upd N I (.tup [.int 1,.int (-1)])):=Same.new c6;refine⟨I,_,rfl,.inr (SqT.of oQ),rfl,rfl,_,rfl,?_⟩;generalize upd N I (.tup [.int 1,.int (-1)])=d7 at a0;have k:=(d.trans a8).trans a0;rw[inV2]
   by_cases m:detM c.length c=1\/detM c.length c=-1
   case neg =>
    rw[zP m];refine iteT ?_;simp only[iL];ext;exact⟨∅,f (λg=>m g.2.2.2.2) _ k⟩
   rw[zL m];refine iteF ?_;symm;refine⟨W,p,D,u,rfl,U.up k,c7,a3,λz=>?_,λ_ _ sp e0 S a7=>⟨b1,b2,a,sp,c,_,_,rfl,v.up (k.trans S),a7,a5,λq b0 c2 a9=>b7 ⟨J,e,o,X,m⟩ q b0 ((k.trans S).trans c2) a9⟩⟩;rcases z with z|z
   ·exact absurd z X
   ·rw[z]at o;simp at o;omega
def sp_1n(K:Frag):Sp:=λvs H Q _=>E1 λ(d:Nat)=>A3 (vs=[.int d]) ((d=2\/d=3)) (∀q H',Same H H'->lA K H' q (idM d) (List.replicate d 0) 1->Q (.ref q) H')
theorem eN(ns:LI'):gl 1 ns=1:=Int.eq_one_of_dvd_one (eH 1 ns) (gl_u 1 ns)
theorem Ky{d:Nat}(a:d=2\/d=3):Df (idM d) (List.replicate d 0) 1/\mF 1 (idM d):=by
 rcases a with rfl|rfl
 ·exact⟨⟨.inl rfl,∅,∅,∅,.inl ∅⟩,by intro r hr x b;revert r x;decide⟩
 ·exact⟨⟨.inr rfl,∅,∅,∅,.inl ∅⟩,by intro r hr x b;revert r x;decide⟩
theorem Ug:kN 1:=jF (B:=1) ∅ ∅
theorem ok_1n(T:Txt K mg t):FnOk P w K mg base CX0 8 t.a_1n t.d_1n ["d"] (sp_1n K):=by
 have z:=@ok_1m P w K mg base t T;have x:=@ok_g P w K mg base t T;apply T.F_1n.ok sc_1n
 ·obtain⟨d,rfl,m,v⟩:=h;refine⟨_,(oO (nB (jW z hr.mo rfl T.F_1m.m T.F_1m.kp T.F_1m.b .nil hJ (oJ (oS x hr.mo T.F_g (oJ (pq 0) oK)) (oJ (oP Po (lH (oJ oR oK)) (pq 0)) (oJ oR oK)))))),?_⟩;show tRet _ _ [some (.int d)] H;ext;refine⟨d,rfl,⋯,λr b _ p F=>?_⟩
  try ext
  refine⟨by show 1<=sizeLine;decide,λl hl=>?_⟩;have e:Same b (upd b l (.lst [.int 0])):=Same.new hl;have j:(upd b l (.lst [.int 0])) l=some (.lst [.int 0]):=oQ;generalize upd b l (.lst [.int 0])=a at e j;refine⟨l,d,_,rfl,rfl,j,⋯,⋯,?_,λl2 y=>?_⟩
  ·rw[zR];show 1*d<=sizeLine;have:3<=sizeLine:=∅
   omega
  have c:Same a (upd a l2 (.lst (List.replicate (d:Int).toNat [V.int 0]).flatten)):=Same.new y;have k:(upd a l2 (.lst (List.replicate (d:Int).toNat [V.int 0]).flatten)) l2=some (.lst ((List.replicate d (0:Int)).map V.int)):=by
   rw[oQ,zR];rcases m with rfl|rfl <;> rfl
  generalize upd a l2 (.lst (List.replicate (d:Int).toNat [V.int 0]).flatten)=G at c k;obtain⟨g,o⟩:=Ky m;have f:=Uv (u:=1) ∅ (eN (List.replicate d 0));have e1:redT 1 (List.replicate d 0)=List.replicate d 0:=f.1;have u:redU 1 (List.replicate d 0)=1:=f.2;refine⟨false,false,false,r,l2,idM d,List.replicate d 0,1,1,rfl,((F.up e).up c).b,SqB.lst k,by simp[idM];omega,by simp;omega,o,∅,Ug,λn=>absurd g n,λ_ q C D i=>?_⟩;rw[e1,u]at i;exact v q C ((p.trans (e.trans c)).trans D) i
def sp_1r(K:Frag):Sp:=λvs H Q _=>E4 λ(p:Addr)(ts:LI')(u:Int)(d:Nat)=>A7 (vs=[.ref p]) (nI H p ts u) (ts.length=d) ((d=2\/d=3)) (u≠0) (kN u) (∀q H',Same H H'->lA K H' q (idM d) (redT u ts) (redU u ts)->Q (.ref q) H')
theorem ok_1r(T:Txt K mg t):FnOk P w K mg base CX0 8 t.a_1r t.d_1r pN' (sp_1r K):=by
 have y:=@ok_1m P w K mg base t T;have e:=@ok_g P w K mg base t T;apply T.F_1r.ok sc_1r
 ·obtain⟨p,ts,u,d,rfl,b,hl,i,z,l,o⟩:=h;refine⟨_,(oO (nB (jW y hr.mo rfl T.F_1m.m T.F_1m.kp T.F_1m.b .nil hJ (oJ (oS e hr.mo T.F_g (oJ (nU T.z_len (oT (pq 0))) oK)) (oJ (oT (pq 0)) (oJ (oT (pq 0)) oK)))))),?_⟩;show tRet _ _ [some (.ref p)] H;ext;refine kZ b λx k=>lO (b:=true) (SqB.tup k) ?_
  try ext
  rw[hl];refine⟨d,rfl,⋯,λr F _ a D=>?_⟩
  try ext
  refine kZ (b.up a) λc v=>jQ (b.up a) ?_;obtain⟨g,j⟩:=Ky i;refine⟨false,false,true,r,c,idM d,ts,u,1,rfl,D.b,SqB.tup v,by simp[idM];omega,⋯,j,∅,l,λn=>absurd ⟨g.1,g.2.1,by simp[idM,hl],z,g.2.2.2.2⟩ n,λ_ q f m C=>o q f (a.trans m) C⟩
def cK(M:LM)(ts:LI')(u:Int):PyData:=.tuple [matD true true M,kU true ts,.int u]
theorem Uf{M N:LM}{ts ns:LI'}{u v:Int}:cK M ts u=cK N ns v↔(M=N/\ts=ns/\u=v):=by
 unfold cK;simp only[PyData.tuple.injEq,List.cons.injEq,PyData.int.injEq,and_true,Qh,Bc]
theorem Dt.deed{K:Frag}{H:Hp}{p:Addr}{M:LM}{ts:LI'}{u:Int}(h:lA K H p M ts u):Dt K H (.ref p) (cK M ts u):=by
 obtain⟨d,pt,c,a,b⟩:=h;exact .tup (SqT.of c) (.cons (Dt.matB a) (.cons (Dt.intsB (SqB.tup b)) (.cons (.int u) .nil)))
abbrev Dd:=LM×List Int×Int
def dat(x:Dd):PyData:=cK x.1 x.2.1 x.2.2
theorem Aq{x y:Dd}:dat x=dat y↔x=y:=by
 obtain⟨M,ts,u⟩:=x;obtain⟨N,ns,v⟩:=y;unfold dat;rw[Uf];simp
theorem eO{n:Nat}{ds:List PyData}:tT (n+1) (.tuple ds)=ds.all (tT n):=rfl
theorem jR(x:Dd):tT 4 (dat x)=true:=by
 obtain⟨M,ts,u⟩:=x;have hi:∀(n:Nat)(l:LI'),(l.map PyData.int).all (tT n)=true:=λn l=>by
  rw[wI];intro d a;obtain⟨i,_,rfl⟩:=pZ.mp a;cases n <;> rfl
 show tT 4 (.tuple [.tuple (M.map λr=>.tuple (r.map PyData.int)),.tuple (ts.map PyData.int),.int u])=true;rw[eO,xG,xG,xG,eO,eO,hi];have:(M.map λr=>PyData.tuple (r.map PyData.int)).all (tT 2)=true:=by
  rw[wI];intro d a;obtain⟨r,_,rfl⟩:=pZ.mp a;rw[eO];exact hi 1 r
 rw[this];rfl
def DdAt(K:Frag)(H:Hp)(p:Addr)(x:Dd):Prop:=lA K H p x.1 x.2.1 x.2.2
theorem DdAt.up{K:Frag}{H H':Hp}{p:Addr}{x:Dd}(h:DdAt K H p x)(s:Same H H'):DdAt K H' p x:=lA.up h s
theorem DdAt.dt{K:Frag}{H:Hp}{p:Addr}{x:Dd}(h:DdAt K H p x):Dt K H (.ref p) (dat x):=Dt.deed h
def oZ(x:Dd):Dd:=(x.1,nX x.2.2 x.2.1,x.2.2)
def behD(d:Nat)(x s:Dd):Dd:=(mulM d s.1 x.1,redT (s.2.2*x.2.2) (movT s.1 s.2.1 s.2.2 x.2.1 x.2.2),redU (s.2.2*x.2.2) (movT s.1 s.2.1 s.2.2 x.2.1 x.2.2))
def nD(d:Nat)(x s:Dd):Dd:=oZ (behD d x s)
def nK(d:Nat):Dd:=(idM d,List.replicate d 0,1)
abbrev Tb:=List (Dd×List Nat)
def nxt(d:Nat)(x:Dd)(w:List Nat)(tb:Tb)(ks:Dd×Nat):Tb:=if nD d x ks.1∈tb.map (·.1) then tb else tb++[(nD d x ks.1,w++[ks.2])]
def kO(d:Nat)(ss:List Dd)(tb:Tb)(i:Nat):Tb:=match tb[i]? with
 |none=>tb
 |some xw=>ss.zipIdx.foldl (nxt d xw.1 xw.2) tb
def mG(d:Nat)(ss:List Dd):Nat->Nat->Tb->Tb
 |0,_,tb=>tb
 |n+1,i,tb=>if i<tb.length then mG d ss n (i+1) (kO d ss tb i) else tb
theorem Ue(d:Nat)(x:Dd)(w:List Nat)(tb:Tb)(ks:Dd×Nat):∃r,nxt d x w tb ks=tb++r:=by
 unfold nxt;split
 ·exact⟨[],by simp⟩
 ·exact⟨_,rfl⟩
theorem cL(d:Nat)(x:Dd)(w:List Nat):∀(l:List (Dd×Nat))(tb:Tb),∃r,l.foldl (nxt d x w) tb=tb++r
 |[],tb=>⟨[],by simp⟩
 |k:: l,tb=>by
  obtain⟨a,e1⟩:=Ue d x w tb k;obtain⟨c,b⟩:=cL d x w l (nxt d x w tb k);exact⟨a++c,by rw[wQ,b,e1,yU]⟩
theorem Kx(d:Nat)(ss:List Dd)(tb:Tb)(i:Nat):∃r,kO d ss tb i=tb++r:=by
 unfold kO;split
 ·exact⟨[],by simp⟩
 ·exact cL ..
theorem Ap(d:Nat)(ss:List Dd):∀(n i:Nat)(tb:Tb),∃r,mG d ss n i tb=tb++r
 |0,i,tb=>⟨[],by simp[mG]⟩
 |n+1,i,tb=>by
  unfold mG;split
  ·obtain⟨a,e1⟩:=Kx d ss tb i;obtain⟨c,b⟩:=Ap d ss n (i+1) (kO d ss tb i);exact⟨a++c,by rw[b,e1,yU]⟩
  ·exact⟨[],by simp⟩
def lY(d:Nat)(x:Dd):Prop:=Fine d x.1 x.2.1 x.2.2
def TbAt(H:Hp)(tb:Tb)(kvs:List (PyData×V)):Prop:=Paired (λ(x:Dd×List Nat)(kv:PyData×V)=>kv.1=dat x.1/\∃p,kv.2=.ref p/\H p=some (.lst (x.2.map λn=>V.int (n:Nat)))) tb kvs
def sp_1c(K:Frag):Sp:=λvs H Q _=>E8 λ(b:Bool)(d:Nat)(a:Addr)(ps:LA)(ms:List Dd)(most:Nat)(G:Dd->Prop)(N:Nat)=>A14 (vs=[.int d,.ref a,.int most]) ((d=2\/d=3)) (SqB b K H a (ps.map V.ref)) (Paired (DdAt K H) ps ms) (ms.length<=200) ((∀s∈ms,lY d s)) ((∀s∈ms,lY d (oZ s))) ((∀x,G x->lY d x)) (G (nK d)) ((∀x s,G x->s∈ms->G (nD d x (oZ s)))) (most<=200) ((mG d (ms.map oZ) N 0 [(nK d,[])]).length<=most) ((mG d (ms.map oZ) N 0 [(nK d,[])]).length<=N) (∀w kvs H',Same H H'->H w=none->DTr K H' w kvs->TbAt H' (mG d (ms.map oZ) N 0 [(nK d,[])]) kvs->Q (.ref w) H')
def sp_o:Sp:=λvs H Q _=>E1 λ(n:Nat)=>A4 (vs=[.int n]) (1<=n) (n<=200) (Q .non H)
def sp_t(K:Frag):Sp:=λvs H Q _=>E5 λ(b:Bool)(d:Nat)(a:Addr)(ps:LA)(ms:List Dd)=>A6 (vs=[.int d,.ref a]) ((d=2\/d=3)) (SqB b K H a (ps.map V.ref)) (Paired (DdAt K H) ps ms) ((∀s∈ms,s.1.length=d)) (∀H',Same H H'->Q .non H')
theorem Kw{prog:Program}{w:World}:∀n,n<=200->cE prog w n:=λn _=>Sf n
theorem De{K:Frag}{H:Hp}{a b:Addr}{kvs:List (PyData×V)}{k:PyData}{v:V}{Q:VK}(g:DTr K H a kvs)(t:tT 4 k=true)(d:Dt K H (.ref b) k)(e:vT kvs k=some v)(q:Q v H):aK K (.ref a) (.ref b) H Q:=⟨a,kvs,b,k,v,rfl,rfl,g,t,d,e,q⟩
theorem Kv{K:Frag}{H:Hp}{a b:Addr}{kvs:List (PyData×V)}{k:PyData}{neg:Bool}{Q:VK}(g:DTr K H a kvs)(t:tT 4 k=true)(d:Dt K H (.ref b) k)(q:Q (.bl (if neg=true then !(vT kvs k).isSome else(vT kvs k).isSome)) H):rInT K neg (.ref b) (.ref a) H Q:=⟨a,kvs,b,k,rfl,rfl,g,t,d,q⟩
theorem mX{b a:Type}{f:b->a}{l:List b}{i:Nat}{y:a}(h:(l.map f)[i]?=some y):∃x,l[i]?=some x/\y=f x:=by
 rw[zC]at h;cases hx:l[i]? with
 |none=>rw[hx]at h;cases h
 |some x=>rw[hx]at h;exact⟨x,rfl,(zU h).symm⟩
structure TK(K:Frag)(H H':Hp):Prop where
 k:∀b xs,H b=some (.tup xs)->H' b=some (.tup xs)
 t:∀b xs,SqT K H b xs->SqT K H' b xs
theorem TK.trans{K:Frag}{H f d:Hp}(a:TK K H f)(b:TK K f d):TK K H d:=⟨λc xs e=>b.k _ _ (a.k _ _ e),λc xs e=>b.t _ _ (a.t _ _ e)⟩
theorem TK.off{K:Frag}{H H':Hp}{a:Addr}{o:HO}(e:H a=some o)(f:∀xs,o≠.tup xs)(g:∀d u,o≠.frz d u)(h:∀c,c≠a->H' c=H c):TK K H H':=by
 have k:∀b xs,H b=some (.tup xs)->H' b=some (.tup xs):=λb xs q=>by
  rw[h b λz=>f xs (by rw[z,e]at q;exact zU q)];exact q
 refine⟨k,λb xs q=>?_⟩;rcases q with(q|⟨d,q⟩)|q
 ·exact .inl (.inl (k _ _ q))
 ·exact .inl (.inr ⟨d,by rw[h b λz=>g _ _ (by rw[z,e]at q;exact zU q)];exact q⟩)
 ·exact .inr q
theorem MatB.tk{K:Frag}{H H':Hp}{a:Addr}{M:LM}(h:MatB true true K H a M)(s:TK K H H'):MatB true true K H' a M:=let ⟨ps,e,c,d⟩:=h;⟨ps,s.t _ _ e,c,λi p r e1 b=>s.t _ _ (d i p r e1 b)⟩
theorem DdAt.tk{K:Frag}{H H':Hp}{p:Addr}{x:Dd}(h:DdAt K H p x)(s:TK K H H'):DdAt K H' p x:=let ⟨c,pt,d,a,b⟩:=h;⟨c,pt,s.k _ _ d,MatB.tk a s,s.k _ _ b⟩
theorem DTr.tk{K:Frag}{H H':Hp}{a:Addr}{kvs:List (PyData×V)}(h:DTr K H a kvs)(s:TK K H H')(e:H' a=H a):DTr K H' a kvs:=by
 obtain⟨l,y,xs,b,n,r⟩:=h;exact⟨l,y,xs,e.trans b,n,r.keeps s.t⟩
structure CI(K:Frag)(H0:Hp)(qs:LA)(ss:List Dd)(as af aw:Addr)(tb:Tb)(H:Hp):Prop where
 s:∀b o,H0 b=some o->H b=some o
 st:H as=some (.lst (qs.map V.ref))/\Paired (DdAt K H) qs ss
 fo:∃fs,H af=some (.lst (fs.map V.ref))/\Paired (λp(x:Dd×List Nat)=>DdAt K H p x.1) fs tb
 wo:∃kvs,DTr K H aw kvs/\Paired (λ(x:Dd×List Nat)(kv:PyData×V)=>kv.1=dat x.1/\∃p,kv.2=.ref p/\p≠af/\H p=some (.lst (x.2.map λn=>V.int (n:Nat)))) tb kvs
 n1:H0 as=none
 n2:H0 af=none
 n3:H0 aw=none
 x1:as≠af
theorem CI.up{K:Frag}{f H H':Hp}{d:LA}{ss:List Dd}{as a c:Addr}{tb:Tb}(h:CI K f d ss as a c tb H)(s:Same H H'):CI K f d ss as a c tb H':=by
 obtain⟨l,⟨b1,b2⟩,⟨fs,n,x⟩,⟨kvs,i,v⟩,q,m,j,u⟩:=h;exact⟨λb o e=>s _ _ (l _ _ e),⟨s _ _ b1,Paired.mapP b2 λ_ _ z=>z.up s⟩,⟨fs,s _ _ n,Paired.mapP x λ_ _ z=>z.up s⟩,⟨kvs,i.up s,Paired.mapP v λ_ _ z=>let ⟨k,p,g,y,r⟩:=z;⟨k,p,g,y,s _ _ r⟩⟩,q,m,j,u⟩
theorem Ku{H:Hp}{d:Addr}{x:Dd}:∀{tb:Tb}{kvs:List (PyData×V)},Paired (λ(x:Dd×List Nat)(a:PyData×V)=>a.1=dat x.1/\∃p,a.2=.ref p/\p≠d/\H p=some (.lst (x.2.map λn=>V.int (n:Nat)))) tb kvs ->
  (x∉tb.map (·.1)/\vT kvs (dat x)=none)\/∃w p,(x,w)∈tb/\vT kvs (dat x)=some (.ref p)/\p≠d/\H p=some (.lst (w.map λn=>V.int (n:Nat))):=by
 intro tb kvs h
 induction h with
 |nil=>exact .inl ⟨by simp,rfl⟩
 | @cons y a tb kvs i _ k =>
  obtain⟨e1,p,f,j,e⟩:=i
  by_cases z:y.1=x
  ·refine .inr ⟨y.2,p,by rw[←z];exact .head _,?_,j,e⟩;rw[gX (by rw[e1,z]),f]
  ·have g:¬ a.1=dat x:=λq=>z (Aq.mp (e1.symm.trans q));rw[gE g];rcases k with⟨c,b⟩|⟨w,p,c,b⟩
   ·exact .inl ⟨by rw[zK,xE,not_or];exact⟨λq=>z q.symm,c⟩,b⟩
   ·exact .inr ⟨w,p,.tail _ c,b⟩
theorem Kt{d:Nat}{x:Dd}{w:List Nat}{tb:Tb}{ks:Dd×Nat}(h:(tb.map (·.1)).Nodup):((nxt d x w tb ks).map (·.1)).Nodup:=by
 unfold nxt;split
 ·exact h
 ·next q =>
  rw[yM,sI];refine⟨h,by simp,λy b z a=>?_⟩;simp only[List.map_cons,List.map_nil,List.mem_singleton]at a;rw[a];exactλe=>q (e ▸ b)
theorem Ks{d:Nat}{x:Dd}{w:List Nat}:∀(l:List (Dd×Nat))(tb:Tb),(tb.map (·.1)).Nodup->((l.foldl (nxt d x w) tb).map (·.1)).Nodup
 |[],_,h=>h
 |k:: l,tb,h=>Ks l _ (Kt h)
theorem Kr{d:Nat}{x:Dd}{w:List Nat}{tb:Tb}{ks:Dd×Nat}{G:Dd->Prop}(h:∀y∈tb,G y.1)(b:G (nD d x ks.1)):∀y∈nxt d x w tb ks,G y.1:=by
 unfold nxt;split
 ·exact h
 ·intro y a;rcases pY.mp a with a|a
  ·exact h y a
  ·rw[pW.mp a];exact b
theorem Ud{tb:Tb}(h:(tb.map (·.1)).Nodup){i:Nat}{x:Dd}{w b:List Nat}(e:tb[i]?=some (x,w))(m:(x,b)∈tb):w=b:=by
 obtain⟨j,a⟩:=yB m;have e1:(tb.map (·.1))[i]?=some x:=by rw[zC,e];rfl
 have c:(tb.map (·.1))[j]?=some x:=by rw[zC,a];rfl
 have hi:i<(tb.map (·.1)).length:=(zqa e1).1;have:i=j:=(sJ hi h).mp (e1.trans c.symm);subst this;rw[e]at a;cases a;rfl
theorem Uc{d:Nat}{ss:List Dd}{n i:Nat}{tb:Tb}(h:tb.length<=i):mG d ss n i tb=tb:=by
 cases n with
 |zero=>rfl
 |succ n=>unfold mG;rw[zI ⋯]
theorem Ub{d:Nat}{ss:List Dd}{n i:Nat}{tb:Tb}(h:i<tb.length)(a:0<n):mG d ss n i tb=mG d ss (n-1) (i+1) (kO d ss tb i):=by
 obtain⟨m,rfl⟩:∃m,n=m+1:=⟨n-1,⋯⟩;show(if i<tb.length then _ else _)=_;rw[zJ h];rfl
theorem Ua{d:Nat}{ss:List Dd}{tb:Tb}{i:Nat}{x:Dd}{w:List Nat}(e:tb[i]?=some (x,w)):kO d ss tb i=ss.zipIdx.foldl (nxt d x w) tb:=by
 unfold kO;rw[e]
def part(d:Nat)(x:Dd)(w:List Nat)(ss:List Dd)(tb:Tb)(i:Nat):Tb:=(ss.zipIdx.take i).foldl (nxt d x w) tb
theorem Ao{d:Nat}{x s:Dd}{w:List Nat}{ss:List Dd}{tb:Tb}{i:Nat}(e:ss[i]?=some s):part d x w ss tb (i+1)=nxt d x w (part d x w ss tb i) (s,i):=by
 unfold part;rw[sL,rQ,e,uN];simp
theorem Vz{d:Nat}{x:Dd}{w:List Nat}{ss:List Dd}{tb:Tb}:part d x w ss tb ss.length=ss.zipIdx.foldl (nxt d x w) tb:=by
 unfold part;rw[wV (by simp)]
theorem Vy{d:Nat}{x:Dd}{w:List Nat}{ss:List Dd}{tb:Tb}(i:Nat):∃r,part d x w ss tb i=tb++r:=cL ..
theorem Kq{d:Nat}{x:Dd}{w:List Nat}{ss:List Dd}{tb:Tb}(i:Nat):(part d x w ss tb i).length<=(ss.zipIdx.foldl (nxt d x w) tb).length:=by
 have e:ss.zipIdx.foldl (nxt d x w) tb=(ss.zipIdx.drop i).foldl (nxt d x w) (part d x w ss tb i):=by
  unfold part;rw[←uN,wB]
 obtain⟨r,a⟩:=cL d x w (ss.zipIdx.drop i) (part d x w ss tb i);rw[e,a,zS];omega
def ND(tb:Tb):Prop:=(tb.map (·.1)).Nodup/\∀y∈tb,y.2.length<tb.length
theorem Vx{d:Nat}{x:Dd}{w:List Nat}{tb:Tb}{ks:Dd×Nat}(h:ND tb)(b:(x,w)∈tb):ND (nxt d x w tb ks):=by
 refine⟨Kt h.1,?_⟩;have c:=h.2 _ b;unfold nxt;split
 ·exact h.2
 ·intro y a;rw[zS];rcases pY.mp a with a|a
  ·have:=h.2 y a;simp only[List.length_cons,List.length_nil];omega
  ·rw[pW.mp a];simp only[List.length_append,List.length_cons,List.length_nil];have e:w.length<tb.length:=c;omega
theorem ok_o(T:Txt K mg t):FnOk P w K mg base CX0 2 t.a_o t.d_o ["most"] sp_o:=by
 apply T.F_o.ok sc_o
 ·obtain⟨n,rfl,c,b,a⟩:=h;refine⟨_,(oO (nV (PW.pt (fM (nN bJ (pq 0) oR (nM _)) (fL (nN bK (pq 0) (Qa (v:=(.int 200)) rfl T.g_MOST_MEMBERS) (nM _)))))
   (oO jJ)
   mB)),?_⟩
  show tIfS _ _ _ _ [some (.int n)] H;ext;rw[zP (show¬ (n:Int)<1 by omega),zP (show¬ (200:Int)<n by omega)];refine iteF (iteF ?_);exact a
theorem nZ{a b:Type}{F:a->b->Prop}{xs:List a}{ys:List b}(h:Paired F xs ys):∀{i:Nat}{x:a},xs[i]?=some x->∃y,ys[i]?=some y/\F x y:=by
 induction h with
 |nil=>intro i x e;simp at e
 |cons d _ c =>
  intro i x e;cases i with
  |zero=>cases e;exact⟨_,rfl,d⟩
  |succ i=>exact c (by simpa using e)
theorem ok_t(T:Txt K mg t):FnOk P w K mg base CX0 2 t.a_t t.d_t ["d","makers"] (sp_t K):=by
 apply T.F_t.ok sc_t
 ·obtain⟨b,d,a,ps,ms,rfl,z,k,o,hl,u⟩:=h;refine⟨_,(oM (nV (nN bP (pq 0) (mO (oJ oR (oJ oR oK))) rfl)
   (oO jJ)
   mB)
   (oO (lC yF rfl (nE (pq 1)) (nL (i:=2) sc_t.nd rfl (Or.inl rfl))
   (oO (nV (nN jM (nU T.z_len (oT (pq 2))) (pq 0) (nM _))
   (oO jJ)
   mB))))),?_⟩
  show tSeq _ _ _ [some (.int d),some (.ref a),none] H;right;refine⟨by show 2<=sizeLine;decide,λg r=>?_⟩;have j:Same H (upd H g (.tup [.int 2,.int 3])):=Same.new r;refine⟨g,_,rfl,.inr (SqT.of oQ),rfl,rfl,_,rfl,?_⟩;generalize upd H g (.tup [.int 2,.int 3])=y at j;rw[inV2,zL ⋯];refine iteF ?_;subst e1;refine lF λB eB=>?_;simp only[iSeq];ext;refine⟨b,⟨_,k.up j⟩,?_⟩;refine kX (g:=oV 2) (tb:=B) (nx:=λ_ H'=>Q .non H') (rt:=Q) (λi σ c=>∃v,σ=[some (.int d),some (.ref a),v]/\Same H c) ⟨_,rfl,j⟩ (λi σ c _⟨_,_,e⟩=>k.up e) ?_ ?_
  ·rintro i x σ c f ⟨v,rfl,e⟩;rw[zC]at f;cases hp':ps[i]? with
   |none=>rw[hp']at f;cases f
   |some q =>
    rw[hp']at f;cases f;obtain⟨m,l,n⟩:=nZ o hp';subst eB;show tIfS _ _ _ _ [some (.int d),some (.ref a),some (.ref q)] c;ext;refine Ja (DdAt.up n e) λx p=>iA p ?_
    try ext
    rw[hl m (zqb l),zL rfl];refine iteF ?_;exact e
  ·rintro σ c ⟨v,rfl,e⟩;exact u c e
noncomputable def offH(a:Addr)(H:Hp):Hp:=λb=>if b=a then none else H b
theorem cM{a:Addr}{H:Hp}:Same (offH a H) H:=λb o e=>by
 unfold offH at e
 by_cases z:b=a
 ·rw[zJ z]at e;cases e
 ·rw[zI z]at e;exact e
theorem cN{a:Addr}{d c:Hp}(s:kS a d c):Same (offH a d) (offH a c):=λb o e=>by
 unfold offH at e ⊢
 by_cases z:b=a
 ·rw[zJ z]at e;cases e
 ·rw[zI z]at e ⊢;exact s _ _ z e
theorem fC{K:Frag}{a:Addr}{H:Hp}{xs:List V}(e:H a=some (.lst xs)):TK K H (offH a H):=TK.off e (λ_ z=>by cases z) (λ_ _ z=>by cases z) λc b=>by unfold offH;rw[zI b]
def DdR(K:Frag)(a:Addr)(ms:List Dd)(j:Nat)(y:V)(H:Hp):Prop:=∃q m,y=.ref q/\ms[j]?=some m/\DdAt K (offH a H) q m
theorem DdR.mono{K:Frag}{a:Addr}{ms:List Dd}(i:Nat)(y:V)(c b:Hp)(h:DdR K a ms i y c)(s:kS a c b):DdR K a ms i y b:=let ⟨q,m,e,f,d⟩:=h;⟨q,m,e,f,d.up (cN s)⟩
theorem iR{a:Type}{F:Addr->a->Prop}{D:List a}{ys:List V}(hl:ys.length=D.length)(h:∀(j:Nat) y,ys[j]?=some y->∃p e,y=V.ref p/\D[j]?=some e/\F p e):∃ps:LA,ys=ps.map V.ref/\Paired F ps D:=by
 induction D generalizing ys with
 |nil =>
  obtain rfl:=List.eq_nil_of_length_eq_zero hl;exact⟨[],rfl,.nil⟩
 |cons m ms i =>
  obtain⟨y,ys,rfl⟩:=List.exists_cons_of_length_eq_add_one hl;obtain⟨q,l,rfl,f,d⟩:=h 0 y rfl;cases f;obtain⟨g,rfl,k⟩:=i (Nat.succ.inj hl) λj b c=>h (j+1) b c;exact⟨q:: g,rfl,.cons d k⟩
theorem Dc{K:Frag}{a:Addr}{H:Hp}{ms:List Dd}{ys:List V}(hl:ys.length=ms.length)(h:∀j y,ys[j]?=some y->DdR K a ms j y H):∃c:LA,ys=c.map V.ref/\Paired (DdAt K H) c ms:=iR hl λj y e=>by
 obtain⟨q,m,a,b,d⟩:=h j y e;exact⟨q,m,a,b,d.up cM⟩
theorem fD{H:Hp}{p:Addr}{x:V}{xs:List V}{i:Nat}{I:Int}{Q:VK}(e:H p=some (.lst xs))(a:xs[i]?=some x)(hi:I=i)(q:Q x H):rIxB K (.ref p) (.int I) H Q:=⟨false,p,_,_,_,rfl,rfl,SqB.lst e,mZ a hi,q⟩
theorem tyL{H:Hp}{p:Addr}{xs:List V}(e:H p=some (.lst xs)):tyV K "list" (.ref p) H:=.inl ⟨rfl,xs,.inl (.inl e)⟩
def CPv(K:Frag)(H0:Hp)(G:Dd->Prop)(qs:LA)(ss:List Dd)(a as af aw:Addr)(d i most:Nat)(f:Nat->Tb)(k:Nat)(σ:St)(H:Hp):Prop:=
 ∃v7 v8 v9,σ=[some (.int d),some (.ref a),some (.int most),some (.ref as),some (.ref af),some (.ref aw),some (.int i),v7,v8,v9]/\CI K H0 qs ss as af aw (f k) H/\ND (f k)/\(∀y∈f k,G y.1)
theorem ok_1c(T:Txt K mg t):FnOk P w K mg base CX0 10 t.a_1c t.d_1c pv' (sp_1c K):=by
 have g2:=@ok_1o P w K mg base t T;have q4:=@ok_1n P w K mg base t T;have l0:=@ok_1f P w K mg base t T;apply T.F_1c.ok sc_1c
 ·have d5:=hr.units;obtain⟨b,d,a,ps,ms,I,G,N,rfl,q1,h0,j2,t2,o8,o4,i6,p7,q9,s8,o2,o3,l6⟩:=h;refine⟨_,(oM (iO (i:=3) (sc:=oN s_1c) (N:=N_1c) (fr:=[]) (te:=(mJ (sp_1o K) [] E0 (oW (tVar 0) tNil))) rfl rfl (nofun) rfl sc_1c.nd rfl rfl (nofun) (nE (pq 1)) (λ_ _ _ r8=>(oS g2 hr.mo T.F_1o (oJ (pv 0) oK))))
   (oM (oX (i:=4) sc_1c.nd rfl (Or.inl rfl) (lH (oJ (oS q4 hr.mo T.F_1n (oJ (pq 0) oK)) oK)))
   (oM (oX (i:=5) sc_1c.nd rfl (Or.inr rfl) (Rm d5 (oT (pq 4)) (lH oK)))
   (oM (oX (i:=6) sc_1c.nd rfl (Or.inl rfl) oR)
   (oM (Bx yF (nN bJ (pq 6) (nU T.z_len (pq 4)) (nM _))
   (oM (lC yF rfl (hZ rfl T.z_enumerate (oJ (pq 3) oK)) (lR rfl (nO (nL (i:=7) sc_1c.nd rfl (Or.inl rfl)) (nO (nL (i:=8) sc_1c.nd rfl (Or.inl rfl)) lQ)))
   (oM (oX (i:=9) sc_1c.nd rfl (Or.inl rfl) (oS g2 hr.mo T.F_1o (oJ (oS l0 hr.mo T.F_1f (oJ (mC ix_B (pq 4) (pq 6) (λ_ _=>rfl)) (oJ (pq 8) oK))) oK)))
   (oM (nV (nN (Hc d5) (pq 9) (pq 5) rfl)
   (oM (jU (oP dL (mC (ix_T d5) (pq 5) (mC ix_B (pq 4) (pq 6) (λ_ _=>rfl)) (λ_ _=>rfl)) (lH (oJ (pq 7) oK))) (dG (pq 5) (pq 9) (Cz d5)))
   (oO (lP (iK xA xL xK jY (pq 4) (oJ (pq 9) oK)))))
   mB)
   (oO (nV (nN bK (nU T.z_len (pq 4)) (pq 2) (nM _))
   (oO jJ)
   mB)))))
   (oO (Fo (i:=6) sc_1c.nd rfl (Or.inl rfl) oR Fn))))
   (oO (nB (pq 5)))))))),?_⟩
  show tSeq _ _ _ [some (.int d),some (.ref a),some (.int I),none,none,none,none,none,none,none] H;have s9:ps.length=ms.length:=nS j2;right;exfalso;refine⟨b,⟨_,h0⟩,λas k8=>?_⟩;refine nQ (DdR K as (ms.map oZ)) k8 h0 (by rw[zqe];omega) DdR.mono ?_ ?_
  ·intro i x i0 zs e0 c0 n6 p5 n4;obtain⟨q,m9,rfl⟩:=mX e0;obtain⟨m,i4,n2⟩:=nZ j2 m9;have e6:=o8 m (zqb i4);subst eB;show mJ _ _ _ _ [some (.ref q)] i0 p5;ext;refine⟨q,m.1,m.2.1,m.2.2,rfl,DdAt.up n2 c0,by rw[e6.sq.1];omega,by rw[e6.len];omega,e6.pos,λr a8 J e9=>?_⟩;refine n4 _ _ J ⟨r,oZ m,rfl,by rw[zC,i4];rfl,?_⟩;exact DdAt.tk (show DdAt K a8 r (oZ m) from e9) (fC (J _ _ n6))
  ·intro i0 ys c0 c8 j4 d6;obtain⟨S,rfl,j9⟩:=Dc (by rw[j4,zqe,zqe];omega) d6;left;refine⟨d,rfl,q1,λa4 a8 J k7=>⟨by show 1<=sizeLine;decide,λf b7=>?_⟩⟩;have c7:Same a8 (upd a8 f (.lst [.ref a4])):=Same.new b7;have b5:(upd a8 f (.lst [.ref a4])) f=some (.lst [.ref a4]):=oQ;generalize upd a8 f (.lst [.ref a4])=c2 at*
   have e4:DdAt K c2 a4 (nK d):=DdAt.up k7 c7;have d1:=c7 _ _ (J _ _ c8);have j5:=Paired.mapP j9 λ_ _ z=>z.up (J.trans c7);have f0:=(c0.trans J).trans c7;have m2:H f=none:=by
    cases z:H f with
    |none=>rfl
    |some o=>rw[J _ _ (c0 _ _ z)]at b7;cases b7
   have m4:as≠f:=λz=>by rw[z]at c8;rw[J _ _ c8]at b7;cases b7
   subst e1;refine st λN1 e1=>?_;simp only[Iy];ext;intro g Y;have O:Same c2 (upd c2 g (mT g [])):=Same.new Y;have d8:(upd c2 g (mT g [])) g=some (mT g []):=oQ;have j8:H g=none:=by
    cases z:H g with
    |none=>rfl
    |some o=>rw[f0 _ _ z]at Y;cases Y
   generalize upd c2 g (mT g [])=e3 at*;ext;refine fD (i:=0) (O _ _ b5) rfl rfl ?_;refine⟨yV _,λa5 b0=>?_⟩;have L:Same e3 (upd e3 a5 (.lst [])):=Same.new b0;have ep:(upd e3 a5 (.lst [])) a5=some (.lst []):=oQ;have g3:a5≠f:=λz=>by rw[z,O _ _ b5]at b0;cases b0
   have e2:a5≠g:=λz=>by rw[z,d8]at b0;cases b0
   generalize upd e3 a5 (.lst [])=p6 at*;refine⟨a4,rfl,dat (nK d),jR _,(DdAt.up e4 (O.trans L)).dt,L _ _ d8,λj6 b4 g9=>?_⟩;have k9:∀b o,H b=some o->b≠g:=λb o e z=>by rw[z,j8]at e;cases e
   have g0:TK K p6 j6:=TK.off (L _ _ d8) (λ_ z=>by cases z) (λ_ _ z=>by cases z) b4;have c9:as≠g:=λz=>by rw[z]at d1;rw[d1]at Y;cases Y
   have c3:f≠g:=λz=>by rw[z]at b5;rw[b5]at Y;cases Y
   have U:CI K H S (ms.map oZ) as f g [(nK d,[])] j6:=⟨λb o e=>by rw[b4 b (k9 b o e)];exact L _ _ (O _ _ (f0 _ _ e)),⟨by rw[b4 _ c9];exact L _ _ (O _ _ d1),Paired.mapP j5 λ_ _ z=>DdAt.tk (z.up (O.trans L)) g0⟩,
    ⟨[a4],by rw[b4 _ c3];exact L _ _ (O _ _ b5),.cons (DdAt.tk (DdAt.up e4 (O.trans L)) g0) .nil⟩,⟨_,g9,.cons ⟨rfl,a5,rfl,g3,by rw[b4 _ e2];exact ep⟩ .nil⟩,k8,m2,j8,m4⟩
   clear g9 g0 ep g3 e2 b0 L d8 O Y j5 d1 e4 b5 c7 b7 k7 J j9 d6 j4 c8 c0 f0 c3 c9 k9 b4;left;subst e1;refine st λN1 e1=>Ga λB eB=>?_;refine⟨λm σ H'=>∃(i:Nat)(tb:Tb)(C v u:Option V),σ=[some (.int d),some (.ref a),some (.int I),some (.ref as),some (.ref f),some (.ref g),some (.int i),C,v,u]/\CI K H S (ms.map oZ) as f g tb H'/\mG d (ms.map oZ) (N-i) i tb=mG d (ms.map oZ) N 0 [(nK d,[])]/\ND tb/\(∀y∈tb,G y.1)/\m=N-i,
    ⟨N,0,_,none,none,none,rfl,U,rfl,⟨by simp,λy f6=>by rw[List.mem_singleton.mp f6];exact Nat.zero_lt_one⟩,λy f6=>by rw[pW.mp f6];exact p7,rfl⟩,?_⟩
   clear U;rintro m σ n5 ⟨i,tb,C,v,u,rfl,U,W,l3,o5,rfl⟩;ext;obtain⟨fs,l9,l1⟩:=U.fo;have fl:fs.length=tb.length:=nS l1;refine⟨false,f,_,rfl,SqB.lst l9,?_⟩
   try ext
   rw[zqe,fl]
   by_cases hi:i<tb.length
   case neg =>
    rw[zP ⋯];refine iteF ?_;symm;rw[Uc ⋯]at W;obtain⟨kvs,c6,b6⟩:=U.wo;refine l6 g kvs n5 U.s U.n3 c6 ?_;rw[←W];exact Paired.mapP b6 λ_ _ z=>let ⟨a3,p,Z,_,d3⟩:=z;⟨a3,p,Z,d3⟩
   rw[zL (show(i:Int)<tb.length by omega)];obtain⟨⟨x,l⟩,e0⟩:∃e2,tb[i]?=some e2:=⟨_,zqd hi⟩;have p0:=Ap d (ms.map oZ) (N-i) i tb;have o0:0<N-i:=by
    obtain⟨r,c5⟩:=p0;rw[W]at c5;rw[c5,zS]at o3;omega
   rw[Ub hi o0,Ua e0]at W;have s3:((ms.map oZ).zipIdx.foldl (nxt d x l) tb).length<=I:=by
    obtain⟨r,c5⟩:=Ap d (ms.map oZ) (N-i-1) (i+1) ((ms.map oZ).zipIdx.foldl (nxt d x l) tb);rw[W]at c5;rw[c5,zS]at o2;omega
   refine iteT ⟨λi8 H'=>∃(b8:Tb)(C v u:Option V),i8=[some (.int d),some (.ref a),some (.int I),some (.ref as),some (.ref f),some (.ref g),some (.int (i+1:Nat)),C,v,u]/\CI K H S (ms.map oZ) as f g b8 H'/\mG d (ms.map oZ) (N-(i+1)) (i+1) b8=mG d (ms.map oZ) N 0 [(nK d,[])]/\ND b8/\(∀y∈b8,G y.1),?_,?_⟩
   ·rintro i8 H' ⟨b8,C,v,u,rfl,k1,k2,k3,l8⟩;exact⟨N-(i+1),⋯,i+1,b8,C,v,u,rfl,k1,k2,k3,l8,rfl⟩
   subst eB;refine st λs0 q2=>lF λB eB=>?_;simp only[iN];ext;refine⟨false,⟨_,SqB.lst U.st.1⟩,?_⟩;refine fT (g:=gTup K 2 (nR (oV 7) (nR (oV 8) gNil))) (tb:=B) (CPv K H G S (ms.map oZ) a as f g d i I (part d x l (ms.map oZ) tb))
    ⟨_,_,_,rfl,U,l3,o5⟩ (λk σ H' _⟨_,_,_,_,c,_⟩=>SqB.lst c.st.1) ?_ ?_
   ·rintro k y p σ i7 m6 ⟨C,v,u,rfl,a1,b3,c1⟩ q8;obtain⟨q,k4,rfl⟩:=mX m6;obtain⟨j,a7,_⟩:=nZ a1.st.2 k4;have sp:=Same.new (o:=.tup [.int (k:Int),.ref q]) q8;refine⟨p,[.int k,.ref q],rfl,SqT.of oQ,rfl,_,[.ref q],rfl,_,[],rfl,rfl,?_⟩;have f2:=a1.up sp;generalize upd i7 p (.tup [.int (k:Int),.ref q])=r0 at*
    clear a1;obtain⟨r7,m5⟩:=Vy (d:=d) (x:=x) (w:=l) (ss:=ms.map oZ) (tb:=tb) k;have M:(part d x l (ms.map oZ) tb k)[i]?=some (x,l):=by rw[m5,yI hi];exact e0
    have t0:=Kq (d:=d) (x:=x) (w:=l) (ss:=ms.map oZ) (tb:=tb) k;have m7:=Kq (d:=d) (x:=x) (w:=l) (ss:=ms.map oZ) (tb:=tb) (k+1);have o7:∀C v u H',CI K H S (ms.map oZ) as f g (nxt d x l (part d x l (ms.map oZ) tb k) (j,k)) H'->G (nD d x j)->CPv K H G S (ms.map oZ) a as f g d i I (part d x l (ms.map oZ) tb) (k+1) [some (.int d),some (.ref a),some (.int I),some (.ref as),some (.ref f),some (.ref g),some (.int i),C,v,u] H':=λC v u H' c gs=>⟨C,v,u,rfl,by rw[Ao a7];exact c,by rw[Ao a7];exact Vx b3 (zqb M),by rw[Ao a7];exact Kr c1 gs⟩;rw[Ao a7]at m7;generalize CPv K H G S (ms.map oZ) a as f g d i I (part d x l (ms.map oZ) tb) (k+1)=s7 at*
    generalize part d x l (ms.map oZ) tb k=tk at*;obtain⟨h7,i1,i3⟩:∃m∈ms,oZ m=j:=by
     have:=zqb a7;obtain⟨m,q0,q3⟩:=pZ.mp this;exact⟨m,q0,q3⟩
    have i9:G x:=c1 _ (zqb M);have gs:G (nD d x j):=by rw[←i3];exact q9 x h7 i9 i1
    have l2:=i6 x i9;have fs':lY d j:=by rw[←i3];exact o4 h7 i1
    have e8:=i6 _ gs;subst eB;show tSeq _ _ _ [some (.int d),some (.ref a),some (.int I),some (.ref as),some (.ref f),some (.ref g),some (.int i),some (.int k),some (.ref q),u] r0;refine st λr6 n7=>?_;ext;obtain⟨p1,p8,j1⟩:=f2.fo;obtain⟨f1,h8⟩:∃f1,p1[i]?=some f1:=⟨_,zqd (by rw[nS j1];exact(zqa M).1)⟩;obtain⟨s2,g1,p2⟩:=nZ j1 h8;rw[M]at g1;cases g1;obtain⟨s5,i2,m3⟩:=nZ f2.st.2 k4;rw[a7]at i2;cases i2;refine fD (i:=i) p8 (by rw[zC,h8];rfl) rfl ?_;refine⟨f1,q,x.1,j.1,x.2.1,j.2.1,x.2.2,j.2.2,d,rfl,lA.s p2,lA.s m3,l2,fs',⋯,⋯,λh6 p3 q5 d6=>?_⟩;have m0:DdAt K p3 h6 (behD d x j):=d6;refine⟨h6,_,_,_,rfl,m0,?_,?_,e8.pos,λR a0 r3 e9=>?_⟩
    ·have:=e8.sq.1;show(mulM d j.1 x.1).length<=100;have:(mulM d j.1 x.1).length=d:=this;omega
    ·have:=e8.len;have e:(nX (behD d x j).2.2 (behD d x j).2.1).length=(behD d x j).2.1.length:=by unfold nX;simp
     have:(nX (behD d x j).2.2 (behD d x j).2.1).length=d:=this;omega
    have h9:DdAt K a0 R (nD d x j):=e9;have d4:=f2.up (q5.trans r3);subst n7;show tSeq _ _ _ [some (.int d),some (.ref a),some (.int I),some (.ref as),some (.ref f),some (.ref g),some (.int i),some (.int k),some (.ref q),some (.ref R)] a0;refine st λl7 r1=>?_;have k0:∀H',CI K H S (ms.map oZ) as f g (nxt d x l tk (j,k)) H'->l7 [some (.int d),some (.ref a),some (.int I),some (.ref as),some (.ref f),some (.ref g),some (.int i),some (.int k),some (.ref q),some (.ref R)] H':=by
     intro H' g5;subst r1;ext;obtain⟨t1,o6,q6⟩:=g5.fo;refine⟨false,f,_,rfl,SqB.lst o6,?_⟩
     try ext
     rw[zqe,nS q6,zP ⋯];refine iteF ?_;exact o7 _ _ _ H' g5 gs
    ext;obtain⟨kvs,c6,b6⟩:=d4.wo;refine Kv c6 (jR _) h9.dt ?_;rcases Ku (x:=nD d x j) b6 with⟨a3,Z⟩|⟨n0,j3,a3,Z,g6,d3⟩
    case inr =>
     rw[Z]
     try ext
     refine k0 a0 ?_;have e7:nxt d x l tk (j,k)=tk:=zJ (pZ.mpr ⟨_,a3,rfl⟩);rw[e7];exact d4
    rw[Z]
    try ext
    rw[zJ (by rfl)];obtain⟨a2,e5,d9⟩:=d4.fo;obtain⟨h3,j0⟩:∃h3,a2[i]?=some h3:=⟨_,zqd (by rw[nS d9];exact(zqa M).1)⟩;obtain⟨s4,g4,n9⟩:=nZ d9 j0;rw[M]at g4;cases g4;refine fD (i:=i) e5 (by rw[zC,j0];rfl) rfl ?_;rcases Ku (x:=x) b6 with⟨f3,_⟩|⟨n0,j3,f3,o9,s1,r5⟩
    ·exact absurd (pZ.mpr ⟨_,zqb M,rfl⟩) f3
    have p4:=Ud b3.1 M f3;subst p4;have t3:l.length<tk.length:=b3.2 _ (zqb M);have r9:tk.length=kvs.length:=nS b6;have hsz:1000<=sizeLine:=∅
    refine De c6 (jR _) (DdAt.dt n9) o9 ?_;refine⟨by show 1<=sizeLine;decide,λc4 l5=>?_⟩;have d0:Same a0 (upd a0 c4 (.lst [.int k])):=Same.new l5;have m1:(upd a0 c4 (.lst [.int k])) c4=some (.lst [.int k]):=oQ;generalize upd a0 c4 (.lst [.int k])=d7 at*
    refine⟨j3,c4,_,_,rfl,rfl,d0 _ _ r5,m1,by rw[zqe];show l.length+1<=sizeLine;omega,λD f8=>?_⟩;have k5:Same d7 (upd d7 D (.lst ((l.map λn=>V.int (n:Nat))++[.int k]))):=Same.new f8;have k6:(upd d7 D (.lst ((l.map λn=>V.int (n:Nat))++[.int k]))) D=some (.lst ((l.map λn=>V.int (n:Nat))++[.int k])):=oQ;have F:=d4.up (d0.trans k5);have i5:D≠f:=λz=>by rw[z,d0 _ _ e5]at f8;cases f8
    generalize upd d7 D (.lst ((l.map λn=>V.int (n:Nat))++[.int k]))=f4 at*;have b9:=d0.trans k5;have h1:=c6.up b9;have l4:=Paired.mapP b6 λ_ _ z=>(let ⟨a3,p,Z,g6,d3⟩:=z;⟨a3,p,Z,g6,b9 _ _ d3⟩:_/\∃p,_/\p≠f/\f4 p=_);have g7:=DdAt.up h9 b9;have f9:=b9 _ _ e5;have n1:=Paired.mapP d9 λ_ _ z=>DdAt.up z b9;simp only[gSub];ext;have e7:nxt d x l tk (j,k)=tk++[(nD d x j,l++[k])]:=zI a3;have n3:pT kvs (dat (nD d x j)) (.ref D)=kvs++[(dat (nD d x j),.ref D)]:=by
     unfold pT;rw[Z];rfl
    obtain⟨s6,d2,_,_⟩:=h1.ex;have c3:f≠g:=λz=>by rw[z,d2]at f9;cases f9
    have c9:as≠g:=λz=>by have:=F.st.1;rw[z,d2]at this;cases this
    refine⟨g,kvs,R,dat (nD d x j),rfl,rfl,h1,jR _,g7.dt,⋯,λX _ a9 h4=>?_⟩;rw[n3]at h4;have q7:DTr K X g (kvs++[(dat (nD d x j),V.ref D)]):=h4;have p9:TK K f4 X:=TK.off d2 (λ_ z=>by cases z) (λ_ _ z=>by cases z) a9;have f5:X f=some (.lst (a2.map V.ref)):=by rw[a9 f c3];exact f9
    refine⟨tyL f5,f,_,_,rfl,rfl,f5,by rw[zqe,nS d9];omega,k0 _ ?_⟩;rw[e7];have a6:∀c,c≠f->upd X f (.lst (a2.map V.ref++[.ref R])) c=X c:=λc W=>oU W;have r2:upd X f (.lst (a2.map V.ref++[.ref R])) f=some (.lst (a2.map V.ref++[.ref R])):=oQ;generalize upd X f (.lst (a2.map V.ref++[.ref R]))=o1 at*
    have h5:TK K X o1:=TK.off f5 (λ_ z=>by cases z) (λ_ _ z=>by cases z) a6;have f7:=p9.trans h5;have h2:∀p xs,f4 p=some (.lst xs)->p≠g:=λp xs e z=>by rw[z,d2]at e;cases e
    refine⟨λb o e=>?_,⟨?_,Paired.mapP F.st.2 λ_ _ z=>DdAt.tk z f7⟩,⟨a2++[R],by rw[r2];simp,vW (Paired.mapP n1 λ_ _ z=>DdAt.tk z f7) (DdAt.tk g7 f7)⟩,⟨kvs++[(dat (nD d x j),V.ref D)],DTr.tk q7 h5 (a6 g (zW c3)),vW (Paired.mapP l4 λ_ _ z=>?_) ⟨rfl,D,rfl,i5,?_⟩⟩,F.n1,F.n2,F.n3,F.x1⟩
    ·have b1:b≠f:=λz=>by rw[z,F.n2]at e;cases e
     have b2:b≠g:=λz=>by rw[z,F.n3]at e;cases e
     rw[a6 b b1,a9 b b2];exact F.s b o e
    ·rw[a6 as F.x1,a9 as c9];exact F.st.1
    ·obtain⟨r4,p,m8,j7,g8⟩:=z;refine⟨r4,p,m8,j7,?_⟩;rw[a6 p j7,a9 p (h2 _ _ g8)];exact g8
    ·rw[a6 D i5,a9 D (h2 _ _ k6),k6];simp
   ·rintro σ i7 ⟨C,v,u,rfl,a1,b3,c1⟩;have n8:(S.map V.ref).length=(ms.map oZ).length:=by rw[zqe];exact nS a1.st.2
    rw[n8,Vz]at a1 b3 c1;subst q2;refine⟨.int i,rfl,?_⟩;unfold tC ipI;refine⟨i,1,rfl,rfl,?_⟩;refine⟨_,C,v,u,rfl,a1,?_,b3,c1⟩;rw[show N-(i+1)=N-i-1 by omega];exact W
theorem An:∀{l a:LI'},l.length=a.length->smA (l.map PyData.int) (a.map PyData.int)=true
 |[],[],_=>rfl
 |_:: l,_:: a,h=>by
  show(sm (.int _) (.int _) && smA (l.map PyData.int) (a.map PyData.int))=true;rw[An (by simpa using h)];rfl
theorem Kp{d:Nat}:∀{M a:LM},M.length=a.length->(∀r∈M,r.length=d)->(∀r∈a,r.length=d)->smA (M.map λr=>PyData.tuple (r.map PyData.int)) (a.map λr=>PyData.tuple (r.map PyData.int))=true
 |[],[],_,_,_=>rfl
 |r:: M,c:: a,h,e,f=>by
  show(smA (r.map PyData.int) (c.map PyData.int) && smA (M.map λr=>PyData.tuple (r.map PyData.int)) (a.map λr=>PyData.tuple (r.map PyData.int)))=true;rw[An ((e r (.head _)).trans (f c (.head _)).symm),Kp (by simpa using h) (λx b=>e x (.tail _ b)) λx b=>f x (.tail _ b)];rfl
theorem Vw{d:Nat}{x y:Dd}(b:lY d x)(a:lY d y):sm (dat x) (dat y)=true:=by
 show(smA (x.1.map λr=>PyData.tuple (r.map PyData.int)) (y.1.map λr=>PyData.tuple (r.map PyData.int)) && (smA (x.2.1.map PyData.int) (y.2.1.map PyData.int) && (sm (.int _) (.int _) && true)))=true;rw[Kp (b.sq.1.trans a.sq.1.symm) b.sq.2 a.sq.2,An (b.len.trans a.len.symm)];rfl
noncomputable def Vv(d:Nat)(lg lo ls ln:Addr):List (Str×V):=[(Str.ofString "dimension",.int d),(Str.ofString "given",.ref lg),(Str.ofString "ordered",.ref lo),(Str.ofString "shortest",.ref ls),(Str.ofString "numbers",.ref ln)]
noncomputable abbrev fG1(d:Nat):List (Str×V):=[(Str.ofString "dimension",.int d)]
noncomputable abbrev fG2(d:Nat)(lg:Addr):List (Str×V):=[(Str.ofString "dimension",.int d),(Str.ofString "given",.ref lg)]
noncomputable abbrev fG3(d:Nat)(lg lo:Addr):List (Str×V):=[(Str.ofString "dimension",.int d),(Str.ofString "given",.ref lg),(Str.ofString "ordered",.ref lo)]
noncomputable abbrev fG4(d:Nat)(lg lo ls:Addr):List (Str×V):=[(Str.ofString "dimension",.int d),(Str.ofString "given",.ref lg),(Str.ofString "ordered",.ref lo),(Str.ofString "shortest",.ref ls)]
noncomputable abbrev fG5(d:Nat)(lg lo ls ln:Addr):List (Str×V):=[(Str.ofString "dimension",.int d),(Str.ofString "given",.ref lg),(Str.ofString "ordered",.ref lo),(Str.ofString "shortest",.ref ls),(Str.ofString "numbers",.ref ln)]
def numT(srt:Tb)(n:Nat):List (PyData×V):=(srt.zipIdx n).map λp=>(dat p.1.1,V.int ((p.2:Nat):Int))
structure GrpF(K:Frag)(t:Adr)(H:Hp)(g:Addr)(d:Nat)(ms:List Dd)(srt:Tb):Prop where
 ex:∃dx lg lo ls ln,H g=some (.ins t.a_b dx (Vv d lg lo ls ln))/\(∃gs:LA,H lg=some (.lst (gs.map V.ref))/\Paired (DdAt K H) gs ms) /\
  (∃os:LA,H lo=some (.lst (os.map V.ref))/\Paired (λp x=>Dt K H (.ref p) (dat x.1)) os srt) /\
  (∃ws:LA,H ls=some (.lst (ws.map V.ref))/\Paired (λp(x:Dd×List Nat)=>H p=some (.lst (x.2.map λn=>V.int (n:Nat)))) ws srt)/\DTr K H ln (numT srt 0)
def Ko(K:Frag)(t:Adr):Sp:=λvs H Q _=>E9 λ(b:Bool)(d:Nat)(a x dx:Addr)(ps:LA)(ms:List Dd)(G:Dd->Prop)(N:Nat)=>A16 (vs=[.ref x,.int d,.ref a,.int 200]) (H x=some (.ins t.a_b dx [])) ((d=2\/d=3)) (SqB b K H a (ps.map V.ref)) (Paired (DdAt K H) ps ms) (ms.length<=200) ((∀s∈ms,lY d s)) ((∀s∈ms,lY d (oZ s))) ((∀x,G x->lY d x)) (G (nK d)) ((∀x s,G x->s∈ms->G (nD d x (oZ s)))) ((mG d (ms.map oZ) N 0 [(nK d,[])]).length<=200) ((mG d (ms.map oZ) N 0 [(nK d,[])]).length<=N) ((∀y∈mG d (ms.map oZ) N 0 [(nK d,[])],lY d y.1)) (((mG d (ms.map oZ) N 0 [(nK d,[])]).map (·.1)).Nodup) (∀srt H',(∀b o,b≠x->H b=some o->H' b=some o)->GrpF K t H' x d ms srt->srt.Perm (mG d (ms.map oZ) N 0 [(nK d,[])])->Q .non H')
theorem Db{c d:Type}{f:c->d}:∀{l:List d}{tb:List c},l.Perm (tb.map f)->∃srt:List c,srt.Perm tb/\srt.map f=l
 |[],tb,h=>by
  have:=h.length_eq;rw[zqe]at this;exact⟨[],by rw[List.length_eq_zero_iff.mp this.symm],rfl⟩
 | b:: l,tb,h=>by
  obtain⟨a,i,e⟩:=pZ.mp (h.mem_iff.mp (zV));obtain⟨s,r,rfl⟩:=List.append_of_mem i;have g:(b:: l).Perm (b:: (s++r).map f):=by
   refine h.trans ?_;rw[yM,zK,e,yM];exact List.perm_middle
  obtain⟨srt,p,q⟩:=Db (List.Perm.cons_inv g);exact⟨a:: srt,(List.Perm.cons a p).trans List.perm_middle.symm,by rw[zK,e,q]⟩
def KX(x:Addr)(H H':Hp):Prop:=∀b o,b≠x->H b=some o->H' b=some o
theorem KX.same{x:Addr}{H H':Hp}(s:Same H H'):KX x H H':=λb o _ e=>s b o e
theorem KX.put{x:Addr}{H:Hp}{o:HO}:KX x H (upd H x o):=λb c a e=>by rw[oU a];exact e
theorem KX.trans{x:Addr}{H f d:Hp}(a:KX x H f)(b:KX x f d):KX x H d:=λc o g e=>b c o g (a c o g e)
theorem KX.tk{K:Frag}{x C c:Addr}{fs:List (Str×V)}{H H':Hp}(k:KX x H H')(e:H x=some (.ins C c fs)):TK K H H':=by
 have a:∀b xs,H b=some (.tup xs)->H' b=some (.tup xs):=λb xs q=>k b _ (λz=>by rw[z,e]at q;cases q) q;refine⟨a,λb xs q=>?_⟩;rcases q with(q|⟨d,q⟩)|q
 ·exact .inl (.inl (a _ _ q))
 ·exact .inl (.inr ⟨d,k b _ (λz=>by rw[z,e]at q;cases q) q⟩)
 ·exact .inr q
theorem Vu{H:Hp}{x:Dd}{w:List Nat}{p:Addr}:∀{tb:Tb}{kvs:List (PyData×V)},TbAt H tb kvs->(tb.map (·.1)).Nodup->(x,w)∈tb->vT kvs (dat x)=some (.ref p)->H p=some (.lst (w.map λn=>V.int (n:Nat))):=by
 intro tb kvs h
 induction h with
 |nil=>intro _ a;cases a
 |@cons y f tb kvs i _ j =>
  intro b a e;obtain⟨e1,q,d,c⟩:=i;rw[zK,rM]at b;rcases xE.mp a with a|a
  ·rw[←a]at e1 c;rw[gX e1,d]at e;cases e;exact c
  ·have g:¬ f.1=dat x:=λq=>b.1 (by rw[Aq.mp (e1.symm.trans q)];exact pZ.mpr ⟨_,a,rfl⟩);rw[gE g]at e;exact j b.2 a e
theorem Vt{K:Frag}{H:Hp}{C x d a:Addr}{fs:List (Str×V)}{o:HO}{b:Bool}{xs:List V}(e:H x=some (.ins C d fs))(h:SqB b K H a xs):SqB b K (upd H x o) a xs:=by
 cases b with
 |false =>
  rcases(show SqL K H a xs from h) with(h|⟨c,h⟩)|h
  ·exact(.inl (.inl (by rw[oU (λz=>by rw[z,e]at h;cases h)];exact h)):SqL K (upd H x o) a xs)
  ·exact(.inl (.inr ⟨c,by rw[oU (λz=>by rw[z,e]at h;cases h)];exact h⟩):SqL K (upd H x o) a xs)
  ·exact(.inr h:SqL K (upd H x o) a xs)
 |true =>
  rcases(show SqT K H a xs from h) with(h|⟨c,h⟩)|h
  ·exact(.inl (.inl (by rw[oU (λz=>by rw[z,e]at h;cases h)];exact h)):SqT K (upd H x o) a xs)
  ·exact(.inl (.inr ⟨c,by rw[oU (λz=>by rw[z,e]at h;cases h)];exact h⟩):SqT K (upd H x o) a xs)
  ·exact(.inr h:SqT K (upd H x o) a xs)
theorem Kn{H:Hp}{v:V}{ds:List PyData}(h:Dt K H v (.tuple ds)):∃q,v=V.ref q:=by
 cases h;exact⟨_,rfl⟩
theorem eP{H:Hp}{σ:St}{i:Nat}{C x a:Addr}{fs:List (Str×V)}{f:Str}{v:V}{Q:VK}(b:σ[i]?=some (some (V.ref x)))(e:H x=some (.ins C a fs))(c:Cls K C)(n:gQ K C f)(l:fs.lookup f=some v)(q:Q v H):tFld K (tVar i) f σ H Q:=⟨_,b,x,C,a,fs,v,rfl,e,c,n,l,q⟩
theorem Vs{H:Hp}:∀{tb:Tb}{kvs:List (PyData×V)},TbAt H tb kvs->∀y∈tb,∃p,vT kvs (dat y.1)=some (V.ref p):=by
 intro tb kvs h
 induction h with
 |nil=>intro y a;cases a
 | @cons z c tb kvs e _ d =>
  intro y a;obtain⟨e1,p,b,_⟩:=e
  by_cases q:c.1=dat y.1
  ·exact⟨p,by rw[gX q,b]⟩
  ·rw[gE q];rcases xE.mp a with a|a
   ·exact absurd (by rw[e1,a]) q
   ·exact d y a
theorem Vr{K:Frag}{H:Hp}{ps:List (V×PyData)}{zs:List V}{n:Nat}(hl:zs.length=ps.length)(c:∀p∈ps,tT 4 p.2=true/\Dt K H p.1 p.2/\∃q,p.1=V.ref q)(d:∀j y,zs[j]?=some y->∃p m,y=V.ref p/\ps[j]?=some m/\H p=some (.tup [m.1,.int ((n+j:Nat):Int)])):
  ∃ts:List (Addr×PyData×Addr×V),zs=ts.map (λt=>V.ref t.1)/\(ts.map (·.2.1)=ps.map (·.2)/\ts.map (λt=>(t.2.1,t.2.2.2))=(ps.zipIdx n).map λp=>(p.1.2,V.int ((p.2:Nat):Int)))/\∀t∈ts,SqT K H t.1 [.ref t.2.2.1,t.2.2.2]/\tT 4 t.2.1=true/\Dt K H (.ref t.2.2.1) t.2.1:=by
 induction ps generalizing zs n with
 |nil =>
  obtain rfl:=List.eq_nil_of_length_eq_zero hl;exact⟨[],rfl,⟨rfl,rfl⟩,λ_ h=>nomatch h⟩
 | cons p ps C =>
  obtain⟨z,zs,rfl⟩:=List.exists_cons_of_length_eq_add_one hl;obtain⟨a,m,e1,u,e⟩:=d 0 z rfl;cases u;obtain⟨D,f,q,v⟩:=c p (.head _);obtain⟨ts,I,⟨l,L⟩,o⟩:=C (zs:=zs) (n:=n+1) (Nat.succ.inj hl) (λx g=>c x (.tail _ g)) λj y k=>by
   obtain⟨F,r,G,i,J⟩:=d (j+1) y k;exact⟨F,r,G,i,by rw[J,show n+(j+1)=n+1+j by omega]⟩
  rw[v]at e f;refine⟨(a,p.2,q,.int ((n+0:Nat):Int)):: ts,by rw[e1,I];rfl,⟨by rw[zK,zK,l],by rw[zK,uB,zK,L];rfl⟩,λt b=>?_⟩;rcases xE.mp b with b|b
  ·rw[b];exact⟨SqT.of e,D,f⟩
  ·exact o t b
theorem ord_of{K:Frag}{H:Hp}:∀{ps:List (V×PyData)}{srt:Tb},(srt.map λy=>dat y.1)=ps.map (·.2)->(∀p∈ps,Dt K H p.1 p.2/\(∃q,p.1=V.ref q))->∃a:LA,ps.map (·.1)=a.map V.ref/\Paired (λp(x:Dd×List Nat)=>Dt K H (.ref p) (dat x.1)) a srt
 |[],[],_,_=>⟨[],rfl,.nil⟩
 |[],_:: _,h,_=>by simp at h
 |_:: _,[],h,_=>by simp at h
 |p:: ps,y:: srt,e,h=>by
  rw[zK,zK,yO]at e;obtain⟨a,e1,f⟩:=ord_of (ps:=ps) (srt:=srt) e.2 λx d=>h x (.tail _ d);obtain⟨c,q,b⟩:=h p (.head _);rw[b,←e.1]at c;exact⟨q:: a,by rw[zK,zK,e1,b],.cons c f⟩
theorem Vq{H:Hp}{kvs:List (PyData×V)}{srt:Tb}{ys:List V}(hl:ys.length=srt.length)(h:∀(j:Nat) y,ys[j]?=some y->∃p m,y=V.ref p/\srt[j]?=some m/\vT kvs (dat m.1)=some (V.ref p))
  (f:∀m∈srt,∀p,vT kvs (dat m.1)=some (V.ref p)->H p=some (.lst (m.2.map λn=>V.int (n:Nat)))):∃d:LA,ys=d.map V.ref/\Paired (λp(x:Dd×List Nat)=>H p=some (.lst (x.2.map λn=>V.int (n:Nat)))) d srt:=iR hl λj y e=>by
 obtain⟨p,m,a,b,c⟩:=h j y e;exact⟨p,m,a,b,f m (zqb b) p c⟩
theorem Km:∀{srt:Tb}{ps:List (V×PyData)},(srt.map λy=>dat y.1)=ps.map (·.2)->∀n,((srt.zipIdx n).map λp=>(dat p.1.1,V.int ((p.2:Nat):Int)))=(ps.zipIdx n).map λp=>(p.1.2,V.int ((p.2:Nat):Int))
 |[],[],_,_=>rfl
 |[],_:: _,h,_=>by simp at h
 |_:: _,[],h,_=>by simp at h
 |y:: srt,p:: ps,e,n=>by
  rw[zK,zK,yO]at e;rw[uB,uB,zK,zK,Km e.2 (n+1),e.1]
structure GI(K:Frag)(H0:Hp)(C x dx wd:Addr)(fs:List (Str×V))(tb:Tb)(kvs:List (PyData×V))(H:Hp):Prop where
 hx:H x=some (.ins C dx fs)
 s:∀b o,b≠x->H0 b=some o->H b=some o
 D:DTr K H wd kvs
 T:TbAt H tb kvs
theorem GI.up{K:Frag}{d H H':Hp}{C x a c:Addr}{fs:List (Str×V)}{tb:Tb}{kvs:List (PyData×V)}(h:GI K d C x a c fs tb kvs H)(s:Same H H'):GI K d C x a c fs tb kvs H':=
 ⟨s _ _ h.hx,λb o i e=>s _ _ (h.s b o i e),h.D.up s,Paired.mapP h.T λ_ _ z=>let ⟨g,p,f,j⟩:=z;⟨g,p,f,s _ _ j⟩⟩
theorem Am{K:Frag}{H:Hp}{C x a:Addr}{fs fs':List (Str×V)}(e:H x=some (.ins C a fs)):TK K H (upd H x (.ins C a fs')):=TK.off e (λ_ z=>by cases z) (λ_ _ z=>by cases z) λ_ b=>oU b
theorem GI.put{K:Frag}{g H:Hp}{C x a c:Addr}{fs:List (Str×V)}{tb:Tb}{kvs:List (PyData×V)}(h:GI K g C x a c fs tb kvs H)(fs':List (Str×V)):GI K g C x a c fs' tb kvs (upd H x (.ins C a fs')):=by
 have k:c≠x:=λz=>by
  obtain⟨_,_,xs,e,_⟩:=h.D;rw[z,h.hx]at e;cases e
 refine⟨oQ,λb o f e=>?_,DTr.tk h.D (Am h.hx) (oU k),Paired.mapP h.T λ_ _ z=>?_⟩
 ·rw[oU f];exact h.s b o f e
 ·obtain⟨j,p,i,d⟩:=z;have:p≠x:=λq=>by rw[q,h.hx]at d;cases d
  exact⟨j,p,i,by rw[oU this];exact d⟩
theorem ok_0(T:Txt K mg t):FnOk P w K mg base CX0 12 t.a_0 t.d_0 ph' (Ko K t):=by
 have l2:=@ok_o P w K mg base t T;have k4:=@ok_t P w K mg base t T;have k1:=@ok_1c P w K mg base t T;apply T.F_0.ok sc_0
 ·have c1:=hr.units;obtain⟨b,d,a,x,g,ps,ms,G,N,rfl,f6,f8,b8,c6,d5,f1,j6,f2,f4,l5,m3,j5,j3,e3,g7⟩:=h;refine⟨_,(oM (lP (oS l2 hr.mo T.F_o (oJ (pv 3) oK)))
   (oM (lP (oS k4 hr.mo T.F_t (oJ (pv 1) (oJ (pv 2) oK))))
   (oM (oX (i:=4) sc_0.nd rfl (Or.inr rfl) (oS k1 hr.mo T.F_1c (oJ (pv 1) (oJ (pv 2) (oJ (pv 3) oK)))))
   (oM (dI (pv 0) (pv 1) rfl)
   (oM (dI (pv 0) (mP gC rfl T.z_list (nofun) (oJ (pv 2) oK)) rfl)
   (oM (dI (pv 0) (lJ (Jw (N:=200) Kw c1 rfl) rfl T.z_sorted (nofun) (oJ (pv 4) oK)) rfl)
   (oM (dI (pv 0) (nP (sc:=oN s_0) (N:=N_0) (fr:=[("words",4)]) (te:=(tOp (aK K) (tVar 1) (tVar 0))) rfl rfl (nofun) rfl (nofun) (nE (fP (pv 0) rfl)) (λ_ _ _ a0=>(mC (ix_T c1) (pv 1) (pv 0) (λ_ _=>rfl)))) rfl)
   (oO (dI (pv 0) (mP (Tk c1 rfl) rfl T.z_dict (nofun) (oJ (kQ (xs:=["number","member"]) (fr:=[]) (g:=(gTup K 2 (nR (oV 0) (nR (oV 1) gNil)))) (tt:=(tEl (tTup (oW (tVar 1) (oW (tVar 0) tNil))))) (lL (sc:=oN s_0) (N:=N_0) rfl rfl (nofun)) rfl (hZ rfl T.z_enumerate (oJ (fP (pv 0) rfl) oK)) (λ_ _ _ a0=>(lR rfl (nO (kR (N:=["number","member"]) (i:=0) a0 rfl (nofun)) (nO (kR (N:=["number","member"]) (i:=1) a0 rfl (nofun)) lQ)))) (λ_ _ _ a0=>(lU (mO (oJ (pv 1) (oJ (pv 0) oK)))))) oK)) rfl))))))))),?_⟩
  show tSeq _ _ _ [some (.ref x),some (.int d),some (.ref a),some (.int 200),none] H;right;refine⟨200,rfl,∅,∅,?_⟩;left;refine⟨b,d,a,ps,ms,rfl,f8,b8,c6,λs k3=>(f1 s k3).sq.1,λm5 b5=>?_⟩;left;refine⟨b,d,a,ps,ms,200,G,N,rfl,f8,b8.up b5,Paired.mapP c6 λ_ _ z=>z.up b5,d5,f1,j6,f2,f4,l5,zE _,⋯,j5,λc7 kvs Z g3 m9 i0 l0=>?_⟩;generalize mG d (ms.map oZ) N 0 [(nK d,[])]=tb at*
  have c0:=b5.trans g3;have d3:=c0 _ _ f6;subst e1;refine st λN1 e1=>?_;simp only[sFld];ext;have f5:GI K H t.a_b x g c7 [] tb kvs Z:=⟨d3,λb o _ e=>c0 _ _ e,i0,l0⟩;refine⟨_,_,_,d3,T.cl_b,T.h_3,∅,?_⟩;have f0:=f5.put (fG1 d);have sq3:SqB b K (upd Z x (.ins t.a_b g (fG1 d))) a (ps.map V.ref):=Vt d3 (b8.up c0);show N1 _ (upd Z x (.ins t.a_b g (fG1 d)));generalize upd Z x (.ins t.a_b g (fG1 d))=a2 at*
  clear f5;subst e1;refine st λN1 e1=>?_;simp only[sFld];ext;refine⟨b,a,_,rfl,sq3,λc c8=>?_⟩;have i8:Same a2 (upd a2 c (.lst (ps.map V.ref))):=Same.new c8;have g8:(upd a2 c (.lst (ps.map V.ref))) c=some (.lst (ps.map V.ref)):=oQ;have k7:c≠x:=λz=>by rw[z,f0.hx]at c8;cases c8
  have f7:=f0.up i8;generalize upd a2 c (.lst (ps.map V.ref))=I at*
  refine⟨_,_,_,f7.hx,T.cl_b,T.h_c,by show 1<1000;decide,?_⟩;have Y:=f7.put (fG2 d c);have i9:KX x I (upd I x (.ins t.a_b g (fG2 d c))):=KX.put;show N1 _ (upd I x (.ins t.a_b g (fG2 d c)));generalize upd I x (.ins t.a_b g (fG2 d c))=m8 at*
  subst e1;refine st λN1 e1=>?_;simp only[sFld];ext;have m7:tb.length=kvs.length:=nS Y.T;have d6:∀D∈kvs,∃y∈tb,D.1=dat y.1:=λD W=>by
   obtain⟨y,U,z⟩:=Cb Y.T D W;exact⟨y,U,z.1⟩
  have i2:=f2 _ f4;refine⟨c7,kvs,[.tuple ((List.replicate d (0:Int)).map PyData.int),.int 1],(idM d).map (λr=>PyData.tuple (r.map PyData.int)),rfl,⋯,Y.D,λD W=>?_,λlo u X d1 m6 a4 a9 a1 m1=>?_⟩
  ·obtain⟨y,U,e⟩:=d6 D W;rw[e];exact Vw i2 (j3 y U)
  have a7:=Y.up d1;have i7:=i9.trans (KX.same d1);refine⟨_,_,_,a7.hx,T.cl_b,T.h_6,by show 2<1000;decide,?_⟩;have pl:u.length<=200:=by
   have:=a1.length_eq;rw[zqe,zqe]at this;omega
  have m2:=a4;have R:=a7.put (fG3 d c lo);have d0:lo≠x:=λz=>by rw[z,a7.hx]at a4;cases a4
  have h5:KX x I (upd X x (.ins t.a_b g (fG3 d c lo))):=i7.trans KX.put;have b3:(upd X x (.ins t.a_b g (fG3 d c lo))) lo=some (.lst (u.map (·.1))):=by rw[oU d0];exact a4
  have O:∀p∈u,tT 4 p.2=true/\Dt K (upd X x (.ins t.a_b g (fG3 d c lo))) p.1 p.2:=λp f=>⟨(a9 p f).1,mV (Am a7.hx).t 4 (a9 p f).1 (mV (mH d1) 4 (a9 p f).1 (a9 p f).2)⟩;show N1 _ (upd X x (.ins t.a_b g (fG3 d c lo)));generalize upd X x (.ins t.a_b g (fG3 d c lo))=m4 at*
  -- every member is a reference to one of the dict's keys
  have mem:∀p∈u,∃y∈tb,p.2=dat y.1:=λp f=>by
   have:p.2∈kvs.map (·.1):=a1.mem_iff.mp (pZ.mpr ⟨p,f,rfl⟩);obtain⟨D,W,e⟩:=pZ.mp this;obtain⟨y,U,c9⟩:=d6 D W;exact⟨y,U,by rw[←e,c9]⟩
  have e0:kvs.map (·.1)=tb.map λy=>dat y.1:=by
   have:∀{H':Hp}{tb:Tb}{kvs:List (PyData×V)},TbAt H' tb kvs->kvs.map (·.1)=tb.map λy=>dat y.1:=by
    intro H' tb kvs h
    induction h with
    |nil=>rfl
    |cons b7 _ l3=>rw[zK,zK,l3,b7.1]
   exact this R.T
  obtain⟨srt,e5,b0⟩:=Db (f:=λy:Dd×List Nat=>dat y.1) (l:=u.map (·.2)) (tb:=tb) (by rw[←e0];exact a1);have k0:srt.length=u.length:=by have:=wH List.length b0;simpa using this
  have b6:∀p∈u,∃q,p.1=V.ref q:=λp f=>by
   obtain⟨y,_,e⟩:=mem p f;have e8:=(O p f).2;rw[e]at e8;exact Kn e8
  subst e1;refine st λN1 e1=>?_;simp only[sFld];refine nC λB eB=>?_;simp only[iSeq];refine eP rfl R.hx T.cl_b T.h_6 rfl ?_;refine⟨false,lo,rfl,⟨_,SqB.lst b3⟩,λk b2=>?_⟩;refine nQ (λj y _=>∃(p:Addr)(m:Dd×List Nat),y=V.ref p/\srt[j]?=some m/\vT kvs (dat m.1)=some (V.ref p)) b2 (SqB.lst b3) (by rw[zqe];omega) (λ_ _ _ _ h _=>h) ?_ ?_
  ·intro i y C zs b4 F e4 c4 b9;obtain⟨p,f,rfl⟩:=mX b4;have c5:=zqb f;obtain⟨q,g6⟩:=b6 p c5;obtain⟨l4,j9,i3⟩:=mem p c5;obtain⟨e7,d8⟩:=O p c5;subst eB;show tOp _ _ _ [some p.1,some (.ref c7)] C c4;ext;rw[g6]at d8 ⊢;have M:=R.up F;obtain⟨g4,d2⟩:=Vs M.T l4 j9;rw[←i3]at d2;refine De M.D e7 (mV (mH F) 4 e7 d8) d2 ?_;have i1:∃m,srt[i]?=some m/\dat m.1=p.2:=by
    have e:=wH (λl=>l[i]?) b0;simp only[List.getElem?_map,f,Option.map_some]at e;cases hm2:srt[i]? with
    |none=>rw[hm2]at e;cases e
    |some m=>rw[hm2]at e;exact⟨m,rfl,zU e⟩
   obtain⟨m,c2,l8⟩:=i1;exact b9 _ _ (Same.refl _) ⟨g4,m,rfl,c2,by rw[l8];exact d2⟩
  ·intro C ys F g9 l7 j7;have M:=R.up F;have e2:k≠x:=λz=>by rw[z,R.hx]at b2;cases b2
   have i5:=h5.trans (KX.same F);have g2:KX x I (upd C x (.ins t.a_b g (fG4 d c lo k))):=i5.trans KX.put;have h3:(upd C x (.ins t.a_b g (fG4 d c lo k))) k=some (.lst ys):=by rw[oU e2];exact g9
   refine⟨.ref x,rfl,x,_,_,_,rfl,M.hx,T.cl_b,T.h_4,by show 3<1000;decide,?_⟩;have d9:=M.put (fG4 d c lo k);have d4:(upd C x (.ins t.a_b g (fG4 d c lo k))) lo=some (.lst (u.map (·.1))):=by rw[oU d0];exact F _ _ b3
   have L:∀p∈u,tT 4 p.2=true/\Dt K (upd C x (.ins t.a_b g (fG4 d c lo k))) p.1 p.2:=λp f=>⟨(O p f).1,mV (Am M.hx).t 4 (O p f).1 (mV (mH F) 4 (O p f).1 (O p f).2)⟩;show N1 _ (upd C x (.ins t.a_b g (fG4 d c lo k)));generalize upd C x (.ins t.a_b g (fG4 d c lo k))=n0 at*
   subst e1;simp only[sFld];ext;refine nC λB eB=>?_;simp only[iN];ext;refine eP rfl d9.hx T.cl_b T.h_6 rfl ?_;refine⟨false,lo,rfl,⟨_,SqB.lst d4⟩,λd7 k2=>?_⟩;refine Qi (λj y H=>∃p m,y=V.ref p/\p≠d7/\u[j]?=some m/\H p=some (.tup [m.1,.int (j:Int)])) k2 (SqB.lst d4) (by rw[zqe];omega) (λ_ _ _ _⟨p,m,e,n,c2,h⟩l1=>⟨p,m,e,n,c2,l1 _ _ n h⟩) ?_ ?_
   ·intro i y c3 zs b4 a8 e4 c4 b9;obtain⟨p,f,rfl⟩:=mX b4;subst eB;show tTup _ [some (.int i),some p.1] c3 c4;ext;refine⟨by show 2<=sizeLine;decide,λq b1=>?_⟩;refine b9 _ _ (Same.new b1) ⟨q,p,rfl,(λz=>by rw[z,e4]at b1;cases b1),f,oQ⟩
   ·intro c3 zs a8 j4 j0 b7;obtain⟨ts,j1,⟨h7,j2⟩,h8⟩:=Vr (K:=K) (H:=c3) (ps:=u) (zs:=zs) (n:=0) (by rw[j0,zqe]) (λp f=>⟨(L p f).1,mV (mH a8) 4 (L p f).1 (L p f).2,b6 p f⟩) λj y g1=>by
     obtain⟨p,m,h0,_,g0,l9⟩:=b7 j y g1;exact⟨p,m,h0,g0,by rw[wW];exact l9⟩
    have f9:=d9.up a8;have h2:(u.map (·.2)).Nodup:=a1.nodup_iff.mpr (by
     rw[e0,show(tb.map λy=>dat y.1)=(tb.map (·.1)).map dat by rw[xI];rfl];exact List.Pairwise.map dat (λa b h e=>h (Aq.mp e)) e3)
    refine⟨d7,ts,rfl,by rw[←j1];exact .inl (.inl j4),h8,by rw[h7];exact h2,λv J f3 _ e9=>?_⟩;have a3:=f9.up f3;refine⟨_,_,_,a3.hx,T.cl_b,T.h_7,by show 4<1000;decide,?_⟩;have a6:=a8.trans f3;have e6:=Am (K:=K) (fs':=(fG5 d c lo k v)) a3.hx;have a5:=a3.put (fG5 d c lo k v);show Q .non (upd J x (.ins t.a_b g (fG5 d c lo k v)));have h1:KX x J (upd J x (.ins t.a_b g (fG5 d c lo k v))):=KX.put;have l6:(upd J x (.ins t.a_b g (fG5 d c lo k v))) k=some (.lst ys):=by rw[oU e2];exact a6 _ _ h3
    have k8:v≠x:=λz=>by
     obtain⟨_,_,xs,e,_⟩:=e9;rw[z,a3.hx]at e;cases e
    have k6:=DTr.tk e9 e6 (oU k8);have h9:(upd J x (.ins t.a_b g (fG5 d c lo k v))) lo=some (.lst (u.map (·.1))):=by rw[oU d0];exact a6 _ _ d4
    generalize upd J x (.ins t.a_b g (fG5 d c lo k v))=S at*;have k5:KX x I S:=((g2.trans (KX.same a6)).trans h1);have j8:TK K H S:=KX.tk (λb o h6 e=>a5.s b o h6 e) f6;refine g7 srt S a5.s ⟨g,c,lo,k,v,a5.hx,⟨ps,k5 _ _ k7 g8,Paired.mapP c6 λ_ _ z=>DdAt.tk z j8⟩,?_,?_,?_⟩ e5
    ·obtain⟨i6,i4,k9⟩:=ord_of (K:=K) (H:=S) (ps:=u) (srt:=srt) b0 λp f=>⟨mV e6.t 4 (L p f).1 (mV (mH a6) 4 (L p f).1 (L p f).2),b6 p f⟩;exact⟨i6,by rw[h9,i4],k9⟩
    ·obtain⟨g5,m0,h4⟩:=Vq (H:=S) (srt:=srt) (kvs:=kvs) (ys:=ys) (by rw[l7,zqe,k0]) j7 λm d5 p e=>Vu (x:=m.1) (w:=m.2) a5.T e3 (e5.mem_iff.mp d5) e;exact⟨g5,by rw[←m0];exact l6,h4⟩
    ·have c9:numT srt 0=ts.map λt=>(t.2.1,t.2.2.2):=by
      rw[j2];unfold numT;exact Km b0 0
     rw[c9];exact k6
theorem GrpF.up{H H':Hp}{g:Addr}{d:Nat}{ms:List Dd}{srt:Tb}(h:GrpF K t H g d ms srt)(s:Same H H'):GrpF K t H' g d ms srt:=by
 obtain⟨e,q,lo,i,l,n,⟨gs,o,m⟩,⟨k,a,j⟩,⟨b,f,p⟩,c⟩:=h;exact⟨e,q,lo,i,l,s _ _ n,⟨gs,s _ _ o,Paired.mapP m λ_ _ z=>z.up s⟩,⟨k,s _ _ a,Paired.mapP j λ_ x z=>mV (mH s) 4 (jR x.1) z⟩,⟨b,s _ _ f,Paired.mapP p λ_ _ z=>s _ _ z⟩,c.up s⟩
def sp_2(K:Frag)(t:Adr):Sp:=λvs H Q _=>E4 λ(g:Addr)(d:Nat)(ms:List Dd)(srt:Tb)=>A3 (vs=[.ref g]) (GrpF K t H g d ms srt) (∀l os H',Same H H'->H l=none->H' l=some (.lst (os.map V.ref))->Paired (λp x=>Dt K H' (.ref p) (dat x.1)) os srt->Q (.ref l) H')
theorem ok_2(T:Txt K mg t):FnOk P w K mg base CX0 2 t.a_2 t.d_2 pM' (sp_2 K t):=by
 apply T.F_2.ok sc_2
 ·obtain⟨g,d,ms,srt,rfl,⟨i,m,lo,j,k,f,_,⟨e,a,b⟩,_⟩,c⟩:=h;refine⟨_,(oO (nB (mP gC rfl T.z_list (nofun) (oJ (fP (pv 0) rfl) oK)))),?_⟩;show tRet _ _ [some (.ref g)] H;simp only[tRet,tCB,oW,tNil];refine eP rfl f T.cl_b T.h_6 rfl ?_;refine⟨false,lo,_,rfl,SqB.lst a,λl hl=>?_⟩;exact c l e _ (Same.new hl) hl oQ (Paired.mapP b λ_ x z=>mV (mH (Same.new hl)) 4 (jR x.1) z)
def sp_e(K:Frag)(t:Adr):Sp:=λvs H Q _=>E4 λ(g:Addr)(d:Nat)(ms:List Dd)(srt:Tb)=>A3 (vs=[.ref g]) (GrpF K t H g d ms srt) (Q (.int d) H)
def sp_a(K:Frag)(t:Adr):Sp:=λvs H Q _=>E4 λ(g:Addr)(d:Nat)(ms:List Dd)(srt:Tb)=>A3 (vs=[.ref g]) (GrpF K t H g d ms srt) (∀l gs H',Same H H'->H l=none->H' l=some (.lst (gs.map V.ref))->Paired (DdAt K H') gs ms->Q (.ref l) H')
def sp_r(K:Frag)(t:Adr):Sp:=λvs H Q _=>E6 λ(g p:Addr)(d:Nat)(ms:List Dd)(srt:Tb)(x:Dd)=>A7 (vs=[.ref g,.ref p]) (GrpF K t H g d ms srt) (DdAt K H p x) (x.1.length<=100) (x.2.1.length<=100) (0<x.2.2) (∀H',Same H H'->Q ((vT (numT srt 0) (dat (oZ x))).getD .non) H')
theorem ok_e(T:Txt K mg t):FnOk P w K mg base CX0 2 t.a_e t.d_e pM' (sp_e K t):=by
 apply T.F_e.ok sc_e
 ·obtain⟨g,d,ms,srt,rfl,⟨c,i,lo,e,f,b,_⟩,a⟩:=h;refine⟨_,(oO (nB (fP (pv 0) rfl))),?_⟩;show tRet _ _ [some (.ref g)] H;simp only[tRet];exact eP rfl b T.cl_b T.h_3 rfl a
theorem ok_a(T:Txt K mg t):FnOk P w K mg base CX0 2 t.a_a t.d_a pM' (sp_a K t):=by
 apply T.F_a.ok sc_a
 ·obtain⟨g,d,ms,srt,rfl,⟨i,f,lo,j,k,b,⟨gs,e,c⟩,_⟩,a⟩:=h;refine⟨_,(oO (nB (mP gC rfl T.z_list (nofun) (oJ (fP (pv 0) rfl) oK)))),?_⟩;show tRet _ _ [some (.ref g)] H;simp only[tRet,tCB,oW,tNil];refine eP rfl b T.cl_b T.h_c rfl ?_;refine⟨false,f,_,rfl,SqB.lst e,λl hl=>?_⟩;exact a l gs _ (Same.new hl) hl oQ (Paired.mapP c λ_ _ z=>z.up (Same.new hl))
theorem ok_r(T:Txt K mg t):FnOk P w K mg base CX0 3 t.a_r t.d_r pH' (sp_r K t):=by
 have q:=@ok_1o P w K mg base t T;apply T.F_r.ok sc_r
 ·have u:=hr.units;obtain⟨g,p,d,ms,srt,x,rfl,⟨v,z,lo,y,c,o,_,_,_,b⟩,k,l,n,j,m⟩:=h;refine⟨_,(oO (nB (Ix (T:= "") sG uY PySem.F.type_dict_get (Rk u) (fP (pv 0) rfl) (oJ (oS q hr.mo T.F_1o (oJ (pv 1) oK)) oK)))),?_⟩;show tRet _ _ [some (.ref g),some (.ref p)] H;simp only[tRet,tBMR];refine eP rfl o T.cl_b T.h_7 rfl ?_;refine⟨⟨c,_,rfl,b⟩,?_⟩;ext;refine⟨p,x.1,x.2.1,x.2.2,rfl,k,l,n,j,λr a e f=>?_⟩;have i:DdAt K a r (oZ x):=f;exact⟨c,_,r,dat (oZ x),rfl,rfl,b.up e,jR _,i.dt,m a e⟩
theorem sq1{b:LM}(h:Sq 1 b):∃a,b=[[a]]:=by
 obtain⟨hl,hr⟩:=h
 match b,hl with
 |[r],_ =>
  have:=hr r (by simp)
  match r,this with
  |[a],_=>exact⟨a,rfl⟩
theorem len2{r:LI'}(h:r.length=2):∃a b,r=[a,b]:=by match r,h with|[a,b],_=>exact⟨a,b,rfl⟩
theorem len3{r:LI'}(h:r.length=3):∃a b c,r=[a,b,c]:=by match r,h with|[a,b,c],_=>exact⟨a,b,c,rfl⟩
theorem len4{r:LI'}(h:r.length=4):∃a b c d,r=[a,b,c,d]:=by match r,h with|[a,b,c,d],_=>exact⟨a,b,c,d,rfl⟩
theorem sq2{e:LM}(h:Sq 2 e):∃a b c d,e=[[a,b],[c,d]]:=by
 obtain⟨hl,hr⟩:=h
 match e,hl with
 |[r,s],_ =>
  obtain⟨a,b,rfl⟩:=len2 (hr r (by simp));obtain⟨c,d,rfl⟩:=len2 (hr s (by simp));exact⟨a,b,c,d,rfl⟩
theorem sq3{k:LM}(h:Sq 3 k):∃a b c d e f g i j,k=[[a,b,c],[d,e,f],[g,i,j]]:=by
 obtain⟨hl,hr⟩:=h
 match k,hl with
 |[r,s,t],_ =>
  obtain⟨a,b,c,rfl⟩:=len3 (hr r (by simp));obtain⟨d,e,f,rfl⟩:=len3 (hr s (by simp));obtain⟨g,i,j,rfl⟩:=len3 (hr t (by simp));exact⟨a,b,c,d,e,f,g,i,j,rfl⟩
theorem sq4{v:LM}(h:Sq 4 v):∃a b c d e f g i j k l m n o p q,v=[[a,b,c,d],[e,f,g,i],[j,k,l,m],[n,o,p,q]]:=by
 obtain⟨hl,hr⟩:=h
 match v,hl with
 |[r,s,t,u],_ =>
  obtain⟨a,b,c,d,rfl⟩:=len4 (hr r (by simp));obtain⟨e,f,g,i,rfl⟩:=len4 (hr s (by simp));obtain⟨j,k,l,m,rfl⟩:=len4 (hr t (by simp));obtain⟨n,o,p,q,rfl⟩:=len4 (hr u (by simp));exact⟨a,b,c,d,e,f,g,i,j,k,l,m,n,o,p,q,rfl⟩
theorem id2:idM 2=[[1,0],[0,1]]:=nofun
theorem id3:idM 3=[[1,0,0],[0,1,0],[0,0,1]]:=nofun
theorem Vp(a b v:Int)(c:0<v):gcdI (a*v) (b*v)=gcdI a b*v:=by
 unfold gcdI;rw[Int.gcd_mul_right];have:((v.natAbs:Nat):Int)=v:=⋯
 rw[Int.natCast_mul,this]
theorem Vo{u v:Int}(b:0<v)(ts:LI'):gl (u*v) (ts.map (·*v))=gl u ts*v:=by
 have e:∀(ts:LI')(a:Int),(ts.map (·*v)).foldl gcdI (a*v)=ts.foldl gcdI a*v:=by
  intro ts
  induction ts with
  |nil=>intro a;rfl
  |cons t r d=>intro a;rw[zK,wQ,wQ,Vp _ _ _ b,d]
 unfold gl;have:absI (u*v)=absI u*v:=by
  unfold absI;rcases Int.lt_or_le u 0 with l|l
  ·have c:u*v<0:=Int.mul_neg_of_neg_of_pos l b;rw[zJ l,zJ c,Int.neg_mul]
  ·have c:0<=u*v:=Int.mul_nonneg l (uC b);rw[zI ⋯,zI ⋯]
 rw[this,e]
def Cong(u:Int)(xs ys:LI'):Prop:=xs.length=ys.length/\∀(i:Nat)(x y:Int),xs[i]?=some x->ys[i]?=some y->u∣x-y
theorem Vn{u x y:Int}(a:0<u)(h:u∣x-y):x.fmod u=y.fmod u:=by
 rw[xW _ (uC a),xW _ (uC a)];exact Int.emod_eq_emod_iff_emod_sub_eq_zero.mpr (Int.emod_eq_zero_of_dvd h)
theorem Cong.rest{u:Int}(b:0<u)(ns:LI'):Cong u ns (nX u ns):=by
 refine⟨by simp[nX],λi x y e1 a=>?_⟩;unfold nX at a;rw[zC,e1]at a;cases zU a;have:=Ut b x;have c:=xW (x.fmod u-x) (uC b);rw[c]at this;have d:=Int.dvd_of_emod_eq_zero this;have:=oA.mpr d
 rwa[Int.neg_sub]at this
theorem Cong.gl{u:Int}{xs ys:LI'}(h:Cong u xs ys):Cw.gl u xs=Cw.gl u ys:=by
 have c:∀{xs ys:LI'}{d:Int},Cong u xs ys->d∣u->(∀t∈xs,d∣t)->∀t∈ys,d∣t:=λ{xs ys d}h m j t n=>by
  obtain⟨i,hi,e⟩:=wT n;have f:i<xs.length:=by rw[h.1];exact hi
  have a:=h.2 i xs[i] t (by simp[f]) (by simp[hi,e]);have b:=j _ (xO f);have l:=pR b (Int.dvd_trans m a)
  rwa[show xs[i]-(xs[i]-t)=t by omega]at l
 have k:Cong u ys xs:=⟨h.1.symm,λi x y e1 g=>by
  have:=oA.mpr (h.2 i y x g e1)
  rwa[Int.neg_sub]at this⟩
 exact Jo λd=>⟨λ⟨a,b⟩=>⟨a,c h a b⟩,λ⟨a,b⟩=>⟨a,c k a b⟩⟩
theorem Cong.red{u:Int}{xs ys:LI'}(q:0<u)(h:Cong u xs ys):redU u xs=redU u ys/\nX (redU u xs) (redT u xs)=nX (redU u ys) (redT u ys):=by
 have p:=h.gl;have d:cs u xs=cs u ys:=by unfold cs;rw[p]
 have a:=eI xs (show u≠0 by omega);have e:redU u xs=redU u ys:=by unfold redU;rw[d]
 refine⟨e,?_⟩;have n:0<redU u xs:=At xs ⋯;have j:redU u xs*cs u xs=u:=iF a (jO (gl_u u xs));rw[←e];unfold nX redT;refine xY (by simp[h.1]) λi c b=>?_;simp at c b;simp only[List.getElem_map];have l:=h.2 i xs[i] ys[i] (by simp[c]) (by simp[b]);have m:∀x y:Int,u∣x-y->cs u xs∣x->cs u ys∣y->redU u xs∣x.fdiv (cs u xs)-y.fdiv (cs u ys):=λx y o g f=>by
  have e1:x.fdiv (cs u xs)*cs u xs=x:=iF a g;rw[←d]at f ⊢;have k:y.fdiv (cs u xs)*cs u xs=y:=iF a f;refine Int.dvd_of_mul_dvd_mul_right a ?_;rw[j,Int.sub_mul,e1,k];exact o
 exact Vn n (m _ _ l (jO (cI (xO c))) (jO (cI (xO b))))
theorem Da{u:Int}:∀(r ts c:LI'),Cong u ts c->u∣dotI r ts-dotI r c
 |[],ts,c,_=>by simp[dotI]
 |x:: r,[],c,h=>by
  have:c=[]:=List.eq_nil_of_length_eq_zero h.1.symm;subst this;simp[dotI]
 |x:: r,t:: ts,[],h=>by have:=h.1;simp at this
 |x:: r,t:: ts,t':: c,h=>by
  have e:=Da r ts c ⟨by have:=h.1;simpa using this,λi a b e1 d=>h.2 (i+1) a b (by simpa using e1) (by simpa using d)⟩;have f:=h.2 0 t t' rfl rfl;have e1:dotI (x:: r) (t:: ts)=x*t+dotI r ts:=by simp[dotI]
  have d:dotI (x:: r) (t':: c)=x*t'+dotI r c:=by simp[dotI]
  rw[e1,d,show x*t+dotI r ts-(x*t'+dotI r c)=x*(t-t')+(dotI r ts-dotI r c) by rw[Int.mul_sub];omega];exact pQ (Int.dvd_mul_of_dvd_right f) e
theorem Kl{N:LM}{ns ts c b:LI'}{v u:Int}(e:Cong v ns c)(g:Cong u ts b):Cong (v*u) (movT N ns v ts u) (movT N c v b u):=by
 refine⟨by unfold movT;rw[xD,xD,e.1],λi x y e1 a=>?_⟩;unfold movT at e1 a;rw[yW]at e1 a;cases en:N[i]? with
 |none=>rw[en]at e1;cases e1
 | some r =>
  rw[en]at e1 a;cases e3:ns[i]? with
  |none=>rw[e3]at e1;cases e1
  | some n =>
   cases e4:c[i]? with
   |none=>rw[e4]at a;cases a
   |some d =>
    rw[e3]at e1;rw[e4]at a;cases zU e1;cases zU a;obtain⟨k,o⟩:=Da r ts b g;obtain⟨m,l⟩:=e.2 i n d e3 e4;refine⟨k+m,?_⟩;have j:dotI r ts=dotI r b+u*k:=⋯
    have f:n=d+v*m:=⋯
    rw[j,f];grind
theorem Sq.mul{n:Nat}{A B:LM}(a:Sq n A):Sq n (mulM n A B):=by
 refine⟨by simp[mulM,a.1],λr hr=>?_⟩;obtain⟨z,_,rfl⟩:=pZ.mp hr;simp
theorem nJ{d:Nat}:Sq d (idM d):=⟨by simp[idM],λr hr=>by
 obtain⟨i,_,rfl⟩:=pZ.mp hr;simp⟩
theorem mul2(a b c d f g e d':Int):mulM 2 [[a,b],[c,d]] [[f,g],[e,d']]=[[a*f+b*e,a*g+b*d'],[c*f+d*e,c*g+d*d']]:=by simp[mulM,dotI,colI,List.range,List.range.loop]
theorem mul3(a b c d e f g i j m o l d' k n g' p q:Int):mulM 3 [[a,b,c],[d,e,f],[g,i,j]] [[m,o,l],[d',k,n],[g',p,q]]=[[a*m+(b*d'+c*g'),a*o+(b*k+c*p),a*l+(b*n+c*q)],[d*m+(e*d'+f*g'),d*o+(e*k+f*p),d*l+(e*n+f*q)],[g*m+(i*d'+j*g'),g*o+(i*k+j*p),g*l+(i*n+j*q)]]:=by
 simp[mulM,dotI,colI,List.range,List.range.loop]
theorem mul_assoc{d:Nat}(u:d=2\/d=3){A B C:LM}(m:Sq d A)(k:Sq d B)(l:Sq d C):mulM d (mulM d A B) C=mulM d A (mulM d B C):=by
 rcases u with e|e <;> subst e
 ·obtain⟨a,b,c,d,rfl⟩:=sq2 m;obtain⟨q,r,p,d',rfl⟩:=sq2 k;obtain⟨n,b2,o,v,rfl⟩:=sq2 l;simp only[mul2,List.cons.injEq,and_true];refine⟨⟨?_,?_⟩,?_,?_⟩ <;> grind
 ·obtain⟨a,b,c,d,e,f,g,i,j,rfl⟩:=sq3 m;obtain⟨q,r,p,d',L,G,g',I,D,rfl⟩:=sq3 k;obtain⟨n,b2,o,v,F,y,x,z,J,rfl⟩:=sq3 l;simp only[mul3,List.cons.injEq,and_true];refine⟨⟨?_,?_,?_⟩,⟨?_,?_,?_⟩,?_,?_,?_⟩ <;> grind
theorem kP{d:Nat}(l:d=2\/d=3){A:LM}(k:Sq d A):mulM d (idM d) A=A/\mulM d A (idM d)=A:=by
 rcases l with e|e <;> subst e
 ·obtain⟨a,b,c,d,rfl⟩:=sq2 k;rw[id2,mul2,mul2];simp
 ·obtain⟨a,b,c,d,e,f,g,i,j,rfl⟩:=sq3 k;rw[id3,mul3,mul3];simp
theorem v2{v:LI'}(h:v.length=2):∃x y,v=[x,y]:=len2 h
theorem v3{v:LI'}(h:v.length=3):∃x y z,v=[x,y,z]:=len3 h
def mv(M:LM)(v:LI'):LI':=M.map λr=>dotI r v
noncomputable def va(v w:LI'):LI':=List.zipWith (·+·) v w
theorem lB{d:Nat}{A:LM}{v:LI'}(h:Sq d A):(mv A v).length=d:=by unfold mv;rw[zqe];exact h.1
theorem mv2(a b c e x y:Int):mv [[a,b],[c,e]] [x,y]=[a*x+b*y,c*x+e*y]:=by simp[mv,dotI]
theorem mv3(a b c f i e d j g x y z:Int):mv [[a,b,c],[f,i,e],[d,j,g]] [x,y,z]=[a*x+(b*y+c*z),f*x+(i*y+e*z),d*x+(j*y+g*z)]:=by simp[mv,dotI]
theorem va2(a b c e:Int):va [a,b] [c,e]=[a+c,b+e]:=rfl
theorem va3(a b c x y z:Int):va [a,b,c] [x,y,z]=[a+x,b+y,c+z]:=rfl
theorem cO{d:Nat}(j:d=2\/d=3){A B:LM}(i:Sq d A)(f:Sq d B){v:LI'}(g:v.length=d):mv (mulM d A B) v=mv A (mv B v):=by
 rcases j with rfl|rfl
 ·obtain⟨a,b,c,e,rfl⟩:=sq2 i;obtain⟨L,M,J,G,rfl⟩:=sq2 f;obtain⟨x,y,rfl⟩:=v2 g;rw[mul2,mv2,mv2,mv2];simp only[List.cons.injEq,and_true];refine⟨?_,?_⟩ <;> grind
 ·obtain⟨u,k,O,C,l,o,n,D,N,rfl⟩:=sq3 i;obtain⟨b1,b2,r,m,R,F,q,p,I,rfl⟩:=sq3 f;obtain⟨x,y,z,rfl⟩:=v3 g;rw[mul3,mv3,mv3,mv3];simp only[List.cons.injEq,and_true];refine⟨?_,?_,?_⟩ <;> grind
theorem Kk{d:Nat}(l:d=2\/d=3){A:LM}(g:Sq d A){v w:LI'}(i:v.length=d)(f:w.length=d):mv A (va v w)=va (mv A v) (mv A w):=by
 rcases l with rfl|rfl
 ·obtain⟨a,b,c,e,rfl⟩:=sq2 g;obtain⟨x,y,rfl⟩:=v2 i;obtain⟨k,j,rfl⟩:=v2 f;rw[va2,mv2,mv2,mv2,va2];simp only[List.cons.injEq,and_true];refine⟨?_,?_⟩ <;> grind
 ·obtain⟨F,m,D,p,n,q,o,u,C,rfl⟩:=sq3 g;obtain⟨x,y,z,rfl⟩:=v3 i;obtain⟨k,j,r,rfl⟩:=v3 f;rw[va3,mv3,mv3,mv3,va3];simp only[List.cons.injEq,and_true];refine⟨?_,?_,?_⟩ <;> grind
theorem cP{d:Nat}(b:d=2\/d=3){v:LI'}(a:v.length=d):mv (idM d) v=v:=by
 rcases b with rfl|rfl
 ·obtain⟨x,y,rfl⟩:=v2 a;rw[id2,mv2];simp
 ·obtain⟨x,y,z,rfl⟩:=v3 a;rw[id3,mv3];simp
noncomputable def smul(k:Int)(T:LI'):LI':=T.map λt=>k*t
theorem jS{k:Int}{T:LI'}:(smul k T).length=T.length:=by unfold smul;rw[zqe]
theorem Kj(c a b:Int):smul c [a,b]=[c*a,c*b]:=rfl
theorem Ki(c a b e:Int):smul c [a,b,e]=[c*a,c*b,c*e]:=rfl
theorem cQ{d:Nat}(i:d=2\/d=3){A:LM}(f:Sq d A){v:LI'}(g:v.length=d)(c:Int):mv A (smul c v)=smul c (mv A v):=by
 rcases i with rfl|rfl
 ·obtain⟨a,b,c,e,rfl⟩:=sq2 f;obtain⟨x,y,rfl⟩:=v2 g;rw[Kj,mv2,mv2,Kj];simp only[List.cons.injEq,and_true];refine⟨?_,?_⟩ <;> grind
 ·obtain⟨r,j,q,m,k,n,l,o,p,rfl⟩:=sq3 f;obtain⟨x,y,z,rfl⟩:=v3 g;rw[Ki,mv3,mv3,Ki];simp only[List.cons.injEq,and_true];refine⟨?_,?_,?_⟩ <;> grind
structure Chg(d:Nat)(P P':LM):Prop where
 p:Sq d P
 q:Sq d P'
 l:mulM d P' P=idM d
 r:mulM d P P'=idM d
theorem Chg.id{d:Nat}(a:d=2\/d=3):Chg d (idM d) (idM d):=⟨nJ,nJ,(kP a nJ).1,(kP a nJ).1⟩
theorem Chg.then{d:Nat}(a:d=2\/d=3){P b R c:LM}(h:Chg d P b)(g:Chg d R c):Chg d (mulM d R P) (mulM d b c):=by
 refine⟨g.p.mul,h.q.mul,?_,?_⟩
 ·rw[mul_assoc a h.q g.q g.p.mul,←mul_assoc a g.q g.p h.p,g.l,(kP a h.p).1,h.l]
 ·rw[mul_assoc a g.p h.p h.q.mul,←mul_assoc a h.p h.q g.q,h.r,(kP a g.q).1,g.r]
def cjM(d:Nat)(P P' M:LM):LM:=mulM d (mulM d P M) P'
theorem gJ{d:Nat}{P a:LM}(h:Chg d P a)(M:LM):Sq d (cjM d P a M):=h.p.mul.mul
theorem Vm{d:Nat}(a:d=2\/d=3){P b R c M:LM}(h:Chg d P b)(g:Chg d R c)(e:Sq d M):cjM d R c (cjM d P b M)=cjM d (mulM d R P) (mulM d b c) M:=by
 unfold cjM;rw[mul_assoc a g.p h.p e,←mul_assoc a (g.p.mul) h.q g.q,mul_assoc a g.p (h.p.mul) h.q]
theorem Vl{d:Nat}(a:d=2\/d=3){P c M:LM}(h:Chg d P c)(e:Sq d M){v:LI'}(b:v.length=d):mv (cjM d P c M) (mv P v)=mv P (mv M v):=by
 unfold cjM;rw[←cO a (h.p.mul.mul) h.p b,mul_assoc a h.p.mul h.q h.p,h.l,(kP a h.p.mul).2,cO a h.p e b]
noncomputable def vs(v w:LI'):LI':=List.zipWith (· - ·) v w
theorem vs2(a b c e:Int):vs [a,b] [c,e]=[a-c,b-e]:=rfl
theorem vs3(a b c x y z:Int):vs [a,b,c] [x,y,z]=[a-x,b-y,c-z]:=rfl
theorem Ez{d:Nat}{v w:LI'}(a:v.length=d)(b:w.length=d):(va v w).length=d:=by unfold va;rw[xD,a,b,tX]
theorem Vk{d:Nat}{v w:LI'}(a:v.length=d)(b:w.length=d):(vs v w).length=d:=by unfold vs;rw[xD,a,b,tX]
theorem Vj{d:Nat}(j:d=2\/d=3){A:LM}(g:Sq d A){v w:LI'}(i:v.length=d)(f:w.length=d):mv A (vs v w)=vs (mv A v) (mv A w):=by
 rcases j with rfl|rfl
 ·obtain⟨a,b,c,e,rfl⟩:=sq2 g;obtain⟨x,y,rfl⟩:=v2 i;obtain⟨p,q,rfl⟩:=v2 f;rw[vs2,mv2,mv2,mv2,vs2];congr 1
  ·grind
  ·congr 1;grind
 ·obtain⟨a,b,c,m,o,l,k,u,n,rfl⟩:=sq3 g;obtain⟨x,y,z,rfl⟩:=v3 i;obtain⟨p,q,r,rfl⟩:=v3 f;rw[vs3,mv3,mv3,mv3,vs3];congr 1
  ·grind
  ·congr 1
   ·grind
   ·congr 1;grind
def cjT(d:Nat)(P P' M:LM)(ts S:LI'):LI':=vs (va (mv P ts) S) (mv (cjM d P P' M) S)
theorem Ey{d:Nat}{P a M:LM}(h:Chg d P a){ts b:LI'}(c:b.length=d):(cjT d P a M ts b).length=d:=Vk (Ez (lB h.p) c) (lB h.p.mul.mul)
theorem Kh{d:Nat}(a:d=2\/d=3){P c A B:LM}(h:Chg d P c)(b:Sq d A)(e:Sq d B):mulM d (cjM d P c B) (cjM d P c A)=cjM d P c (mulM d B A):=by
 unfold cjM;rw[mul_assoc a h.p.mul h.q h.p.mul.mul,mul_assoc a h.p b h.q,←mul_assoc a h.q h.p b.mul,h.l,(kP a b.mul).1,←mul_assoc a h.p.mul b h.q,mul_assoc a h.p e b]
noncomputable def stE(i j:Nat)(m:Int)(a b:Nat):Int:=if a=b then 1 else if a=i/\b=j then m else 0
noncomputable def stM(d i j:Nat)(m:Int):LM:=(List.range d).map λa=>(List.range d).map λb=>if a=b then 1 else if a=i/\b=j then m else 0
noncomputable def vst(i j:Nat)(m:Int)(v:LI'):LI':=v.set i (v.getD i 0+m*v.getD j 0)
noncomputable def mixR(d:Nat)(x y:LI')(m:Int):LI':=(List.range d).map λk=>x.getD k 0+m*y.getD k 0
noncomputable def colR(d i j:Nat)(m:Int)(row:LI'):LI':=(List.range d).map λk=>row.getD k 0-(if k=j then 1 else 0)*m*row.getD i 0
def cR(d i j:Nat)(m:Int)(A:LM):LM:=(A.set i (mixR d (A.getD i []) (A.getD j []) m)).map (colR d i j m)
theorem eQ{d i j:Nat}{m:Int}:Sq d (stM d i j m):=⟨by simp[stM],λr hr=>by
 obtain⟨a,_,rfl⟩:=pZ.mp hr;simp⟩
theorem Ex{a:Type}{d k:Nat}{f:Nat->a}{z:a}(h:k<d):((List.range d).map f).getD k z=f k:=by
 rw[zqc,zC,yR h];rfl
theorem cS{a:Type}{d:Nat}{l:List a}{z:a}(h:l.length=d):l=(List.range d).map λk=>l.getD k z:=by
 refine xY (by simp[h]) λk b c=>?_;rw[vZ,List.getElem_range,zqc,zqd b];rfl
theorem Kg{b:Type}{d i:Nat}{f:Nat->b}{v:b}:((List.range d).map f).set i v=(List.range d).map λa=>if a=i then v else f a:=by
 refine xY (by simp) λk g c=>?_;rw[vZ,List.getElem_range,List.getElem_set]
 by_cases e:i=k
 ·rw[zJ e,zJ e.symm]
 ·rw[zI e,zI (zW e),vZ,List.getElem_range]
theorem jT{b:Type}{d:Nat}{f g:Nat->b}(h:∀k,k<d->f k=g k):(List.range d).map f=(List.range d).map g:=wU λk a=>h k (oF.mp a)
theorem eV{x y:Int}{r c:LI'}:dotI (x:: r) (y:: c)=x*y+dotI r c:=by simp[dotI]
theorem Ew{n:Int}{a:Nat}:∀{c:LI'}{s:Nat},dotI ((List.range' s c.length).map λb=>if a=b then n else 0) c=if s<=a then n*c.getD (a-s) 0 else 0
 |[],s=>by simp[dotI]
 | x:: c,s=>by
  rw[yE,List.range'_succ,zK,eV,Ew]
  by_cases h:a=s
  ·subst h;rw[zJ rfl,zI ⋯,zJ (zE _),uW,Int.add_zero];rfl
  ·rw[zI h,sD,pJ]
   by_cases d:s<=a
   ·rw[zJ d,zJ ⋯,show a-s=(a-(s+1))+1 by omega];rfl
   ·rw[zI d,zI ⋯]
theorem Kf{f g:Nat->Int}:∀{l:List Nat}{c:LI'},dotI (l.map λb=>f b+g b) c=dotI (l.map f) c+dotI (l.map g) c
 |[],c=>by simp[dotI]
 |b:: l,[]=>by simp[dotI]
 |b:: l,x:: c=>by
  rw[zK,zK,zK,eV,eV,eV,Kf,Int.add_mul];omega
theorem Ev{d a i j:Nat}(n:i≠j){m:Int}{c:LI'}(l:c.length=d):dotI ((List.range d).map (stE i j m a)) c=c.getD a 0+if a=i then m*c.getD j 0 else 0:=by
 have e:stE i j m a=λb=>(if a=b then(1:Int) else 0)+if j=b then(if a=i then m else 0) else 0:=funext λb=>by
  unfold stE
  by_cases k:a=b
  ·subst k;rw[zJ rfl,zJ rfl]
   by_cases f:j=a
   ·rw[zJ f,zI (λz=>n ⋯),Int.add_zero]
   ·rw[zI f,Int.add_zero]
  ·rw[zI k,zI k,pJ]
   by_cases f:j=b
   ·by_cases g:a=i
    ·rw[zJ ⟨g,f.symm⟩,zJ f,zJ g]
    ·rw[zI (λz=>g z.1),zJ f,zI g]
   ·rw[zI (λz=>f z.2.symm),zI f]
 subst l;rw[e,Kf,List.range_eq_range',Ew,Ew,zJ (yV _),zJ (yV _),tM];show c.getD a 0+_*c.getD j 0=_
 by_cases h:a=i
 ·rw[zJ h,zJ h]
 ·rw[zI h,zI h,sD]
theorem Ke{A:LM}{a k:Nat}:(colI k A).getD a 0=(A.getD a []).getD k 0:=by
 unfold colI;rw[zqc,zC,zqc (l:=A)];cases A[a]? <;> rfl
theorem Kd:∀{r c:LI'},dotI r c=dotI c r
 |[],c=>by cases c <;> rfl
 |x:: r,[]=>rfl
 |x:: r,y:: c=>by rw[eV,eV,Kd,vN]
theorem Vi{i j a k:Nat}{n:Int}:stE i j n a k=stE j i n k a:=by
 unfold stE
 by_cases h:a=k
 ·rw[zJ h,zJ h.symm]
 ·rw[zI h,zI (zW h)]
  by_cases z:a=i/\k=j
  ·rw[zJ z,zJ z.symm]
  ·rw[zI z,zI (λw=>z w.symm)]
theorem Kc{d i j:Nat}{m:Int}(b:i≠j){A:LM}(e:A.length=d):mulM d (stM d i j m) A=(List.range d).map λa=>(List.range d).map λk=>(A.getD a []).getD k 0+if a=i then m*(A.getD j []).getD k 0 else 0:=by
 unfold mulM stM;rw[xI];refine jT λa _=>jT λk _=>?_;have c:(colI k A).length=d:=by unfold colI;rw[zqe,e]
 have:=Ev (a:=a) (m:=m) b c;rw[Ke,Ke]at this;exact this
theorem Vh{d i j:Nat}{n:Int}(b:i≠j){B:LM}(f:∀r∈B,r.length=d):mulM d B (stM d i j n)=B.map λr=>(List.range d).map λk=>r.getD k 0+if k=j then n*r.getD i 0 else 0:=by
 unfold mulM;refine wU λr hr=>jT λk c=>?_;have e:colI k (stM d i j n)=(List.range d).map (stE j i n k):=by
  unfold colI stM;rw[xI];refine jT λa _=>?_;show((List.range d).map (stE i j n a)).getD k 0=_;rw[Ex c,Vi]
 rw[e,Kd,Ev (zW b) (f r hr)]
theorem Kb{d i j:Nat}{m:Int}(l:i≠j)(o:j<d):mulM d (stM d i j m) (stM d i j (-m))=idM d:=by
 rw[Kc l eQ.1];unfold idM;refine jT λa g=>jT λk n=>?_;have e:∀a,a<d->(((stM d i j (-m)).getD a []).getD k 0)=stE i j (-m) a k:=λa g=>by
  unfold stM;rw[Ex g];exact Ex n
 rw[e a g,e j o];unfold stE
 by_cases f:a=k
 ·rw[zJ f,zJ f]
  by_cases b:a=i
  ·rw[zJ b,zI ⋯,zI ⋯,Int.mul_zero,Int.add_zero]
  ·rw[zI b,Int.add_zero]
 ·rw[zI f,zI f]
  by_cases b:a=i
  ·rw[zJ b]
   by_cases c:k=j
   ·rw[zJ ⟨b,c⟩,zJ c.symm,tL,Int.add_left_neg]
   ·rw[zI (λz=>c z.2),zI (zW c),zI (λz=>c z.2),Int.mul_zero,Int.add_zero]
  ·rw[zI (λz=>b z.1),zI b,Int.add_zero]
theorem Eu{d i j:Nat}{m:Int}(n:d=2\/d=3)(hi:i<d)(g:j<d)(b:i≠j):Chg d (stM d i j m) (stM d i j (-m))/\(∀v:LI',v.length=d->mv (stM d i j m) v=vst i j m v)/\∀A,Sq d A->cR d i j m A=cjM d (stM d i j m) (stM d i j (-m)) A:=by
 refine⟨⟨eQ,eQ,?_,Kb b g⟩,λv f=>?_,λA c=>?_⟩
 ·have:=Kb (d:=d) (m:=-m) b g;rw[Int.neg_neg]at this;exact this
 ·unfold mv stM vst;rw[xI]
  conv=>rhs;rw[cS (z:=0) f,Kg,←cS f]
  refine jT λa _=>?_;show dotI ((List.range d).map (stE i j m a)) v=_;rw[Ev b f]
  by_cases h:a=i
  ·rw[zJ h,zJ h,h]
  ·rw[zI h,zI h,Int.add_zero]
 ·unfold cjM;rw[Vh b eQ.mul.2,Kc b c.1];unfold cR;have e:A.set i (mixR d (A.getD i []) (A.getD j []) m)=(List.range d).map λa=>(List.range d).map λk=>(A.getD a []).getD k 0+if a=i then m*(A.getD j []).getD k 0 else 0:=by
   conv=>lhs;rw[cS (l:=A) (z:=[]) c.1,Kg,←cS c.1]
   refine jT λa l=>?_
   by_cases h:a=i
   ·rw[zJ h];unfold mixR;refine jT λk _=>?_;rw[zJ h,h]
   ·rw[zI h];have hr:(A.getD a []).length=d:=c.2 _ (by rw[zqc,zqd (by rw[c.1];exact l)];exact xO _)
    conv=>lhs;rw[cS (z:=0) hr]
    exact jT λk _=>by rw[zI h,Int.add_zero]
  rw[e];refine wU λr _=>jT λk _=>?_
  by_cases h:k=j
  ·rw[zJ h,zJ h,tM,Int.neg_mul,Int.sub_eq_add_neg]
  ·rw[zI h,zI h,sD,sD,Int.sub_zero,Int.add_zero]
structure Stp where
 i:Nat
 j:Nat
 m:Int
structure Stp.Ok(d:Nat)(s:Stp):Prop where
 hi:s.i<d
 hj:s.j<d
 ne:s.i≠s.j
 m2:s.m.natAbs<=2
def chP(d:Nat):List Stp->LM
 |[]=>idM d
 |s:: L=>mulM d (stM d s.i s.j s.m) (chP d L)
def chQ(d:Nat):List Stp->LM
 |[]=>idM d
 |s:: L=>mulM d (chQ d L) (stM d s.i s.j (-s.m))
theorem jG{d:Nat}(a:d=2\/d=3):∀{L:List Stp},(∀s∈L,s.Ok d)->Chg d (chP d L) (chQ d L)
 |[],_=>Chg.id a
 |s:: L,h=>by
  have o:=h s (zV ..);exact(jG a λz b=>h z (zM _ b)).then a (Eu a o.hi o.hj o.ne).1
theorem Vg{d:Nat}(a:d=2\/d=3){L:List Stp}(h:∀s∈L,s.Ok d){s:Stp}(o:s.Ok d){A:LM}(b:Sq d A):cR d s.i s.j s.m (cjM d (chP d L) (chQ d L) A)=cjM d (chP d (s:: L)) (chQ d (s:: L)) A:=by
 have g:=(Eu (m:=s.m) a o.hi o.hj o.ne);rw[g.2.2 _ (gJ (jG a h) A),Vm a (jG a h) g.1 b];rfl
theorem Vf{d:Nat}(a:d=2\/d=3){L:List Stp}(h:∀s∈L,s.Ok d){s:Stp}(o:s.Ok d){v:LI'}(b:v.length=d):vst s.i s.j s.m (mv (chP d L) v)=mv (chP d (s:: L)) v:=by
 have g:=(Eu (m:=s.m) a o.hi o.hj o.ne);have c:=jG a h;rw[←g.2.1 _ (lB c.p),←cO a eQ c.p b];rfl
theorem Ka{d:Nat}(a:d=2\/d=3){A:LM}(b:Sq d A){v:LI'}(c:v.length=d):cjM d (chP d []) (chQ d []) A=A/\mv (chP d []) v=v:=by
 refine⟨?_,cP a c⟩;unfold chP chQ cjM;rw[(kP a b).1,(kP a b).2]
def LeM(N:Nat)(A:LM):Prop:=∀r∈A,∀z∈r,z.natAbs<=N
theorem Lz{d i j:Nat}{m:Int}{N:Nat}(h:m.natAbs<=N)(c:1<=N):LeM N (stM d i j m):=λr hr z e=>by
 obtain⟨a,_,rfl⟩:=pZ.mp hr;obtain⟨b,_,rfl⟩:=pZ.mp e;split
 ·exact c
 ·split
  ·exact h
  ·omega
theorem Et{A B:Nat}:∀(r ns:LI'),(∀z∈r,z.natAbs<=A)->(∀z∈ns,z.natAbs<=B)->(dotI r ns).natAbs<=r.length*(A*B)
 |[],ns,_,_=>by simp[dotI]
 |_:: _,[],_,_=>by simp[dotI]
 |a:: r,b:: ns,e,d=>by
  have i:=Et r ns (λz c=>e z (zM _ c)) λz c=>d z (zM _ c);unfold dotI at i ⊢;rw[yY,List.sum_cons,yE,rY];have e1:(a*b).natAbs<=A*B:=by rw[xC];exact wN (e a zV) (d b zV)
  have j:=uP (a*b) (List.zipWith (λg f=>g*f) r ns).sum;omega
theorem Ve{N:Nat}{A:LM}(h:LeM N A)(k:Nat):∀z∈colI k A,z.natAbs<=N:=λz a=>by
 unfold colI at a;obtain⟨r,hr,rfl⟩:=pZ.mp a;rw[zqc];cases e:r[k]? with
 |none=>exact yV _
 |some y=>exact h r hr y (zqb e)
theorem Al{d A B:Nat}{M N:LM}(c:Sq d M)(b:LeM A M)(e:LeM B N):LeM (d*(A*B)) (mulM d M N):=λr hr z f=>by
 obtain⟨x,a,rfl⟩:=pZ.mp hr;obtain⟨k,_,rfl⟩:=pZ.mp f;have:=Et x (colI k N) (b x a) (Ve e k);rw[c.2 x a]at this;exact this
theorem Ly{c:Int}:∀{r v:LI'},dotI r (smul c v)=c*dotI r v
 |[],v=>by simp[dotI]
 |_:: _,[]=>by simp[dotI,smul]
 |a:: r,x:: v=>by
  have:=Ly (c:=c) (r:=r) (v:=v);unfold dotI smul at this ⊢;simp only[List.map_cons,List.zipWith_cons_cons,List.sum_cons];rw[this];grind
def canD(M:LM)(ts:LI')(U:Int):Dd:=(M,nX (redU U ts) (redT U ts),redU U ts)
theorem Es{M:LM}{ts b:LI'}{U:Int}(c:0<U)(h:Cong U ts b):canD M ts U=canD M b U:=by
 obtain⟨a,d⟩:=h.red c;unfold canD;rw[a,←a,d,a]
theorem Ak{U:Int}{ts:LI'}(a:0<U):cs U ts=gl U ts/\0<cs U ts:=by
 have:=Au ts (show U≠0 by omega);unfold cs;rw[zI ⋯];exact⟨rfl,this⟩
theorem Aj{U:Int}{ts:LI'}(a:0<U):∃c,0<c/\ts=smul c (redT U ts)/\U=c*redU U ts/\0<redU U ts:=by
 obtain⟨e,b⟩:=Ak (ts:=ts) a;refine⟨cs U ts,b,?_,?_,At ts ⋯⟩
 ·unfold smul redT;rw[xI]
  conv=>lhs;rw[←qF ts]
  refine wU λt d=>?_;show t=cs U ts*t.fdiv (cs U ts);rw[vN];exact(iF ⋯ (jO (cI d))).symm
 ·rw[vN];exact(iF ⋯ (jO (gl_u U ts))).symm
theorem Vd{U k:Int}{ts:LI'}(b:0<U)(a:0<k):redT (k*U) (smul k ts)=redT U ts/\redU (k*U) (smul k ts)=redU U ts:=by
 have d:0<k*U:=yZ a b;have c:cs (k*U) (smul k ts)=k*cs U ts:=by
  rw[(Ak d).1,(Ak b).1,vN k U,vN k (gl U ts),←Vo a];unfold smul;congr 1;exact wU λt _=>vN k t
 have e:=(Ak (ts:=ts) b).2;refine⟨?_,?_⟩
 ·unfold redT;rw[c];unfold smul;rw[xI];exact wU λt f=>by
   show(k*t).fdiv (k*cs U ts)=_;exact Int.mul_fdiv_mul_of_pos _ _ a
 ·unfold redU;rw[c];exact Int.mul_fdiv_mul_of_pos _ _ a
theorem Ai{M:LM}{U k:Int}{ts:LI'}(a:0<U)(c:0<k):canD M (smul k ts) (k*U)=canD M ts U:=by
 obtain⟨b,d⟩:=Vd (ts:=ts) a c;unfold canD;rw[b,d]
theorem Lx{N:LM}{ns ts:LI'}{c e u v:Int}:movT N (smul e ns) (e*v) (smul c ts) (c*u)=smul (e*c) (movT N ns v ts u):=by
 unfold movT
 induction N generalizing ns with
 |nil=>rfl
 | cons r N b =>
  cases ns with
  |nil=>rfl
  |cons n ns =>
   have:=b (ns:=ns);unfold smul at this ⊢;rw[zK,yY,yY,zK,this];have a:=Ly (c:=c) (r:=r) (v:=ts);unfold smul at a;rw[a];congr 1;grind
theorem iS{d:Nat}{M N:LM}{ts ns:LI'}{U V:Int}(l:0<U)(m:0<V):nD d (canD M ts U) (canD N ns V)=canD (mulM d N M) (movT N ns V ts U) (V*U):=by
 obtain⟨c,j,e1,g,a⟩:=Aj (ts:=ts) l;obtain⟨e,i,n,f,b⟩:=Aj (ts:=ns) m;have k1:canD (mulM d N M) (movT N ns V ts U) (V*U)=canD (mulM d N M) (movT N (redT V ns) (redU V ns) (redT U ts) (redU U ts)) (redU V ns*redU U ts):=by
  have hh:V*U=(e*c)*(redU V ns*redU U ts):=by
   conv=>lhs;rw[g,f]
   grind
  have k:movT N ns V ts U=smul (e*c) (movT N (redT V ns) (redU V ns) (redT U ts) (redU U ts)):=by
   rw[←Lx,←e1,←g,←n,←f]
  rw[hh,k,Ai (yZ b a) (yZ i j)]
 rw[k1];exact Es (yZ b a) (Kl (Cong.rest b _) (Cong.rest a _)) |>.symm
def frD(d:Nat)(P P':LM)(s:LI')(su p:Int)(R:LM)(t:LI'):Dd:=canD (cjM d P P' R) (cjT d P P' R (smul su t) (smul p s)) (p*su)
theorem Vc{d:Nat}(u:d=2\/d=3){A B C D g:LI'}(k:A.length=d)(j:B.length=d)(i:C.length=d)(l:D.length=d)(m:g.length=d):va (vs (va A B) C) (vs (va D g) B)=vs (va (va A D) g) C:=by
 rcases u with rfl|rfl
 ·obtain⟨a,p,rfl⟩:=v2 k;obtain⟨b,r,rfl⟩:=v2 j;obtain⟨c,o,rfl⟩:=v2 i;obtain⟨e,n,rfl⟩:=v2 l;obtain⟨f,q,rfl⟩:=v2 m;simp only[va2,vs2,List.cons.injEq,and_true];omega
 ·obtain⟨a,p,v,rfl⟩:=v3 k;obtain⟨b,r,b2,rfl⟩:=v3 j;obtain⟨c,o,z,rfl⟩:=v3 i;obtain⟨e,n,x,rfl⟩:=v3 l;obtain⟨f,q,y,rfl⟩:=v3 m;simp only[va3,vs3,List.cons.injEq,and_true];omega
theorem Vb{N:LM}{ns ts:LI'}{U:Int}:movT N ns U ts U=smul U (va (mv N ts) ns):=by
 unfold movT va mv
 induction N generalizing ns with
 |nil=>rfl
 | cons r N a =>
  cases ns with
  |nil=>rfl
  |cons n ns =>
   have:=a (ns:=ns);unfold smul at this ⊢;rw[yY,zK,yY,zK,this];congr 1;grind
theorem Lw{c:Int}:∀{v w:LI'},smul c (va v w)=va (smul c v) (smul c w)
 |[],_=>by simp[smul,va]
 |_:: _,[]=>by simp[smul,va]
 |a:: v,b:: w=>by
  have:=Lw (c:=c) (v:=v) (w:=w);unfold smul va at this ⊢;simp only[List.map_cons,List.zipWith_cons_cons];rw[this,Int.mul_add]
theorem fr_step{d:Nat}(a:d=2\/d=3){P l:LM}(h:Chg d P l){s:LI'}(v:s.length=d){b p:Int}(u:0<b)(r:0<p){k R2:LM}(n:Sq d k)(c:Sq d R2){f j:LI'}(l1:f.length=d)(l2:j.length=d):
  nD d (frD d P l s b p k f) (frD d P l s b p R2 j)=frD d P l s b p (mulM d R2 k) (va (mv R2 f) j):=by
 have i:0<p*b:=yZ r u;have g:(smul p s).length=d:=by rw[jS];exact v
 have o:(smul b f).length=d:=by rw[jS];exact l1
 have q:(smul b j).length=d:=by rw[jS];exact l2
 have m:=gJ h k;have e:=gJ h R2;unfold frD;rw[iS i i,Vb,Ai i i,Kh a h n c];congr 1;unfold cjT;rw[Vj a e (Ez (lB h.p) g) (lB m),Kk a e (lB h.p) g,Vl a h c o,Vc a (lB h.p) (lB e) (lB e) (lB h.p) g,←cO a e m g,Kh a h n c,Lw,Kk a h.p (by rw[jS];exact lB c) q,cQ a c l1]
theorem Va{u:Int}{a e b f:LI'}(k:Cong u a e)(l:Cong u b f):Cong u (va a b) (va e f):=by
 refine⟨by unfold va;rw[xD,xD,k.1,l.1],λi x y c d=>?_⟩;unfold va at c d;rw[yW]at c d;cases ea:a[i]? <;> cases eb:b[i]? <;> simp[ea,eb]at c;cases ea':e[i]? <;> cases eb':f[i]? <;> simp[ea',eb']at d;rename_i p q j g;have n:=k.2 i _ _ ea ea';have m:=l.2 i _ _ eb eb';rw[←c,←d,show p+q-(j+g)=(p-j)+(q-g) by omega];exact pQ n m
theorem Wz{u:Int}{a e b f:LI'}(k:Cong u a e)(l:Cong u b f):Cong u (vs a b) (vs e f):=by
 refine⟨by unfold vs;rw[xD,xD,k.1,l.1],λi x y c d=>?_⟩;unfold vs at c d;rw[yW]at c d;cases ea:a[i]? <;> cases eb:b[i]? <;> simp[ea,eb]at c;cases ea':e[i]? <;> cases eb':f[i]? <;> simp[ea',eb']at d;rename_i p q j g;have n:=k.2 i _ _ ea ea';have m:=l.2 i _ _ eb eb';rw[←c,←d,show p-q-(j-g)=(p-j)-(q-g) by omega];exact pR n m
theorem Er{u:Int}(a:LI'):Cong u a a:=⟨rfl,λi x y c b=>by rw[c]at b;cases b;rw[Int.sub_self];exact Int.dvd_zero u⟩
theorem Wy{u:Int}{M:LM}{a d:LI'}(h:Cong u a d):Cong u (mv M a) (mv M d):=by
 refine⟨by unfold mv;rw[zqe,zqe],λi x y b c=>?_⟩;unfold mv at b c;rw[zC]at b c;cases e:M[i]? <;> simp[e]at b c;rw[←b,←c];exact Da _ _ _ h
theorem Wx{u c:Int}{a f:LI'}(h:Cong u a f):Cong (u*c) (smul c a) (smul c f):=by
 refine⟨by rw[jS,jS,h.1],λi x y b d=>?_⟩;unfold smul at b d;rw[zC]at b d;cases e:a[i]? <;> simp[e]at b;cases e':f[i]? <;> simp[e']at d;rw[←b,←d,←Int.mul_sub,vN c];exact qZ (h.2 i _ _ e e') (uA c)
theorem Ww{d:Nat}{P b:LM}{s:LI'}{a p:Int}(e:0<a)(c:0<p){R:LM}{t t':LI'}(h:Cong p t t'):frD d P b s a p R t=frD d P b s a p R t':=
 Es (yZ c e) (Wz (Va (Wy (Wx h)) (Er _)) (Er _))
theorem Ep{f:Type}:∀{l L:List f},l.Nodup->(∀x∈l,x∈L)->l.length<=L.length
 |[],L,_,_=>yV _
 | a:: l,L,g,h=>by
  obtain⟨s,t,e⟩:=List.append_of_mem (h a zV);have c:=rM.mp g;have:=Ep (L:=s++t) c.2 λx d=>by
   have b:=h x (zM _ d);rw[e]at b;rcases pY.mp b with b|b
   ·exact wC _ b
   ·rcases xE.mp b with rfl|b
    ·exact absurd d c.1
    ·exact yN _ b
  rw[e];simp only[List.length_append,List.length_cons]at this ⊢;omega
theorem Lv{d:Nat}{x:Dd}{w:List Nat}{G:Dd->Prop}:∀(l:List (Dd×Nat))(tb:Tb),(∀k∈l,G (nD d x k.1))->(∀y∈tb,G y.1)->∀y∈l.foldl (nxt d x w) tb,G y.1
 |[],_,_,h=>h
 |k:: l,tb,a,h=>Lv l _ (λb c=>a b (zM _ c)) (Kr h (a k zV))
theorem Lu{ss:List Dd}{k:Dd×Nat}(h:k∈ss.zipIdx):k.1∈ss/\ss[k.2]?=some k.1:=by
 obtain⟨i,hi⟩:=yB h;rw[rQ]at hi;cases e:ss[i]? with
 |none=>rw[e]at hi;cases hi
 |some s =>
  rw[e]at hi;cases hi;exact⟨zqb e,by simpa using e⟩
theorem Wv{d:Nat}{ss:List Dd}{G:Dd->Prop}(b:∀x,G x->∀s∈ss,G (nD d x s)){tb:Tb}{i:Nat}(h:∀y∈tb,G y.1):∀y∈kO d ss tb i,G y.1:=by
 unfold kO;cases e:tb[i]? with
 |none=>exact h
 |some c=>exact Lv _ _ (λk a=>b _ (h _ (zqb e)) _ (Lu a).1) h
theorem Ls{d:Nat}{ss:List Dd}{G:Dd->Prop}(a:∀x,G x->∀s∈ss,G (nD d x s)):∀(n i:Nat)(tb:Tb),(∀y∈tb,G y.1)->∀y∈mG d ss n i tb,G y.1
 |0,_,_,h=>h
 |n+1,i,tb,h=>by
  unfold mG;split
  ·exact Ls a n (i+1) _ (Wv a h)
  ·exact h
theorem Wu{d:Nat}{ss:List Dd}{tb:Tb}{i:Nat}(h:(tb.map (·.1)).Nodup):((kO d ss tb i).map (·.1)).Nodup:=by
 unfold kO;split
 ·exact h
 ·exact Ks _ _ h
theorem Lr{d:Nat}{ss:List Dd}:∀(n i:Nat)(tb:Tb),(tb.map (·.1)).Nodup->((mG d ss n i tb).map (·.1)).Nodup
 |0,_,_,h=>h
 |n+1,i,tb,h=>by
  unfold mG;split
  ·exact Lr n (i+1) _ (Wu h)
  ·exact h
abbrev tab(d:Nat)(ss:List Dd)(N:Nat):Tb:=mG d ss N 0 [(nK d,[])]
theorem cT{d:Nat}{ss:List Dd}{N:Nat}:((tab d ss N).map (·.1)).Nodup:=Lr N 0 _ (by simp)
theorem Ah{d:Nat}{ss:List Dd}{N:Nat}{G:Dd->Prop}(c:G (nK d))(a:∀x,G x->∀s∈ss,G (nD d x s)):∀y∈tab d ss N,G y.1:=Ls a N 0 _ λy b=>by rw[pW.mp b];exact c
theorem Ws{d:Nat}{ss:List Dd}{N:Nat}{G:Dd->Prop}{L:List Dd}(e:G (nK d))(f:∀x,G x->∀s∈ss,G (nD d x s))(a:∀x,G x->x∈L):(tab d ss N).length<=L.length:=by
 rw[←zqe (f:=(·.1))];exact Ep cT λx b=>by
  obtain⟨y,c,rfl⟩:=pZ.mp b;exact a _ (Ah e f y c)
theorem Lq{d:Nat}{x:Dd}{w:List Nat}:∀(l:List (Dd×Nat))(tb:Tb),∀k∈l,nD d x k.1∈(l.foldl (nxt d x w) tb).map (·.1)
 | k:: l,tb,a,b=>by
  rw[wQ];rcases xE.mp b with rfl|b
  ·have h:nD d x a.1∈(nxt d x w tb a).map (·.1):=by
    unfold nxt;split
    ·assumption
    ·simp
   obtain⟨r,e⟩:=cL d x w l (nxt d x w tb a);rw[e,yM];exact wC _ h
  ·exact Lq l _ a b
theorem Wr{d:Nat}{ss:List Dd}{tb:Tb}{i:Nat}{a:Dd×List Nat}(e:tb[i]?=some a){s:Dd}(c:s∈ss):nD d a.1 s∈(kO d ss tb i).map (·.1):=by
 unfold kO;rw[e];obtain⟨j,b⟩:=yB c;exact Lq ss.zipIdx tb (s,j) (zqb (i:=j) (by rw[rQ,b];simp))
theorem Lp{d:Nat}{ss:List Dd}:∀(n i:Nat)(tb:Tb),(∀j,j<i->∀a,tb[j]?=some a->∀s∈ss,nD d a.1 s∈tb.map (·.1))->(mG d ss n i tb).length<=n+i->∀a∈mG d ss n i tb,∀s∈ss,nD d a.1 s∈(mG d ss n i tb).map (·.1)
 |0,i,tb,h,hl=>λa g s c=>by
  obtain⟨j,b⟩:=yB g;have:=(zqa b).1;unfold mG at hl this b ⊢;exact h j ⋯ _ b s c
 | n+1,i,tb,h,hl=>by
  unfold mG at hl ⊢;split
  ·next q =>
   rw[zJ q]at hl;obtain⟨r,f⟩:=Kx d ss tb i;refine Lp n (i+1) _ (λj b a e s c=>?_) ⋯;rcases uR j i with l|l
   ·rw[f,yI ⋯]at e;rw[f,yM];exact wC _ (h j l a e s c)
   ·have:j=i:=⋯
    subst this;rw[f,yI ⋯]at e;exact Wr e c
  ·next q =>
   intro a g s c;obtain⟨j,b⟩:=yB g;have:=(zqa b).1;exact h j ⋯ _ b s c
theorem Eo{d:Nat}{ss:List Dd}{N:Nat}(h:(tab d ss N).length<=N):∀a∈tab d ss N,∀s∈ss,nD d a.1 s∈(tab d ss N).map (·.1):=Lp N 0 _ (λj b=>absurd b (tQ j)) h
theorem eW{d:Nat}{ss:List Dd}{N:Nat}:(nK d,[])∈tab d ss N:=by
 obtain⟨r,e⟩:=Ap d ss N 0 [(nK d,[])];unfold tab;rw[e];simp
def Ag(d:Nat)(ss:List Dd)(w:List Nat):Dd:=w.foldl (λx k=>nD d x (ss.getD k (nK d))) (nK d)
def WdOk(d:Nat)(ss:List Dd)(y:Dd×List Nat):Prop:=y.1=Ag d ss y.2/\∀k∈y.2,k<ss.length
theorem Lo{d:Nat}{ss:List Dd}{x:Dd}{w:List Nat}(c:WdOk d ss (x,w)):∀(l:List (Dd×Nat))(tb:Tb),(∀k∈l,ss[k.2]?=some k.1)->(∀y∈tb,WdOk d ss y)->∀y∈l.foldl (nxt d x w) tb,WdOk d ss y
 |[],_,_,h=>h
 | k :: l,tb,hl,h=>by
  refine Lo c l _ (λf g=>hl f (zM _ g)) λy a=>?_;unfold nxt at a;split at a
  ·exact h y a
  ·rcases pY.mp a with a|a
   ·exact h y a
   ·rw[pW.mp a];have e:=hl k zV;refine⟨?_,λj b=>?_⟩
    ·show nD d x k.1=Ag d ss (w++[k.2]);unfold Ag;rw[uN,wQ,List.foldl_nil];show _=nD d (Ag d ss w) _;rw[←c.1,zqc,e];rfl
    ·rcases pY.mp b with b|b
     ·exact c.2 j b
     ·rw[pW.mp b];exact(zqa e).1
theorem Ln{d:Nat}{ss:List Dd}:∀(n i:Nat)(tb:Tb),(∀y∈tb,WdOk d ss y)->∀y∈mG d ss n i tb,WdOk d ss y
 |0,_,_,h=>h
 | n+1,i,tb,h=>by
  unfold mG;split
  ·refine Ln n (i+1) _ ?_;unfold kO;cases e:tb[i]? with
   |none=>exact h
   |some b=>exact Lo (h _ (zqb e)) _ _ (λk a=>(Lu a).2) h
  ·exact h
theorem Wq{d:Nat}{ss:List Dd}{N:Nat}:∀y∈tab d ss N,WdOk d ss y:=Ln N 0 _ λy b=>by rw[pW.mp b];exact⟨rfl,λk a=>by cases a⟩
theorem fms(x y:Int)(h:0<y):0<=x.fmod y/\x.fmod y<y:=⟨uK x h,tY x h⟩
theorem nY.le{B C:Nat}{ts:LI'}(h:nY B ts)(b:B<=C):nY C ts:=λx a=>zF (h x a) (zY ∅ b)
def gK(H:Hp)(l:Addr)(L:List Stp):Prop:=∃ps:LA,H l=some (.lst (ps.map V.ref))/\ps.length=L.length/\∀(k:Nat) p s,ps[k]?=some p->L[k]?=some s->H p=some (.tup [.int s.i,.int s.j,.int s.m])
theorem gK.up{H H':Hp}{l:Addr}{L:List Stp}(h:gK H l L)(s:Same H H'):gK H' l L:=by
 obtain⟨ps,d,b,c⟩:=h;exact⟨ps,s _ _ d,b,λk p x e1 a=>s _ _ (c k p x e1 a)⟩
def sp_c:Sp:=λvs H Q _=>E3 λ(c b:Int)(m:Nat)=>A5 (vs=[.int c,.int b,.int m]) (1<=b) (b<=10000000000) (m<=40) (∀r H'(ns:LI'),Same H H'->H r=none->H' r=some (.lst (ns.map V.int))->ns.length=m->(∀x∈ns,0<=x/\x<b)->Q (.ref r) H')
def sp_s:Sp:=λvs H Q _=>E2 λ(a b:Int)=>A3 (vs=[.int a,.int b]) (0<=a) (Q (.int (gcdI a b)) H)
def sp_h(K:Frag):Sp:=λvs H Q _=>E4 λ(b:Bool)(a:Addr)(ns:LI')(u:Int)=>A6 (vs=[.ref a,.int u]) (SqB b K H a (ns.map V.int)) (ns.length<=100) (0<u) (kN u) (∀p H',Same H H'->nI H' p (redT u ns) (redU u ns)->Q (.ref p) H')
def sp_19(K:Frag):Sp:=λvs H Q _=>E8 λ(b1 b2 b3:Bool)(a l:Addr)(A:LM)(ns:LI')(d:Nat)=>A9 (vs=[.ref a,.ref l]) (MatB b1 b2 K H a A) (SqB b3 K H l (ns.map V.int)) (Sq d A) ((d=2\/d=3)) (ns.length=d) (mF 1700 A) (nY 9000000 ns) (∀r H',Same H H'->H r=none->H' r=some (.lst ((mv A ns).map V.int))->Q (.ref r) H')
def sp_13:Sp:=λvs H Q _=>E2 λ(c:Int)(d:Nat)=>A3 (vs=[.int c,.int d]) ((d=2\/d=3)) (∀r H'(s:Stp),Same H H'->H' r=some (.tup [.int s.i,.int s.j,.int s.m])->s.Ok d->Q (.ref r) H')
def sp_5(K:Frag):Sp:=λvs H Q _=>E7 λ(b:Bool)(a l:Addr)(ns:LI')(L:List Stp)(d C:Nat)=>A10 (vs=[.ref a,.ref l]) (SqB b K H a (ns.map V.int)) (gK H l L) (ns.length=d) ((d=2\/d=3)) ((∀s∈L,s.Ok d)) (L.length<=40) (nY C ns) (C<=9000000) (∀r H',Same H H'->H r=none->H' r=some (.lst ((mv (chP d L.reverse) ns).map V.int))->nY (C+2*L.length) (mv (chP d L.reverse) ns)->Q (.ref r) H')
def sp_3(K:Frag):Sp:=λvs H Q _=>E8 λ(b1 b2:Bool)(a l:Addr)(A:LM)(L:List Stp)(d B:Nat)=>A10 (vs=[.ref a,.ref l]) (MatB b1 b2 K H a A) (gK H l L) (Sq d A) ((d=2\/d=3)) ((∀s∈L,s.Ok d)) (L.length<=40) (mF B A) (B<=1000) (∀r H',Same H H'->MatL H' r (cjM d (chP d L.reverse) (chQ d L.reverse) A)->mF (B+4*L.length) (cjM d (chP d L.reverse) (chQ d L.reverse) A)->Q (.ref r) H')
def sp_8(K:Frag):Sp:=λvs H Q _=>E9 λ(b1 b2 b3 b4:Bool)(a b:Addr)(A B:LM)(d:Nat)=>A9 (vs=[.ref a,.ref b]) (MatB b1 b2 K H a A) (MatB b3 b4 K H b B) (Sq d A) (Sq d B) ((d=2\/d=3)) (mF 1000 A) (mF 1000 B) (∀r H',Same H H'->MatL H' r (mulM d A B)->Q (.ref r) H')
def sp_z(K:Frag):Sp:=λvs H Q _=>E3 λ(p:Addr)(ns:LI')(u:Int)=>A5 (vs=[.ref p]) (PlS K H p ns u) (ns.length<=100) (0<u) (∀p' H',Same H H'->nI H' p' (nX u ns) u->Q (.ref p') H')
theorem Wp(a b:Int):gcdI (b.fmod a) a=gcdI a b:=by
 unfold gcdI;have:=Jl b a;rw[pM,this,pM]
theorem Wo{u:Int}(a:0<u)(ns:LI'){i:Nat}{n:Int}(h:ns[i]?=some n):gl u (ns.take (i+1))=gcdI (gl u (ns.take i)) n:=by
 unfold gl;rw[Jg h,uN];rfl
theorem ok_s(T:Txt K mg t):FnOk P w K mg base CX0 1 t.a_s t.d_s pi' sp_s:=by
 apply T.F_s.ok sc_s
 ·obtain⟨a,b,rfl,f,i⟩:=h;refine⟨_,(oM (Bx yF (nN jM (pq 0) oR (nM _))
   (oO (Nl (i:=0) (j:=1) rfl sc_s.nd rfl rfl ∅ rfl rfl (oJ (oP mL (pq 1) (pq 0)) (oJ (pq 0) oK)) rfl)))
   (oO (nB (lJ fO rfl T.z_abs (nofun) (oJ (pq 1) oK))))),?_⟩
  show tSeq _ _ _ [some (.int a),some (.int b)] H;refine st λN1 e1=>Ga λB eB=>?_;refine⟨λm σ c=>∃x y,σ=[some (.int x),some (.int y)]/\c=H/\gcdI x y=gcdI a b/\0<=x/\m=x.natAbs,⟨_,a,b,rfl,rfl,rfl,f,rfl⟩,?_⟩;rintro m σ c ⟨x,y,rfl,rfl,e,k,rfl⟩;ext
  by_cases z:x=0
  ·rw[zL z];refine iteF ?_;symm;have g:(if y<0 then -y else y)=gcdI a b:=by
    rw[←e,z];unfold gcdI;rw[Int.gcd_zero_left];split <;> omega
   rw[g];exact i
  ·rw[zP z];refine iteT ⟨λd H'=>d=[some (.int (y.fmod x)),some (.int x)]/\H'=c,?_,?_⟩
   ·rintro d H' ⟨rfl,rfl⟩;have j:=uK y (show 0<x by omega);have l:=tY y (show 0<x by omega);exact⟨(y.fmod x).natAbs,⋯,_,_,rfl,rfl,by rw[Wp];exact e,j,rfl⟩
   ·subst eB;ext;exact z
theorem ok_h(T:Txt K mg t):FnOk P w K mg base CX0 2 t.a_h t.d_h pj' (sp_h K):=by
 have O:=@ok_s P w K mg base t T;apply T.F_h.ok sc_h
 ·obtain⟨b,a,ns,u,rfl,d,hl,I,C,G⟩:=h;refine⟨_,(oM (oX (i:=2) sc_h.nd rfl (Or.inr rfl) (pq 1))
   (oM (lC yF rfl (nE (pq 0)) (nL (i:=3) sc_h.nd rfl (Or.inl rfl))
   (oO (oX (i:=2) sc_h.nd rfl (Or.inr rfl) (oS O hr.mo T.F_s (oJ (pq 2) (oJ (pq 3) oK))))))
   (oO (nB (mO (oJ (mP kJ rfl T.z_tuple (nofun) (oJ (nP (sc:=oN Ay) (N:=N_h) (fr:=[("_law_by",2)]) (te:=(tOp (rI kE λi j=>.int (i.fdiv j)) (tVar 0) (tVar 1))) rfl rfl (nofun) rfl (nofun) (nE (pq 0)) (λ_ _ _ X=>(oP lD (pv 0) (pv 1)))) oK)) (oJ (oP lD (pq 1) (pq 2)) oK))))))),?_⟩
  show tSeq _ _ _ [some (.ref a),some (.int u),none,none] H;have L:gl u []=u:=by unfold gl absI;rw[zI ⋯];rfl
  right;subst e1;refine st λN1 e1=>lF λB eB=>?_;simp only[iSeq];ext;refine⟨b,⟨_,d⟩,?_⟩;refine kX (b:=b) (g:=oV 3) (tb:=B) (λi σ c=>∃v3,σ=[some (.ref a),some (.int u),some (.int (gl u (ns.take i))),v3]/\c=H) ⟨none,by rw[sF,L],rfl⟩ (λi σ c _⟨_,_,e⟩=>e ▸ d) ?_ ?_
  ·rintro i x σ c f ⟨v3,rfl,rfl⟩;obtain⟨n,g,rfl⟩:=mS f;subst eB;show tAsg _ _ _ [some (.ref a),some (.int u),some (.int (gl u (ns.take i))),some (.int n)] c;ext;refine⟨_,_,rfl,eH _ _,?_⟩;rw[Wo I ns g];exact⟨rfl,rfl⟩
  ·rintro σ c ⟨v3,rfl,rfl⟩;rw[zqe,tE];have Y:=Au ns (show u≠0 by omega);have o:cs u ns=gl u ns:=by unfold cs;rw[zI ⋯]
   have v:∀x,kE x (gl u ns):=λx=>⟨⋯,Ji (Jh C ⋯ (gl_u u ns)) ⋯⟩;symm;refine nC λZ R=>?_;simp only[iSeq];ext;refine⟨b,⟨_,d⟩,λJ F=>?_⟩;refine nQ (λj y _=>∃n,ns[j]?=some n/\y=.int (n.fdiv (gl u ns))) F d (by rw[zqe];omega) (λ_ _ _ _ r _=>r) ?_ ?_
   ·intro i x z zs f l m S M;obtain⟨n,g,rfl⟩:=mS f;subst R;show tOp _ _ _ [some (.int n),some (.int (gl u ns))] z S;ext;exact⟨v _,M _ _ (Same.refl _) ⟨n,g,rfl⟩⟩
   ·intro z zs l m U W;have N:zs=(redT u ns).map V.int:=by
     unfold redT;rw[xI,o];exact nW (by simpa using U) W
    subst N;refine⟨J,_,rfl,.inl ⟨SqL.of m,λq D=>⟨v _,by show 2<=sizeLine;decide,λp k=>G p _ (l.trans ((Same.new D).trans (Same.new k))) ⟨q,?_,(Same.new k) _ _ oQ⟩⟩⟩⟩;rw[oQ];unfold redU;rw[o]
theorem ok_19(T:Txt K mg t):FnOk P w K mg base CX0 1 t.a_19 t.d_19 pn' (sp_19 K):=by
 apply T.F_19.ok sc_19
 ·obtain⟨b1,b2,S,a,l,F,ns,d,rfl,a3,N,z,b6,hl,M,L,W⟩:=h;refine⟨_,(oO (nB (kQ (xs:=["_law_row"]) (fr:=[("_law_tops",1)]) (g:=(oV 0)) (tt:=(tEl (tCB (λxs H Q=>∃(p:Addr)(ns:LI'),xs=[.ref p]/\SqL K H p (ns.map V.int)/\Q (.int ns.sum) H) (oW (mE (mD (oW (tCB (jD K) (oW (tVar 0) tNil)) tNil)) (oV 0) (tEl (tOp (rI (λi j=>IntMulOk i j) λi j=>.int (i*j)) (tOp (rIxB K) (tVar 1) (tVar 0)) (tOp (rIxB K) (tVar 2) (tVar 0)))) 1 [("_law_row",0),("_law_tops",1)]) tNil)))) (lL (sc:=oN s_19) (N:=N_19) rfl rfl (nofun)) rfl (nE (pq 0)) (λ_ _ _ g=>(jC (N:=["_law_row","_law_tops"]) (i:=0) g rfl (nofun) rfl)) (λ_ _ _ g=>(lU (lJ (Bf rfl) rfl T.z_sum (nofun) (oJ (nP (N:=["_law_row","_law_tops"]) (fr:=[("_law_row",0),("_law_tops",1)]) (te:=(tOp (rI (λi j=>IntMulOk i j) λi j=>.int (i*j)) (tOp (rIxB K) (tVar 1) (tVar 0)) (tOp (rIxB K) (tVar 2) (tVar 0)))) g rfl (nofun) rfl (nofun) (mU rfl T.z_range (oJ (nU T.z_len (pv 0)) oK)) (λ_ _ _ a8=>(oP nT (mC ix_B (pv 1) (pv 0) (λ_ _=>rfl)) (mC ix_B (pv 2) (pv 0) (λ_ _=>rfl))))) oK))))))),?_⟩;show tRet _ _ [some (.ref a),some (.ref l)] H;ext;exfalso;obtain⟨xs,D,J,a4⟩:=a3.walk;refine⟨b1,⟨_,D⟩,λZ C=>?_⟩;refine nQ (λj y _=>∃r,F[j]?=some r/\y=.int (dotI r ns)) C D (by rw[J,z.1];omega) (λ_ _ _ _ r _=>r) ?_ ?_
  ·intro i x o zs n b b3 a5 a1;obtain⟨p,r,rfl,m,v⟩:=a4 i x n;have U:r.length=d:=z.2 r (zqb m);subst eB;show tCB _ _ [some (.ref p),some (.ref l)] o a5;ext;refine nC λb4 eB=>?_;simp only[mD];ext;refine lO (v.up b) ⟨_,rfl,⋯,⋯,λI a6=>?_⟩;rw[zR,U];refine lG (λk y _=>∃x,(List.zipWith (·*·) r ns)[k]?=some x/\y=.int x) a6 ⋯ (λ_ _ _ _ r _=>r) ?_ ?_
   ·intro k G b0 a9 c b5 X a0;have q:k<r.length:=⋯
    have f:k<ns.length:=⋯
    subst eB;show tOp _ _ _ [some (.int (0+(k:Int))),some (.ref p),some (.ref l)] G X;ext;refine⟨b2,p,_,_,_,rfl,rfl,(v.up b).up c,mZ (kB (getD_at q)) ⋯,?_⟩;refine⟨S,l,_,_,_,rfl,rfl,(N.up b).up c,mZ (kB (getD_at f)) ⋯,?_⟩
    try ext
    refine⟨yG (nH (M r (zqb m) _ (L2.getD_mem q))) (nH (L _ (L2.getD_mem f))) ∅,a0 _ _ (Same.refl _) ⟨_,?_,rfl⟩⟩;rw[yW,L2.getD_at q,L2.getD_at f]
   ·intro G ys c a2 Y a7;have u:ys=(List.zipWith (·*·) r ns).map V.int:=by
     refine nW (by simp;omega) λk y e=>?_;obtain⟨x,n,rfl⟩:=a7 k y e;exact⟨x,n,rfl⟩
    subst u;exact⟨I,rfl,_,SqL.of a2,a1 _ _ c ⟨r,m,rfl⟩⟩
  ·intro o ys b R Y O;have u:ys=(mv F ns).map V.int:=by
    unfold mv;rw[xI];exact nW ⋯ O
   subst u;exact W Z o b C R
theorem ok_13(T:Txt K mg t):FnOk P w K mg base CX0 1 t.a_13 t.d_13 pu' sp_13:=by
 apply T.F_13.ok sc_13
 ·obtain⟨c,d,rfl,l,q⟩:=h;refine⟨_,(oM (oX (i:=2) sc_13.nd rfl (Or.inl rfl) (oP mL (pq 0) (pq 1)))
   (oO (nB (mO (oJ (pq 2) (oJ (oP mL (oP mY (oP mY (pq 2) oR) (oP mL (oP lD (pq 0) (pq 1)) (oP iJ (pq 1) oR))) (pq 1)) (oJ (oP iJ (oP mL (oP mY (oP lD (pq 0) (oP nT (pq 1) (oP iJ (pq 1) oR))) oR) oR) oR) oK))))))),?_⟩
  show tSeq _ _ _ [some (.int c),some (.int d),none] H;have k:∀x y:Int,y≠0->y.natAbs<1073741824->kE x y:=λx y u o=>⟨u,zF ((sU ⋯).mpr (show y.natAbs<2^30 from o)) ∅⟩;right;refine⟨⋯,?_⟩;have f:=fms c d ⋯;obtain⟨i,v⟩:=xQ f.1;rw[v]at f ⊢;symm;refine⟨k c d ⋯ ⋯,⋯,⋯,?_⟩;have m:=fms (c.fdiv d) ((d:Int)-1) ⋯;have a:=fms ((i:Int)+1+(c.fdiv d).fmod ((d:Int)-1)) d ⋯;have b:(i:Int)≠((i:Int)+1+(c.fdiv d).fmod ((d:Int)-1)).fmod d:=by
   generalize (c.fdiv d).fmod ((d:Int)-1)=z at m a;rw[xW _ ⋯]at a ⊢;rcases l with e|e <;> subst e <;> omega
  generalize ((i:Int)+1+(c.fdiv d).fmod ((d:Int)-1)).fmod d=D at a b;obtain⟨j,r⟩:=xQ a.1;subst r;have g:(d:Int)*((d:Int)-1)≠0/\((d:Int)*((d:Int)-1)).natAbs<1073741824:=by rcases l with e|e <;> subst e <;> decide
  refine⟨wL (wZ ⋯ ⋯),k c _ g.1 g.2,∅,?_⟩;have C:=fms (c.fdiv ((d:Int)*((d:Int)-1))+2) 5 ∅;refine⟨by show 3<=sizeLine;decide,λp n=>q p _ ⟨i,j,_⟩ (Same.new n) oQ ⟨by show i<d;omega,by show j<d;omega,λe=>b (by rw[show i=j from e]),by show((c.fdiv ((d:Int)*((d:Int)-1))+2).fmod 5-2).natAbs<=2;omega⟩⟩
theorem Lm{n k:Nat}(h:k<n):ixN n (k:Int)=some k:=by
 unfold ixN;rw[zJ ⋯,zJ ⋯];simp
theorem fE{B:Nat}{v:LI'}(h:∀z∈v,z.natAbs<2^B)(k:Nat):(v.getD k 0).natAbs<2^B:=by
 by_cases a:k<v.length
 ·exact h _ (L2.getD_mem a)
 ·rw[zqc,wG ⋯];exact vQ B
theorem En{x y m:Int}{B:Nat}(i:x.natAbs<2^B)(j:y.natAbs<2^B)(f:m.natAbs<=2):(x+m*y).natAbs<2^(B+2):=by
 have e:=uP x (m*y);have g:=wD y.natAbs f;rw[←xC]at g;rw[vK,qX];refine yJ e ?_;generalize x.natAbs=a at*
 generalize y.natAbs=b at*;generalize (m*y).natAbs=c at*
 generalize 2^B=d at*;clear e;omega
theorem Wn{i j c:Nat}{m:Int}{v:LI'}(h:nY c v)(d:m.natAbs<=2):nY (c+2) (vst i j m v):=λx b=>by
 rcases tR b with a|a
 ·exact zF (h x a) (zY ∅ ⋯)
 ·rw[a];exact En (fE h i) (fE h j) d
theorem Ll{L:List Stp}{k:Nat}{s:Stp}(h:L[k]?=some s):(L.take (k+1)).reverse=s:: (L.take k).reverse:=by
 obtain⟨a,rfl⟩:=zqa h;rw[List.take_succ_eq_append_getElem a,List.reverse_append];rfl
theorem ok_5(T:Txt K mg t):FnOk P w K mg base CX0 1 t.a_5 t.d_5 pl' (sp_5 K):=by
 apply T.F_5.ok sc_5
 ·obtain⟨b,a,l,ns,L,d,C,rfl,U,Z,N,D,ok,a1,S,a2,W⟩:=h;obtain⟨ps,G,M,a0⟩:=Z;refine⟨_,(oM (oX (i:=0) sc_5.nd rfl (Or.inl rfl) (mP gC rfl T.z_list (nofun) (oJ (pq 0) oK)))
   (oM (lC yF rfl (nE (pq 1)) (lR rfl (nO (nL (i:=2) sc_5.nd rfl (Or.inl rfl)) (nO (nL (i:=3) sc_5.nd rfl (Or.inl rfl)) (nO (nL (i:=4) sc_5.nd rfl (Or.inl rfl)) lQ))))
   (oO (jU (oP mY (mC ix_B (pq 0) (pq 2) (λ_ _=>rfl)) (oP nT (pq 4) (mC ix_B (pq 0) (pq 3) (λ_ _=>rfl)))) (dG (pq 0) (pq 2) Gv))))
   (oO (nB (pq 0))))),?_⟩
  show tSeq _ _ _ [some (.ref a),some (.ref l),none,none,none] H;right;refine⟨b,a,_,rfl,U,λr z=>?_⟩;have y:Same H (upd H r (.lst (ns.map V.int))):=Same.new z;have F:(upd H r (.lst (ns.map V.int))) r=some (.lst (ns.map V.int)):=oQ;generalize upd H r (.lst (ns.map V.int))=a3 at y F;subst e1;refine st λN1 e1=>lF λB eB=>?_;simp only[iSeq];ext;refine⟨false,⟨_,SqB.lst (y _ _ G)⟩,?_⟩;have J:mv (chP d []) ns=ns:=cP D N;refine kX (g:=gTup K 3 (nR (oV 2) (nR (oV 3) (nR (oV 4) gNil)))) (tb:=B) (xs:=ps.map V.ref) (λk σ e=>∃o m u,σ=[some (.ref r),some (.ref l),o,m,u]/\Same H e/\e r=some (.lst ((mv (chP d (L.take k).reverse) ns).map V.int))/\nY (C+2*k) (mv (chP d (L.take k).reverse) ns)) ⟨none,none,none,rfl,y,by rw[sF,rE,J];exact F,by rw[sF,rE,J];exact S⟩ ?_ ?_ ?_
  ·rintro k σ e _ ⟨o,m,u,rfl,g,_,_⟩;exact SqB.lst (g _ _ G)
  ·rintro k x σ e j ⟨o,m,u,rfl,g,c,i⟩;rw[zC]at j;cases ep:ps[k]? with
   |none=>rw[ep]at j;cases j
   |some p =>
   rw[ep]at j;cases j;have O:k<L.length:=by rw[←M];exact(zqa ep).1
   have n:L[k]?=some L[k]:=zqd O;generalize L[k]=q at n;have f:=ok q (zqb n);have I:∀s∈(L.take k).reverse,s.Ok d:=λs X=>ok s (rX (oG.mp X));have R:=g _ _ (a0 k p q ep n);have Y:(mv (chP d (L.take k).reverse) ns).length=d:=lB (jG D I).p;have nx:=Vf D I f N;rw[←Ll n]at nx;unfold vst at nx;rw[←nx];generalize mv (chP d (L.take k).reverse) ns=v at c i Y;refine⟨p,_,rfl,SqT.of R,rfl,?_⟩;simp only[nR,gNil,oV];subst eB;have hi:=f.hi;have a4:=f.hj;refine⟨_,_,rfl,_,_,rfl,_,_,rfl,rfl,?_⟩;show tAsg _ _ _ [some (.ref r),some (.ref l),some (.int q.i),some (.int q.j),some (.int q.m)] e;simp only[tAsg,gSub,Bo];ext;refine⟨false,r,_,_,_,rfl,rfl,SqB.lst c,Dg ⋯ ⋯,?_⟩;refine⟨false,r,_,_,_,rfl,rfl,SqB.lst c,Dg ⋯ ⋯,?_⟩;rw[zR,zR];refine⟨_,_,rfl,rfl,wL (wZ (by have:=f.m2;omega) (by have:=f.m2;omega)),?_⟩;refine⟨_,_,rfl,rfl,_,c,q.i,Lm (by rw[zqe];omega),Same.over z g,?_,?_⟩
   ·rw[oQ,List.map_set]
   ·exact Wn (i:=q.i) (j:=q.j) i f.m2
  ·rintro σ e ⟨o,m,u,rfl,g,c,i⟩;symm;rw[zqe,M,tE]at c i;exact W r e g z c i
theorem ok_c(T:Txt K mg t):FnOk P w K mg base CX0 1 t.a_c t.d_c pd' sp_c:=by
 apply T.F_c.ok sc_c
 ·obtain⟨c,b,m,rfl,F,z,u,o⟩:=h;refine⟨_,(oM (oX (i:=3) sc_c.nd rfl (Or.inl rfl) (lH oK))
   (oM (lC yF rfl (mU rfl T.z_range (oJ (pq 2) oK)) (nL (i:=4) sc_c.nd rfl (Or.inl rfl))
   (oM (lP (iK xA xL xK jY (pq 3) (oJ (oP mL (pq 0) (pq 1)) oK)))
   (oO (oX (i:=0) sc_c.nd rfl (Or.inl rfl) (oP lD (pq 0) (pq 1))))))
   (oO (nB (pq 3))))),?_⟩
  show tSeq _ _ _ [some (.int c),some (.int b),some (.int m),none,none] H;have p:∀x,kE x b:=λx=>⟨⋯,zF ((sU ⋯).mpr (show b.natAbs<2^40 by omega)) ∅⟩;right;refine⟨by show 0<=sizeLine;decide,λr j=>?_⟩;have l:Same H (upd H r (.lst [])):=Same.new j;have n:(upd H r (.lst [])) r=some (.lst ([]:List V)):=oQ;generalize upd H r (.lst [])=C at l n;subst e1;refine st λN1 e1=>lF λB eB=>?_;simp only[mD];ext;refine⟨⋯,⋯,?_⟩;rw[zR];refine Ho (g:=oV 4) (tb:=B) (λk σ a=>∃(x:Int)(ns:LI')(v:Option V),σ=[some (.int x),some (.int b),some (.int m),some (.ref r),v]/\Same H a/\a r=some (.lst (ns.map V.int))/\ns.length=k/\∀y∈ns,0<=y/\y<b) ⟨c,[],none,rfl,l,n,rfl,λ_ h=>by cases h⟩ ?_ ?_
  ·rintro k σ a G ⟨x,ns,v,rfl,i,e,g,f⟩;subst eB;show tSeq _ _ _ [some (.int x),some (.int b),some (.int m),some (.ref r),some (.int (0+(k:Int)))] a;refine st λD q=>?_;ext;refine⟨.inl ⟨rfl,_,SqL.of e⟩,⋯,r,_,_,rfl,rfl,e,by rw[zqe];exact yA (show ns.length+1<=1000 by omega) ∅,?_⟩;subst q;ext;refine⟨p x,Same.over j i,ns++[x.fmod b],by rw[oQ,yM];rfl,by rw[zS,g];rfl,λy d=>?_⟩;rcases pY.mp d with d|d
   ·exact f y d
   ·rw[pW.mp d];exact fms x b ⋯
  ·rintro σ a ⟨x,ns,v,rfl,i,e,g,f⟩;symm;exact o r a ns i j e g f
theorem ok_8(T:Txt K mg t):FnOk P w K mg base CX0 1 t.a_8 t.d_8 pm' (sp_8 K):=by
 apply T.F_8.ok sc_8
 ·obtain⟨b1,b2,d5,d1,a,b,f,c,d,rfl,b9,b0,O,v,d4,a4,b4,a8⟩:=h;refine⟨_,(oO (nB (kQ (xs:=["_law_row"]) (fr:=[("_law_other",1)]) (g:=(oV 0)) (tt:=(tEl (mE (mD (oW (tCB (jD K) (oW (tVar 0) tNil)) tNil)) (oV 0) (tEl (tCB (λxs H Q=>∃(p:Addr)(ns:LI'),xs=[.ref p]/\SqL K H p (ns.map V.int)/\Q (.int ns.sum) H) (oW (mE (mD (oW (tCB (jD K) (oW (tVar 1) tNil)) tNil)) (oV 0) (tEl (tOp (rI (λi j=>IntMulOk i j) λi j=>.int (i*j)) (tOp (rIxB K) (tVar 2) (tVar 0)) (tOp (rIxB K) (tOp (rIxB K) (tVar 3) (tVar 0)) (tVar 1)))) 1 [("_law_j",0),("_law_row",1),("_law_other",2)]) tNil))) 1 [("_law_row",0),("_law_other",1)]))) (lL (sc:=oN s_8) (N:=N_8) rfl rfl (nofun)) rfl (nE (pq 0)) (λ_ _ _ u=>(jC (N:=["_law_row","_law_other"]) (i:=0) u rfl (nofun) rfl)) (λ_ _ _ u=>(lU (kQ (xs:=["_law_j"]) (fr:=[("_law_row",0),("_law_other",1)]) (g:=(oV 0)) (tt:=(tEl (tCB (λxs H Q=>∃(p:Addr)(ns:LI'),xs=[.ref p]/\SqL K H p (ns.map V.int)/\Q (.int ns.sum) H) (oW (mE (mD (oW (tCB (jD K) (oW (tVar 1) tNil)) tNil)) (oV 0) (tEl (tOp (rI (λi j=>IntMulOk i j) λi j=>.int (i*j)) (tOp (rIxB K) (tVar 2) (tVar 0)) (tOp (rIxB K) (tOp (rIxB K) (tVar 3) (tVar 0)) (tVar 1)))) 1 [("_law_j",0),("_law_row",1),("_law_other",2)]) tNil)))) (lL (N:=["_law_row","_law_other"]) u rfl (nofun)) rfl (mU rfl T.z_range (oJ (nU T.z_len (pv 0)) oK)) (λ_ _ _ q=>(jC (N:=["_law_j","_law_row","_law_other"]) (i:=0) q rfl (nofun) rfl)) (λ_ _ _ q=>(lU (lJ (Bf rfl) rfl T.z_sum (nofun) (oJ (nP (N:=["_law_j","_law_row","_law_other"]) (fr:=[("_law_j",0),("_law_row",1),("_law_other",2)]) (te:=(tOp (rI (λi j=>IntMulOk i j) λi j=>.int (i*j)) (tOp (rIxB K) (tVar 2) (tVar 0)) (tOp (rIxB K) (tOp (rIxB K) (tVar 3) (tVar 0)) (tVar 1)))) q rfl (nofun) rfl (nofun) (mU rfl T.z_range (oJ (nU T.z_len (pv 1)) oK)) (λ_ _ _ e0=>(oP nT (mC ix_B (pv 2) (pv 0) (λ_ _=>rfl)) (mC ix_B (mC ix_B (pv 3) (pv 0) (λ_ _=>rfl)) (pv 1) (λ_ _=>rfl))))) oK)))))))))),?_⟩;show tRet _ _ [some (.ref a),some (.ref b)] H;ext;refine nC λd9 eB=>?_;simp only[iSeq];ext;obtain⟨xs,U,N,c0⟩:=b9.walk;refine⟨b1,⟨_,U⟩,λD a7=>?_⟩;refine nQ (RowR D λi=>(List.range d).map λk=>dotI (f.getD i []) (colI k c)) a7 U (by rw[N,O.1];omega) (RowR.mono (a:=D)) ?_ ?_
  ·intro i x F zs C l b6 c5 b5;obtain⟨p,r,rfl,z,a1⟩:=c0 i x C;have S:r.length=d:=O.2 r (zqb z);have W:=a1.up l;subst eB;show mE _ _ _ _ _ [some (.ref p),some (.ref b)] F c5;refine nC λd6 a2=>?_;simp only[mD];ext;refine lO W ⟨_,rfl,⋯,⋯,λM a0=>?_⟩;rw[zR,S];refine lG (λj y _=>j<d/\y=.int (dotI r (colI j c))) a0 ⋯ (λ_ _ _ _ r _=>r) ?_ ?_
   ·intro j J d2 d0 g e2 a9 b3;have Z:=W.up g;subst a2;show tCB _ _ [some (.int (0+(j:Int))),some (.ref p),some (.ref b)] J a9;ext;refine nC λe3 c2=>?_;simp only[mD];ext;refine lO Z ⟨_,rfl,⋯,⋯,λc8 b7=>?_⟩;rw[zR,S];refine lG (λk y _=>∃x,(List.zipWith (·*·) r (colI j c))[k]?=some x/\y=.int x) b7 ⋯ (λ_ _ _ _ r _=>r) ?_ ?_
    ·intro k Y d3 R o d7 c7 c6;have I:k<r.length:=⋯
     have n:c[k]?=some (c.getD k []):=by have:=v.1;simp[show k<c.length by omega]
     have d8:(c.getD k []).length=d:=v.2 _ (zqb n);have bk:=b4 _ (zqb n);subst c2;show tOp _ _ _ [some (.int (0+(k:Int))),some (.int (0+(j:Int))),some (.ref p),some (.ref b)] Y c7;ext;refine⟨b2,p,_,_,_,rfl,rfl,Z.up o,mZ (kB (getD_at I)) ⋯,?_⟩;refine aF (((b0.up l).up g).up o) n (getD_at (k:=j) ⋯) ⋯ ⋯ ?_
     try ext
     refine⟨yG (nH (a4 r (zqb z) _ (L2.getD_mem I))) (nH (bk _ (L2.getD_mem ⋯))) ∅,c6 _ _ (Same.refl _) ⟨_,?_,rfl⟩⟩;unfold colI;rw[yW,L2.getD_at I,zC,n];rfl
    ·intro Y ys o c3 m c4;have L:ys=(List.zipWith (·*·) r (colI j c)).map V.int:=by
      refine nW (by have:=v.1;simp[colI];omega) λk y e=>?_;obtain⟨x,C,rfl⟩:=c4 k y e;exact⟨x,C,rfl⟩
     subst L;exact⟨c8,rfl,_,SqL.of c3,b3 _ _ o ⟨d0,rfl⟩⟩
   ·intro J ys g b8 m c9;have L:ys=((List.range d).map λk=>dotI r (colI k c)).map V.int:=by
     refine nW (by rw[m];simp) λk y e=>?_;obtain⟨R,rfl⟩:=c9 k y e;exact⟨_,by rw[zC,yR R];rfl,rfl⟩
    subst L;have c1:f.getD i []=r:=by rw[zqc,z];rfl
    exact b5 _ _ g ⟨M,rfl,zW (mI b6 a0),by show J M=some (.lst (((List.range d).map λk=>dotI (f.getD i []) (colI k c)).map V.int));rw[c1];exact b8⟩
  ·intro F ys l a6 m a5;have G:=MatL.of a6 a5;rw[m,N]at G;have a3:(List.range f.length).map (λi=>(List.range d).map λk=>dotI (f.getD i []) (colI k c))=mulM d f c:=by
    unfold mulM;refine xY (by simp) λi X e4=>?_;simp at X;simp[zqc,X]
   rw[a3]at G;exact a8 D F l G
theorem ok_z(T:Txt K mg t):FnOk P w K mg base CX0 1 t.a_z t.d_z pK' (sp_z K):=by
 apply T.F_z.ok sc_z
 ·obtain⟨p,ns,u,rfl,d,hl,I,q⟩:=h;refine⟨_,(oO (nB (mO (oJ (mP kJ rfl T.z_tuple (nofun) (oJ (nP (sc:=oN Av) (N:=N_z) (fr:=[("_law_spot",0)]) (te:=(tOp (rI (λ_ j=>j≠0) λi j=>.int (i.fmod j)) (tVar 0) (tOp (rIxB K) (tVar 1) (tC (.int 1))))) rfl rfl (nofun) rfl (nofun) (nE (oT (pq 0))) (λ_ _ _ G=>(oP mL (pv 0) (oT (pv 1))))) oK)) (oJ (oT (pq 0)) oK))))),?_⟩;show tRet _ _ [some (.ref p)] H;ext;exfalso;refine As d λx b=>⟨true,x,rfl,⟨_,(b:SqB true K H x _)⟩,λF m=>nQ (λj y _=>∃n,ns[j]?=some n/\y=.int (n.fmod u)) m (b:SqB true K H x _) (by rw[zqe];omega) (λ_ _ _ _ r _=>r) ?_ ?_⟩
  ·intro i x c zs b a _ o k;obtain⟨n,z,rfl⟩:=mS b;subst eB;show tOp _ _ _ [some (.int n),some (.ref p)] c o;ext;refine eJ (d.up a) ?_
   try ext
   exact⟨⋯,k _ c (Same.refl _) ⟨n,z,rfl⟩⟩
  ·intro c ys a e1 C g;have D:ys=(nX u ns).map V.int:=by
    unfold nX;rw[xI];exact nW (by simpa using C) g
   subst D;refine⟨F,_,rfl,.inl ⟨SqL.of e1,λl f=>?_⟩⟩;refine eJ ((d.up a).up (Same.new f)) ?_;refine⟨(by show 2<=sizeLine;decide),λv e=>q v _ ((a.trans (Same.new f)).trans (Same.new e)) ⟨l,oQ,?_⟩⟩;rw[oU (mI oQ e)];exact oQ
noncomputable def sumT(xs:LI')(u:Int)(ys:LI')(v:Int):LI':=List.zipWith (λm n=>m*v+n*u) xs ys
def sp_17(K:Frag):Sp:=λvs H Q _=>E3 λ(p:Addr)(ns:LI')(u:Int)=>A4 (vs=[.ref p]) (nI H p ns u) (ns.length<=100) (∀r H',Same H H'->nI H' r (ns.map (-·)) u->Q (.ref r) H')
def sp_w(K:Frag):Sp:=λvs H Q _=>E7 λ(p q:Addr)(xs ys:LI')(u v:Int)(d:Nat)=>A13 (vs=[.ref p,.ref q]) (nI H p xs u) (nI H q ys v) (xs.length=d) (ys.length=d) ((d=2\/d=3)) (nY 2100 xs) (nY 2100 ys) (0<u) (u<2^400) (0<v) (v<2^400) (∀r H',Same H H'->nI H' r (redT (u*v) (sumT xs u ys v)) (redU (u*v) (sumT xs u ys v))->Q (.ref r) H')
def sp_u(K:Frag):Sp:=λvs H Q _=>E7 λ(p q:Addr)(xs ys:LI')(u v:Int)(d:Nat)=>A13 (vs=[.ref p,.ref q]) (nI H p xs u) (nI H q ys v) (xs.length=d) (ys.length=d) ((d=2\/d=3)) (nY 2100 xs) (nY 2100 ys) (0<u) (u<2^400) (0<v) (v<2^400) (∀r H',Same H H'->nI H' r (redT (u*v) (sumT xs u (ys.map (-·)) v)) (redU (u*v) (sumT xs u (ys.map (-·)) v))->Q (.ref r) H')
theorem nI.upS{H H':Hp}{p:Addr}{ns:LI'}{u:Int}(h:nI H p ns u)(s:Same H H'):nI H' p ns u:=let ⟨q,b,a⟩:=h;⟨q,s _ _ b,s _ _ a⟩
theorem ok_17(T:Txt K mg t):FnOk P w K mg base CX0 1 t.a_17 t.d_17 pN' (sp_17 K):=by
 apply T.F_17.ok sc_17
 ·obtain⟨p,ns,u,rfl,c,hl,q⟩:=h;refine⟨_,(oO (nB (mO (oJ (mP kJ rfl T.z_tuple (nofun) (oJ (nP (sc:=oN s_17) (N:=N_17) (fr:=[]) (te:=(tUn (rU λi=>.int (-i)) (tVar 0))) rfl rfl (nofun) rfl (nofun) (nE (oT (pq 0))) (λ_ _ _ L=>(iV iW (pv 0)))) oK)) (oJ (oT (pq 0)) oK))))),?_⟩;show tRet _ _ [some (.ref p)] H
  try ext
  refine nC λB eB=>?_;simp only[iSeq]
  try ext
  refine kZ c λx f=>⟨true,x,rfl,⟨_,SqB.tup f⟩,λD o=>nQ (λj y _=>∃n,ns[j]?=some n/\y=.int (-n)) o (SqB.tup f) (by rw[zqe];omega) (λ_ _ _ _ r _=>r) ?_ ?_⟩
  ·intro i v a zs C _ _ I F;obtain⟨n,k,rfl⟩:=mS C;subst eB;show tUn _ _ [some (.int n)] a I
   try ext
   exact F _ a (Same.refl _) ⟨n,k,rfl⟩
  ·intro a ys b e1 z m;have J:ys=(ns.map (-·)).map V.int:=by
    rw[xI];exact nW (by simpa using z) m
   subst J;refine⟨D,_,rfl,.inl ⟨SqL.of e1,λl g=>?_⟩⟩
   try ext
   have d:Same a (upd a l (.tup ((ns.map (-·)).map V.int))):=Same.new g;refine jQ (c.upS (b.trans d)) ?_;refine⟨(by show 2<=sizeLine;decide),λG e=>q G _ ((b.trans d).trans (Same.new e)) ⟨l,oQ,?_⟩⟩;rw[oU (mI oQ e)];exact oQ
theorem ok_w(T:Txt K mg t):FnOk P w K mg base CX0 3 t.a_w t.d_w pC' (sp_w K):=by
 have J:=@ok_v P w K mg base t T;apply T.F_w.ok sc_w
 ·obtain⟨p,q,xs,ys,u,v,d,rfl,g,o,lx,C,b0,Y,a2,W,a9,a3,O,U⟩:=h;refine⟨_,(oM (gS (i:=2) (xs:=["left","right"]) (fr:=[("one",0),("other",1)]) (g:=(gTup K 2 (nR (oV 0) (nR (oV 1) gNil)))) (tt:=(tEl (tOp (rI0 λi j=>.int (i+j)) (tOp (rI (λi j=>IntMulOk i j) λi j=>.int (i*j)) (tVar 0) (tOp (rIxB K) (tVar 3) (tC (.int 1)))) (tOp (rI (λi j=>IntMulOk i j) λi j=>.int (i*j)) (tVar 1) (tOp (rIxB K) (tVar 2) (tC (.int 1))))))) (lL (sc:=oN aZ) (N:=N_w) rfl rfl (nofun)) rfl sc_w.nd rfl rfl (Bg rfl T.z_zip (oJ (oT (pq 0)) (oJ (oT (pq 1)) oK))) (λ_ _ _ l=>(lR rfl (nO (kR (N:=["left","right","one","other"]) (i:=0) l rfl (nofun)) (nO (kR (N:=["left","right","one","other"]) (i:=1) l rfl (nofun)) lQ)))) (λ_ _ _ l=>(lU (oP mY (oP nT (pv 0) (oT (pv 3))) (oP nT (pv 1) (oT (pv 2)))))))
   (oO (nB (jW J hr.mo rfl T.F_v.m T.F_v.kp T.F_v.b .nil hJ (oJ (pq 2) (oJ (oP nT (oT (pq 0)) (oT (pq 1))) oK)))))),?_⟩
  show tSeq _ _ _ [some (.ref p),some (.ref q),none] H;have y:u.natAbs<2^400:=⋯
  have k:v.natAbs<2^400:=⋯
  refine st λN1 e1=>?_
  try ext
  refine nC λB eB=>?_;simp only[iZip]
  try ext
  refine kZ g λX a5=>?_
  try ext
  refine kZ o λR S=>?_
  try ext
  have D:SqB true K H X (xs.map V.int):=SqB.tup a5;have G:SqB true K H R (ys.map V.int):=SqB.tup S;refine⟨true,⟨_,D⟩,true,⟨_,G⟩,λa a0=>?_⟩;refine Be (λj z _=>∃m n,xs[j]?=some m/\ys[j]?=some n/\z=.int (m*v+n*u)) a0 D G (by simp[lx,C]) (by simp[lx];omega) (λ_ _ _ _ r _=>r) ?_ ?_
  ·intro i O v2 I zs Z x b F a6 a4;obtain⟨m,c,rfl⟩:=mS Z;obtain⟨n,f,rfl⟩:=mS x;subst eB;show tOp _ _ _ [some (.int m),some (.int n),some (.ref p),some (.ref q)] I a6
   try ext
   refine jQ (o.upS b) ?_
   try ext
   refine⟨yG (nH (Y m (zqb c))) (nH k) ∅,jQ (g.upS b) ?_⟩
   try ext
   exact⟨yG (nH (a2 n (zqb f))) (nH y) ∅,a4 _ _ (Same.refl _) ⟨m,n,c,f,rfl⟩⟩
  ·intro I zs b F a7 M;have x:zs=(sumT xs u ys v).map V.int:=by
    unfold sumT;refine nW (by simp at a7 ⊢;omega) λj z e=>?_;obtain⟨m,n,c,f,rfl⟩:=M j z e;exact⟨_,by rw[yW,c,f],rfl⟩
   subst x;subst e1
   try ext
   refine jQ (g.upS b) ?_
   try ext
   refine jQ (o.upS b) ?_
   try ext
   have a8:0<u*v:=yZ W a3;have hl:(sumT xs u ys v).length=d:=by unfold sumT;rw[xD,lx,C,tX]
   have sm:kN (u*v):=jF (B:=800) (by rw[xC];exact zF (rC y k) (by rw[←vK];exact zE _)) ∅;refine⟨yG (nH y) (nH k) ∅,?_⟩;refine⟨false,a,_,u*v,rfl,SqB.lst F,⋯,sm,λz=>?_,λ_ _ r a1 N L=>?_⟩
   ·rcases z with z|z
    ·omega
    ·rw[z]at hl;simp at hl;omega
   ·exact U r a1 (b.trans N) L
theorem ok_u(T:Txt K mg t):FnOk P w K mg base CX0 4 t.a_u t.d_u pC' (sp_u K):=by
 have j:=@ok_w P w K mg base t T;have f:=@ok_17 P w K mg base t T;apply T.F_u.ok sc_u
 ·obtain⟨p,q,xs,ys,u,v,d,rfl,c,G,lx,e,J,m,x,l,D,C,i,k⟩:=h;refine⟨_,(oO (nB (oS j hr.mo T.F_w (oJ (pq 0) (oJ (oS f hr.mo T.F_17 (oJ (pq 1) oK)) oK))))),?_⟩;show tRet _ _ [some (.ref p),some (.ref q)] H
  try ext
  refine⟨q,ys,v,rfl,G,⋯,λr L b o=>?_⟩;refine⟨p,r,xs,ys.map (-·),u,v,d,rfl,c.upS b,o,lx,by rw[zqe];exact e,J,m,λz a=>?_,l,D,C,i,λF n g a=>k F n (b.trans g) a⟩;obtain⟨y,I,rfl⟩:=pZ.mp a;rw[Int.natAbs_neg];exact x y I
theorem Wm{H c:Hp}{r b:Addr}{C:LM}{x:LI'}{i:Nat}(h:MatL H r C)(s:Same H c)(g:b≠r)(e:c b=some (.lst (x.map V.int))):∃zs,c r=some (.lst zs)/\zs.length=C.length/\MatL (upd c r (.lst (zs.set i (.ref b)))) r (C.set i x):=by
 obtain⟨ps,n,f,m⟩:=h;refine⟨_,s _ _ n,by rw[zqe,f],ps.set i b,by rw[oQ,List.map_set],by simp[f],λj p row ep a=>?_⟩;rw[List.getElem?_set]at ep a
 by_cases k:i=j
 ·subst k;rw[zJ rfl]at ep a;split at ep
  ·cases ep;split at a
   ·cases a;exact⟨g,by rw[oU g];exact e⟩
   ·cases a
  ·cases ep
 ·rw[zI k]at ep a;obtain⟨d,l⟩:=m j p row ep a;exact⟨d,by rw[oU d];exact s _ _ l⟩
theorem Wl{d B:Nat}{x y:LI'}{m:Int}(a:∀z∈x,z.natAbs<2^B)(e:∀z∈y,z.natAbs<2^B)(c:m.natAbs<=2):∀z∈mixR d x y m,z.natAbs<2^(B+2):=λz b=>by
 obtain⟨t,_,rfl⟩:=pZ.mp b;exact En (fE a t) (fE e t) c
theorem Wk{d i j B:Nat}{m:Int}{x:LI'}(a:∀z∈x,z.natAbs<2^B)(c:m.natAbs<=2):∀z∈colR d i j m x,z.natAbs<2^(B+2):=λz b=>by
 obtain⟨t,_,rfl⟩:=pZ.mp b;split
 ·rw[tM,Int.sub_eq_add_neg,←Int.neg_mul];exact En (fE a t) (fE a i) (by rw[Int.natAbs_neg];exact c)
 ·rw[sD,sD,Int.sub_zero];exact zF (fE a t) (zY ∅ ⋯)
theorem Wj{d i j k:Nat}{m:Int}{x:LI'}(a:k<d):(colR d i j m x)[k]?=some (x.getD k 0-(if k=j then 1 else 0)*m*x.getD i 0):=by
 unfold colR;rw[zC,yR a];rfl
theorem ok_3(T:Txt K mg t):FnOk P w K mg base CX0 1 t.a_3 t.d_3 pk' (sp_3 K):=by
 apply T.F_3.ok sc_3
 ·obtain⟨b1,b2,a,l,O,L,d,B,rfl,d5,i3,a3,a7,ok,j0,h9,k6,e6⟩:=h;obtain⟨ps,c6,e0,i5⟩:=i3;refine⟨_,(oM (oX (i:=0) sc_3.nd rfl (Or.inr rfl) (nP (sc:=oN s_3) (N:=N_3) (fr:=[]) (te:=(tCB (dR K) (oW (tVar 0) tNil))) rfl rfl (nofun) rfl (nofun) (nE (pq 0)) (λ_ _ _ N=>(mP gC rfl T.z_list (nofun) (oJ (pv 0) oK)))))
   (oM (lC yF rfl (nE (pq 1)) (lR rfl (nO (nL (i:=2) sc_3.nd rfl (Or.inr rfl)) (nO (nL (i:=3) sc_3.nd rfl (Or.inr rfl)) (nO (nL (i:=4) sc_3.nd rfl (Or.inr rfl)) lQ))))
   (oM (jU (nP (sc:=oN s_3) (N:=N_3) (fr:=[("_law_rows",0),("_law_i",2),("_law_j",3),("_law_many",4)]) (te:=(tOp (rI0 λi j=>.int (i+j)) (tOp (rIxB K) (tOp (rIxB K) (tVar 1) (tVar 2)) (tVar 0)) (tOp (rI (λi j=>IntMulOk i j) λi j=>.int (i*j)) (tVar 4) (tOp (rIxB K) (tOp (rIxB K) (tVar 1) (tVar 3)) (tVar 0))))) rfl rfl (nofun) rfl (nofun) (mU rfl T.z_range (oJ (nU T.z_len (pq 0)) oK)) (λ_ _ _ N=>(oP mY (mC ix_B (mC ix_B (pv 1) (pv 2) (λ_ _=>rfl)) (pv 0) (λ_ _=>rfl)) (oP nT (pv 4) (mC ix_B (mC ix_B (pv 1) (pv 3) (λ_ _=>rfl)) (pv 0) (λ_ _=>rfl)))))) (dG (pq 0) (pq 2) Gv))
   (oO (oX (i:=0) sc_3.nd rfl (Or.inr rfl) (kQ (xs:=["_law_row"]) (fr:=[("_law_i",2),("_law_j",3),("_law_many",4)]) (g:=(oV 0)) (tt:=(tEl (mE (mD (oW (tCB (jD K) (oW (tVar 0) tNil)) tNil)) (oV 0) (tEl (tOp (rI0 λi j=>.int (i-j)) (tOp (rIxB K) (tVar 1) (tVar 0)) (tOp (rI (λi j=>IntMulOk i j) λi j=>.int (i*j)) (tOp (rI (λi j=>IntMulOk i j) λi j=>.int (i*j)) (tCB (λxs H Q=>(∃i,xs=[.int i]/\Q (.int i) H)\/∃k,xs=[.bl k]/\Q (.int (if k then 1 else 0)) H) (oW (tOp (rI0 λi j=>.bl (decide (i=j))) (tVar 0) (tVar 3)) tNil)) (tVar 4)) (tOp (rIxB K) (tVar 1) (tVar 2))))) 1 [("_law_row",0),("_law_i",1),("_law_j",2),("_law_many",3)]))) (lL (sc:=oN s_3) (N:=N_3) rfl rfl (nofun)) rfl (nE (pq 0)) (λ_ _ _ N=>(jC (N:=["_law_row","_law_i","_law_j","_law_many"]) (i:=0) N rfl (nofun) rfl)) (λ_ _ _ N=>(lU (nP (N:=["_law_row","_law_i","_law_j","_law_many"]) (fr:=[("_law_row",0),("_law_i",1),("_law_j",2),("_law_many",3)]) (te:=(tOp (rI0 λi j=>.int (i-j)) (tOp (rIxB K) (tVar 1) (tVar 0)) (tOp (rI (λi j=>IntMulOk i j) λi j=>.int (i*j)) (tOp (rI (λi j=>IntMulOk i j) λi j=>.int (i*j)) (tCB (λxs H Q=>(∃i,xs=[.int i]/\Q (.int i) H)\/∃k,xs=[.bl k]/\Q (.int (if k then 1 else 0)) H) (oW (tOp (rI0 λi j=>.bl (decide (i=j))) (tVar 0) (tVar 3)) tNil)) (tVar 4)) (tOp (rIxB K) (tVar 1) (tVar 2))))) N rfl (nofun) rfl (nofun) (mU rfl T.z_range (oJ (nU T.z_len (pv 0)) oK)) (λ_ _ _ j1=>(oP iJ (mC ix_B (pv 1) (pv 0) (λ_ _=>rfl)) (oP nT (oP nT (mP Bv rfl T.z_int (nofun) (oJ (gP lZ (pv 0) (pv 3) (nM _)) oK)) (pv 4)) (mC ix_B (pv 1) (pv 2) (λ_ _=>rfl)))))))))))))
   (oO (nB (pq 0))))),?_⟩
  show tSeq _ _ _ [some (.ref a),some (.ref l),none,none,none] H;have j7:d<=3:=⋯
  right;refine nC λk3 eB=>?_;simp only[iSeq];ext;obtain⟨xs,e7,j9,k8⟩:=d5.walk;refine⟨b1,⟨_,e7⟩,λr M=>?_⟩;subst eB;refine Rz d5 (by rw[a3.1];omega) M λj6 c9 f4=>?_;subst e1;refine st λN1 e1=>lF λg5 eB=>?_;simp only[iSeq];ext;refine⟨false,⟨_,SqB.lst (c9 _ _ c6)⟩,?_⟩;refine kX (g:=gTup K 3 (nR (oV 2) (nR (oV 3) (nR (oV 4) gNil)))) (tb:=g5) (xs:=ps.map V.ref) (λk σ m=>∃r a2 Z Y,σ=[some (.ref r),some (.ref l),a2,Z,Y]/\Same H m/\H r=none/\MatL m r (cjM d (chP d (L.take k).reverse) (chQ d (L.take k).reverse) O)/\mF (B+4*k) (cjM d (chP d (L.take k).reverse) (chQ d (L.take k).reverse) O)) ⟨r,none,none,none,rfl,c9,M,?_,?_⟩ ?_ ?_ ?_
  ·rw[sF,rE,(Ka a7 a3 (v:=List.replicate d 0) (by simp)).1];exact f4.l
  ·rw[sF,rE,(Ka a7 a3 (v:=List.replicate d 0) (by simp)).1];exact h9
  ·rintro k σ m _ ⟨r,a2,Z,Y,rfl,J,_⟩;exact SqB.lst (J _ _ c6)
  ·rintro k x σ m I ⟨r,a2,Z,Y,rfl,J,M,D,F⟩;rw[zC]at I;cases ep:ps[k]? with
   |none=>rw[ep]at I;cases I
   |some p =>
   rw[ep]at I;cases I;have f3:k<L.length:=by rw[←e0];exact(zqa ep).1
   have X:L[k]?=some L[k]:=zqd f3;generalize L[k]=q at X;have d3:=ok q (zqb X);have d4:∀s∈(L.take k).reverse,s.Ok d:=λs h0=>ok s (rX (oG.mp h0));have e4:=J _ _ (i5 k p q ep X);have nx:=Vg a7 d4 d3 a3;rw[←Ll X]at nx;rw[←nx];have g:Sq d (cjM d (chP d (L.take k).reverse) (chQ d (L.take k).reverse) O):=gJ (jG a7 d4) O;clear nx;generalize cjM d (chP d (L.take k).reverse) (chQ d (L.take k).reverse) O=C at D F g;obtain⟨b,f,c⟩:=q;obtain⟨hi,v,j5,a4⟩:=d3;replace hi:b<d:=hi;replace v:f<d:=v;replace a4:c.natAbs<=2:=a4;refine⟨p,_,rfl,SqT.of e4,rfl,?_⟩;simp only[nR,gNil,oV];refine⟨_,_,rfl,_,_,rfl,_,_,rfl,rfl,?_⟩;subst eB;show tSeq _ _ _ [some (.ref r),some (.ref l),some (.int b),some (.int f),some (.int c)] m;refine st λk2 h8=>?_;have W:C[b]?=some (C.getD b []):=by have:=g.1;simp[show b<C.length by omega]
   have a0:C[f]?=some (C.getD f []):=by have:=g.1;simp[show f<C.length by omega]
   generalize hx:C.getD b []=x at W;generalize hy:C.getD f []=y at a0;have j3:x.length=d:=g.2 x (zqb W);have i9:y.length=d:=g.2 y (zqb a0);have g8:∀z∈x,z.natAbs<2^(B+4*k):=F x (zqb W);have c7:∀z∈y,z.natAbs<2^(B+4*k):=F y (zqb a0);ext;refine nC λk4 g0=>?_;simp only[mD];ext;refine iA (D.b (K:=K)) ?_;rw[g.1];refine⟨_,rfl,⋯,⋯,λb8 a9=>?_⟩;rw[zR];have g4:c.natAbs<2^20:=by have:(2:Nat)^20=1048576:=rfl;omega
   have i1:∃o,m r=some o:=let ⟨_,h,_⟩:=D;⟨_,h⟩
   have g3:b8≠r:=λe=>by obtain⟨o,e9⟩:=i1;rw[e,e9]at a9;cases a9
   refine lG (λj z _=>j<d/\z=.int (x.getD j 0+c*y.getD j 0)) a9 ⋯ (λ_ _ _ _ r _=>r) ?_ ?_
   ·intro j U k1 v a1 i8 c0 c1;subst g0;have d7:MatB false false K U r C:=D.b.up a1;show tOp _ _ _ [some (.int (0+(j:Int))),some (.ref r),some (.int b),some (.int f),some (.int c)] U c0;ext;refine aF d7 W (getD_at (k:=j) ⋯) rfl ⋯ ?_;refine aF d7 a0 (getD_at (k:=j) ⋯) rfl ⋯ ?_;ext;exact⟨yG (nH g4) (nH (c7 _ (L2.getD_mem ⋯))) ⋯,c1 _ _ (Same.refl _) ⟨v,rfl⟩⟩
   ·intro U ys a1 i2 f6 h2;have f1:ys=(mixR d x y c).map V.int:=by
     refine nW (by rw[f6];simp[mixR]) λj z e=>?_;obtain⟨v,rfl⟩:=h2 j z e;exact⟨_,by unfold mixR;rw[zC,yR v];rfl,rfl⟩
    subst f1;obtain⟨zs,G,f9,b5⟩:=Wm (i:=b) D a1 g3 i2;have b3:Same H (upd U r (.lst (zs.set b (.ref b8)))):=Same.over M (J.trans a1);simp only[gSub,Bo];ext;refine⟨_,G,b,Lm (by rw[f9,g.1];exact hi),?_⟩;generalize upd U r (.lst (zs.set b (.ref b8)))=k5 at b3 b5;have b0:Sq d (C.set b (mixR d x y c)):=by
     refine⟨by simp[g.1],λz G=>?_⟩;rcases tR G with h|h
     ·exact g.2 z h
     ·rw[h];simp[mixR]
    have a8:mF (B+4*k+2) (C.set b (mixR d x y c)):=by
     intro z G;rcases tR G with h|h
     ·exactλu g7=>zF (F z h u g7) (zY ∅ ⋯)
     ·rw[h];exact Wl g8 c7 a4
    have b6:cR d b f c C=(C.set b (mixR d x y c)).map (colR d b f c):=by unfold cR;rw[hx,hy]
    generalize C.set b (mixR d x y c)=R at b5 b0 a8 b6;subst h8;ext;refine nC λj4 g2=>?_;simp only[iSeq];ext;obtain⟨i7,e3,c8,h7⟩:=(b5.b (K:=K)).walk;refine⟨false,⟨_,e3⟩,λS d0=>?_⟩;have g6:H S=none:=by
     cases h:H S with
     |none=>rfl
     |some o=>have:=b3 _ _ h;rw[d0]at this;cases this
    refine nQ (RowR S λi=>colR d b f c (R.getD i [])) d0 e3 (by rw[c8,b0.1];omega) (RowR.mono (a:=S)) ?_ ?_
    ·intro i x d8 i6 I a5 h5 h4 f7;obtain⟨a6,rt,rfl,b9,d6⟩:=h7 i x I;have e5:rt.length=d:=b0.2 rt (zqb b9);have f0:=a8 rt (zqb b9);subst g2;show mE _ _ _ _ _ [some (.ref a6),some (.int b),some (.int f),some (.int c)] d8 h4;refine nC λk0 f5=>?_;simp only[mD];ext;refine lO (d6.up a5) ⟨_,rfl,⋯,⋯,λd1 c5=>?_⟩;rw[zR,e5];refine lG (λj z _=>∃n,(colR d b f c rt)[j]?=some n/\z=.int n) c5 ⋯ (λ_ _ _ _ r _=>r) ?_ ?_
     ·intro j b4 k7 v c3 j2 c0 c1;subst f5;have d2:=(d6.up a5).up c3;show tOp _ _ _ [some (.int (0+(j:Int))),some (.ref a6),some (.int b),some (.int f),some (.int c)] b4 c0;ext;refine⟨false,a6,_,_,_,rfl,rfl,d2,mZ (kB (getD_at (k:=j) ⋯)) ⋯,?_⟩;refine .inr ⟨wL (wZ (by split <;> omega) (by split <;> omega)),?_⟩;refine⟨false,a6,_,_,_,rfl,rfl,d2,mZ (kB (getD_at (k:=b) ⋯)) rfl,?_⟩;ext;have sm:(((if 0+(j:Int)=(f:Int) then(1:Int) else 0)*c)).natAbs<2^20:=by
       have:(2:Nat)^20=1048576:=rfl;split <;> omega
      have f2:=nH sm;have h3:=nH (f0 _ (L2.getD_mem (show b<rt.length by omega)));have d9:IntMulOk ((if 0+(j:Int)=(f:Int) then(1:Int) else 0)*c) (rt.getD b 0):=yG f2 h3 ⋯;refine⟨by first|exact d9|simpa using d9,c1 _ _ (Same.refl _) ⟨_,Wj v,?_⟩⟩;have c4:(0+(j:Int)=(f:Int))↔j=f:=⋯
      by_cases q:j=f
      ·rw[zJ q,zJ (zL (c4.mpr q))]
      ·rw[zI q,zI λh=>q (c4.mp (yP h))]
     ·intro b4 zs c3 i4 b7 h6;have f8:zs=(colR d b f c rt).map V.int:=nW (by rw[b7];simp[colR]) h6;subst f8;have i0:R.getD i []=rt:=by rw[zqc,b9];rfl
      exact f7 _ _ c3 ⟨d1,rfl,zW (mI h5 c5),by show b4 d1=some (.lst ((colR d b f c (R.getD i [])).map V.int));rw[i0];exact i4⟩
    ·intro d8 zs a5 g1 b7 h1;have c2:=MatL.of g1 h1;rw[b7,c8]at c2;have e8:(List.range R.length).map (λi=>colR d b f c (R.getD i []))=R.map (colR d b f c):=by
      refine xY (by simp) λi e2 j8=>?_;simp at e2;simp[zqc,e2]
     rw[e8]at c2;refine⟨S,rfl,b3.trans a5,g6,by rw[b6];exact c2,?_⟩;rw[b6];intro z G;obtain⟨rt,g9,rfl⟩:=pZ.mp G;exact Wk (a8 rt g9) a4
  ·rintro σ m ⟨r,a2,Z,Y,rfl,J,M,D,F⟩;symm;rw[zqe,e0,tE]at D F;exact e6 r m J D F
abbrev DdS(K:Frag)(H:Hp)(p:Addr)(x:Dd):Prop:=jE K H p x.1 x.2.1 x.2.2
theorem DdS.up{H H':Hp}{p:Addr}{x:Dd}(h:DdS K H p x)(s:Same H H'):DdS K H' p x:=jE.up h s
def sp_d(K:Frag):Sp:=λvs H Q _=>E6 λ(p q:Addr)(x:Dd)(ns:LI')(v:Int)(d:Nat)=>A15 (vs=[.ref p,.ref q]) (DdS K H p x) (PlS K H q ns v) (Sq d x.1) ((d=2\/d=3)) (x.2.1.length=d) (ns.length=d) (mF 1000 x.1) (nY 1000 x.2.1) (nY 1000 ns) (0<x.2.2) (x.2.2<2^150) (0<v) (v<2^150) (∀r H',Same H H'->nI H' r (redT (x.2.2*v) (movT x.1 x.2.1 x.2.2 ns v)) (redU (x.2.2*v) (movT x.1 x.2.1 x.2.2 ns v))->Q (.ref r) H')
theorem Em{B C:Nat}{r ns:LI'}(hr:∀z∈r,z.natAbs<2^B)(b:∀z∈ns,z.natAbs<2^C)(hl:r.length<=3):(dotI r ns).natAbs<2^(B+C+2):=by
 have h:=Et (A:=2^B) (B:=2^C) r ns (λz a=>xX (hr z a)) λz a=>xX (b z a);have e:(2:Nat)^(B+C+2)=4*(2^B*2^C):=by rw[vK,vK,qX]
 have p:0<2^B*2^C:=Nat.mul_pos (vQ B) (vQ C);have c:=wD (2^B*2^C) hl;omega
theorem ok_d(T:Txt K mg t):FnOk P w K mg base CX0 3 t.a_d t.d_d pq' (sp_d K):=by
 have c4:=@ok_19 P w K mg base t T;have b5:=@ok_h P w K mg base t T;apply T.F_d.ok sc_d
 ·obtain⟨p,q,⟨M,ts,u⟩,ns,v,d,rfl,a0,W,b,a3,lt,b8,I,c2,F,o,O,a9,c8,a6⟩:=h;replace b:Sq d M:=b;replace lt:ts.length=d:=lt;replace o:0<u:=o;replace O:u<2^150:=O;obtain⟨N,l,b3,c1,U⟩:=a0;obtain⟨G,Y,b4⟩:=W;have e:∀{H'},Same H H'->SqB true K H' p [.ref N,.ref l,.int u]:=λs=>mH s _ _ b3;have x:∀{H'},Same H H'->SqB true K H' q [.ref G,.int v]:=λs=>mH s _ _ Y;refine⟨_,(oM (oX (i:=2) sc_d.nd rfl (Or.inr rfl) (oS c4 hr.mo T.F_19 (oJ (oT (pq 0)) (oJ (oT (pq 1)) oK))))
   (oM (iO (i:=3) (sc:=oN Aw) (N:=N_d) (fr:=[("_law_one",0),("_law_spot",1),("_law_far",2)]) (te:=(tOp (rI0 λi j=>.int (i+j)) (tOp (rI (λi j=>IntMulOk i j) λi j=>.int (i*j)) (tOp (rIxB K) (tVar 3) (tVar 0)) (tOp (rIxB K) (tVar 1) (tC (.int 2)))) (tOp (rI (λi j=>IntMulOk i j) λi j=>.int (i*j)) (tOp (rIxB K) (tOp (rIxB K) (tVar 1) (tC (.int 1))) (tVar 0)) (tOp (rIxB K) (tVar 2) (tC (.int 1)))))) rfl rfl (nofun) rfl sc_d.nd rfl rfl (nofun) (mU rfl T.z_range (oJ (nU T.z_len (pq 2)) oK)) (λ_ _ _ c7=>(oP mY (oP nT (mC ix_B (pv 3) (pv 0) (λ_ _=>rfl)) (oT (pv 1))) (oP nT (mC ix_B (oT (pv 1)) (pv 0) (λ_ _=>rfl)) (oT (pv 2))))))
   (oO (nB (oS b5 hr.mo T.F_h (oJ (pq 3) (oJ (oP nT (oT (pq 0)) (oT (pq 1))) oK))))))),?_⟩
  show tSeq _ _ _ [some (.ref p),some (.ref q),none,none] H;have C:u.natAbs<2^150:=⋯
  have g:v.natAbs<2^150:=⋯
  right;refine⟨true,p,_,_,_,rfl,rfl,e (Same.refl _),rfl,?_⟩;refine⟨true,q,_,_,_,rfl,rfl,x (Same.refl _),rfl,?_⟩
  try ext
  refine⟨true,true,true,N,G,M,ns,d,rfl,c1,b4,b,a3,b8,λr hr z m=>zF (I r hr z m) (zY ∅ ∅),F.le ∅,λf b7 D c6 R=>?_⟩;have b1:(mv M ns).length=d:=lB b;left;refine nC λB eB=>?_;simp only[mD];ext;refine lO (SqB.lst R) ⟨_,rfl,⋯,⋯,λb0 a5=>?_⟩;rw[zR,b1];have b6:∀{H'},Same b7 H'->SqB false K H' f ((mv M ns).map V.int):=λs=>SqB.lst (s _ _ R);have Z:∀{H'},Same H H'->SqB true K H' l (ts.map V.int):=λs=>mH s _ _ U;have c0:∀z∈mv M ns,z.natAbs<2^2002:=λz m=>by
   obtain⟨r,hr,rfl⟩:=pZ.mp m;exact Em (I r hr) F (by have:=b.2 r hr;omega)
  refine lG (λk y _=>∃n,(movT M ts u ns v)[k]?=some n/\y=.int n) a5 ⋯ (λ_ _ _ _ r _=>r) ?_ ?_
  ·intro k J d0 c5 c c9 a7 b2;have a:=D.trans c;subst eB;show tOp _ _ _ [some (.int (0+(k:Int))),some (.ref p),some (.ref q),some (.ref f)] J a7;ext;refine⟨false,f,_,_,_,rfl,rfl,b6 c,mZ (kB (getD_at (k:=k) ⋯)) ⋯,?_⟩;refine⟨true,p,_,_,_,rfl,rfl,e a,rfl,?_⟩
   try ext
   have b9:IntMulOk ((mv M ns).getD k 0) u:=yG (nH (c0 _ (L2.getD_mem ⋯))) (nH C) ∅;have S:IntMulOk (ts.getD k 0) v:=yG (nH (c2 _ (L2.getD_mem (by show k<ts.length;omega)))) (nH g) ∅;refine⟨b9,?_⟩;refine⟨true,p,_,_,_,rfl,rfl,e a,rfl,?_⟩;refine⟨true,l,_,_,_,rfl,rfl,Z a,mZ (kB (getD_at (k:=k) ⋯)) ⋯,?_⟩;refine⟨true,q,_,_,_,rfl,rfl,x a,rfl,?_⟩
   try ext
   refine⟨S,?_⟩;refine b2 _ _ (Same.refl _) ⟨_,?_,rfl⟩;have L:M[k]?=some (M.getD k []):=by have:=b.1;simp[show k<M.length by omega]
   unfold movT mv;rw[yW,L,L2.getD_at (show k<ts.length by omega)];show some _=some _;congr 2;rw[zqc (l:=List.map (λr=>dotI r ns) M),zC,L];rfl
  ·intro J ys c a4 a8 a1;have a2:(movT M ts u ns v).length=d:=by unfold movT;rw[xD,b.1,lt,tX]
   have c3:ys=(movT M ts u ns v).map V.int:=nW (by rw[a8,a2]) a1;subst c3;have a:=D.trans c;symm;refine⟨true,p,_,_,_,rfl,rfl,e a,rfl,?_⟩;refine⟨true,q,_,_,_,rfl,rfl,x a,rfl,?_⟩
   try ext
   refine⟨yG (nH C) (nH g) ∅,?_⟩;refine⟨false,b0,_,_,rfl,SqB.lst a4,⋯,yZ o a9,?_,λr H' X hr=>a6 r H' (a.trans X) hr⟩;refine jF (B:=300) ?_ ∅;rw[xC];exact zF (rC C g) (by rw[←vK];exact zE _)
theorem eX{U:Int}{ts:LI'}(i:0<U):(∀z∈redT U ts,∃t∈ts,z.natAbs<=t.natAbs)/\0<redU U ts/\redU U ts<=U:=by
 have b:=eI ts (show U≠0 by omega);have f:0<redU U ts:=At ts ⋯;refine⟨λz c=>?_,f,?_⟩
 ·unfold redT at c;obtain⟨t,d,rfl⟩:=pZ.mp c;refine⟨t,d,?_⟩;have e:t.fdiv (cs U ts)*cs U ts=t:=iF b (jO (cI d));have a:=wH Int.natAbs e;rw[xC]at a;have:1<=(cs U ts).natAbs:=⋯
  rw[←a];exact Nat.le_mul_of_pos_right _ this
 ·have e:redU U ts*cs U ts=U:=iF b (jO (gl_u U ts));have a:=wH Int.natAbs e;rw[xC]at a;have g:1<=(cs U ts).natAbs:=⋯
  have:=Nat.le_mul_of_pos_right (redU U ts).natAbs g;omega
def sp_4(K:Frag):Sp:=λvs H Q _=>E12 λ(a b l sp sl:Addr)(R:LM)(ts S:LI')(p su:Int)(L:List Stp)(d:Nat)=>A20 (vs=[.ref a,.ref b,.int p,.ref l,.ref sp]) (MatL H a R) (H b=some (.lst (ts.map V.int))) (gK H l L) (H sp=some (.tup [.ref sl,.int su])) (H sl=some (.lst (S.map V.int))) (Sq d R) ((d=2\/d=3)) (ts.length=d) (S.length=d) ((∀s∈L,s.Ok d)) (L.length<=6) (mF 1 R) (nY 5 ts) (nY 5 S) (0<p) (p<=6) (0<su) (su<=12) (∀q H',Same H H'->lA K H' q (cjM d (chP d L.reverse) (chQ d L.reverse) R) (redT (p*su) (cjT d (chP d L.reverse) (chQ d L.reverse) R (smul su ts) (smul p S))) (redU (p*su) (cjT d (chP d L.reverse) (chQ d L.reverse) R (smul su ts) (smul p S)))->Fine d (cjM d (chP d L.reverse) (chQ d L.reverse) R) (redT (p*su) (cjT d (chP d L.reverse) (chQ d L.reverse) R (smul su ts) (smul p S))) (redU (p*su) (cjT d (chP d L.reverse) (chQ d L.reverse) R (smul su ts) (smul p S)))->Q (.ref q) H')
theorem Wi{d:Nat}(g:d=2\/d=3){P b R:LM}(c:Chg d P b)(l:Sq d R){ts a:LI'}(lt:ts.length=d)(i:a.length=d){p f:Int}{k:Nat}(j:k<d):
  (cjT d P b R (smul f ts) (smul p a))[k]?=some ((mv P ts).getD k 0*f+(a.getD k 0-(mv (cjM d P b R) a).getD k 0)*p):=by
 unfold cjT;have e:=gJ c R;rw[cQ g c.p lt,cQ g e i];have l1:(mv P ts).length=d:=lB c.p;have l2:(mv (cjM d P b R) a).length=d:=lB e;generalize mv P ts=A at l1;generalize mv (cjM d P b R) a=B at l2;unfold vs va smul;rw[yW,yW,zC,zC,zC,L2.getD_at (show k<A.length by omega),L2.getD_at (show k<B.length by omega),L2.getD_at (show k<a.length by omega)];show some _=some _;congr 1;grind
theorem ok_4(T:Txt K mg t):FnOk P w K mg base CX0 3 t.a_4 t.d_4 pa' (sp_4 K):=by
 have f8:=@ok_19 P w K mg base t T;have g4:=@ok_h P w K mg base t T;have e9:=@ok_3 P w K mg base t T;have f0:=@ok_5 P w K mg base t T;apply T.F_4.ok sc_4
 ·obtain⟨a,b,l,sp,b7,R,ts,g,p,o,L,d,rfl,f5,e0,d1,O,c3,b9,M,lt,W,ok,h1,d5,d7,a1,a5,c1,J,c5,X⟩:=h;refine⟨_,(oM (oX (i:=0) sc_4.nd rfl (Or.inl rfl) (oS e9 hr.mo T.F_3 (oJ (pq 0) (oJ (pq 3) oK))))
   (oM (oX (i:=1) sc_4.nd rfl (Or.inr rfl) (oS f0 hr.mo T.F_5 (oJ (pq 1) (oJ (pq 3) oK))))
   (oM (oX (i:=5) sc_4.nd rfl (Or.inr rfl) (oS f8 hr.mo T.F_19 (oJ (pq 0) (oJ (oT (pq 4)) oK))))
   (oM (oX (i:=1) sc_4.nd rfl (Or.inr rfl) (nP (sc:=oN s_4) (N:=N_4) (fr:=[("_law_tops",1),("_law_parts",2),("_law_spot",4),("_law_far",5)]) (te:=(tOp (rI0 λi j=>.int (i+j)) (tOp (rI (λi j=>IntMulOk i j) λi j=>.int (i*j)) (tOp (rIxB K) (tVar 1) (tVar 0)) (tOp (rIxB K) (tVar 3) (tC (.int 1)))) (tOp (rI (λi j=>IntMulOk i j) λi j=>.int (i*j)) (tOp (rI0 λi j=>.int (i-j)) (tOp (rIxB K) (tOp (rIxB K) (tVar 3) (tC (.int 0))) (tVar 0)) (tOp (rIxB K) (tVar 4) (tVar 0))) (tVar 2)))) rfl rfl (nofun) rfl (nofun) (mU rfl T.z_range (oJ (nU T.z_len (pq 1)) oK)) (λ_ _ _ e2=>(oP mY (oP nT (mC ix_B (pv 1) (pv 0) (λ_ _=>rfl)) (oT (pv 3))) (oP nT (oP iJ (mC ix_B (oT (pv 3)) (pv 0) (λ_ _=>rfl)) (mC ix_B (pv 4) (pv 0) (λ_ _=>rfl))) (pv 2))))))
   (oM (jU (oS g4 hr.mo T.F_h (oJ (pq 1) (oJ (oP nT (pq 2) (oT (pq 4))) oK))) (lR rfl (nO (nL (i:=1) sc_4.nd rfl (Or.inr rfl)) (nO (nL (i:=6) sc_4.nd rfl (Or.inl rfl)) lQ))))
   (oO (nB (mO (oJ (mP kJ rfl T.z_tuple (nofun) (oJ (nP (sc:=oN s_4) (N:=N_4) (fr:=[]) (te:=(tCB (gT K) (oW (tVar 0) tNil))) rfl rfl (nofun) rfl (nofun) (nE (pq 0)) (λ_ _ _ e2=>(mP kJ rfl T.z_tuple (nofun) (oJ (pv 0) oK)))) oK)) (oJ (pq 1) (oJ (pq 6) oK))))))))))),?_⟩
  show tSeq _ _ _ [some (.ref a),some (.ref b),some (.int p),some (.ref l),some (.ref sp),none,none] H;have f2:∀s∈L.reverse,s.Ok d:=λs J=>ok s (oG.mp J);have c:=jG M f2;right;refine⟨false,false,a,l,R,L,d,1,rfl,f5.b,d1,b9,M,ok,⋯,d5,∅,λa8 h3 Z Y G=>?_⟩;replace G:mF 25 (cjM d (chP d L.reverse) (chQ d L.reverse) R):=λr hr z m=>zF (G r hr z m) (zY ∅ ⋯);have v:=gJ c R;left;refine⟨false,b,l,ts,L,d,5,rfl,SqB.lst (Z _ _ e0),d1.up Z,lt,M,ok,⋯,d7,∅,λb1 g9 U g6 b5 N=>?_⟩;replace N:nY 17 (mv (chP d L.reverse) ts):=N.le ⋯;have i2:mv (chP d L.reverse) ts=mv (chP d L.reverse) ts:=rfl;have a0:=Z.trans U;left;refine⟨true,sp,_,_,_,rfl,rfl,SqB.tup (a0 _ _ O),rfl,?_⟩
  try ext
  refine⟨false,false,false,a8,b7,_,g,d,rfl,(Y.up U).b,SqB.lst (a0 _ _ c3),v,M,W,λr hr z m=>zF (G r hr z m) (zY ∅ ∅),a1.le ∅,λf e7 a7 h6 a3=>?_⟩;have c2:=a0.trans a7;have c4:(mv (cjM d (chP d L.reverse) (chQ d L.reverse) R) g).length=d:=lB v;have c9:(mv (chP d L.reverse) ts).length=d:=lB c.p;have b3:∀z∈mv (cjM d (chP d L.reverse) (chQ d L.reverse) R) g,z.natAbs<2^32:=λz m=>by
   obtain⟨r,hr,rfl⟩:=pZ.mp m;exact Em (G r hr) a1 (by have:=v.2 r hr;omega)
  have D:∀k,k<d->(cjT d (chP d L.reverse) (chQ d L.reverse) R (smul o ts) (smul p g))[k]?=some ((mv (chP d L.reverse) ts).getD k 0*o+(g.getD k 0-(mv (cjM d (chP d L.reverse) (chQ d L.reverse) R) g).getD k 0)*p):=λk I=>Wi M c b9 lt W I;have a2:(cjT d (chP d L.reverse) (chQ d L.reverse) R (smul o ts) (smul p g)).length=d:=Ey c (by rw[jS];exact W);generalize cjT d (chP d L.reverse) (chQ d L.reverse) R (smul o ts) (smul p g)=TT at X D a2;generalize cjM d (chP d L.reverse) (chQ d L.reverse) R=C at X D Y G v c4 b3 a3;generalize mv (chP d L.reverse) ts=a9 at D c9 N b5;generalize mv C g=b6 at D c4 b3 a3;left;refine nC λB eB=>?_;simp only[mD];ext;have b4:e7 b1=some (.lst (a9.map V.int)):=a7 _ _ b5;refine lO (SqB.lst b4) ⟨_,rfl,⋯,⋯,λe5 d3=>?_⟩;rw[zR,c9];refine lG (λk y _=>∃n,TT[k]?=some n/\y=.int n) d3 ⋯ (λ_ _ _ _ r _=>r) ?_ ?_
  ·intro k d0 h7 I F g8 f1 g0;have u:=c2.trans F;subst eB;show tOp _ _ _ [some (.int (0+(k:Int))),some (.ref b1),some (.int p),some (.ref sp),some (.ref f)] d0 f1;ext;refine⟨false,b1,_,_,_,rfl,rfl,SqB.lst (F _ _ b4),mZ (kB (getD_at (k:=k) ⋯)) ⋯,?_⟩;refine⟨true,sp,_,_,_,rfl,rfl,SqB.tup (u _ _ O),rfl,?_⟩
   try ext
   refine⟨vD (wZ ⋯ ⋯),?_⟩;refine⟨true,sp,_,_,_,rfl,rfl,SqB.tup (u _ _ O),rfl,?_⟩;refine⟨false,b7,_,_,_,rfl,rfl,SqB.lst (u _ _ c3),mZ (kB (getD_at (k:=k) ⋯)) ⋯,?_⟩;refine⟨false,f,_,_,_,rfl,rfl,SqB.lst (F _ _ a3),mZ (kB (getD_at (k:=k) ⋯)) ⋯,?_⟩
   try ext
   refine⟨vD (wZ ⋯ ⋯),?_⟩;exact g0 _ _ (Same.refl _) ⟨_,D k I,rfl⟩
  ·intro d0 ys F g5 e3 f7;have d8:ys=TT.map V.int:=nW (by rw[e3,a2]) f7;subst d8;have u:=c2.trans F;left;refine⟨true,sp,_,_,_,rfl,rfl,SqB.tup (u _ _ O),rfl,?_⟩
   try ext
   refine⟨vD (wZ ⋯ ⋯),?_⟩;have us:kN (p*o):=jF (B:=20) (by
    have g3:=qB c1 c5 ⋯ ⋯;have h4:=yZ a5 J;have:(2:Nat)^20=1048576:=rfl;omega) ∅
   refine⟨false,e5,TT,p*o,rfl,SqB.lst g5,⋯,yZ a5 J,us,λq a4 c0 d2=>?_⟩;have fine:Fine d C (redT (p*o) TT) (redU (p*o) TT):=by
    have g3:=qB c1 c5 ⋯ ⋯;obtain⟨e4,f3,h2⟩:=eX (ts:=TT) (yZ a5 J);refine⟨v,by unfold redT;rw[zqe];exact a2,f3,G.le ∅,λz m=>?_,⋯⟩;obtain⟨y,f4,b8⟩:=e4 z m;obtain⟨k,I,rfl⟩:=wT f4;have e:=D k ⋯;rw[zqd I]at e;have e6:=zU e;rw[e6]at b8;have h9:k<d:=⋯
    have b1:=N _ (L2.getD_mem (show k<a9.length by omega));have b2:=a1 _ (L2.getD_mem (show k<g.length by omega));have g7:=b3 _ (L2.getD_mem (show k<b6.length by omega));have i1:(a9.getD k 0*o).natAbs<=2^17*12:=by rw[xC];exact wN (xX b1) ⋯
    have i0:((g.getD k 0-b6.getD k 0)*p).natAbs<=(2^5+2^32)*6:=by rw[xC];exact wN ⋯ ⋯
    exact yJ b8 (zF (show _<2^40 by omega) (zY ∅ ∅))
   obtain⟨d9,d4,g2⟩:=d2;refine⟨q,_,rfl,SqT.of d4,rfl,?_⟩;simp only[nR,gNil,oV];refine⟨_,_,rfl,_,_,rfl,rfl,?_⟩;symm;refine nC λh8 eB=>?_;simp only[iSeq];ext;have f9:=(a7.trans F).trans c0;have c6:MatB false false K a4 a8 C:=(Y.up (U.trans f9)).b;obtain⟨h5,f6⟩:∃xs,SqB false K a4 a8 xs:=let ⟨ps,h,_⟩:=c6;⟨_,h⟩
   refine⟨false,⟨_,f6⟩,λe8 d6=>?_⟩;subst eB;refine Kz c6 (by rw[v.1];omega) d6 λc8 zs g1 m S=>?_;refine⟨e8,_,rfl,.inl ⟨SqL.of m,λl c7=>?_⟩⟩;have b0:Same a4 (upd c8 l (.tup zs)):=g1.trans (Same.new c7);replace S:=S l c7;generalize upd c8 l (.tup zs)=h0 at b0 S;exact⟨(by show 3<=sizeLine;decide),λx a6=>X x _ (((u.trans c0).trans b0).trans (Same.new a6)) ⟨l,d9,oQ,S.up (Same.new a6),Same.new a6 _ _ (b0 _ _ g2)⟩ fine⟩
noncomputable def famG:Nat->List LM
 |0=>[[[0,-1],[1,0]],[[-1,0],[0,1]]]
 |1=>[[[1,-1],[1,0]],[[0,1],[1,0]]]
 |2=>[[[-1,0,0],[0,1,0],[0,0,1]],[[1,0,0],[0,-1,0],[0,0,-1]],[[-1,0,0],[0,-1,0],[0,0,1]]]
 |3=>[[[0,-1,0],[1,0,0],[0,0,1]],[[0,0,1],[1,0,0],[0,1,0]],[[-1,0,0],[0,-1,0],[0,0,-1]]]
 |4=>[[[1,-1,0],[1,0,0],[0,0,1]],[[0,1,0],[1,0,0],[0,0,1]],[[1,0,0],[0,1,0],[0,0,-1]]]
 |_=>[[[0,-1,0],[1,-1,0],[0,0,1]],[[-1,0,0],[0,-1,0],[0,0,-1]]]
noncomputable def famM:Nat->Nat
 |0=>4
 |1=>4
 |2=>2
 |3=>1
 |4=>6
 |_=>3
noncomputable def famD(k:Nat):Nat:=if k<2 then 2 else 3
def Wh(d:Nat)(gs l:List LM):List LM:=(l.flatMap λA=>gs.map λg=>mulM d g A).foldl (λacc M=>if acc.contains M then acc else acc++[M]) l
def El(d:Nat)(gs:List LM):Nat->List LM->List LM
 |0,l=>l
 |n+1,l=>El d gs n (Wh d gs l)
def pgL(k:Nat):List LM:=El (famD k) (famG k) 10 [idM (famD k)]
noncomputable def axB(R:LM):Bool:=decide ((R.getD 0 []).getD 2 0=0) && decide ((R.getD 1 []).getD 2 0=0) && decide ((R.getD 2 []).getD 0 0=0) && decide ((R.getD 2 []).getD 1 0=0)
def invM(d:Nat)(A:LM):LM:=mulM d A (mulM d (mulM d A A) (mulM d (mulM d (mulM d A A) (mulM d A A)) (mulM d (mulM d A A) (mulM d A A))))
def Lk(k:Nat):Bool:=
 (pgL k).contains (idM (famD k)) && (famG k).all (λg=>(pgL k).contains g) &&
 (pgL k).all (λA=>(famG k).all λg=>(pgL k).contains (mulM (famD k) g A)) &&
 (pgL k).all (λA=>decide (mulM (famD k) A (invM (famD k) A)=idM (famD k)) && decide (mulM (famD k) (invM (famD k) A) A=idM (famD k))) &&
 (pgL k).all (λA=>decide (A.length=famD k) && A.all λr=>decide (r.length=famD k) && r.all λz=>decide (z.natAbs<=1)) &&
 (k != 4 || (pgL k).all axB) && decide ((pgL k).length*(if k=4 then famM k else famM k^famD k)<=192)
theorem Wg:(List.range 6).all Lk=true:=nofun
theorem kC(k:Nat):famD k=2\/famD k=3:=by unfold famD;split <;> simp
theorem Lj{M:LM}:∀(xs acc:List LM),M∈xs.foldl (λacc M=>if acc.contains M then acc else acc++[M]) acc->M∈acc\/M∈xs
 |[],_,h=>.inl h
 | x:: xs,acc,h=>by
  rcases Lj xs _ h with q|q
  ·dsimp only at q;split at q
   ·exact .inl q
   ·rcases pY.mp q with q|q
    ·exact .inl q
    ·exact .inr (by rw[pW.mp q];exact .head _)
  ·exact .inr (.tail _ q)
theorem Li{P:LM->Prop}{d:Nat}{gs:List LM}(a:∀A,P A->∀g∈gs,P (mulM d g A)):∀(n:Nat)(l:List LM),(∀A∈l,P A)->∀M∈El d gs n l,P M
 |0,_,h=>h
 |n+1,l,h=>Li a n _ λM b=>by
  rcases Lj _ _ b with q|q
  ·exact h M q
  ·obtain⟨A,c,q⟩:=oE.mp q;obtain⟨g,e,rfl⟩:=pZ.mp q;exact a A (h A c) g e
structure Fam(k:Nat):Prop where
 one:idM (famD k)∈pgL k
 gen:∀g∈famG k,g∈pgL k
 mul:∀A∈pgL k,∀B∈pgL k,mulM (famD k) A B∈pgL k
 inv:∀A∈pgL k,∃B∈pgL k,mulM (famD k) A B=idM (famD k)/\mulM (famD k) B A=idM (famD k)
 sq:∀A∈pgL k,Sq (famD k) A
 wee:∀A∈pgL k,∀r∈A,∀z∈r,z.natAbs<=1
 ax:k=4->∀A∈pgL k,axB A=true
 len:(pgL k).length*(if k=4 then famM k else famM k^famD k)<=192
theorem gL{k:Nat}(q:k<6):Fam k:=by
 have h:=wI.mp Wg k (oF.mpr q);simp only[Lk,Bool.and_eq_true,List.all_eq_true,decide_eq_true_eq,List.contains_iff_mem,Bool.or_eq_true,bne_iff_ne,ne_eq]at h;obtain⟨⟨⟨⟨⟨⟨v,f⟩,u⟩,l⟩,d⟩,o⟩,x⟩:=h;have j:=kC k;have b:∀A∈pgL k,Sq (famD k) A:=λA a=>⟨(d A a).1,λr hr=>((d A a).2 r hr).1⟩;have mul:∀A∈pgL k,∀B∈pgL k,mulM (famD k) A B∈pgL k:=λA a=>(Li (P:=λA=>Sq (famD k) A/\∀B∈pgL k,mulM (famD k) A B∈pgL k) (gs:=famG k) (λA⟨p,m⟩g i=>⟨(b g (f g i)).mul,λB c=>by
  rw[mul_assoc j (b g (f g i)) p (b B c)];exact u _ (m B c) g i⟩) 10 [idM (famD k)] (λA a=>by
   rw[pW.mp a];exact⟨nJ,λB c=>by rw[(kP j (b B c)).1];exact c⟩) A a).2
 have sq2:=λA a=>mul A a A a;have sq4:=λA a=>mul _ (sq2 A a) _ (sq2 A a);exact⟨v,f,mul,λA a=>⟨invM (famD k) A,mul A a _ (mul _ (sq2 A a) _ (mul _ (sq4 A a) _ (sq4 A a))),l A a⟩,b,λA a r hr z y=>((d A a).2 r hr).2 z y,λe A a=>(o.resolve_left (λn=>n e)) A a,x⟩
def Tp(k:Nat)(t:LI'):Prop:=t.length=famD k/\(k=4->∃z,t=[0,0,z])
noncomputable def rngI(p:Nat):LI':=(List.range p).map λn:Nat=>Int.ofNat n
def topL(k p:Nat):LM:=if k=4 then(rngI p).map λz=>[0,0,z] else if k<2 then(rngI p).flatMap λx=>(rngI p).map λy=>[x,y] else(rngI p).flatMap λx=>(rngI p).flatMap λy=>(rngI p).map λz=>[x,y,z]
theorem cU{b c:Type}{f:b->List c}{n:Nat}:∀{l:List b},(∀x∈l,(f x).length=n)->(l.flatMap f).length=l.length*n
 |[],_=>by simp
 |a:: l,h=>by
  rw[List.flatMap_cons,zS,h a zV,cU λx d=>h x (zM _ d),yE,rY];omega
theorem eY{p:Nat}:(rngI p).length=p:=by simp[rngI]
theorem Wf{k p:Nat}:(topL k p).length=if k=4 then p else p^famD k:=by
 unfold topL famD
 by_cases b:k=4
 ·rw[zJ b,zJ b,zqe,eY]
 ·rw[zI b,zI b]
  by_cases a:k<2
  ·rw[zJ a,zJ a,cU (n:=p) λx _=>by rw[zqe,eY],eY];grind
  ·rw[zI a,zI a,cU (n:=p*p) λx _=>by rw[cU (n:=p) λy _=>by rw[zqe,eY],eY],eY];grind
theorem eZ{p:Nat}(b:0<p)(z:Int):z.fmod p∈rngI p:=by
 have a:0<=z.fmod p:=uK z ⋯;have c:z.fmod p<p:=tY z ⋯;exact pZ.mpr ⟨(z.fmod p).toNat,oF.mpr ⋯,Int.toNat_of_nonneg a⟩
theorem We{k p:Nat}(a:0<p){t:LI'}(h:Tp k t):nX p t∈topL k p:=by
 unfold topL;obtain⟨hl,d⟩:=h
 by_cases b:k=4
 ·obtain⟨z,rfl⟩:=d b;rw[zJ b];refine pZ.mpr ⟨z.fmod p,eZ a z,?_⟩;simp[nX]
 ·rw[zI b];unfold famD at hl
  by_cases c:k<2
  ·rw[zJ c]at hl ⊢;obtain⟨x,y,rfl⟩:=v2 hl;exact oE.mpr ⟨x.fmod p,eZ a x,pZ.mpr ⟨y.fmod p,eZ a y,rfl⟩⟩
  ·rw[zI c]at hl ⊢;obtain⟨x,y,z,rfl⟩:=v3 hl;exact oE.mpr ⟨x.fmod p,eZ a x,oE.mpr ⟨y.fmod p,eZ a y,pZ.mpr ⟨z.fmod p,eZ a z,rfl⟩⟩⟩
theorem Tp.turn{k:Nat}(F:Fam k){R:LM}(a:R∈pgL k){t t':LI'}(h:Tp k t)(h':Tp k t'):Tp k (va (mv R t) t'):=by
 refine⟨Ez (lB (F.sq R a)) h'.1,λe=>?_⟩;obtain⟨z,rfl⟩:=h.2 e;obtain⟨d,rfl⟩:=h'.2 e;have b:=F.sq R a;have c:=F.ax e R a;have f:famD k=3:=by rw[e];rfl
 rw[f]at b;obtain⟨q,i,p,m,j,n,l,o,g,rfl⟩:=sq3 b;simp only[axB,Bool.and_eq_true,decide_eq_true_eq,List.getD_cons_zero,List.getD_cons_succ]at c;obtain⟨⟨⟨rfl,rfl⟩,rfl⟩,rfl⟩:=c;refine⟨g*z+d,?_⟩;rw[mv3,va3];simp
theorem Tp.zero{k:Nat}:Tp k (List.replicate (famD k) 0):=⟨by simp,λe=>⟨0,by subst e;rfl⟩⟩
structure Frm where
 k:Nat
 p:Nat
 P:LM
 P':LM
 s:LI'
 su:Int
structure Frm.Ok(F:Frm):Prop where
 k:F.k<6
 p:0<F.p
 pm:F.p<=famM F.k
 c:Chg (famD F.k) F.P F.P'
 s:F.s.length=famD F.k
 su:0<F.su
def Frm.at(F:Frm)(R:LM)(t:LI'):Dd:=frD (famD F.k) F.P F.P' F.s F.su F.p R t
def InF(F:Frm)(x:Dd):Prop:=∃R∈pgL F.k,∃t,Tp F.k t/\x=F.at R t
theorem Af{F:Frm}(h:F.Ok){x y:Dd}(f:InF F x)(i:InF F y):InF F (nD (famD F.k) x y):=by
 obtain⟨j,d,e,b,rfl⟩:=f;obtain⟨R2,a,g,c,rfl⟩:=i;have M:=gL h.k;refine⟨mulM (famD F.k) R2 j,M.mul _ a _ d,va (mv R2 e) g,Tp.turn M a b c,?_⟩;exact fr_step (kC F.k) h.c h.s h.su (by have:=h.p;omega) (M.sq _ d) (M.sq _ a) b.1 c.1
theorem Ek{d:Nat}{c:Int}:smul c (List.replicate d 0)=List.replicate d 0:=by
 unfold smul;rw[List.map_replicate,Int.mul_zero]
theorem Ej{d:Nat}(b:d=2\/d=3){M:LM}{U:Int}(a:0<U):canD M (List.replicate d 0) U=(M,List.replicate d 0,1):=by
 have h:=Ai (M:=M) (ts:=List.replicate d 0) (U:=1) (k:=U) ⋯ a;rw[Ek,tL]at h;rw[h];have:nX (redU 1 (List.replicate d 0)) (redT 1 (List.replicate d 0))=List.replicate d 0/\redU 1 (List.replicate d 0)=1:=by
  rcases b with rfl|rfl <;> decide +kernel
 unfold canD;rw[this.1,this.2]
theorem Ei{d:Nat}(a:d=2\/d=3){P e:LM}(h:Chg d P e){s:LI'}(m:s.length=d){f p:Int}(l:0<f)(g:0<p):frD d P e s f p (idM d) (List.replicate d 0)=nK d:=by
 have c:(smul p s).length=d:=by rw[jS];exact m
 have e1:cjM d P e (idM d)=idM d:=by
  unfold cjM;rw[(kP a h.p).2,h.r]
 unfold frD cjT;rw[e1,Ek,cP a c];have i:vs (va (mv P (List.replicate d 0)) (smul p s)) (smul p s)=List.replicate d 0:=by
  have k:mv P (List.replicate d 0)=List.replicate d 0:=by
   have:=cQ a h.p (v:=List.replicate d 0) (by simp) 0;rw[Ek]at this;rw[this];unfold smul;refine List.eq_replicate_iff.mpr ⟨by rw[zqe,lB h.p],λb j=>?_⟩;obtain⟨z,_,rfl⟩:=pZ.mp j;exact sD z
  rw[k];generalize smul p s=n at c ⊢;rcases a with rfl|rfl
  ·obtain⟨x,y,rfl⟩:=v2 c;simp[va,vs,List.replicate]
  ·obtain⟨x,y,z,rfl⟩:=v3 c;simp[va,vs,List.replicate]
 rw[i,Ej a (yZ g l)];rfl
theorem cV{F:Frm}(h:F.Ok):InF F (nK (famD F.k)):=⟨_,(gL h.k).one,_,Tp.zero,(Ei (kC F.k) h.c h.s h.su (by have:=h.p;omega)).symm⟩
def Frm.all(F:Frm):List Dd:=(pgL F.k).flatMap λR=>(topL F.k F.p).map λt=>F.at R t
theorem Wd{F:Frm}(h:F.Ok):F.all.length<=192:=by
 unfold Frm.all;rw[cU (n:=(topL F.k F.p).length) λx _=>by rw[zqe],Wf];refine yA (Nat.mul_le_mul_left _ ?_) (gL h.k).len;split
 ·exact h.pm
 ·exact Nat.pow_le_pow_left h.pm _
theorem Wc{F:Frm}(h:F.Ok){x:Dd}(c:InF F x):x∈F.all:=by
 obtain⟨R,b,t,d,rfl⟩:=c;have a:(0:Int)<F.p:=by have:=h.p;omega
 refine oE.mpr ⟨R,b,pZ.mpr ⟨nX F.p t,We h.p d,?_⟩⟩;exact(Ww h.su a (Cong.rest a t)).symm
theorem dA{F:Frm}(h:F.Ok){ss:List Dd}(c:∀s∈ss,InF F s)(N:Nat):(tab (famD F.k) ss N).length<=192/\∀y∈tab (famD F.k) ss N,InF F y.1 :=
 ⟨yA (Ws (cV h) (λx a s b=>Af h a (c s b)) (λx a=>Wc h a)) (Wd h),Ah (cV h) λx a s b=>Af h a (c s b)⟩
def Rs(d:Nat)(x:Dd):Prop:=∃M ts U,Sq d M/\ts.length=d/\0<U/\x=canD M ts U
theorem Lh{d:Nat}{N:LM}{ns ts:LI'}{u v:Int}(b:Sq d N)(a:ns.length=d):(movT N ns v ts u).length=d:=by
 unfold movT;rw[xD,b.1,a,tX]
theorem Rs.step{d:Nat}{x y:Dd}(e:Rs d x)(f:Rs d y):Rs d (nD d x y):=by
 obtain⟨M,ts,U,i,lt,a,rfl⟩:=e;obtain⟨N,ns,V,c,g,b,rfl⟩:=f;exact⟨_,_,_,c.mul,Lh c g,yZ b a,iS a b⟩
theorem Wb{d:Nat}(r:d=2\/d=3){N O:LM}(j:Sq d N)(i:Sq d O){ts ns g:LI'}(lt:ts.length=d)(k:ns.length=d)(lo:g.length=d){U V f:Int}:
  movT O g f (movT N ns V ts U) (V*U)=movT (mulM d O N) (movT O g f ns V) (f*V) ts U:=by
 rcases r with rfl|rfl
 ·obtain⟨a,b,c,e,rfl⟩:=sq2 j;obtain⟨X,Y,W,S,rfl⟩:=sq2 i;obtain⟨l,q,rfl⟩:=v2 lt;obtain⟨o,m,rfl⟩:=v2 k;obtain⟨n,p,rfl⟩:=v2 lo;rw[mul2];simp only[movT,dotI,List.zipWith_cons_cons,List.zipWith_nil_left,List.sum_cons,List.sum_nil,List.cons.injEq,and_true];refine⟨?_,?_⟩ <;> grind
 ·obtain⟨J,u,a0,L,v,C,z,M,Z,rfl⟩:=sq3 j;obtain⟨b1,b2,I,x,a1,R,G,F,T,rfl⟩:=sq3 i;obtain⟨l,q,D,rfl⟩:=v3 lt;obtain⟨o,m,y,rfl⟩:=v3 k;obtain⟨n,p,a2,rfl⟩:=v3 lo;rw[mul3];simp only[movT,dotI,List.zipWith_cons_cons,List.zipWith_nil_left,List.sum_cons,List.sum_nil,List.cons.injEq,and_true];refine⟨?_,?_,?_⟩ <;> grind
theorem Ae{d:Nat}(f:d=2\/d=3){x y z:Dd}(i:Rs d x)(k:Rs d y)(m:Rs d z):nD d (nD d x y) z=nD d x (nD d y z):=by
 obtain⟨M,ts,U,j,lt,c,rfl⟩:=i;obtain⟨N,ns,V,g,l,a,rfl⟩:=k;obtain⟨O,o,n,e,lo,b,rfl⟩:=m;rw[iS c a,iS (yZ a c) b,iS a b,iS c (yZ b a),mul_assoc f e g j,Wb f g e lt l lo,Int.mul_assoc]
theorem Wa{d:Nat}(a:d=2\/d=3):Rs d (nK d):=⟨idM d,List.replicate d 0,1,nJ,by simp,⋯,(Ej a ⋯).symm⟩
theorem Xz{d:Nat}(a:d=2\/d=3):nK d=canD (idM d) (List.replicate d 0) 1:=(Ej a ⋯).symm
theorem Ad{d:Nat}(k:d=2\/d=3){N:LM}(g:Sq d N){ns:LI'}(f:ns.length=d){V:Int}:movT N ns V (List.replicate d 0) 1=ns/\movT (idM d) (List.replicate d 0) 1 ns V=ns:=by
 rcases k with rfl|rfl
 ·obtain⟨a,b,c,e,rfl⟩:=sq2 g;obtain⟨j,i,rfl⟩:=v2 f;rw[id2];simp[movT,dotI,List.replicate]
 ·obtain⟨q,l,x,p,m,r,o,u,v,rfl⟩:=sq3 g;obtain⟨j,i,n,rfl⟩:=v3 f;rw[id3];simp[movT,dotI,List.replicate]
theorem cW{d:Nat}(a:d=2\/d=3){x:Dd}(e:Rs d x):nD d (nK d) x=x/\nD d x (nK d)=x:=by
 obtain⟨M,ts,U,b,lt,c,rfl⟩:=e;rw[Xz a];refine⟨?_,?_⟩
 ·rw[iS ⋯ c,(Ad a b lt).1,(kP a b).2,tL]
 ·rw[iS c ⋯,(Ad a b lt).2,(kP a b).1,tM]
theorem cX{F:Frm}(h:F.Ok){x:Dd}(a:InF F x):Rs (famD F.k) x:=by
 obtain⟨R,b,t,c,rfl⟩:=a;exact⟨_,_,_,gJ h.c R,Ey h.c (by rw[jS];exact h.s),yZ (by have:=h.p;omega) h.su,rfl⟩
theorem Eh{d:Nat}:∀{v:LI'},v.length=d->va v (smul (-1) v)=List.replicate d 0/\va (smul (-1) v) v=List.replicate d 0
 |[],h=>by subst h;exact⟨rfl,rfl⟩
 |a:: v,h=>by
  obtain⟨m,rfl⟩:∃m,d=m+1:=⟨v.length,by rw[←h];rfl⟩;have:=Eh (v:=v) (d:=m) (by simpa using h);unfold va smul at this ⊢;rw[zK,yY,yY,this.1,this.2,wS,show a+-1*a=0 by omega,show -1*a+a=0 by omega];exact⟨rfl,rfl⟩
theorem Tp.neg{k:Nat}{t:LI'}(h:Tp k t):Tp k (smul (-1) t):=⟨by rw[jS];exact h.1,λe=>by
 obtain⟨z,rfl⟩:=h.2 e;exact⟨-1*z,rfl⟩⟩
theorem Xy{d:Nat}(a:d=2\/d=3){v:LI'}(h:v.length=d):va v (List.replicate d 0)=v:=by
 rcases a with rfl|rfl
 ·obtain⟨x,y,rfl⟩:=v2 h;simp[va,List.replicate]
 ·obtain⟨x,y,z,rfl⟩:=v3 h;simp[va,List.replicate]
theorem Xx{F:Frm}(h:F.Ok){x:Dd}(j:InF F x):∃y,InF F y/\nD (famD F.k) x y=nK (famD F.k)/\nD (famD F.k) y x=nK (famD F.k):=by
 obtain⟨R,d,t,c,rfl⟩:=j;have M:=gL h.k;have a:=kC F.k;have e:(0:Int)<F.p:=by have:=h.p;omega
 obtain⟨B,b,e1,i⟩:=M.inv R d;have g:(mv B t).length=famD F.k:=lB (M.sq B b);have f:Tp F.k (smul (-1) (mv B t)):=by
  have:=Tp.turn M b c (Tp.zero (k:=F.k));rw[Xy a g]at this;exact this.neg
 refine⟨F.at B (smul (-1) (mv B t)),⟨B,b,_,f,rfl⟩,?_,?_⟩
 ·unfold Frm.at
  rw[fr_step a h.c h.s h.su e (M.sq R d) (M.sq B b) c.1 f.1,i,(Eh g).1,Ei a h.c h.s h.su e]
 ·unfold Frm.at
  rw[fr_step a h.c h.s h.su e (M.sq B b) (M.sq R d) f.1 c.1,e1,cQ a (M.sq R d) g,←cO a (M.sq R d) (M.sq B b) c.1,e1,cP a c.1,(Eh c.1).2,Ei a h.c h.s h.su e]
structure Grp(d:Nat)(T:List Dd):Prop where
 dim:d=2\/d=3
 nd:T.Nodup
 rs:∀x∈T,Rs d x
 one:nK d∈T
 mul:∀x∈T,∀y∈T,nD d x y∈T
 inv:∀x∈T,∃y∈T,nD d x y=nK d/\nD d y x=nK d
theorem Lg{d:Nat}(m:d=2\/d=3){ss T:List Dd}(g:∀x∈T,Rs d x)(b:∀s∈ss,Rs d s)(f:∀x∈T,∀s∈ss,nD d x s∈T){x:Dd}(e:x∈T):∀(w:List Nat),(∀k∈w,k<ss.length)->∀y,Rs d y->nD d x y∈T->nD d x (w.foldl (λx k=>nD d x (ss.getD k (nK d))) y)∈T
 |[],_,y,_,h=>h
 | k:: w,c,y,l,h=>by
  rw[wQ];have i:=c k zV;have a:ss.getD k (nK d)∈ss:=by
   rw[zqc,zqd i];exact xO i
  refine Lg m g b f e w (λj n=>c j (zM _ n)) _ (l.step (b _ a)) ?_;rw[←Ae m (g x e) l (b _ a)];exact f _ h _ a
theorem Xw{c:Type}{l L:List c}(d:l.Nodup)(sub:∀x∈l,x∈L)(hl:L.length<=l.length){a:c}(f:a∈L):a∈l:=by
 refine Classical.byContradiction λe=>?_;have:=Ep (l:=a:: l) (L:=L) (rM.mpr ⟨e,d⟩) λx b=>by
  rcases xE.mp b with rfl|b
  ·exact f
  ·exact sub x b
 rw[yE]at this;omega
theorem Lf{g i:Type}{f:g->i}:∀{l:List g},l.Nodup->(∀x∈l,∀y∈l,f x=f y->x=y)->(l.map f).Nodup
 |[],_,_=>by simp
 |a:: l,n,h=>by
  rw[zK,rM];have c:=rM.mp n;refine⟨λj=>?_,Lf c.2 λx k y m=>h x (zM _ k) y (zM _ m)⟩;obtain⟨b,d,e⟩:=pZ.mp j;exact c.1 ((h b (zM _ d) a zV e) ▸ d)
theorem Le{F:Frm}(h:F.Ok){ss:List Dd}(o:∀s∈ss,InF F s){N:Nat}(I:192<=N):Grp (famD F.k) ((tab (famD F.k) ss N).map (·.1)):=by
 have c:=kC F.k;obtain⟨J,G⟩:=dA h o N;have k:∀x∈(tab (famD F.k) ss N).map (·.1),InF F x:=λx a=>by
  obtain⟨y,b,rfl⟩:=pZ.mp a;exact G y b
 have d:∀x∈(tab (famD F.k) ss N).map (·.1),Rs (famD F.k) x:=λx a=>cX h (k x a);have C:∀s∈ss,Rs (famD F.k) s:=λs i=>cX h (o s i);have D:∀x∈(tab (famD F.k) ss N).map (·.1),∀s∈ss,nD (famD F.k) x s∈(tab (famD F.k) ss N).map (·.1):=λx a s i=>by
  obtain⟨y,b,rfl⟩:=pZ.mp a;exact Eo ⋯ y b s i
 have mul:∀x∈(tab (famD F.k) ss N).map (·.1),∀y∈(tab (famD F.k) ss N).map (·.1),nD (famD F.k) x y∈(tab (famD F.k) ss N).map (·.1):=λx a y b=>by
  obtain⟨z,f,rfl⟩:=pZ.mp b;obtain⟨e,p⟩:=Wq z f;rw[e];exact Lg c d C D a z.2 p _ (Wa c) (by rw[(cW c (d x a)).2];exact a)
 have one:nK (famD F.k)∈(tab (famD F.k) ss N).map (·.1):=pZ.mpr ⟨_,eW,rfl⟩;refine⟨c,cT,d,one,mul,λm j=>?_⟩;obtain⟨n,r,e1,u⟩:=Xx h (k m j);have l:=cX h r;have g:∀x∈(tab (famD F.k) ss N).map (·.1),nD (famD F.k) (nD (famD F.k) x m) n=x:=λx a=>by
  rw[Ae c (d x a) (d m j) l,e1,(cW c (d x a)).2]
 have q:(((tab (famD F.k) ss N).map (·.1)).map λx=>nD (famD F.k) x m).Nodup:=Lf cT λx a y b e=>by rw[←g x a,←g y b,e]
 have f:nK (famD F.k)∈((tab (famD F.k) ss N).map (·.1)).map λx=>nD (famD F.k) x m:=Xw q (λz f=>by
  obtain⟨x,a,rfl⟩:=pZ.mp f;exact mul x a m j) (rL (zqe ..).symm) one
 obtain⟨y,b,e⟩:=pZ.mp f;have v:y=n:=by
  have:=g y b;rw[e,(cW c l).1]at this;exact this.symm
 subst v;exact⟨y,b,e1,u⟩
def act(d:Nat)(σ:SP')(x:Dd):List Int×Int:=(nD d (idM d,σ.1,σ.2) x).2
theorem Ld(d:Nat)(σ:SP')(x:Dd):act d σ x=(nX (redU (x.2.2*σ.2) (movT x.1 x.2.1 x.2.2 σ.1 σ.2)) (redT (x.2.2*σ.2) (movT x.1 x.2.1 x.2.2 σ.1 σ.2)),redU (x.2.2*σ.2) (movT x.1 x.2.1 x.2.2 σ.1 σ.2)):=rfl
theorem Xv{d:Nat}{x y s:Dd}(h:x.2=y.2):(nD d x s).2=(nD d y s).2:=by
 obtain⟨M,ts,u⟩:=x;obtain⟨N,ns,v⟩:=y;cases h;rfl
theorem Xu{d:Nat}{M N:LM}{ts ns:LI'}{U V:Int}(a:0<U)(g:0<V):nD d (M,ts,U) (canD N ns V)=nD d (canD M ts U) (canD N ns V):=by
 obtain⟨c,m,e1,n,o⟩:=Aj (ts:=ts) a;have b:0<redU V ns:=At ns ⋯;rw[iS a g];show canD (mulM d N M) (movT N (nX (redU V ns) (redT V ns)) (redU V ns) ts U) (redU V ns*U)=_;obtain⟨e,i,k,f,l⟩:=Aj (ts:=ns) g;have k1:canD (mulM d N M) (movT N ns V ts U) (V*U)=canD (mulM d N M) (movT N (redT V ns) (redU V ns) ts U) (redU V ns*U):=by
  have hh:V*U=e*(redU V ns*U):=by
   conv=>lhs;rw[f]
   grind
  have j:movT N ns V ts U=smul (e*1) (movT N (redT V ns) (redU V ns) ts U):=by
   rw[←Lx (c:=1),←k,←f,tM];congr 1;unfold smul;simp
  rw[hh,j,tL,Ai (yZ b a) i]
 rw[k1];exact(Es (yZ b a) (Kl (Cong.rest b _) (Er _))).symm
theorem Lc{d:Nat}(j:d=2\/d=3){σ:SP'}(f:σ.1.length=d)(c:0<σ.2){x y:Dd}(a:Rs d x)(b:Rs d y):act d (act d σ x) y=act d σ (nD d x y):=by
 have e:∀z,Rs d z->nD d (idM d,σ.1,σ.2) z=nD d (canD (idM d) σ.1 σ.2) z:=λz k=>by
  obtain⟨N,ns,V,m,l,g,rfl⟩:=k;exact Xu c g
 have i:Rs d (canD (idM d) σ.1 σ.2):=⟨_,_,_,nJ,f,c,rfl⟩;unfold act;rw[e _ (a.step b),←Ae j i a b,←e x a];exact Xv rfl
def sp_m:Sp:=λvs H Q _=>E1 λ(k:Nat)=>A3 (vs=[.int k]) (k<6) (∀p g H',Same H H'->H' p=some (.tup [.ref g,.int (famM k)])->Mats H' g (famG k)->Q (.ref p) H')
def sp_p(K:Frag):Sp:=λvs H Q _=>E3 λ(c:Int)(k p:Nat)=>A5 (vs=[.int c,.int k,.int p]) (k<6) (1<=p) (p<=6) (∀q a b R ts H',Same H H'->H' q=some (.tup [.ref a,.ref b])->MatL H' a R->H' b=some (.lst (ts.map V.int))->R∈pgL k->Tp k ts->(∀z∈ts,0<=z/\z<p)->Q (.ref q) H')
noncomputable abbrev RtA:=Expr×Nat×Pos×Nat×Pos×Pos
noncomputable abbrev IfA:=Stmt×Pos×Nat×Pos×Pos×Pos
def retA:Stmt->RtA
 |.Return (some (.Tuple [e,.Constant _ j p] k q)) r=>(e,j,p,k,q,r)
 |_=>(.Name "" ⟨0,0,0,0⟩,0,⟨0,0,0,0⟩,0,⟨0,0,0,0⟩,⟨0,0,0,0⟩)
noncomputable def retS(m:Int)(a:RtA):Stmt:=.Return (some (.Tuple [a.1,.Constant (.int m) a.2.1 a.2.2.1] a.2.2.2.1 a.2.2.2.2.1)) a.2.2.2.2.2
def ifA:Stmt->IfA
 |.If (.Compare (.Name _ p) _ [.Constant _ j q] r) [s] _ u=>(s,p,j,q,r,u)
 |s=>(s,⟨0,0,0,0⟩,0,⟨0,0,0,0⟩,⟨0,0,0,0⟩,⟨0,0,0,0⟩)
noncomputable def ifS(x:Str)(k:Int)(a:IfA):Stmt:=.If (.Compare (.Name x a.2.1) [.Eq] [.Constant (.int k) a.2.2.1 a.2.2.2.1] a.2.2.2.2.1) [a.1] [] a.2.2.2.2.2
abbrev Lb(Ms:List LM)(m:Int):TS:=tRet (tTup (oW (Hj Ms) (oW (tC (.int m)) tNil)))
def okF(e:Expr)(Ms:List LM):Bool:=isList e && (decide (Ba e=some Ms) && Rv Ms)
theorem La{X:Cx}{st:Stmt}{a:RtA}{b:List LM}{m:Int}(h:st=retS m a)(ok:okF a.1 b=true):PS X st (Lb b m):=by
 subst h;obtain⟨e,j,p,k,q,r⟩:=a;obtain⟨hl,c⟩:=Bool.and_eq_true_iff.mp ok;refine nB (mO (oJ (Rw c) (oJ oR oK) ?_));dsimp only at hl;unfold isList at hl;split at hl
 ·rfl
 ·cases hl
theorem cY{X:Cx}{st:Stmt}{a:IfA}{b:RtA}{x:Str}{k m:Int}{c:List LM}{i:Nat}(h:st=ifS x k a)(e:a.1=retS m b)(ok:okF b.1 c=true)(hi:X.N[i]?=some x)(g:Vis X.env.scope x)(d:(x == ("__debug__" :Str))=false)(f:(x == ("__classdict__" :Str))=false):PS X st (tIfS (fN (tOp (rI0 λi j=>.bl (decide (i=j))) (tVar i) (tC (.int k)))) (Lb c m) Fq):=by
 subst h;exact nV (nN lZ (Ft hi g d f) oR (nM _)) (oO (La e ok)) mB
@[irreducible] def S_f(k:Nat):Stmt:=(kD cG).getD k (.Pass ⟨0,0,0,0⟩)
@[irreducible] def I_f(k:Nat):IfA:=ifA (S_f k)
@[irreducible] def R_f(k:Nat):RtA:=retA (I_f k).1
theorem Xt:kD cG=[S_f 0,S_f 1,S_f 2,S_f 3,S_f 4,S_f 5]:=by unfold S_f;kernel_rfl
def famF(k:Nat):Prop:=S_f k=ifS "_law_kind" k (I_f k)/\(I_f k).1=retS (famM k) (R_f k)/\okF (R_f k).1 (famG k)=true
theorem kL(k:Nat)(a:k<5):famF k:=by
 rcases(show k=0\/k=1\/k=2\/k=3\/k=4 by omega) with e|e|e|e|e <;> subst e <;> (unfold famF;refine⟨?_,?_,?_⟩ <;> (try unfold R_f) <;> (try unfold I_f) <;> (try unfold S_f) <;> kernel_rfl)
theorem q_f5:S_f 5=retS (famM 5) (R_f 5)/\okF (R_f 5).1 (famG 5)=true:=by
 refine⟨?_,?_⟩ <;> (try unfold R_f) <;> (try unfold I_f) <;> (try unfold S_f) <;> kernel_rfl
theorem Xs{X:Cx}{b b2:List Stmt}{u:TS}(h:b=b2)(p:PSs X b2 u):PSs X b u:=by rw[h];exact p
theorem ok_m(T:Txt K mg t):FnOk P w K mg base CX0 1 t.a_m t.d_m pJ' sp_m:=by
 apply T.F_m.ok sc_m
 ·obtain⟨k,rfl,C,j⟩:=h;refine⟨_,Xs Xt (oM (cY (i:=0) (kL 0 ∅).1 (kL 0 ∅).2.1 (kL 0 ∅).2.2 rfl (.inl rfl) rfl rfl) (oM (cY (i:=0) (kL 1 ∅).1 (kL 1 ∅).2.1 (kL 1 ∅).2.2 rfl (.inl rfl) rfl rfl) (oM (cY (i:=0) (kL 2 ∅).1 (kL 2 ∅).2.1 (kL 2 ∅).2.2 rfl (.inl rfl) rfl rfl) (oM (cY (i:=0) (kL 3 ∅).1 (kL 3 ∅).2.1 (kL 3 ∅).2.2 rfl (.inl rfl) rfl rfl) (oM (cY (i:=0) (kL 4 ∅).1 (kL 4 ∅).2.1 (kL 4 ∅).2.2 rfl (.inl rfl) rfl rfl) (oO (La q_f5.1 q_f5.2))))))),?_⟩;show tSeq _ _ _ [some (.int k)] H;have a:∀(c:List LM)(m:Int),c=famG k->m=(famM k:Int)->∀p b,Same H b->Mats b p c->2<=sizeLine/\∀q,b q=none->Q (.ref q) (upd b q (.tup [.ref p,.int m])):=by
   intro c m e1 i p b f n;subst e1 i;exact⟨∅,λq d=>j q p _ (f.trans (Same.new d)) oQ (n.up (Same.new d))⟩
  ext;refine ite2 (λh=>?_) λr=>ite2 (λh=>?_) λl=>ite2 (λh=>?_) λu=>ite2 (λh=>?_) λg=>ite2 (λh=>?_) λo=>?_
  ·have e:k=0:=by have:=yP h;omega
   subst e;exact a _ _ rfl rfl
  ·have e:k=1:=by have:=yP h;omega
   subst e;exact a _ _ rfl rfl
  ·have e:k=2:=by have:=yP h;omega
   subst e;exact a _ _ rfl rfl
  ·have e:k=3:=by have:=yP h;omega
   subst e;exact a _ _ rfl rfl
  ·have e:k=4:=by have:=yP h;omega
   subst e;exact a _ _ rfl rfl
  ·have F:¬((k:Int)=0):=λz=>r (zL z);have D:¬((k:Int)=1):=λz=>l (zL z);have y:¬((k:Int)=2):=λz=>u (zL z);have x:¬((k:Int)=3):=λz=>g (zL z);have v:¬((k:Int)=4):=λz=>o (zL z);have e:k=5:=⋯
   subst e;exact a _ _ rfl rfl
theorem Mz{k:Nat}(a:k<6):∃M,(famG k)[0]?=some M/\M.length=famD k/\(famG k).length<=3:=by
 rcases(show k=0\/k=1\/k=2\/k=3\/k=4\/k=5 by omega) with e|e|e|e|e|e <;> subst e <;> exact⟨_,rfl,∅,∅⟩
theorem Eg{k:Nat}(F:Fam k){R:LM}(h:R∈pgL k):mF 1 R:=λr hr z a=>by
 have:=F.wee R h r hr z a;omega
theorem ok_p(T:Txt K mg t):FnOk P w K mg base CX0 2 t.a_p t.d_p pc' (sp_p K):=by
 have c7:=@ok_m P w K mg base t T;have d5:=@ok_8 P w K mg base t T;have b5:=@ok_c P w K mg base t T;apply T.F_p.ok sc_p
 ·obtain⟨c,k,p,rfl,O,e6,f1,a2⟩:=h;have F:=gL O;have e5:=kC k;obtain⟨e7,b3,b1,f3⟩:=Mz O;refine⟨_,(oM (oX (i:=3) sc_p.nd rfl (Or.inr rfl) (oT (oS c7 hr.mo T.F_m (oJ (pq 1) oK))))
   (oM (oX (i:=4) sc_p.nd rfl (Or.inl rfl) (oP mY (nU T.z_len (pq 3)) oR))
   (oM (gS (i:=5) (xs:=["_law_i"]) (fr:=[("_law_generators",3)]) (g:=(oV 0)) (tt:=(tEl (mE (mD (oW (tCB (jD K) (oW (tOp (rIxB K) (tVar 1) (tC (.int 0))) tNil)) tNil)) (oV 0) (tEl (tCB (λxs H Q=>(∃i,xs=[.int i]/\Q (.int i) H)\/∃k,xs=[.bl k]/\Q (.int (if k then 1 else 0)) H) (oW (tOp (rI0 λi j=>.bl (decide (i=j))) (tVar 1) (tVar 0)) tNil))) 1 [("_law_i",0)]))) (lL (sc:=oN Ax) (N:=N_p) rfl rfl (nofun)) rfl sc_p.nd rfl rfl (mU rfl T.z_range (oJ (nU T.z_len (oT (pq 3))) oK)) (λ_ _ _ S=>(jC (N:=["_law_i","_law_generators"]) (i:=0) S rfl (nofun) rfl)) (λ_ _ _ S=>(lU (nP (N:=["_law_i","_law_generators"]) (fr:=[("_law_i",0)]) (te:=(tCB (λxs H Q=>(∃i,xs=[.int i]/\Q (.int i) H)\/∃k,xs=[.bl k]/\Q (.int (if k then 1 else 0)) H) (oW (tOp (rI0 λi j=>.bl (decide (i=j))) (tVar 1) (tVar 0)) tNil))) S rfl (nofun) rfl (nofun) (mU rfl T.z_range (oJ (nU T.z_len (oT (pv 1))) oK)) (λ_ _ _ e9=>(mP Bv rfl T.z_int (nofun) (oJ (gP lZ (pv 1) (pv 0) (nM _)) oK)))))))
   (oM (lC yF rfl (mU rfl T.z_range (oJ oR oK)) (nL (i:=6) sc_p.nd rfl (Or.inl rfl))
   (oM (nV (nN bK (oP mL (pq 0) (pq 4)) oR (nM _))
   (oO (oX (i:=5) sc_p.nd rfl (Or.inl rfl) (oS d5 hr.mo T.F_8 (oJ (mC ix_B (pq 3) (oP iJ (oP mL (pq 0) (pq 4)) oR) (λ_ _=>rfl)) (oJ (pq 5) oK)))))
   mB)
   (oO (oX (i:=0) sc_p.nd rfl (Or.inl rfl) (oP lD (pq 0) (pq 4))))))
   (oM (nV (nN lZ (pq 1) oR (nM _))
   (oO (nB (mO (oJ (pq 5) (oJ (lH (oJ oR (oJ oR (oJ (oP mL (pq 0) (pq 2)) oK)))) oK)))))
   mB)
   (oO (nB (mO (oJ (pq 5) (oJ (oS b5 hr.mo T.F_c (oJ (pq 0) (oJ (pq 2) (oJ (nU T.z_len (pq 5)) oK)))) oK)))))))))),?_⟩
  show tSeq _ _ _ [some (.int c),some (.int k),some (.int p),none,none,none,none] H;right;refine⟨k,rfl,O,λq g L a4 b4 J=>?_⟩;refine⟨true,q,_,_,_,rfl,rfl,SqB.tup b4,rfl,?_⟩;left;have W:∃ps:LA,SqB false K L g (ps.map V.ref)/\ps.length=(famG k).length:=let ⟨ps,e2,c6,_⟩:=J;⟨ps,SqB.lst e2,c6⟩
  obtain⟨gs,W,d7⟩:=W;refine⟨false,g,_,rfl,W,?_⟩
  try ext
  rw[zqe,d7];left;refine nC λB eB=>?_;simp only[mD];ext;refine J.at b3 rfl λe8 d9=>iA (d9.b (K:=K)) ?_;rw[b1];have f6:famD k<=3:=⋯
  refine⟨_,rfl,⋯,⋯,λa0 c1=>?_⟩;rw[zR];have go:∀r l,Same L l->MatL l r (idM (famD k))->N1 [some (.int c),some (.int k),some (.int p),some (.ref g),some (.int ((famG k).length+1)),some (.ref r),none] l:=by
   intro b6 l D d0;subst e1;refine st λN1 e1=>lF λb2 X=>?_;simp only[mD];ext;refine⟨⋯,⋯,?_⟩;refine Ho (n:=2) (g:=oV 6) (tb:=b2) (λi σ d=>∃(a:Int)(r:Addr)(R:LM)(v:Option V),σ=[some (.int a),some (.int k),some (.int p),some (.ref g),some (.int ((famG k).length+1)),some (.ref r),v]/\Same L d/\MatL d r R/\R∈pgL k) ⟨c,b6,_,none,rfl,D,d0,F.one⟩ ?_ ?_
   ·rintro i σ d hi ⟨a,r,R,v,rfl,f,x,m⟩;subst X;show tSeq _ _ _ [some (.int a),some (.int k),some (.int p),some (.ref g),some (.int ((famG k).length+1)),some (.ref r),some (.int (0+(i:Int)))] d;have b9:kE a ((famG k).length+1):=⟨⋯,zF ((sU ⋯).mpr (show((((famG k).length:Int)+1)).natAbs<2^30 by omega)) ∅⟩;refine st λd1 Z=>?_;have nx:∀r R o,Same L o->MatL o r R->R∈pgL k->d1 [some (.int a),some (.int k),some (.int p),some (.ref g),some (.int ((famG k).length+1)),some (.ref r),some (.int (0+(i:Int)))] o:=by
     intro r R o u a1 d4;subst Z;ext;exact⟨b9,u,_,a1,d4⟩
    ext;refine⟨⋯,?_⟩;have f2:=fms a (((famG k).length:Int)+1) ⋯;refine ite2 (λh=>?_) λ_=>nx r R d f x m;have f0:=yP h;refine⟨⋯,?_⟩;obtain⟨j,I⟩:=xQ (show 0<=a.fmod (((famG k).length:Int)+1)-1 by omega);have C:j<(famG k).length:=⋯
    have b0:(famG k)[j]?=some (famG k)[j]:=zqd C;have G:=F.gen _ (xO C);generalize (famG k)[j]=M at b0 G;refine(J.up f).at b0 I λa8 Y=>?_;refine⟨false,false,false,false,a8,r,M,R,famD k,rfl,Y.b,x.b,F.sq M G,F.sq R m,e5,(Eg F G).le ∅,(Eg F m).le ∅,λb7 o u a1=>nx b7 _ o (f.trans u) a1 (F.mul M G R m)⟩
   ·rintro σ d ⟨a,r,R,v,rfl,f,x,m⟩;symm;have a5:=F.sq R m;refine ite2 (λh=>?_) λh=>?_
    ·have e4:k=4:=by have:=yP h;omega
     have f5:=fms a p ⋯;refine⟨⋯,by show 3<=sizeLine;decide,λb a6=>⟨by show 2<=sizeLine;decide,λN n=>?_⟩⟩;refine a2 N r b R [0,0,a.fmod p] _ ((a4.trans f).trans ((Same.new a6).trans (Same.new n))) oQ (x.up ((Same.new a6).trans (Same.new n))) (Same.new n _ _ oQ) m ⟨by rw[e4];rfl,λ_=>⟨_,rfl⟩⟩ λz a7=>?_;simp only[List.mem_cons,List.not_mem_nil,or_false]at a7;rcases a7 with e|e|e <;> rw[e] <;> omega
    ·have c9:k≠4:=λz=>h (zL ⋯);refine iA (x.b (K:=K)) ?_;refine⟨a,p,R.length,rfl,⋯,⋯,by have:=a5.1;omega,λb o ns u _ d8 c5 e3=>⟨by show 2<=sizeLine;decide,λN n=>?_⟩⟩;exact a2 N r b R ns _ ((a4.trans f).trans (u.trans (Same.new n))) oQ (x.up (u.trans (Same.new n))) (Same.new n _ _ d8) m ⟨by rw[c5,a5.1],λz=>absurd z c9⟩ e3
  refine lG (RowR a0 λi=>(List.range (famD k)).map λj=>if i=j then(1:Int) else 0) c1 ⋯ (RowR.mono (a:=a0)) ?_ ?_
  ·intro i l zs hi D c3 d3 c2;subst eB;show mE _ _ _ _ _ [some (.int (0+(i:Int))),some (.ref g)] l d3;refine nC λb2 X=>?_;simp only[mD];ext;refine(J.up D).at b3 rfl λa8 Y=>iA (Y.b (K:=K)) ?_;rw[b1];refine⟨_,rfl,⋯,⋯,λc8 a3=>?_⟩;rw[zR];refine lG (λj y _=>j<famD k/\y=.int (if i=j then 1 else 0)) a3 ⋯ (λ_ _ _ _ r _=>r) ?_ ?_
   ·intro j d f7 C f f4 d2 e0;subst X;show tCB _ _ [some (.int (0+(j:Int))),some (.int (0+(i:Int)))] d d2;ext;refine .inr (e0 _ _ (Same.refl _) ⟨C,?_⟩);have I:(0+(i:Int)=0+(j:Int))↔i=j:=⋯
    by_cases q:i=j
    ·rw[zJ q,zJ (zL (I.mpr q))]
    ·rw[zI q,zI λh=>q (I.mp (yP h))]
   ·intro d ys f c4 U d6;have b8:ys=((List.range (famD k)).map λj=>if i=j then(1:Int) else 0).map V.int:=by
     refine nW (by rw[U];simp) λj y e=>?_;obtain⟨C,rfl⟩:=d6 j y e;exact⟨_,by rw[zC,yR C];rfl,rfl⟩
    subst b8;exact c2 _ _ f ⟨c8,rfl,zW (mI c3 a3),c4⟩
  ·intro l ys D Z U c0;have a9:=MatL.of Z c0;rw[U]at a9;exact go a0 l D a9
theorem My{H:Hp}{d:Nat}:∀ys:List V,(∀y∈ys,∃p,∃s:Stp,y=V.ref p/\s.Ok d/\H p=some (.tup [.int s.i,.int s.j,.int s.m]))->∃(ps:LA)(L:List Stp),ys=ps.map V.ref/\ps.length=L.length/\(∀s∈L,s.Ok d)/\∀(k:Nat) p s,ps[k]?=some p->L[k]?=some s->H p=some (.tup [.int s.i,.int s.j,.int s.m])
 |[],_=>⟨[],[],rfl,rfl,(λ_ h=>nomatch h),(λk p s e=>by cases e)⟩
 | y:: ys,h=>by
  obtain⟨p,s,rfl,ok,e⟩:=h _ (zV ..);obtain⟨ps,L,rfl,hl,f,c⟩:=My ys λz a=>h z (zM _ a);refine⟨p:: ps,s:: L,rfl,by simp[hl],λz a=>?_,λk q z e1 b=>?_⟩
  ·rcases xE.mp a with rfl|h
   ·exact ok
   ·exact f z h
  ·cases k with
   |zero=>cases e1;cases b;exact e
   |succ k=>exact c k q z e1 b
theorem Xr{H:Hp}{r a:Addr}{ms:LI'}{d:Nat}{σ:St}{Q:VK}{fr:List (Str×Nat)}(J:lK fr σ=[some (.int d)])(O:d=2\/d=3)(hr:H r=some (.lst (ms.map V.int)))(T:ms.length<=40)(N:H a=none)(v:∀L H',Same H H'->gK H' a L->(∀s∈L,s.Ok d)->L.length=ms.length->Q (.ref a) H'):kA (Its K false r) (oV 0) (tEl (mJ sp_13 [] E0 (oW (tVar 0) (oW (tVar 1) tNil)))) 1 fr σ a H Q:=by
 refine nQ (λj y l=>∃p,∃s:Stp,y=V.ref p/\p≠a/\s.Ok d/\l p=some (.tup [.int s.i,.int s.j,.int s.m])) N (SqB.lst hr) (by rw[zqe];omega) (λj y l W⟨p,s,e1,k,g,b⟩x=>⟨p,s,e1,k,g,x _ _ k b⟩) ?_ ?_
 ·intro j y c zs R n F z D;obtain⟨m,U,rfl⟩:=mS R;rw[J];show mJ _ _ _ _ [some (.int m),some (.int d)] c z;ext;refine⟨m,d,rfl,O,λp X q i f o=>D _ _ i ⟨p,q,rfl,λe=>?_,o,f⟩⟩;rw[e,i _ _ F]at f;cases f
 ·intro c ys n b C M;obtain⟨ps,L,rfl,hl,G,u⟩:=My (H:=c) (d:=d) ys λy I=>by
   obtain⟨j,S,rfl⟩:=wT I;obtain⟨p,q,e1,_,g,b⟩:=M j _ (zqd S);exact⟨p,q,e1,g,b⟩
  rw[zqe,zqe]at C;exact v L c n ⟨ps,b,hl,u⟩ G ⋯
structure jH(k p:Nat)(L:List Stp)(S:LI')(su:Int):Prop where
 hk:k<6
 p1:1<=p
 pm:p<=famM k
 ok:∀s∈L,s.Ok (famD k)
 l6:L.length<=6
 lS:S.length=famD k
 bS:nY 5 S
 s0:0<su
 s1:su<=12
def fF(H:Hp)(q:Addr)(k p:Nat)(L:List Stp)(S:LI')(su:Int):Prop:=∃l sp sl,H q=some (.tup [.int k,.int p,.ref l,.ref sp])/\gK H l L/\H sp=some (.tup [.ref sl,.int su])/\H sl=some (.lst (S.map V.int))
theorem fF.up{H H':Hp}{q:Addr}{k p:Nat}{L:List Stp}{b:LI'}{a:Int}(h:fF H q k p L b a)(s:Same H H'):fF H' q k p L b a:=let ⟨l,sp,d,e,g,f,c⟩:=h;⟨l,sp,d,s _ _ e,g.up s,s _ _ f,s _ _ c⟩
def sp_l(K:Frag):Sp:=λvs H Q _=>E2 λ(a:Addr)(ns:LI')=>A3 (vs=[.ref a]) (SqL K H a (ns.map V.int)) (∀q k p L S su H',Same H H'->fF H' q k p L S su->jH k p L S su->Q (.ref q) H')
theorem ok_l(T:Txt K mg t):FnOk P w K mg base CX0 2 t.a_l t.d_l pE' (sp_l K):=by
 have v:=@ok_f P w K mg base t T;have c6:=@ok_m P w K mg base t T;have a6:=@ok_c P w K mg base t T;have a5:=@ok_13 P w K mg base t T;apply T.F_l.ok sc_l
 ·obtain⟨a,ns,rfl,M,a4⟩:=h;have u:SqB false K H a (ns.map V.int):=M;refine⟨_,(oM (oX (i:=1) sc_l.nd rfl (Or.inl rfl) (oS v hr.mo T.F_f (oJ (pq 0) (oJ oR oK))))
   (oM (oX (i:=2) sc_l.nd rfl (Or.inl rfl) (oP mL (pq 1) oR))
   (oM (jU (oS c6 hr.mo T.F_m (oJ (pq 2) oK)) (lR rfl (nO (nL (i:=3) sc_l.nd rfl (Or.inl rfl)) (nO (nL (i:=4) sc_l.nd rfl (Or.inl rfl)) lQ))))
   (oM (oX (i:=5) sc_l.nd rfl (Or.inr rfl) (nU T.z_len (oT (pq 3))))
   (oM (oX (i:=6) sc_l.nd rfl (Or.inl rfl) (oP mY oR (oP mL (oP lD (pq 1) oR) (pq 4))))
   (oM (iO (i:=7) (sc:=oN cH) (N:=N_l) (fr:=[("_law_d",5)]) (te:=(mJ (sp_13) [] E0 (oW (tVar 0) (oW (tVar 1) tNil)))) rfl rfl (nofun) rfl sc_l.nd rfl rfl (nofun) (nE (dJ sl_B (pq 0) (iY oR) (iY oR))) (λ_ _ _ a2=>(oS a5 hr.mo T.F_13 (oJ (pv 0) (oJ (pv 1) oK)))))
   (oM (iO (i:=8) (sc:=oN cH) (N:=N_l) (fr:=[]) (te:=(tOp (rI0 λi j=>.int (i-j)) (tOp (rI (λ_ j=>j≠0) λi j=>.int (i.fmod j)) (tOp (rI0 λi j=>.int (i+j)) (tVar 0) (tC (.int 20))) (tC (.int 41))) (tC (.int 20)))) rfl rfl (nofun) rfl sc_l.nd rfl rfl (nofun) (nE (oS a6 hr.mo T.F_c (oJ (oS v hr.mo T.F_f (oJ (pq 0) (oJ oR oK))) (oJ oR (oJ (pq 5) oK))))) (λ_ _ _ a2=>(oP iJ (oP mL (oP mY (pv 0) oR) oR) oR)))
   (oO (nB (mO (oJ (pq 2) (oJ (pq 6) (oJ (pq 7) (oJ (mO (oJ (pq 8) (oJ (oP mY oR (oP mL (oS v hr.mo T.F_f (oJ (pq 0) (oJ oR oK))) oR)) oK))) oK)))))))))))))),?_⟩
  show tSeq _ _ _ [some (.ref a),none,none,none,none,none,none,none,none] H;right;refine⟨a,ns,0,rfl,M,∅,?_⟩;generalize ns.getD (Int.toNat 0) 0=c;left;refine⟨∅,?_⟩;have O:=fms c 6 ∅;obtain⟨k,b0⟩:=xQ O.1;rw[b0]at O ⊢;have l:k<6:=⋯
  obtain⟨d6,b6,c0,d0⟩:=Mz l;have c5:=kC k;have e0:famD k<=3:=⋯
  left;refine⟨k,rfl,l,λq g f F a0 b8=>?_⟩;refine⟨q,_,rfl,SqT.of a0,rfl,?_⟩;simp only[nR,gNil,oV];refine⟨_,_,rfl,_,_,rfl,rfl,?_⟩;left;refine b8.at b6 rfl λc3 b1=>iA (b1.b (K:=K)) ?_;rw[c0];left;have c3:1<=famM k/\famM k<=6:=by rcases(show k=0\/k=1\/k=2\/k=3\/k=4\/k=5 by omega) with e|e|e|e|e|e <;> subst e <;> decide
  refine⟨⟨∅,∅⟩,⋯,?_⟩;have d2:=fms (c.fdiv 6) (famM k) ⋯;obtain⟨p,ep⟩:=xQ (show 0<=1+(c.fdiv 6).fmod (famM k) by omega);rw[ep];have D:1<=p/\p<=famM k:=⋯
  left;refine nC λd5 eB=>?_;simp only[iSeq];ext;refine⟨false,a,_,rfl,u.up F,(by intro e;cases e),λr hr=>?_⟩;rw[dS];have Y:((ns.drop (HT.sIx ns.length 0 (some 8))).take (HT.sIx ns.length ns.length (some 14)-HT.sIx ns.length 0 (some 8))).length<=6:=by
   rw[xF,show((8:Int))=((8:Nat):Int) from rfl,show((14:Int))=((14:Nat):Int) from rfl,HT.sIx_nat,HT.sIx_nat];omega
  generalize (ns.drop (HT.sIx ns.length 0 (some 8))).take (HT.sIx ns.length ns.length (some 14)-HT.sIx ns.length 0 (some 8))=cs at Y;have o:(upd f r (seqO false (cs.map V.int))) r=some (.lst (cs.map V.int)):=oQ;have J:Same f (upd f r (seqO false (cs.map V.int))):=Same.new hr;generalize upd f r (seqO false (cs.map V.int))=d3 at o J;refine⟨false,r,rfl,⟨_,SqB.lst o⟩,λU c4=>?_⟩;subst eB;refine Xr rfl c5 o ⋯ c4 λL d8 Z c1 ok c9=>?_;have b3:=J.trans Z;have N:=F.trans b3;left;refine nC λd1 X=>?_;simp only[iSeq];ext;refine⟨a,ns,1,rfl,u.up N,∅,?_⟩;refine⟨_,41,famD k,rfl,∅,∅,⋯,λb d7 ms R _ I a3 bm=>?_⟩;refine⟨false,b,rfl,⟨_,SqB.lst I⟩,λb2 a1=>?_⟩;refine nQ (λj y _=>∃n,ms[j]?=some n/\y=.int ((n+20).fmod 41-20)) a1 (SqB.lst I) (by rw[zqe];omega) (λ_ _ _ _ r _=>r) ?_ ?_
  ·intro i x S zs a9 m d4 c2 b4;obtain⟨n,c7,rfl⟩:=mS a9;subst X;show tOp _ _ _ [some (.int n)] S c2;ext;exact⟨∅,b4 _ _ (Same.refl _) ⟨n,c7,rfl⟩⟩
  ·intro S ys m b7 a8 c8;have b9:ys=(ms.map λn=>(n+20).fmod 41-20).map V.int:=by
    rw[xI];exact nW (by simpa using a8) c8
   subst b9;have G:=(N.trans R).trans m;symm;refine⟨a,ns,2,rfl,u.up G,∅,?_⟩;generalize ns.getD (Int.toNat 2) 0=z;ext;refine⟨∅,by show 2<=sizeLine;decide,λa7 C=>⟨by show 4<=sizeLine;decide,λW d=>?_⟩⟩;have d9:=fms z 12 ∅;refine a4 W k p L (ms.map λn=>(n+20).fmod 41-20) (1+z.fmod 12) _ ((G.trans (Same.new C)).trans (Same.new d)) ⟨U,a7,b2,oQ,c1.up (((R.trans m).trans (Same.new C)).trans (Same.new d)),Same.new d _ _ oQ,Same.new d _ _ (Same.new C _ _ b7)⟩ ⟨l,D.1,D.2,ok,⋯,by rw[zqe];exact a3,λy b5=>?_,⋯,⋯⟩;obtain⟨n,_,rfl⟩:=pZ.mp b5;have:=fms (n+20) 41 ∅;omega
def frm(k p:Nat)(L:List Stp)(S:LI')(su:Int):Frm:=⟨k,p,chP (famD k) L.reverse,chQ (famD k) L.reverse,S,su⟩
theorem jH.frm{k p:Nat}{L:List Stp}{b:LI'}{a:Int}(h:jH k p L b a):(Cw.frm k p L b a).Ok:=⟨h.hk,h.p1,h.pm,jG (kC k) λs c=>h.ok s (oG.mp c),h.lS,h.s0⟩
def sp_j(K:Frag):Sp:=λvs H Q _=>E9 λ(b:Bool)(c q:Addr)(cs:LI')(k p:Nat)(L:List Stp)(S:LI')(su:Int)=>A6 (vs=[.ref c,.ref q]) (SqB b K H c (cs.map V.int)) (cs.length<=3) (fF H q k p L S su) (jH k p L S su) (∀r ps ms H',Same H H'->H' r=some (.lst (ps.map V.ref))->Paired (DdAt K H') ps ms->(∀m∈ms,lY (famD k) m/\InF (frm k p L S su) (oZ m))->ms.length<=3->Q (.ref r) H')
theorem ok_j(T:Txt K mg t):FnOk P w K mg base CX0 4 t.a_j t.d_j pf' (sp_j K):=by
 have c1:=@ok_p P w K mg base t T;have c0:=@ok_4 P w K mg base t T;apply T.F_j.ok sc_j
 ·obtain⟨b,c,q,cs,k,p,L,a1,W,rfl,X,c4,c5,ok,b0⟩:=h;obtain⟨l,sp,b6,c3,a5,d0,a6⟩:=c5;have F:=gL ok.hk;have c9:=kC k;have d6:famM k<=6:=by have:=ok.hk;rcases(show k=0\/k=1\/k=2\/k=3\/k=4\/k=5 by omega) with e|e|e|e|e|e <;> subst e <;> decide
  have d5:=ok.pm;have d2:=ok.p1;refine⟨_,(oM (jU (pq 1) (lR rfl (nO (nL (i:=2) sc_j.nd rfl (Or.inl rfl)) (nO (nL (i:=3) sc_j.nd rfl (Or.inl rfl)) (nO (nL (i:=4) sc_j.nd rfl (Or.inl rfl)) (nO (nL (i:=5) sc_j.nd rfl (Or.inl rfl)) lQ))))))
   (oM (oX (i:=6) sc_j.nd rfl (Or.inl rfl) (lH oK))
   (oM (lC yF rfl (nE (pq 0)) (nL (i:=7) sc_j.nd rfl (Or.inl rfl))
   (oM (jU (oS c1 hr.mo T.F_p (oJ (pq 7) (oJ (pq 2) (oJ (pq 3) oK)))) (lR rfl (nO (nL (i:=8) sc_j.nd rfl (Or.inl rfl)) (nO (nL (i:=9) sc_j.nd rfl (Or.inl rfl)) lQ))))
   (oO (lP (iK xA xL xK jY (pq 6) (oJ (oS c0 hr.mo T.F_4 (oJ (pq 8) (oJ (pq 9) (oJ (pq 3) (oJ (pq 4) (oJ (pq 5) oK)))))) oK))))))
   (oO (nB (pq 6)))))),?_⟩
  show tSeq _ _ _ [some (.ref c),some (.ref q),none,none,none,none,none,none,none,none] H;right;refine⟨q,_,rfl,SqT.of c3,rfl,?_⟩;simp only[nR,gNil,oV];refine⟨_,_,rfl,_,_,rfl,_,_,rfl,_,_,rfl,rfl,?_⟩;left;refine⟨by show 0<=sizeLine;decide,λr a0=>?_⟩;have C:Same H (upd H r (.lst [])):=Same.new a0;have Y:(upd H r (.lst [])) r=some (.lst ([]:List V)):=oQ;generalize upd H r (.lst [])=d8 at C Y;subst e1;refine st λN1 e1=>lF λB eB=>?_;simp only[iSeq];ext;refine⟨b,⟨_,X.up C⟩,?_⟩;refine kX (b:=b) (g:=oV 7) (tb:=B) (λi σ d=>∃(ps:LA)(ms:List Dd)(J v u:Option V),σ=[some (.ref c),some (.ref q),some (.int k),some (.int p),some (.ref l),some (.ref sp),some (.ref r),J,v,u]/\Same H d/\d r=some (.lst (ps.map V.ref))/\Paired (λa x=>a≠r/\DdAt K d a x) ps ms/\(∀m∈ms,lY (famD k) m/\InF (frm k p L a1 W) (oZ m))/\ms.length=i) ⟨[],[],none,none,none,rfl,C,Y,.nil,(λ_ h=>by cases h),rfl⟩ (λi σ d _⟨_,_,_,_,_,_,f,_⟩=>X.up f) ?_ ?_
  ·rintro i x σ d b3 ⟨ps,ms,J,v,u,rfl,f,M,o,N,j⟩;obtain⟨n,d1,rfl⟩:=mS b3;subst eB;show tSeq _ _ _ [some (.ref c),some (.ref q),some (.int k),some (.int p),some (.ref l),some (.ref sp),some (.ref r),some (.int n),v,u] d;refine st λd4 a9=>?_;ext;refine⟨n,k,p,rfl,ok.hk,d2,⋯,λc2 c6 c7 R ts d7 O b4 b7 b9 G a3 b2=>?_⟩;refine⟨c2,_,rfl,SqT.of b4,rfl,?_⟩;simp only[nR,gNil,oV];refine⟨_,_,rfl,_,_,rfl,rfl,?_⟩;have g:=f.trans O;subst a9;ext;have S:=O _ _ M;refine⟨tyL S,?_⟩;refine⟨c6,c7,l,sp,b6,R,ts,a1,p,W,L,famD k,rfl,b7,b9,a5.up g,g _ _ d0,g _ _ a6,F.sq R G,c9,a3.1,ok.lS,ok.ok,ok.l6,Eg F G,(λz a8=>by have:=b2 z a8;omega),ok.bS,⋯,⋯,ok.s0,ok.s1,λx a2 D U a7=>?_⟩;have I:=D _ _ S;have b1:x≠r:=λe=>by
    obtain⟨_,_,Z,_⟩:=U;rw[e,I]at Z;cases Z
   have a4:=O.trans D;have d3:i<3:=by have:=(zqa d1).1;omega
   have b8:ps.length=ms.length:=o.length;refine⟨r,_,_,rfl,rfl,I,by rw[zqe,b8,j];exact yA (show i+1<=1000 by omega) ∅,?_⟩;have tk:TK K a2 (upd a2 r (.lst (ps.map V.ref++[.ref x]))):=TK.off I (λ_ z=>by cases z) (λ_ _ z=>by cases z) λ_ b5=>oU b5;refine⟨Same.over a0 (g.trans D),ps++[x],by rw[oQ,yM];rfl,ms++[_],vW (Paired.mapP o λa y z=>⟨z.1,(z.2.up a4).tk tk⟩) ⟨b1,DdAt.tk (x:=(_,_,_)) U tk⟩,λm c8=>?_,by rw[zS,j];rfl⟩;rcases pY.mp c8 with h|h
   ·exact N m h
   ·rw[pW.mp h];exact⟨a7,R,G,ts,a3,rfl⟩
  ·rintro σ d ⟨ps,ms,J,v,u,rfl,f,M,o,N,j⟩;symm;exact b0 r ps ms d f M (Paired.mapP o λ_ _ z=>z.2) N (by rw[j,zqe];exact c4)
theorem LeM.le{A B:Nat}{M:LM}(h:LeM A M)(a:A<=B):LeM B M:=λr hr z b=>yA (h r hr z b) a
theorem jI{d:Nat}:LeM 1 (idM d):=λr hr z a=>by
 obtain⟨i,_,rfl⟩:=pZ.mp hr;obtain⟨j,_,rfl⟩:=pZ.mp a;split <;> decide
theorem Mx{d:Nat}(b:d=2\/d=3):∀{L:List Stp},(∀s∈L,s.Ok d)->LeM (6^L.length) (chP d L)/\LeM (6^L.length) (chQ d L)
 |[],_=>⟨jI,jI⟩
 | s:: L,h=>by
  obtain⟨g,i⟩:=Mx b (L:=L) λz a=>h z (zM _ a);have o:=h s zV;have c:=jG b (L:=L) λz a=>h z (zM _ a);have f:=o.m2;rw[yE,qT];have e:d*(2*6^L.length)<=6^L.length*6:=by
   have:d*(2*6^L.length)<=3*(2*6^L.length):=wD _ ⋯;omega
  refine⟨(Al eQ (Lz f ∅) g).le e,?_⟩;have:=Al c.q i (Lz (d:=d) (i:=s.i) (j:=s.j) (m:=-s.m) (N:=2) ⋯ ∅);rw[qX (6^L.length) 2]at this;exact this.le e
theorem Mw{k p:Nat}{L:List Stp}{i:LI'}{g:Int}(ok:jH k p L i g){R:LM}(n:R∈pgL k):mF 40 (cjM (famD k) (chP (famD k) L.reverse) (chQ (famD k) L.reverse) R):=by
 have F:=gL ok.hk;have b:=kC k;have a:∀s∈L.reverse,s.Ok (famD k):=λs j=>ok.ok s (oG.mp j);have c:=jG b a;obtain⟨m,o⟩:=Mx b a;have d:6^L.reverse.length<=6^6:=zY ∅ (by rw[List.length_reverse];exact ok.l6);have w:LeM 1 R:=F.wee R n;have l:=Al c.p (m.le d) w;have f:=Al (c.p.mul (B:=R)) l (o.le d);intro r hr z q;have:=f r hr z q;have e:famD k*(famD k*(6^6*1)*6^6)<=3*(3*(6^6*1)*6^6):=wN ⋯ (wD _ (wD _ ⋯));have u:3*(3*(6^6*1)*6^6)<2^40:=∅
 omega
theorem fG{k p:Nat}{L:List Stp}{b:LI'}{a:Int}(ok:jH k p L b a){x:Dd}(m:InF (frm k p L b a) x):lY (famD k) x/\x.2.2<=72/\(∀z∈x.2.1,0<=z/\z<72)/\oZ x=x:=by
 obtain⟨R,v,t,D,rfl⟩:=m;have F:=gL ok.hk;have u:=kC k;have q:∀s∈L.reverse,s.Ok (famD k):=λs o=>ok.ok s (oG.mp o);have c:=jG u q;have I:famM k<=6:=by have:=ok.hk;rcases(show k=0\/k=1\/k=2\/k=3\/k=4\/k=5 by omega) with e|e|e|e|e|e <;> subst e <;> decide
 have N:=ok.p1;have G:=ok.pm;have r:=ok.s0;have l:=ok.s1;have n:0<(p:Int)*a:=yZ ⋯ r;have J:(p:Int)*a<=6*12:=qB ⋯ l ⋯ ⋯;have j:(cjT (famD k) (chP (famD k) L.reverse) (chQ (famD k) L.reverse) R (smul a t) (smul p b)).length=famD k:=Ey c (by rw[jS];exact ok.lS);have f:=Mw ok v;have i:=gJ c R;show lY (famD k) (canD (cjM (famD k) (chP (famD k) L.reverse) (chQ (famD k) L.reverse) R) (cjT (famD k) (chP (famD k) L.reverse) (chQ (famD k) L.reverse) R (smul a t) (smul p b)) (p*a))/\_;show _/\(canD (cjM (famD k) (chP (famD k) L.reverse) (chQ (famD k) L.reverse) R) (cjT (famD k) (chP (famD k) L.reverse) (chQ (famD k) L.reverse) R (smul a t) (smul p b)) (p*a)).2.2<=72/\(∀z∈(canD (cjM (famD k) (chP (famD k) L.reverse) (chQ (famD k) L.reverse) R) (cjT (famD k) (chP (famD k) L.reverse) (chQ (famD k) L.reverse) R (smul a t) (smul p b)) (p*a)).2.1,0<=z/\z<72)/\oZ (canD (cjM (famD k) (chP (famD k) L.reverse) (chQ (famD k) L.reverse) R) (cjT (famD k) (chP (famD k) L.reverse) (chQ (famD k) L.reverse) R (smul a t) (smul p b)) (p*a))=canD (cjM (famD k) (chP (famD k) L.reverse) (chQ (famD k) L.reverse) R) (cjT (famD k) (chP (famD k) L.reverse) (chQ (famD k) L.reverse) R (smul a t) (smul p b)) (p*a);generalize cjT (famD k) (chP (famD k) L.reverse) (chQ (famD k) L.reverse) R (smul a t) (smul p b)=TT at j;generalize cjM (famD k) (chP (famD k) L.reverse) (chQ (famD k) L.reverse) R=C at f i;obtain⟨_,g,M⟩:=eX (ts:=TT) n;have d:∀z∈nX (redU (p*a) TT) (redT (p*a) TT),0<=z/\z<redU (p*a) TT:=λz d=>by
  obtain⟨y,_,rfl⟩:=pZ.mp d;exact fms y _ g
 refine⟨⟨i,by show(nX _ (redT _ TT)).length=_;unfold nX redT;rw[zqe,zqe];exact j,g,f.le ∅,λz h=>?_,?_⟩,?_,λz h=>?_,?_⟩
 ·have:=d z h;exact zF (show z.natAbs<2^7 by omega) (zY ∅ ∅)
 ·show redU (p*a) TT<2^1500;omega
 ·show redU (p*a) TT<=72;omega
 ·have:=d z h;omega
 ·unfold canD oZ nX;show(_,_,_)=(_,_,_);rw[xI];congr 2;refine wU λy _=>?_;exact Int.fmod_fmod _ _
def sp_6(K:Frag):Sp:=λvs H Q _=>E7 λ(c:Int)(q:Addr)(k p:Nat)(L:List Stp)(S:LI')(su:Int)=>A4 (vs=[.int c,.ref q]) (fF H q k p L S su) (jH k p L S su) (∀r H'(TT:LI')(w:Int),Same H H'->nI H' r (redT w TT) (redU w TT)->0<w->w<=144->TT.length=famD k->nY 40 TT->Q (.ref r) H')
theorem ok_6(T:Txt K mg t):FnOk P w K mg base CX0 3 t.a_6 t.d_6 pg' (sp_6 K):=by
 have a9:=@ok_h P w K mg base t T;have c0:=@ok_c P w K mg base t T;have b3:=@ok_5 P w K mg base t T;apply T.F_6.ok sc_6
 ·obtain⟨c,q,k,p,L,O,u,rfl,c5,ok,a6⟩:=h;obtain⟨l,sp,c2,c4,b4,R,a1⟩:=c5;have a4:=kC k;have e0:famD k<=3:=⋯
  have d9:famM k<=6:=by have:=ok.hk;rcases(show k=0\/k=1\/k=2\/k=3\/k=4\/k=5 by omega) with e|e|e|e|e|e <;> subst e <;> decide
  have d8:=ok.pm;have e2:=ok.p1;have b8:=ok.lS;refine⟨_,(oM (jU (pq 1) (lR rfl (nO (nL (i:=2) sc_6.nd rfl (Or.inl rfl)) (nO (nL (i:=3) sc_6.nd rfl (Or.inr rfl)) (nO (nL (i:=4) sc_6.nd rfl (Or.inl rfl)) (nO (nL (i:=5) sc_6.nd rfl (Or.inr rfl)) lQ))))))
   (oM (oX (i:=6) sc_6.nd rfl (Or.inl rfl) (nU T.z_len (oT (pq 5))))
   (oM (nV (nN lZ (oP mL (pq 0) oR) oR (nM _))
   (oO (nB (oS a9 hr.mo T.F_h (oJ (nP (sc:=oN s_6) (N:=N_6) (fr:=[("_law_cell",0)]) (te:=(tOp (rI0 λi j=>.int (i-j)) (tOp (rI (λ_ j=>j≠0) λi j=>.int (i.fmod j)) (tOp (rI0 λi j=>.int (i+j)) (tOp (rI kE λi j=>.int (i.fdiv j)) (tVar 1) (tOp (rI0 λi j=>.int (i+j)) (tC (.int 4)) (tOp (rI (λi j=>IntMulOk i j) λi j=>.int (i*j)) (tC (.int 90)) (tVar 0)))) (tC (.int 1000))) (tC (.int 2001))) (tC (.int 1000)))) rfl rfl (nofun) rfl (nofun) (mU rfl T.z_range (oJ (pq 6) oK)) (λ_ _ _ a3=>(oP iJ (oP mL (oP mY (oP lD (pv 1) (oP mY oR (oP nT oR (pv 0)))) oR) oR) oR))) (oJ (oP mY oR (oP mL (oP lD (pq 0) oR) oR)) oK)))))
   mB)
   (oM (oX (i:=7) sc_6.nd rfl (Or.inl rfl) (oS c0 hr.mo T.F_c (oJ (oP lD (pq 0) oR) (oJ (oP nT oR (pq 3)) (oJ (pq 6) oK)))))
   (oM (nV (nN lZ (oP mL (pq 0) oR) oR (nM _))
   (oO (iO (i:=7) (sc:=oN s_6) (N:=N_6) (fr:=[]) (te:=(tC (.int 0))) rfl rfl (nofun) rfl sc_6.nd rfl rfl (nofun) (mU rfl T.z_range (oJ (pq 6) oK)) (λ_ _ _ a3=>oR)))
   mB)
   (oM (oX (i:=8) sc_6.nd rfl (Or.inr rfl) (oS b3 hr.mo T.F_5 (oJ (pq 7) (oJ (pq 4) oK))))
   (oO (nB (oS a9 hr.mo T.F_h (oJ (nP (sc:=oN s_6) (N:=N_6) (fr:=[("_law_parts",3),("_law_spot",5),("_law_tops",8)]) (te:=(tOp (rI0 λi j=>.int (i+j)) (tOp (rI (λi j=>IntMulOk i j) λi j=>.int (i*j)) (tOp (rIxB K) (tVar 3) (tVar 0)) (tOp (rIxB K) (tVar 2) (tC (.int 1)))) (tOp (rI (λi j=>IntMulOk i j) λi j=>.int (i*j)) (tOp (rI (λi j=>IntMulOk i j) λi j=>.int (i*j)) (tOp (rIxB K) (tOp (rIxB K) (tVar 2) (tC (.int 0))) (tVar 0)) (tC (.int 2))) (tVar 1)))) rfl rfl (nofun) rfl (nofun) (mU rfl T.z_range (oJ (pq 6) oK)) (λ_ _ _ a3=>(oP mY (oP nT (mC ix_B (pv 3) (pv 0) (λ_ _=>rfl)) (oT (pv 2))) (oP nT (oP nT (mC ix_B (oT (pv 2)) (pv 0) (λ_ _=>rfl)) oR) (pv 1))))) (oJ (oP nT (oP nT oR (pq 3)) (oT (pq 5))) oK))))))))))),?_⟩
  show tSeq _ _ _ [some (.int c),some (.ref q),none,none,none,none,none,none,none] H;have S:∀x y:Int,y≠0->y.natAbs<1073741824->kE x y:=λx y c3 d1=>⟨c3,zF ((sU ⋯).mpr (show y.natAbs<2^30 from d1)) ∅⟩;right;refine⟨q,_,rfl,SqT.of c4,rfl,?_⟩;simp only[nR,gNil,oV];refine⟨_,_,rfl,_,_,rfl,_,_,rfl,_,_,rfl,rfl,?_⟩;left;refine⟨true,sp,_,_,_,rfl,rfl,SqB.tup R,rfl,?_⟩;refine lO (SqB.lst a1) ?_;rw[b8];left;refine⟨∅,ite2 (λh=>?_) λh=>?_⟩
  ·refine nC λB eB=>?_;simp only[mD];ext;refine⟨⋯,⋯,λG C=>?_⟩;rw[zR];refine lG (λj y _=>∃n,((List.range (famD k)).map λj:Nat=>(c.fdiv (4+90*(j:Int))+1000).fmod 2001-1000)[j]?=some n/\y=.int n) C ⋯ (λ_ _ _ _ r _=>r) ?_ ?_
   ·intro j d zs g v a7 D I;subst eB;show tOp _ _ _ [some (.int (0+(j:Int))),some (.int c)] d D;ext;rw[pJ];refine⟨wL ∅,S _ _ ⋯ ⋯,∅,I _ _ (Same.refl _) ⟨_,by rw[zC,yR g];rfl,rfl⟩⟩
   ·intro d ys v b9 F b7;have J:ys=((List.range (famD k)).map λj:Nat=>(c.fdiv (4+90*(j:Int))+1000).fmod 2001-1000).map V.int:=nW (by rw[F];simp) b7;subst J;have d2:=fms (c.fdiv 8) 97 ∅;refine⟨S _ _ ∅ ∅,∅,false,G,_,_,rfl,SqB.lst b9,by simp;omega,⋯,jF (B:=20) (by have:(2:Nat)^20=1048576:=rfl;omega) ∅,λr b0 W hr=>a6 r b0 _ _ (v.trans W) hr ⋯ ⋯ (by simp) λz a=>?_⟩;obtain⟨j,_,rfl⟩:=pZ.mp a;have:=fms (c.fdiv (4+90*(j:Int))+1000) 2001 ∅;have e:(2:Nat)^40=1099511627776:=rfl;omega
  ·left;refine⟨S _ _ ∅ ∅,wL ∅,?_⟩;refine⟨_,2*(p:Int),famD k,rfl,⋯,⋯,⋯,λb c8 ms a0 d4 U X bm=>?_⟩;subst e1;refine st λN1 e1=>?_;have go:∀(b:Addr)(ms:LI') d,Same H d->d b=some (.lst (ms.map V.int))->ms.length=famD k->(∀z∈ms,0<=z/\z<2*(p:Int))->N1 [some (.int c),some (.ref q),some (.int k),some (.int p),some (.ref l),some (.ref sp),some (.int (famD k)),some (.ref b),none] d:=by
    intro b ms d v U X bm;left;refine⟨false,b,l,ms,L,famD k,5,rfl,SqB.lst U,b4.up v,X,a4,ok.ok,by have:=ok.l6;omega,(λz a=>by have:=bm z a;have e:(2:Nat)^5=32:=rfl;omega),∅,λb1 b0 W _ a2 M=>?_⟩;have b2:=jG a4 (L:=L.reverse) λs c1=>ok.ok s (oG.mp c1);have lt:(mv (chP (famD k) L.reverse) ms).length=famD k:=lB b2.p;replace M:nY 17 (mv (chP (famD k) L.reverse) ms):=M.le (by have:=ok.l6;omega);generalize mv (chP (famD k) L.reverse) ms=N at a2 M lt;have a5:=v.trans W;symm;refine nC λB eB=>?_;simp only[mD];ext;refine⟨⋯,⋯,λG C=>?_⟩;rw[zR];have c7:=ok.s0;have c6:=ok.s1;refine lG (λj y _=>∃n,((List.range (famD k)).map λj:Nat=>N.getD j 0*u+O.getD j 0*2*p)[j]?=some n/\y=.int n) C ⋯ (λ_ _ _ _ r _=>r) ?_ ?_
    ·intro j o zs g f a7 D I;have m:=a5.trans f;subst eB;show tOp _ _ _ [some (.int (0+(j:Int))),some (.int p),some (.ref sp),some (.ref b1)] o D;ext;refine⟨false,b1,_,_,_,rfl,rfl,SqB.lst (f _ _ a2),mZ (kB (getD_at (k:=j) ⋯)) ⋯,?_⟩;refine⟨true,sp,_,_,_,rfl,rfl,SqB.tup (m _ _ R),rfl,?_⟩
     try ext
     refine⟨vD (wZ ⋯ ⋯),?_⟩;refine⟨true,sp,_,_,_,rfl,rfl,SqB.tup (m _ _ R),rfl,?_⟩;refine⟨false,c2,_,_,_,rfl,rfl,SqB.lst (m _ _ a1),mZ (kB (getD_at (k:=j) ⋯)) ⋯,?_⟩
     try ext
     refine⟨vD ∅,vD (wZ ⋯ ⋯),?_⟩;exact I _ _ (Same.refl _) ⟨_,by rw[zC,yR g];rfl,rfl⟩
    ·intro o ys f Y F Z;have J:ys=((List.range (famD k)).map λj:Nat=>N.getD j 0*u+O.getD j 0*2*p).map V.int:=nW (by rw[F];simp) Z;subst J;have m:=a5.trans f;refine⟨wL ∅,?_⟩;refine⟨true,sp,_,_,_,rfl,rfl,SqB.tup (m _ _ R),rfl,?_⟩
     try ext
     have a8:0<2*(p:Int)*u:=yZ ⋯ c7;have d7:2*(p:Int)*u<=12*12:=qB ⋯ c6 ⋯ ⋯;refine⟨vD (wZ ⋯ ⋯),?_⟩;refine⟨false,G,_,_,rfl,SqB.lst Y,by simp;omega,a8,jF (B:=20) (by have:(2:Nat)^20=1048576:=rfl;omega) ∅,λr c9 b5 hr=>a6 r c9 _ _ (m.trans b5) hr a8 ⋯ (by simp) λz a=>?_⟩;obtain⟨j,g,rfl⟩:=pZ.mp a;have d6:=oF.mp g;have b6:=M _ (L2.getD_mem (show j<N.length by omega));have d0:=ok.bS _ (L2.getD_mem (show j<O.length by omega));have d5:(N.getD j 0*u).natAbs<=2^17*12:=by rw[xC];exact wN (xX b6) ⋯
     have d3:(O.getD j 0*2*p).natAbs<=2^5*2*6:=by rw[xC,xC];exact wN (wN (xX d0) ∅) ⋯
     have e:(2:Nat)^40=1099511627776:=rfl;omega
   ext;refine⟨∅,ite2 (λ_=>?_) λ_=>go b ms c8 a0 U X bm⟩;refine nC λB eB=>?_;simp only[mD];ext;refine⟨⋯,⋯,λG C=>?_⟩;rw[zR];refine lG (λj y _=>∃n,(List.replicate (famD k) (0:Int))[j]?=some n/\y=.int n) C ⋯ (λ_ _ _ _ r _=>r) ?_ ?_
   ·intro j o zs g f a7 D I;subst eB;show tC _ [some (.int (0+(j:Int)))] o D;ext;exact I _ _ (Same.refl _) ⟨0,by rw[vG,zJ g],rfl⟩
   ·intro o ys f Y F Z;have J:ys=(List.replicate (famD k) (0:Int)).map V.int:=nW (by rw[F];simp) Z;subst J;exact go G _ o (a0.trans f) Y (by simp) λz a=>by
     rw[(List.mem_replicate.mp a).2];omega
section
variable {tt:TOx} {fr:List (Str×Nat)} {σ:St} {a:Addr} {H:Hp} {Q:VK}
theorem Xq{b:Bool}{l:Addr}{xs:List V}(P:Nat->List V->Hp->Prop)(D:H a=none)(e:SqB b K H l xs)(F:xs.length<=1000)(u:P 0 [] (upd H a (.lst [])))
  (hl:∀i zs c,P i zs c->zs.length<=i)(mono:∀i zs c d,P i zs c->kS a c d->P i zs d)
  (g:∀i x c zs,xs[i]?=some x->Same H c->c a=some (.lst zs)->P i zs c->∀C:Option V->Hp->Prop,
   (∀y d,Same c d->P (i+1) (zs++[y]) d->C (some y) d)->(∀d,Same c d->P (i+1) zs d->C none d)->tt (some x:: lK fr σ) c C)
  (v:∀c ys,Same H c->c a=some (.lst ys)->P xs.length ys c->Q (.ref a) c):kA (Its K b l) (oV 0) tt 1 fr σ a H Q:=by
 refine bY xs.length P D F u hl mono (λi c hi s=>Its.go (e.up s) (x:=xs[i]) (by simp[hi])) (λc s=>Its.stop (e.up s) (zE _)) ?_ v;intro i c zs hi f n p ys x m j r C q z;obtain⟨e1,k⟩:=Its.yld (e.up f) r;subst e1
 match ys,j with
 |[o],_=>exact⟨⟨[some x],rfl,rfl⟩,g i x m zs k f n p C q z⟩
end
theorem Xp{fr:List (Str×Nat)}{σ:St}{a:Addr}{H:Hp}{Q:VK}{b:Bool}{l:Addr}{ns:LI'}(k:H a=none)(o:SqB b K H l (ns.map V.int))(m:ns.length<=1000)
  (f:∀c,Same H c->c a=some (.lst [])->Q (.ref a) c):kA (Its K b l) (oV 0) (iM (tNot (tB (mJ sp_y [] E0 (oW (tVar 0) tNil)))) (tVar 0)) 1 fr σ a H Q:=by
 refine Xq (λ_ zs _=>zs=[]) k o (by rw[zqe];exact m) rfl (λi zs c p=>by rw[p];exact yV _) (λ_ _ _ _ r _=>r) ?_ (λc ys d e p=>f c d (by rw[e,p]));intro i x c zs g d u p C v j;obtain⟨n,q,rfl⟩:=mS g;simp only[iM];ext;exact⟨n,rfl,_,rfl,iteF (j c (Same.refl _) p)⟩
def plD(ns:LI')(u:Int):PyData:=seqD true [kU true ns,.int u]
theorem PlS.dt{H:Hp}{p:Addr}{ns:LI'}{u:Int}(h:PlS K H p ns u):Dt K H (.ref p) (plD ns u):=let ⟨_,b,a⟩:=h;Dt.seqB (b:=true) b (.cons (Dt.intsB (b:=true) a) (.cons (.int u) .nil))
theorem Xo(ns:LI')(u:Int):iT 3 (plD ns u)=true:=by
 have:=Bb true 1 ns;simp[plD,seqD,iT,this]
theorem gM{u:Int}{ns:LI'}(a:0<u)(g:gl u ns=1):redT u ns=ns/\redU u ns=u:=by
 unfold redT redU;rw[Jn a g];refine⟨?_,sE u⟩
 conv=>rhs;rw[←qF ns]
 exact wU λt _=>sE t
structure MbOk(d:Nat)(x:Dd):Prop where
 sq:Sq d x.1
 len:x.2.1.length=d
 pos:0<x.2.2
 le:x.2.2<=72
 bm:mF 40 x.1
 bt:∀z∈x.2.1,0<=z/\z<72
 low:gl x.2.2 x.2.1=1
 rest:oZ x=x
structure SpOk(d:Nat)(σ:SP'):Prop where
 len:σ.1.length=d
 bits:nY 600 σ.1
 pos:0<σ.2
 le:σ.2<2^60
 low:gl σ.2 σ.1=1
theorem Mv{k p:Nat}{L:List Stp}{c:LI'}{b:Int}(ok:jH k p L c b){x:Dd}(a:InF (frm k p L c b) x):MbOk (famD k) x:=by
 obtain⟨f,i,j,g⟩:=fG ok a;obtain⟨M,ts,U,m,lt,n,e⟩:=cX ok.frm a;have d:gl x.2.2 x.2.1=1:=by
  rw[e];show gl (redU U ts) ((redT U ts).map λt=>t.fmod (redU U ts))=1;rw[Uu];exact Di ⋯
 obtain⟨R,l,t,o,rfl⟩:=a;exact⟨f.sq,f.len,f.pos,i,Mw ok l,j,d,g⟩
theorem MbOk.fine{d:Nat}{x:Dd}(h:MbOk d x):lY d x:=⟨h.sq,h.len,h.pos,h.bm.le ∅,λz a=>by
 have:=h.bt z a;exact zF (show z.natAbs<2^7 by omega) (zY ∅ ∅),by have:=h.le;omega⟩
def mvT(σ:SP')(x:Dd):LI':=redT (x.2.2*σ.2) (movT x.1 x.2.1 x.2.2 σ.1 σ.2)
def mvU(σ:SP')(x:Dd):Int:=redU (x.2.2*σ.2) (movT x.1 x.2.1 x.2.2 σ.1 σ.2)
theorem Ef(d:Nat)(σ:SP')(x:Dd):act d σ x=(nX (mvU σ x) (mvT σ x),mvU σ x):=Ld d σ x
theorem Mu{u:Int}{ts:LI'}:(redT u ts).length=ts.length:=by unfold redT;rw[zqe]
structure MvOk(d:Nat)(σ:SP')(x:Dd):Prop where
 len:(mvT σ x).length=d
 pos:0<mvU σ x
 le:mvU σ x<2^67
 low:gl (mvU σ x) (mvT σ x)=1
 bits:nY 700 (mvT σ x)
theorem Mt{d c e:Type}{f:d->c->e}{as:List d}{bs:List c}{z:e}(h:z∈List.zipWith f as bs):∃(i:Nat)(a:d)(b:c),as[i]?=some a/\bs[i]?=some b/\z=f a b:=by
 obtain⟨i,hi⟩:=yB h;rw[yW]at hi;cases ha:as[i]? with
 |none=>rw[ha]at hi;cases hi
 | some a =>
  cases hb:bs[i]? with
  |none=>rw[ha,hb]at hi;cases hi
  |some b =>
   rw[ha,hb]at hi;exact⟨i,a,b,ha,hb,(zU hi).symm⟩
theorem Mr{d c e:Type}{f:d->c->e}{as:List d}{bs:List c}{i:Nat}{a:d}{b:c}(j:as[i]?=some a)(g:bs[i]?=some b):(List.zipWith f as bs)[i]?=some (f a b):=by rw[yW,j,g]
theorem kH{b:Type}{l:List b}{i d:Nat}(h:l.length=d)(hi:i<d):∃a,l[i]?=some a:=⟨_,zqd ⋯⟩
theorem Xn{b:Type}{l:List b}{i d:Nat}{a:b}(h:l.length=d)(e:l[i]?=some a):i<d:=by
 have:=(zqa e).1;omega
theorem nab2{a b:Int}{A B C:Nat}(d:a.natAbs<A)(c:b.natAbs<B)(h:A+B<=C):(a+b).natAbs<C:=zF (yJ (uP a b) (Nat.add_lt_add d c)) h
theorem nabm{a b:Int}{A B:Nat}(d:a.natAbs<A)(c:b.natAbs<B):(a*b).natAbs<A*B:=by rw[xC];exact rC d c
theorem Mq{a:Int}{A:Nat}(c:0<a)(h:a<=A){B:Nat}(b:A<B):a.natAbs<B:=by
 refine yJ ?_ b;omega
theorem Mp{d B C:Nat}(p:d=2\/d=3){σ:SP'}{x:Dd}(hl:σ.1.length=d)(g:0<σ.2)(k:nY B σ.1)(q:σ.2<2^60)(a:MbOk d x)(f:2^(40+B+2)*2^7+2^7*2^60<=2^C):nY C (mvT σ x):=λz j=>by
 have n:0<x.2.2*σ.2:=yZ a.pos g;obtain⟨e,_,_⟩:=eX (ts:=movT x.1 x.2.1 x.2.2 σ.1 σ.2) n;obtain⟨t,o,hl⟩:=e z j;refine yJ hl ?_;obtain⟨i,r,t,b,c,rfl⟩:=Mt o;have m:=Em (a.bm _ (zqb b)) k (by rw[a.sq.2 _ (zqb b)];omega);have u:=a.bt _ (zqb c);have l:t.natAbs<2^7:=⋯
 exact nab2 (nabm m (Mq a.pos a.le (∅:72<2^7))) (nabm l (show σ.2.natAbs<2^60 by omega)) f
theorem Mo{d:Nat}{σ:SP'}{x:Dd}(a:0<σ.2)(b:MbOk d x):0<mvU σ x/\mvU σ x<=72*σ.2:=by
 have e:0<x.2.2*σ.2:=yZ b.pos a;obtain⟨_,c,f⟩:=eX (ts:=movT x.1 x.2.1 x.2.2 σ.1 σ.2) e;exact⟨c,pN f (Int.mul_le_mul_of_nonneg_right b.le (uC a))⟩
theorem Mn{d:Nat}{σ:SP'}{x:Dd}(b:0<σ.2)(a:MbOk d x):(mvT σ x).length=d/\gl (mvU σ x) (mvT σ x)=1:=⟨by unfold mvT;rw[Mu];exact Lh a.sq a.len,Di (by have:=yZ a.pos b;omega)⟩
theorem Ee{d:Nat}(f:d=2\/d=3){σ:SP'}{x:Dd}(a:SpOk d σ)(b:MbOk d x):MvOk d σ x:=by
 have e:=Mo a.pos b;have c:=Mn a.pos b;have g:=a.le;exact⟨c.1,e.1,⋯,c.2,Mp f a.len a.pos a.bits a.le b (nofun)⟩
theorem Mm{K:Frag}{H:Hp}{ns:LI'}{xs:List V}(h:Dts K H xs (ns.map PyData.int)):xs=ns.map V.int:=by
 induction ns generalizing xs with
 |nil=>cases h;rfl
 |cons n ns b=>cases h with|cons a h=>cases a;rw[b h];rfl
theorem Ml{K:Frag}{H:Hp}:∀{M:LM}{xs:List V},Dts K H xs (M.map λr=>PyData.tuple (r.map PyData.int))->∃ps:LA,xs=ps.map V.ref/\ps.length=M.length/\∀(i:Nat) p r,ps[i]?=some p->M[i]?=some r->SqT K H p (r.map V.int)
 |[],_,.nil=>⟨[],rfl,rfl,λi p r e=>by cases e⟩
 | r:: M,_,.cons (x:=x) f d=>by
  obtain⟨ps,e,l,h⟩:=Ml d;cases f with
  |tup a b =>
   rename_i q ys;rw[Mm b]at a;refine⟨q:: ps,by rw[e];rfl,by rw[yE,yE,l],λi p s e1 c=>?_⟩;cases i with
   |zero=>cases e1;cases c;exact a
   |succ i=>exact h i p s e1 c
theorem Ac{K:Frag}{H:Hp}{p:Addr}{x:Dd}(h:Dt K H (.ref p) (dat x)):DdS K H p x:=by
 obtain⟨M,ts,u⟩:=x;have h':Dt K H (.ref p) (.tuple [.tuple (M.map λr=>.tuple (r.map PyData.int)),.tuple (ts.map PyData.int),.int u]):=h;cases h' with
 | tup a b =>
  cases b with
  | cons b1 b =>
   cases b with
   | cons b2 b =>
    cases b with
    | cons e b =>
     cases b;cases e;cases b1 with
     | tup g f =>
      cases b2 with
      |tup e1 d =>
       rw[Mm d]at e1;obtain⟨ps,rfl,l,c⟩:=Ml f;exact⟨_,_,a,⟨ps,g,l,c⟩,e1⟩
theorem DdS.dt{K:Frag}{H:Hp}{p:Addr}{x:Dd}(h:DdS K H p x):Dt K H (.ref p) (dat x):=by
 obtain⟨d,e,b,c,a⟩:=h;exact .tup b (.cons (Dt.matB c) (.cons (Dt.intsB (b:=true) a) (.cons (.int _) .nil)))
theorem pl_t(ns:LI')(u:Int):tT 4 (plD ns u)=true:=by
 show tT 4 (.tuple [.tuple (ns.map PyData.int),.int u])=true;rw[eO,xG,xG,eO];have:(ns.map PyData.int).all (tT 2)=true:=by
  rw[wI];intro d a;obtain⟨i,_,rfl⟩:=pZ.mp a;rfl
 rw[this];rfl
theorem Xm{ns ms:LI'}{u v:Int}:plD ns u=plD ms v↔ns=ms/\u=v:=by
 show PyData.tuple [kU true ns,.int u]=PyData.tuple [kU true ms,.int v]↔_;simp only[PyData.tuple.injEq,List.cons.injEq,PyData.int.injEq,and_true,Bc]
theorem Mj{ns ms:LI'}{u v:Int}(h:ns.length=ms.length):sm (plD ns u) (plD ms v)=true:=by
 show(smA (ns.map PyData.int) (ms.map PyData.int) && (sm (.int u) (.int v) && true))=true;rw[An h];rfl
theorem Xl{a b:LI'}(h:lx a b=true):lx b a=false:=by
 cases h2:lx b a with
 |false=>rfl
 |true =>
  have:=Ia _ _ _ h h2;rw[Ib]at this;cases this
theorem Xk{d:Type}{f:d->PyData}{l:List d}(g:l.Nodup)(inj:∀x∈l,∀y∈l,f x=f y->x=y)(j:∀x∈l,∀y∈l,sm (f x) (f y)=true)(h:l.Pairwise λp q=>lx (fl (f q)) (fl (f p))=false):l.Pairwise λp q=>lx (fl (f p)) (fl (f q))=true:=by
 have i:=List.Pairwise.and g h;refine List.Pairwise.imp_of_mem (λ{a b}e c h=>?_) i;cases z:lx (fl (f a)) (fl (f b)) with
 |true=>rfl
 |false=>exact absurd (inj a e b c (aV _ _ (j a e b c) (Jz _ _ z h.2))) h.1
theorem Xj{d:Nat}{ss a:List Dd}{N:Nat}(g:∀s∈ss,s∈a)(h:(tab d a N).length<=N):∀y∈tab d ss N,y.1∈(tab d a N).map (·.1):=
 Ah (G:=λx=>x∈(tab d a N).map (·.1)) (pZ.mpr ⟨_,eW,rfl⟩) λx c s e=>by
  obtain⟨b,f,rfl⟩:=pZ.mp c;exact Eo h b f s (g s e)
theorem Xi{d:Nat}(c:d=2\/d=3){ss:List Dd}{N:Nat}(h:(tab d ss N).length<=N){s:Dd}(b:s∈ss)(a:Rs d s):s∈(tab d ss N).map (·.1):=by
 have:=Eo h _ eW s b;rw[(cW c a).1]at this;exact this
theorem Xh{d:Nat}{T ss:List Dd}(G:Grp d T)(b:∀s∈ss,s∈T){N:Nat}:∀y∈tab d ss N,y.1∈T:=Ah (G:=λx=>x∈T) G.one λx a s h=>G.mul x a s (b s h)
theorem Ed{y:Dd}:∀{srt:Tb}{n:Nat},(y∉srt.map (·.1)/\vT (numT srt n) (dat y)=none)\/(y∈srt.map (·.1)/\∃i:Int,vT (numT srt n) (dat y)=some (.int i))
 |[],_=>.inl ⟨by simp,rfl⟩
 | x:: srt,n=>by
  have e:numT (x:: srt) n=(dat x.1,V.int ((n:Nat):Int)):: numT srt (n+1):=rfl
  by_cases z:x.1=y
  ·refine .inr ⟨by rw[←z];exact .head _,n,?_⟩;rw[e,gX (by rw[z])]
  ·have c:¬ dat x.1=dat y:=λq=>z (Aq.mp q);rw[e,gE c,zK,xE];rcases Ed (y:=y) (srt:=srt) (n:=n+1) with⟨b,a⟩|⟨b,a⟩
   ·exact .inl ⟨λq=>q.elim (λq=>z q.symm) b,a⟩
   ·exact .inr ⟨.inr b,a⟩
structure GoIn(k p:Nat)(L:List Stp)(S:LI')(su:Int)(ds ms:List Dd)(srt:Tb):Prop where
 sub:∀m∈ms,m∈ds
 pm:srt.Perm (tab (famD k) (ms.map oZ) 192)
def sp_15(K:Frag)(t:Adr):Sp:=λvs H Q _=>E9 λ(b:Bool)(a:Addr)(ps:LA)(ds:List Dd)(k p:Nat)(L:List Stp)(S:LI')(su:Int)=>A7 (vs=[.int (famD k),.ref a]) (SqB b K H a (ps.map V.ref)) (Paired (DdAt K H) ps ds) (jH k p L S su) ((∀m∈ds,lY (famD k) m/\InF (frm k p L S su) (oZ m))) (ds.length<=199) (∀g ms srt H',Same H H'->GrpF K t H' g (famD k) ms srt->GoIn k p L S su ds ms srt->(∀m∈ds,oZ m∈srt.map (·.1))->Q (.ref g) H')
theorem Mi{k p:Nat}{L:List Stp}{d:LI'}{c:Int}(ok:jH k p L d c){ds:List Dd}(f:∀m∈ds,lY (famD k) m/\InF (frm k p L d c) (oZ m)){ms:List Dd}(e:∀m∈ms,m∈ds)(hl:ms.length<=200){H:Hp}{a g j:Addr}{ps:LA}(G:H g=some (.ins t.a_b j []))(u:H a=some (.lst (ps.map V.ref)))(q:Paired (DdAt K H) ps ms){Q:VK}{E:XK}
  (r:∀srt H',(∀b o,b≠g->H b=some o->H' b=some o)->GrpF K t H' g (famD k) ms srt->GoIn k p L d c ds ms srt->Q .non H'):Ko K t [.ref g,.int (famD k),.ref a,.int 200] H Q E:=by
 have okF:=ok.frm;have D:∀s∈ms.map oZ,InF (frm k p L d c) s:=λs h=>by
  obtain⟨m,n,rfl⟩:=pZ.mp h;exact(f m (e m n)).2
 have tb:=dA okF D 192;exact⟨false,famD k,a,g,j,ps,ms,InF (frm k p L d c),192,rfl,G,kC k,SqB.lst u,q,hl,λs h=>(f s (e s h)).1,λs h=>(fG ok (f s (e s h)).2).1,λx i=>(fG ok i).1,cV okF,λx s i h=>Af okF i (f s (e s h)).2,
   yA tb.1 ∅,tb.1,λy z=>(fG ok (tb.2 y z)).1,cT,λsrt v C F l=>r srt v C F ⟨e,l⟩⟩
theorem ok_15(T:Txt K mg t):FnOk P w K mg base CX0 15 t.a_15 t.d_15 ["d","deeds"] (sp_15 K t):=by
 have c3:=@ok_0 P w K mg base t T;have d9:=@ok_r P w K mg base t T;have d5:=@ok_a P w K mg base t T;apply T.F_15.ok sc_15
 ·have g4:=hr.units;obtain⟨b,a,ps,ds,k,p,L,b0,c0,rfl,b4,c5,ok,I,g5,d2⟩:=h;have g3:=kC k;have d3:ps.length=ds.length:=nS c5;refine⟨_,(oM (oX (i:=2) sc_15.nd rfl (Or.inl rfl) (Bs (C:=t.a_b) (T.mk_b) c3 hr.mo rfl T.m_b T.bd_Group___init__ (dvs:=[.int 200]) (.cons ⟨_,rfl⟩ .nil) kM (oJ (pq 0) (oJ (lH oK) oK))))
   (oM (lC yF rfl (nE (pq 1)) (nL (i:=3) sc_15.nd rfl (Or.inl rfl))
   (oO (nV (nN Fl (Fh (C:=t.a_b) (pq 2) T.cl_b T.me_r d9 hr.mo T.b_r .nil kM (oJ (pq 3) oK)) Fs (nM _))
   (oO (oX (i:=2) sc_15.nd rfl (Or.inl rfl) (Bs (C:=t.a_b) (T.mk_b) c3 hr.mo rfl T.m_b T.bd_Group___init__ (dvs:=[.int 200]) (.cons ⟨_,rfl⟩ .nil) kM (oJ (pq 0) (oJ (oP dL (gR (C:=t.a_b) (pq 2) T.cl_b T.me_a d5 hr.mo T.b_a .nil kM) (lH (oJ (pq 3) oK))) oK)))))
   mB)))
   (oO (nB (pq 2))))),?_⟩
  show tSeq _ _ _ [some (.int (famD k)),some (.ref a),none,none] H;right;simp only[bO];ext;refine⟨by show 0<=sizeLine;decide,λG c7=>?_⟩;have Y:Same H (upd H G (.lst [])):=Same.new c7;have b3:(upd H G (.lst [])) G=some (.lst (([]:LA).map V.ref)):=oQ;generalize upd H G (.lst [])=b9 at Y b3;intro g b5 a0 d8 e3;have a8:Same b9 (upd (upd b9 b5 (.own g)) g (.ins t.a_b b5 [])):=(Same.new d8).trans (Same.new (by rw[oU (zW e3)];exact a0));refine Mi ok I (ms:=[]) (λm d=>by cases d) ∅ oQ (a8 _ _ b3) .nil λsrt e5 f4 f0 d6=>⟨rfl,?_⟩;have b6:Same H e5:=λb o e=>f4 b o (λz=>by rw[z]at e;rw[Y _ _ e]at a0;cases a0) (a8 _ _ (Y _ _ e));subst e1;refine st λN1 e1=>lF λB eB=>?_;simp only[iSeq];ext;refine⟨b,⟨_,b4.up b6⟩,?_⟩;refine kX (b:=b) (g:=oV 3) (tb:=B) (λi C H'=>∃(g:Addr)(ms:List Dd)(srt:Tb)(v3:Option V),C=[some (.int (famD k)),some (.ref a),some (.ref g),v3]/\Same H H'/\GrpF K t H' g (famD k) ms srt/\GoIn k p L b0 c0 ds ms srt/\ms.length<=i/\∀(j:Nat) m,j<i->ds[j]?=some m->oZ m∈srt.map (·.1)) ⟨g,[],srt,none,rfl,b6,f0,d6,zE _,λj m f=>absurd f (tQ j)⟩ (λi C H' _⟨_,_,_,_,_,s,_⟩=>b4.up s) ?_ ?_
  ·rintro i y C a6 d7 ⟨g,ms,srt,v3,rfl,F,r,u,c8,M⟩;obtain⟨q,d1,rfl⟩:=mX d7;obtain⟨x,N,c6⟩:=nZ c5 d1;have d0:=zqb N;obtain⟨S,e0⟩:=I x d0;have hi:i<ds.length:=(zqa N).1;subst eB;show tIfS _ _ _ _ [some (.int (famD k)),some (.ref a),some (.ref g),some (.ref q)] a6;ext;simp only[jK];ext;obtain⟨g2,f9,lo,f1,e6,a1,_⟩:=id r;refine⟨g2,_,a1,rfl,g,q,famD k,ms,srt,x,rfl,r,c6.up F,by rw[S.sq.1];omega,by rw[S.len];omega,S.pos,λg6 b1=>?_⟩
   try ext
   have v:=F.trans b1;have Z:=r.up b1;rcases Ed (y:=oZ x) (srt:=srt) (n:=0) with⟨b8,a3⟩|⟨b8,n,a3⟩
   case inr =>
    rw[a3]
    try ext
    rw[zP (by simp)];refine iteF ⟨v,ms,srt,Z,u,⋯,λj m f c=>?_⟩
    by_cases W:j=i
    ·subst W;rw[N]at c;cases c;exact b8
    ·exact M j m ⋯ c
   rw[a3]
   try ext
   rw[zL (show(none:Option V).getD V.non=V.non from rfl)];refine iteT ?_;simp only[bO];ext;simp only[jK];ext;obtain⟨e4,f9,lo,f1,e6,a1,_⟩:=id Z;refine⟨e4,_,a1,rfl,g,famD k,ms,srt,rfl,Z,λl gs J f6 c7 hl b7=>?_⟩;have g7:gs.length=ms.length:=nS b7;refine⟨by show 1<=sizeLine;decide,λl1 f3=>?_⟩;have O:Same J (upd J l1 (.lst [.ref q])):=Same.new f3;have c9:(upd J l1 (.lst [.ref q])) l1=some (.lst [.ref q]):=oQ;generalize upd J l1 (.lst [.ref q])=D at O c9;refine⟨l,l1,_,_,rfl,rfl,O _ _ hl,c9,by rw[zqe];exact yA (show gs.length+1<=1000 by omega) ∅,λl2 f7=>?_⟩;have a4:Same D (upd D l2 (.lst (gs.map V.ref++[.ref q]))):=Same.new f7;have a9:(upd D l2 (.lst (gs.map V.ref++[.ref q]))) l2=some (.lst ((gs++[q]).map V.ref)):=by rw[oQ,yM];rfl
   generalize upd D l2 (.lst (gs.map V.ref++[.ref q]))=c2 at a4 a9;intro c4 a7 X f2 e8;have R:Same c2 (upd (upd c2 a7 (.own c4)) c4 (.ins t.a_b a7 [])):=(Same.new f2).trans (Same.new (by rw[oU (zW e8)];exact X));have g0:=(O.trans a4).trans R;have U:=(f6.trans O).trans a4;refine Mi ok I (ms:=ms++[x]) (λm d=>?_) (by rw[zS];show ms.length+1<=200;omega) oQ (R _ _ a9) (vW (Paired.mapP b7 λ_ _ z=>z.up g0) (((c6.up v).up U).up R)) λb2 g1 f5 e2 a2=>⟨rfl,?_⟩
   ·rcases pY.mp d with h|h
    ·exact u.sub m h
    ·rw[pW.mp h];exact d0
   have d4:Same H g1:=λb o e=>f5 b o (λz=>by rw[z]at e;rw[U _ _ (v _ _ e)]at X;cases X) (R _ _ (U _ _ (v _ _ e)));have okF:=ok.frm;have e9:∀s∈(ms++[x]).map oZ,InF (frm k p L b0 c0) s:=λs h=>by
    obtain⟨m,d,rfl⟩:=pZ.mp h;exact(I m (a2.sub m d)).2
   have tb:=dA okF e9 192;have c1:∀y,y∈(tab (famD k) ((ms++[x]).map oZ) 192).map (·.1)->y∈b2.map (·.1):=λy a5=>(a2.pm.map (·.1)).mem_iff.mpr a5;refine⟨d4,ms++[x],b2,e2,a2,by rw[zS];exact rB c8,λj m f c=>?_⟩
   by_cases W:j=i
   ·subst W;rw[N]at c;cases c;exact c1 _ (Xi g3 tb.1 (pZ.mpr ⟨x,yN _ (.head _),rfl⟩) (cX okF e0))
   ·have f8:=M j m ⋯ c;have e7:=(u.pm.map (·.1)).mem_iff.mp f8;obtain⟨y,a5,e⟩:=pZ.mp e7;rw[←e];exact c1 _ (Xj (λs h=>by rw[yM];exact wC _ h) tb.1 y a5)
  ·rintro C a6 ⟨g,ms,srt,v3,rfl,F,r,u,c8,M⟩;symm;refine d2 g ms srt a6 F r u λm d=>?_;obtain⟨j,f⟩:=yB d;exact M j m (by rw[zqe,d3];exact(zqa f).1) f
structure ChI(K:Frag)(H:Hp)(v:Addr)(d:Nat):Prop where
 ex:∃qs:LA,SqT K H v (qs.map V.ref)/\qs.length=d/\∀(i:Nat) q,qs[i]?=some q->nI H q ((idM d).getD i []) 1
theorem ChI.up{H H':Hp}{v:Addr}{d:Nat}(h:ChI K H v d)(s:Same H H'):ChI K H' v d:=by
 obtain⟨c,f,a,b⟩:=h;exact⟨c,mH s _ _ f,a,λi q e=>(b i q e).upS s⟩
def WyI(K:Frag)(H:Hp)(p:Addr)(d:Nat):Prop:=∃v s,H p=some (.tup [.ref v,.ref s])/\ChI K H v d/\nI H s (List.replicate d 0) 1
theorem WyI.up{H H':Hp}{p:Addr}{d:Nat}(h:WyI K H p d)(s:Same H H'):WyI K H' p d:=by
 obtain⟨v,q,c,a,b⟩:=h;exact⟨v,q,s _ _ c,a.up s,b.upS s⟩
def sp_9(K:Frag):Sp:=λvs H Q _=>E2 λ(p:Addr)(d:Nat)=>A3 (vs=[.int d,.ref p]) (WyI K H p d) (Q .non H)
theorem ok_9(T:Txt K mg t):FnOk P w K mg base CX0 1 t.a_9 t.d_9 pF' (sp_9 K):=by
 apply T.F_9.ok sc_9
 ·obtain⟨p,d,rfl,⟨v,q,c,⟨i,e,b,f⟩,g⟩,a⟩:=h;refine⟨_,(oO (nV (nN jM (nU T.z_len (oT (pq 1))) (pq 0) (nM _))
   (oO jJ)
   mB)),?_⟩
  show tIfS _ _ _ _ [some (.int d),some (.ref p)] H;ext;refine⟨true,p,_,_,_,rfl,rfl,SqB.tup c,rfl,true,v,_,rfl,(e:SqB true K H v _),?_⟩
  try ext
  rw[zqe,b];rw[zL rfl];exact iteF a
theorem Eb{d:Nat}(a:d=2\/d=3):detM d (idM d)=1:=by rcases a with rfl|rfl <;> decide +kernel
def sp_1j(K:Frag):Sp:=λvs H Q _=>E3 λ(n d:Nat)(v:Addr)=>A5 (vs=[.int n,.ref v]) (ChI K H v d) ((d=2\/d=3)) (n<=200) (∀H',Same H H'->Q (.int n) H')
theorem ok_1j(T:Txt K mg t):FnOk P w K mg base CX0 6 t.a_1j t.d_1j px' (sp_1j K):=by
 apply T.F_1j.ok sc_1j
 ·obtain⟨n,d,v,rfl,Z,a8,b0,U⟩:=h;have a4:FnOk P w K mg base CX0 (d+1) t.a_1 t.d_1 pL' (sp_1 K d):=ok_1 T d;obtain⟨W,a7,D,L⟩:=id Z;have c:SqB true K H v (W.map V.ref):=a7;refine⟨_,(oM (oX (i:=2) sc_1j.nd rfl (Or.inl rfl) (oP nT (pq 0) (lJ fO rfl T.z_abs (nofun) (oJ (oS a4 hr.mo T.F_1 (oJ (nP (sc:=oN s_1j) (N:=N_1j) (fr:=[]) (te:=(tOp (rIxB K) (tVar 0) (tC (.int 0)))) rfl rfl (nofun) rfl (nofun) (nE (pq 1)) (λ_ _ _ b1=>(oT (pv 0)))) oK)) oK))))
   (oM (oX (i:=3) sc_1j.nd rfl (Or.inl rfl) oR)
   (oM (lC yF rfl (nE (pq 1)) (nL (i:=4) sc_1j.nd rfl (Or.inl rfl))
   (oO (oX (i:=3) sc_1j.nd rfl (Or.inl rfl) (oP nT (pq 3) (oT (pq 4))))))
   (oO (nB (oP lD (pq 2) (pq 3))))))),?_⟩
  show tSeq _ _ _ [some (.int n),some (.ref v),none,none,none] H;right;exfalso;refine⟨true,⟨_,c⟩,λX R=>?_⟩;refine nQ (λj y _=>∃q,y=V.ref q/\SqT K H q (((idM d).getD j []).map V.int)) R c (by rw[zqe];omega) (λ_ _ _ _ h _=>h) ?_ ?_
  ·intro j y o zs u b b3 a6 a0;obtain⟨q,k,rfl⟩:=mX u;subst eB;show tOp _ _ _ [some (.ref q)] o a6;ext;obtain⟨z,m,J⟩:=L j q k;exact⟨true,q,_,_,_,rfl,rfl,SqB.tup (b _ _ m),rfl,a0 _ _ (Same.refl _) ⟨z,rfl,SqT.of J⟩⟩
  ·intro o ys b S I Y;have a1:∃ps:LA,ys=ps.map V.ref/\Paired (λq r=>SqT K H q (r.map V.int)) ps (idM d):=iR (by rw[I,zqe,D,nJ.1]) λj y F=>by
    obtain⟨q,a3,C⟩:=Y j y F;have a9:j<(idM d).length:=by rw[nJ.1,←D,←zqe (f:=V.ref),←I];exact(zqa F).1
    obtain⟨r,a⟩:=kH rfl a9;exact⟨q,r,a3,a,by rw[zqc,a]at C;exact C⟩
   obtain⟨ps,rfl,x⟩:=a1;have a5:MatB false true K o X (idM d):=⟨ps,SqB.lst S,nS x,λi q r O a2=>by
    obtain⟨b4,a,z⟩:=nZ x O;rw[a2]at a;cases a;exact mH b _ _ z⟩
   refine Ar ⋯ ⋯ a5 nJ (B:=2) (λr hr z N=>yJ (jI r hr z N) ∅) ∅ λb2 M=>?_;rw[Eb a8];refine⟨1,rfl,yG (nH (show((n:Nat):Int).natAbs<2^8 by omega)) (nH (show(if(1:Int)<0 then -1 else(1:Int)).natAbs<2^1 by decide)) ∅,?_⟩;have G:=b.trans M;left;subst e1;refine st λN1 e1=>lF λB eB=>?_;simp only[iSeq];ext;refine⟨true,⟨_,c.up G⟩,?_⟩;refine kX (b:=true) (g:=oV 4) (tb:=B) (λi g H'=>∃l:Option V,g=[some (.int n),some (.ref v),some (.int (n*(if(1:Int)<0 then -1 else 1))),some (.int 1),l]/\Same H H') ⟨none,rfl,G⟩ (λi g H' _⟨_,_,s⟩=>c.up s) ?_ ?_
   ·rintro i y g p u ⟨l,rfl,f⟩;obtain⟨q,k,rfl⟩:=mX u;obtain⟨z,m,J⟩:=L i q k;subst eB;show tAsg _ _ _ [some (.int n),some (.ref v),some (.int (n*(if(1:Int)<0 then -1 else 1))),some (.int 1),some (.ref q)] p;ext;refine⟨true,q,_,_,_,rfl,rfl,SqB.tup (f _ _ m),rfl,?_⟩
    try ext
    exact⟨yG (nH (show(1:Int).natAbs<2^1 by decide)) (nH (show(1:Int).natAbs<2^1 by decide)) ∅,∅,f⟩
   ·rintro g p ⟨l,rfl,f⟩;symm;refine⟨⟨∅,∅⟩,?_⟩;have e:((n:Int)*(if(1:Int)<0 then -1 else 1)).fdiv 1=n:=by rw[sE];simp
    rw[e];exact U p f
def sp_16(K:Frag):Sp:=λvs H Q _=>E2 λ(a:Addr)(n:Nat)=>A3 (vs=[.ref a]) (H a=some (.lst ((List.replicate n (1:Int)).map V.int))) (Q (.int 1) H)
theorem ok_16(T:Txt K mg t):FnOk P w K mg base CX0 2 t.a_16 t.d_16 ["numbers"] (sp_16 K):=by
 have f:=@ok_12 P w K mg base t T;apply T.F_16.ok sc_16
 ·obtain⟨a,n,rfl,d,k⟩:=h;refine⟨_,(oM (oX (i:=1) sc_16.nd rfl (Or.inl rfl) oR)
   (oM (lC yF rfl (nE (pq 0)) (nL (i:=2) sc_16.nd rfl (Or.inl rfl))
   (oO (oX (i:=1) sc_16.nd rfl (Or.inl rfl) (oP nT (oP lD (pq 1) (oS f hr.mo T.F_12 (oJ (pq 1) (oJ (pq 2) oK)))) (lJ fO rfl T.z_abs (nofun) (oJ (pq 2) oK))))))
   (oO (nB (pq 1))))),?_⟩
  show tSeq _ _ _ [some (.ref a),none,none] H;right;subst e1;refine st λN1 e1=>lF λB eB=>?_;simp only[iSeq];ext;refine⟨false,⟨_,SqB.lst d⟩,?_⟩;refine kX (b:=false) (g:=oV 2) (tb:=B) (λi b H'=>∃v2:Option V,b=[some (.ref a),some (.int 1),v2]/\H'=H) ⟨none,rfl,rfl⟩ (λi b H' _⟨_,_,s⟩=>by rw[s];exact SqB.lst d) ?_ ?_
  ·rintro i y b c j ⟨v2,rfl,rfl⟩;obtain⟨g,l,rfl⟩:=mS j;have e:g=1:=wK (zqb l);subst e;subst eB;show tAsg _ _ _ [some (.ref a),some (.int 1),some (.int 1)] c;ext;refine⟨1,1,rfl,?_⟩;rw[show gcdI 1 1=1 by decide];refine⟨_,_,rfl,rfl,⟨∅,∅⟩,_,_,rfl,rfl,?_,?_,rfl⟩
   ·exact yG (nH (show((1:Int).fdiv 1).natAbs<2^1 by decide)) (nH (show(if(1:Int)<0 then -1 else(1:Int)).natAbs<2^1 by decide)) ∅
   ·rfl
  ·rintro b c ⟨v2,rfl,rfl⟩;symm;exact k
def TbI(H:Hp)(p:Addr)(d:Nat):Prop:=∃a,H p=some (.tup [.ref a,.int 1])/\MatL H a (idM d)
theorem TbI.up{H H':Hp}{p:Addr}{d:Nat}(h:TbI H p d)(s:Same H H'):TbI H' p d:=let ⟨a,c,b⟩:=h;⟨a,s _ _ c,b.up s⟩
def sp_1h(K:Frag):Sp:=λvs H Q _=>E2 λ(p:Addr)(d:Nat)=>A4 (vs=[.ref p]) (WyI K H p d) ((d=2\/d=3)) (∀r H',Same H H'->TbI H' r d->Q (.ref r) H')
theorem Xg{d:Nat}(a:d=2\/d=3):gD d (idM d)=idM d:=by rcases a with rfl|rfl <;> decide +kernel
theorem ok_1h(T:Txt K mg t):FnOk P w K mg base CX0 3 t.a_1h t.d_1h pN' (sp_1h K):=by
 have b8:=@ok_16 P w K mg base t T;have b3:=@ok_1b P w K mg base t T;apply T.F_1h.ok sc_1h
 ·obtain⟨p,d,rfl,⟨v,c8,J,⟨b4,O,f,a1⟩,d1⟩,a8,b2⟩:=h;have u:∀{H'},Same H H'->SqB true K H' v (b4.map V.ref):=λs=>mH s _ _ O;refine⟨_,(oM (oX (i:=1) sc_1h.nd rfl (Or.inr rfl) (oS b8 hr.mo T.F_16 (oJ (nP (sc:=oN s_1h) (N:=N_1h) (fr:=[]) (te:=(tOp (rIxB K) (tVar 0) (tC (.int 1)))) rfl rfl (nofun) rfl (nofun) (nE (oT (pq 0))) (λ_ _ _ x=>(oT (pv 0)))) oK)))
   (oM (gS (i:=2) (xs:=["vector"]) (fr:=[("under",1)]) (g:=(oV 0)) (tt:=(tEl (mE (iSeq K (tOp (rIxB K) (tVar 0) (tC (.int 0)))) (oV 0) (tEl (tOp (rI (λi j=>IntMulOk i j) λi j=>.int (i*j)) (tVar 0) (tOp (rI kE λi j=>.int (i.fdiv j)) (tVar 2) (tOp (rIxB K) (tVar 1) (tC (.int 1)))))) 1 [("vector",0),("under",1)]))) (lL (sc:=oN s_1h) (N:=N_1h) rfl rfl (nofun)) rfl sc_1h.nd rfl rfl (nE (oT (pq 0))) (λ_ _ _ x=>(jC (N:=["vector","under"]) (i:=0) x rfl (nofun) rfl)) (λ_ _ _ x=>(lU (nP (N:=["vector","under"]) (fr:=[("vector",0),("under",1)]) (te:=(tOp (rI (λi j=>IntMulOk i j) λi j=>.int (i*j)) (tVar 0) (tOp (rI kE λi j=>.int (i.fdiv j)) (tVar 2) (tOp (rIxB K) (tVar 1) (tC (.int 1)))))) x rfl (nofun) rfl (nofun) (nE (oT (pv 0))) (λ_ _ _ c7=>(oP nT (pv 0) (oP lD (pv 2) (oT (pv 1)))))))))
   (oO (nB (mO (oJ (oS b3 hr.mo T.F_1b (oJ (pq 2) oK)) (oJ (pq 1) oK))))))),?_⟩
  show tSeq _ _ _ [some (.ref p),none,none] H;right;exfalso;refine⟨true,p,_,_,_,rfl,rfl,SqB.tup J,rfl,true,v,rfl,⟨_,u (Same.refl _)⟩,λb7 b0=>?_⟩;refine nQ (λj y _=>y=V.int 1) b0 (u (Same.refl _)) (by rw[zqe];omega) (λ_ _ _ _ h _=>h) ?_ ?_
  ·intro j y a2 zs m a Z N I;obtain⟨q,l,rfl⟩:=mX m;obtain⟨z,C,G⟩:=a1 j q l;subst eB;show tOp _ _ _ [some (.ref q)] a2 N;ext;exact⟨true,q,_,_,_,rfl,rfl,SqB.tup (a _ _ C),rfl,I _ _ (Same.refl _) rfl⟩
  ·intro a2 ys a b1 W b6;have m:ys=(List.replicate d (1:Int)).map V.int:=by
    refine nW (by rw[W,zqe,f,xM]) λj y R=>⟨1,?_,b6 j y R⟩;rw[vG,zJ (by rw[←f,←zqe (f:=V.ref),←W];exact(zqa R).1)]
   subst m;refine⟨b7,d,rfl,b1,?_⟩;left;exfalso;refine⟨true,p,_,_,_,rfl,rfl,SqB.tup (a _ _ J),rfl,true,v,rfl,⟨_,u a⟩,λD c4=>?_⟩;refine nQ (RowR D λj=>(idM d).getD j []) c4 (u a) (by rw[zqe];omega) (RowR.mono (a:=D)) ?_ ?_
   ·intro j y X zs m F Z N I;obtain⟨q,l,rfl⟩:=mX m;obtain⟨z,C,G⟩:=a1 j q l;have b:=a.trans F;subst eB;show mE _ _ _ _ _ [some (.ref q),some (.int 1)] X N;exfalso;refine⟨true,q,_,_,_,rfl,rfl,SqB.tup (b _ _ C),rfl,true,z,rfl,⟨_,SqB.tup (b _ _ G)⟩,λa5 a0=>?_⟩;refine nQ (λk y _=>∃n,((idM d).getD j [])[k]?=some n/\y=.int n) a0 (SqB.tup (b _ _ G)) (by
     rw[zqe];have o:j<(idM d).length:=by rw[nJ.1,←f];exact(zqa l).1
     rw[nJ.2 _ (by rw[zqc,zqd o];exact xO o)];omega) (λ_ _ _ _ r _=>r) ?_ ?_
    ·intro k y M c9 L g d2 c3 c2;obtain⟨n,S,rfl⟩:=mS L;have a6:n.natAbs<2^1:=by
      have o:j<(idM d).length:=by rw[nJ.1,←f];exact(zqa l).1
      have:=jI ((idM d).getD j []) (by rw[zqc,zqd o];exact xO o) n (zqb S);omega
     subst eB;show tOp _ _ _ [some (.int n),some (.ref q),some (.int 1)] M c3;ext;refine⟨true,q,_,_,_,rfl,rfl,SqB.tup ((b.trans g) _ _ C),rfl,_,_,rfl,rfl,⟨∅,∅⟩,_,_,rfl,rfl,?_,?_⟩
     ·exact yG (nH a6) (nH (show((1:Int).fdiv 1).natAbs<2^1 by decide)) ∅
     ·refine c2 _ _ (Same.refl _) ⟨n,S,?_⟩;show V.int (n*(1:Int).fdiv 1)=V.int n;rw[show(1:Int).fdiv 1=1 by decide,tL]
    ·intro M a4 g b9 b5 c6;have L:a4=((idM d).getD j []).map V.int:=nW (by rw[b5,zqe]) c6;subst L;exact I _ _ g ⟨a5,rfl,zW (mI Z a0),b9⟩
   ·intro X ys F a9 c5 a7;have a3:=MatL.of a9 a7;have e:(List.range ys.length).map (λj=>(idM d).getD j [])=idM d:=by
     rw[c5,zqe,f];refine xY (by rw[zqe,List.length_range,nJ.1]) λi J O=>?_;rw[vZ,List.getElem_range,zqc,zqd O];rfl
    rw[e]at a3;have b:=a.trans F;symm;have c1:idM d≠[]:=λz=>by have:=(nJ (d:=d)).1;rw[z]at this;simp at this;omega
    refine⟨false,false,D,idM d,d,rfl,a3.b,c1,nJ.2,⋯,by rw[nJ.1];omega,λc M d0 g Y=>?_⟩;rw[Xg a8]at Y;refine⟨(by show 2<=sizeLine;decide),λc0 U=>b2 c0 _ ((b.trans g).trans (Same.new U)) ⟨c,oQ,Y.up (Same.new U)⟩⟩
def cofM(d:Nat)(rows:LM)(i k:Nat):Int:=sg (i+k)*detM d (jP i k rows)
def crsM(n:Nat)(rows:LM):LM:=(List.range n).map λi=>(List.range n).map λk=>cofM (n-1) rows k i
def sp_14(K:Frag):Sp:=λvs H Q _=>E7 λ(b1 b2:Bool)(a:Addr)(rows:LM)(i k n:Nat)=>A9 (vs=[.ref a,.int i,.int k]) (MatB b1 b2 K H a rows) (Sq (n+1) rows) (i<n+1) (k<n+1) (1<=n) (n<=3) (mF 1800 rows) (∀H',Same H H'->Q (.int (cofM n rows i k)) H')
def sp_1i(K:Frag):Sp:=λvs H Q _=>E5 λ(b1 b2:Bool)(a:Addr)(rows:LM)(c:Int)=>A6 (vs=[.ref a,.int c]) (MatB b1 b2 K H a rows) (rows.length<1000) ((∀r∈rows,r.length<1000)) ((∀r∈rows,∀x∈r,IntMulOk c x)) (∀q H',H q=none->Same H H'->MatL H' q (rows.map λr=>r.map (c*·))->Q (.ref q) H')
def sp_1d(K:Frag):Sp:=λvs H Q _=>E5 λ(b1 b2:Bool)(a:Addr)(rows:LM)(n:Nat)=>A7 (vs=[.ref a]) (MatB b1 b2 K H a rows) (Sq n rows) (2<=n) (n<=4) (mF 1800 rows) (∀r H',H r=none->Same H H'->MatL H' r (crsM n rows)->Q (.ref r) H')
theorem ok_14(T:Txt K mg t):FnOk P w K mg base CX0 5 t.a_14 t.d_14 pz' (sp_14 K):=by
 have g:=@ok_1a P w K mg base t T;apply T.F_14.ok sc_14
 ·obtain⟨b1,b2,a,f,i,k,n,rfl,o,c,hi,d,y,C,u,p⟩:=h;have j:FnOk P w K mg base CX0 (n+1) t.a_1 t.d_1 pL' (sp_1 K n):=ok_1 T n;refine⟨_,(oM (oX (i:=3) sc_14.nd rfl (Or.inl rfl) (Fr (nN lZ (oP mL (oP mY (pq 1) (pq 2)) oR) oR (nM _)) oR (iV iW oR)))
   (oO (nB (oP nT (pq 3) (oS j hr.mo T.F_1 (oJ (oS g hr.mo T.F_1a (oJ (pq 0) (oJ (pq 1) (oJ (pq 2) oK)))) oK)))))),?_⟩
  show tSeq _ _ _ [some (.ref a),some (.int i),some (.int k),none] H;obtain⟨m,rfl⟩:∃m,n=m+1:=⟨n-1,⋯⟩;refine st λN1 e1=>?_;have b:N1 [some (.ref a),some (.int i),some (.int k),some (.int (sg (i+k)))] H:=by
   symm;refine⟨b1,b2,a,f,i,k,_,rfl,o,c.2,d,⋯,by rw[c.1];omega,λr D _ l v=>?_⟩;refine⟨false,false,r,_,1800,rfl,v.b,c.minor hi d,⋯,u.minor,∅,λe x=>?_⟩;ext;exact⟨wL (by unfold sg;split <;> decide),p e (l.trans x)⟩
  ext;refine⟨∅,?_⟩;have q:((i:Int)+k).fmod 2=((i+k)%2:Nat):=by
   rw[xW _ ∅];omega
  rw[q];unfold sg at b
  by_cases z:(i+k)%2=0
  ·rw[zJ z]at b;rw[zL (show(((i+k)%2:Nat):Int)=0 by omega)];exact iteT b
  ·rw[zI z]at b;rw[zP (show¬ (((i+k)%2:Nat):Int)=0 by omega)];exact iteF b
theorem ok_1i(T:Txt K mg t):FnOk P w K mg base CX0 1 t.a_1i t.d_1i pA' (sp_1i K):=by
 apply T.F_1i.ok sc_1i
 ·obtain⟨b1,b2,a,b,c,rfl,a2,hl,Z,a1,O⟩:=h;refine⟨_,(oO (nB (nP (sc:=oN s_1i) (N:=N_1i) (fr:=[("count",1)]) (te:=(mE (iSeq K (tVar 0)) (oV 0) (tEl (tOp (rI (λi j=>IntMulOk i j) λi j=>.int (i*j)) (tVar 1) (tVar 0))) 1 [("count",1)])) rfl rfl (nofun) rfl (nofun) (nE (pq 0)) (λ_ _ _ L=>(nP (N:=["row","count"]) (fr:=[("count",1)]) (te:=(tOp (rI (λi j=>IntMulOk i j) λi j=>.int (i*j)) (tVar 1) (tVar 0))) L rfl (nofun) rfl (nofun) (nE (pv 0)) (λ_ _ _ a6=>(oP nT (pv 1) (pv 0)))))))),?_⟩;show tRet _ _ [some (.ref a),some (.int c)] H;ext;exfalso;obtain⟨xs,z,I,a0⟩:=a2.walk;refine⟨b1,⟨_,z⟩,λk v=>?_⟩;refine nQ (RowR k λj=>(b.getD j []).map (c*·)) v z ⋯ (RowR.mono (a:=k)) ?_ ?_
  ·intro i x n zs S d Y a3 X;obtain⟨p,r,rfl,u,o⟩:=a0 i x S;have D:=zqb u;subst eB;show mE _ _ _ _ _ [some (.ref p),some (.int c)] n a3;exfalso;refine⟨b2,⟨_,o.up d⟩,λG F=>?_⟩;refine nQ (λj y _=>∃m,r[j]?=some m/\y=.int (c*m)) F (o.up d) (by have:=Z r D;rw[zqe];omega) (λ_ _ _ _ r _=>r) ?_ ?_
   ·intro j x C a8 J q a7 R W;obtain⟨m,f,rfl⟩:=mS J;subst eB;show tOp _ _ _ [some (.int m),some (.int c)] C R;ext;exact⟨a1 r D m (zqb f),W _ _ (Same.refl _) ⟨m,f,rfl⟩⟩
   ·intro C ys q N g M;have a5:ys=(r.map (c*·)).map V.int:=by
     refine nW (by simp at g ⊢;omega) λj y e=>?_;obtain⟨m,f,rfl⟩:=M j y e;exact⟨c*m,by rw[zC,f];rfl,rfl⟩
    subst a5;refine X _ _ q ⟨G,rfl,zW (mI Y F),?_⟩;show _=some (HO.lst (((b.getD i []).map (c*·)).map V.int));rw[N,zqc,u];rfl
  ·intro n ys d e1 g U;have l:=MatL.of e1 U;rw[g,I]at l;have a4:((List.range b.length).map λj=>(b.getD j []).map (c*·))=b.map λr=>r.map (c*·):=by
    refine qP λi=>?_;rw[zC,zC]
    by_cases hi:i<b.length
    ·rw[yR hi,zqd hi];simp[zqc,hi]
    ·rw[wG (by simp;omega),wG ⋯];rfl
   rw[a4]at l;exact O k n v d l
theorem ok_1d(T:Txt K mg t):FnOk P w K mg base CX0 6 t.a_1d t.d_1d pL' (sp_1d K):=by
 have X:=@ok_14 P w K mg base t T;apply T.F_1d.ok sc_1d
 ·obtain⟨b1,b2,a,b,n,rfl,z,u,a6,a3,F,L⟩:=h;refine⟨_,(oM (oX (i:=1) sc_1d.nd rfl (Or.inr rfl) (nU T.z_len (pq 0)))
   (oO (nB (kQ (xs:=["i"]) (fr:=[("rows",0),("size",1)]) (g:=(oV 0)) (tt:=(tEl (mE (mD (oW (tVar 2) tNil)) (oV 0) (tEl (mJ (sp_14 K) [] E0 (oW (tVar 2) (oW (tVar 0) (oW (tVar 1) tNil))))) 1 [("i",0),("rows",1)]))) (lL (sc:=oN s_1d) (N:=N_1d) rfl rfl (nofun)) rfl (mU rfl T.z_range (oJ (pq 1) oK)) (λ_ _ _ f=>(jC (N:=["i","rows","size"]) (i:=0) f rfl (nofun) rfl)) (λ_ _ _ f=>(lU (nP (N:=["i","rows","size"]) (fr:=[("i",0),("rows",1)]) (te:=(mJ (sp_14 K) [] E0 (oW (tVar 2) (oW (tVar 0) (oW (tVar 1) tNil))))) f rfl (nofun) rfl (nofun) (mU rfl T.z_range (oJ (pv 2) oK)) (λ_ _ _ a1=>(oS X hr.mo T.F_14 (oJ (pv 2) (oJ (pv 0) (oJ (pv 1) oK)))))))))))),?_⟩
  show tSeq _ _ _ [some (.ref a),none] H;obtain⟨m,rfl⟩:∃m,n=m+1:=⟨n-1,⋯⟩;right;refine iA z ?_;rw[u.1];symm;refine nC λB eB=>?_;simp only[mD];ext;refine⟨⋯,⋯,λl q=>?_⟩;rw[zR];refine lG (RowR l λi=>(List.range (m+1)).map λk=>cofM m b k i) q ⋯ (RowR.mono (a:=l)) ?_ ?_
  ·intro i o zs hi d R U O;subst eB;show mE _ _ _ _ _ [some (.int (0+(i:Int))),some (.ref a),some (.int ((m+1:Nat):Int))] o U;refine nC λB eB=>?_;simp only[mD];ext;refine⟨⋯,⋯,λD C=>?_⟩;rw[zR];refine lG (λk y _=>k<m+1/\y=.int (cofM m b k i)) C ⋯ (λ_ _ _ _ r _=>r) ?_ ?_
   ·intro k x a2 p c a5 M N;subst eB;have J:=d.trans c;show mJ _ _ _ _ [some (.int (0+(k:Int))),some (.int (0+(i:Int))),some (.ref a)] x M;ext;refine⟨b1,b2,a,b,k,i,m,by rw[pJ,pJ],z.up J,u,p,hi,⋯,⋯,F,λa4 W=>?_⟩;exact N _ _ W ⟨p,rfl⟩
   ·intro x ys c S g Y;have Z:ys=((List.range (m+1)).map λk=>cofM m b k i).map V.int:=by
     refine nW (by simpa using g) λj y e=>?_;obtain⟨a0,rfl⟩:=Y j y e;exact⟨_,by rw[zC,yR a0];rfl,rfl⟩
    subst Z;exact O _ _ c ⟨D,rfl,zW (mI R C),S⟩
  ·intro o ys d I g G;have v:=MatL.of I G;rw[g]at v;exact L l o q d v
theorem Xf{d:Nat}(a:d=2\/d=3):crsM d (idM d)=idM d:=by rcases a with rfl|rfl <;> decide +kernel
def sp_1q(K:Frag):Sp:=λvs H Q _=>E2 λ(p:Addr)(d:Nat)=>A4 (vs=[.ref p]) (WyI K H p d) ((d=2\/d=3)) (∀r H',Same H H'->TbI H' r d->Q (.ref r) H')
theorem ok_1q(T:Txt K mg t):FnOk P w K mg base CX0 7 t.a_1q t.d_1q pN' (sp_1q K):=by
 have N:=@ok_1h P w K mg base t T;have y:=@ok_1i P w K mg base t T;have F:=@ok_1d P w K mg base t T;apply T.F_1q.ok sc_1q
 ·obtain⟨p,d,rfl,J,j,G⟩:=h;have M:FnOk P w K mg base CX0 (d+1) t.a_1 t.d_1 pL' (sp_1 K d):=ok_1 T d;refine⟨_,(oM (oX (i:=1) sc_1q.nd rfl (Or.inl rfl) (oS N hr.mo T.F_1h (oJ (pq 0) oK)))
   (oO (nB (mO (oJ (oS y hr.mo T.F_1i (oJ (oS F hr.mo T.F_1d (oJ (oT (pq 1)) oK)) (oJ (oT (pq 1)) oK))) (oJ (oS M hr.mo T.F_1 (oJ (oT (pq 1)) oK)) oK)))))),?_⟩
  show tSeq _ _ _ [some (.ref p),none] H;right;refine⟨p,d,rfl,J,j,λr V v⟨a,g,u⟩=>?_⟩;have f:∀B,2<=B->mF B (idM d):=λB I r hr z e=>zF (yJ (jI r hr z e) (∅:1<2^2)) (zY ∅ I);have l1:=(nJ (d:=d)).1;symm;refine⟨true,r,_,_,_,rfl,rfl,SqB.tup g,rfl,?_⟩;refine⟨false,false,a,idM d,d,rfl,u.b,nJ,⋯,⋯,f _ ∅,λc R S l n=>?_⟩;rw[Xf j]at n;refine⟨true,r,_,_,_,rfl,rfl,SqB.tup (l _ _ g),rfl,?_⟩;refine⟨false,false,c,idM d,1,rfl,n.b,⋯,λx b=>by rw[nJ.2 x b];omega,λx b z e=>yG (nH (show(1:Int).natAbs<2^1 by decide)) (nH (f 2 ∅ x b z e)) ∅,λq W O C k=>?_⟩;have D:((idM d).map λr=>r.map ((1:Int)*·))=idM d:=by
   rw[show(λr:LI'=>r.map ((1:Int)*·))=id from funext λr=>by
    show r.map ((1:Int)*·)=r
    conv=>rhs;rw[←qF r]
    exact wU λz _=>tM z,qF]
  rw[D]at k;have i:=l.trans C;refine⟨true,r,_,_,_,rfl,rfl,SqB.tup (i _ _ g),rfl,?_⟩;refine Ar ⋯ ⋯ ((u.up i).b) nJ (f 2 ∅) ∅ λU o=>?_;rw[Eb j];exact⟨(by show 2<=sizeLine;decide),λL m=>G L _ (((v.trans i).trans o).trans (Same.new m)) ⟨q,oQ,(k.up o).up (Same.new m)⟩⟩
theorem Xe{d:Nat}{ns:LI'}{u:Int}(h:ns.length=d):sumT ns u ((List.replicate d (0:Int)).map (-·)) 1=ns:=by
 subst h;unfold sumT
 induction ns with
 |nil=>rfl
 |cons n ns a =>
  rw[yE,wS,zK,yY,a];simp
def sp_1v(K:Frag):Sp:=λvs H Q _=>E5 λ(p q:Addr)(d:Nat)(ns:LI')(u:Int)=>A10 (vs=[.ref p,.ref q]) (TbI H p d) (nI H q ns u) ((d=2\/d=3)) (ns.length=d) (0<u) (u<2^400) (nY 2100 ns) (gl u ns=1) (∀r H',Same H H'->nI H' r ns u->Q (.ref r) H')
theorem ok_1v(T:Txt K mg t):FnOk P w K mg base CX0 3 t.a_1v t.d_1v pB' (sp_1v K):=by
 have I:=@ok_1p P w K mg base t T;have J:=@ok_v P w K mg base t T;apply T.F_1v.ok sc_1v
 ·obtain⟨p,q,d,ns,u,rfl,⟨a,v,a6⟩,g,N,hl,U,b0,L,a4,S⟩:=h;have l1:=(nJ (d:=d)).1;refine⟨_,(oO (nB (jW J hr.mo rfl T.F_v.m T.F_v.kp T.F_v.b .nil hJ (oJ (nP (sc:=oN s_1v) (N:=N_1v) (fr:=[("spot",1)]) (te:=(mJ (sp_1p K) [] E0 (oW (tVar 0) (oW (tOp (rIxB K) (tVar 1) (tC (.int 0))) tNil)))) rfl rfl (nofun) rfl (nofun) (nE (oT (pq 0))) (λ_ _ _ a8=>(oS I hr.mo T.F_1p (oJ (pv 0) (oJ (oT (pv 1)) oK))))) (oJ (oP nT (oT (pq 0)) (oT (pq 1))) oK))))),?_⟩;show tRet _ _ [some (.ref p),some (.ref q)] H;ext;exfalso;obtain⟨xs,k,f,a3⟩:=(a6.b (K:=K)).walk;refine⟨true,p,_,_,_,rfl,rfl,SqB.tup v,rfl,false,a,rfl,⟨_,k⟩,λY R=>?_⟩;refine nQ (λj y _=>∃n,(mv (idM d) ns)[j]?=some n/\y=.int n) R k (by rw[f,l1];omega) (λ_ _ _ _ r _=>r) ?_ ?_
  ·intro i x C zs X b b1 a5 a1;obtain⟨o,r,rfl,e,G⟩:=a3 i x X;have a9:r.length=d:=nJ.2 r (zqb e);subst eB;show mJ _ _ _ _ [some (.ref o),some (.ref q)] C a5;ext;refine kZ (g.upS b) λz M=>?_;refine⟨false,true,o,z,r,ns,rfl,G.up b,SqB.tup M,⋯,⋯,λa7 m n e1 O=>yG (nH (show m.natAbs<2^1 from yJ (jI r (zqb e) m (zqb e1)) ∅)) (nH (L n (zqb O))) ∅,λl c=>?_⟩;exact a1 _ _ c ⟨_,by unfold mv;rw[zC,e];rfl,rfl⟩
  ·intro C ys b e1 W a0;have F:ys=(mv (idM d) ns).map V.int:=nW (by rw[W,f,l1,lB nJ]) a0;rw[cP N hl]at F;subst F;refine⟨true,p,_,_,_,rfl,rfl,SqB.tup (b _ _ v),rfl,?_⟩;refine jQ (g.upS b) ?_
   try ext
   refine⟨yG (nH (show(1:Int).natAbs<2^1 by decide)) (nH (show u.natAbs<2^400 by omega)) ∅,?_⟩;rw[tM];refine⟨false,Y,ns,u,rfl,SqB.lst e1,⋯,jF (B:=400) ⋯ ∅,λz=>?_,λ_ _ r l c D=>?_⟩
   ·rcases z with z|z
    ·omega
    ·rw[z]at hl;simp at hl;omega
   ·obtain⟨Z,a2⟩:=gM U a4;rw[Z,a2]at D;exact S r l (b.trans c) D
def sp_10(K:Frag):Sp:=λvs H Q _=>E5 λ(q p:Addr)(d:Nat)(ns:LI')(u:Int)=>A10 (vs=[.ref q,.ref p]) (WyI K H p d) (nI H q ns u) ((d=2\/d=3)) (ns.length=d) (0<u) (u<2^400) (nY 2100 ns) (gl u ns=1) (∀r H',Same H H'->nI H' r ns u->Q (.ref r) H')
theorem ok_10(T:Txt K mg t):FnOk P w K mg base CX0 8 t.a_10 t.d_10 pG' (sp_10 K):=by
 have D:=@ok_9 P w K mg base t T;have J:=@ok_1v P w K mg base t T;have F:=@ok_1q P w K mg base t T;have m:=@ok_u P w K mg base t T;apply T.F_10.ok sc_10
 ·obtain⟨q,p,d,ns,u,rfl,f,i,c,hl,e,k,g,l,I⟩:=h;refine⟨_,(oM (lP (oS D hr.mo T.F_9 (oJ (nU T.z_len (oT (pq 0))) (oJ (pq 1) oK))))
   (oO (nB (oS J hr.mo T.F_1v (oJ (oS F hr.mo T.F_1q (oJ (pq 1) oK)) (oJ (oS m hr.mo T.F_u (oJ (pq 0) (oJ (oT (pq 1)) oK))) oK)))))),?_⟩
  show tSeq _ _ _ [some (.ref q),some (.ref p)] H;right;refine kZ i λx n=>lO (b:=true) (SqB.tup n) ?_;rw[hl];refine⟨p,d,rfl,f,?_⟩;symm;refine⟨p,d,rfl,f,c,λr X a M=>?_⟩;obtain⟨v,G,O,Y,o⟩:=f.up a;refine⟨true,p,_,_,_,rfl,rfl,SqB.tup O,rfl,?_⟩;refine⟨q,G,ns,List.replicate d 0,u,1,d,rfl,i.upS a,o,hl,xM,c,g,λz C=>by rw[wK C];exact vQ _,e,k,∅,∅,λN W j b=>?_⟩;rw[tL,Xe hl]at b;obtain⟨L,S⟩:=gM e l;rw[L,S]at b;exact⟨r,N,d,ns,u,rfl,M.up j,b,c,hl,e,k,g,l,λR U y V=>I R U ((a.trans j).trans y) V⟩
theorem Mh{ns:LI'}{d:Nat}(h:ns.length=d):oZ (idM d,ns,1)=nK d:=by
 show(idM d,nX 1 ns,(1:Int))=(idM d,List.replicate d 0,1);have:nX 1 ns=List.replicate d 0:=by
  refine List.eq_replicate_iff.mpr ⟨by unfold nX;rw[zqe];exact h,λz a=>?_⟩;obtain⟨n,_,rfl⟩:=pZ.mp a;have:=fms n 1 ∅;omega
 rw[this]
def sp_n(K:Frag)(t:Adr):Sp:=λvs H Q _=>E5 λ(g v:Addr)(d:Nat)(ms:List Dd)(srt:Tb)=>A6 (vs=[.ref g,.ref v]) (GrpF K t H g d ms srt) (ChI K H v d) ((d=2\/d=3)) (nK d∈srt.map (·.1)) (∀H',Same H H'->Q .non H')
theorem ok_n(T:Txt K mg t):FnOk P w K mg base CX0 10 t.a_n t.d_n pw' (sp_n K t):=by
 have C:=@ok_r P w K mg base t T;have p:=@ok_1r P w K mg base t T;apply T.F_n.ok sc_n
 ·have U:=hr.units;obtain⟨g,v,d,ms,srt,rfl,l,⟨F,R,u,M⟩,z,G,D⟩:=h;have e:∀{H'},Same H H'->SqB true K H' v (F.map V.ref):=λs=>mH s _ _ R;refine⟨_,(oO (lC yF rfl (nE (pq 1)) (nL (i:=2) sc_n.nd rfl (Or.inl rfl))
   (oO (nV (nN Fl (Fh (C:=t.a_b) (pq 0) T.cl_b T.me_r C hr.mo T.b_r .nil kM (oJ (oS p hr.mo T.F_1r (oJ (pq 2) oK)) oK)) Fs (nM _))
   (oO jJ)
   mB)))),?_⟩
  refine lF λB eB=>?_;simp only[iSeq];show qVar 1 [some (.ref g),some (.ref v),none] H _;ext;refine⟨true,⟨_,e (Same.refl _)⟩,?_⟩;refine kX (b:=true) (g:=oV 2) (tb:=B) (λi b H'=>∃v2:Option V,b=[some (.ref g),some (.ref v),v2]/\Same H H') ⟨none,rfl,Same.refl _⟩ (λi b H' _⟨_,_,s⟩=>e s) ?_ ?_
  ·rintro i y b c S ⟨v2,rfl,a⟩;obtain⟨q,f,rfl⟩:=mX S;have hi:i<d:=by rw[←u];exact(zqa f).1
   have hl:((idM d).getD i []).length=d:=by
    have m:i<(idM d).length:=by rw[nJ.1];exact hi
    exact nJ.2 _ (by rw[zqc,zqd m];exact xO m)
   subst eB;show tIfS _ _ _ _ [some (.ref g),some (.ref v),some (.ref q)] c;ext;simp only[jK];ext;obtain⟨o,X,lo,Z,a0,O,_⟩:=id (l.up a);refine⟨o,_,O,rfl,q,_,1,d,rfl,(M i q f).upS a,hl,z,∅,jF (B:=1) ∅ ∅,λr W j k=>?_⟩;obtain⟨I,L⟩:=gM (u:=1) (ns:=(idM d).getD i []) ∅ (eN _);rw[I,L]at k;refine⟨g,r,d,ms,srt,(idM d,(idM d).getD i [],1),rfl,l.up (a.trans j),k,by show(idM d).length<=100;rw[nJ.1];omega,by show((idM d).getD i []).length<=100;omega,by show(0:Int)<1;decide,λY x=>?_⟩
   try ext
   rw[Mh hl];rcases Ed (y:=nK d) (srt:=srt) (n:=0) with⟨N,_⟩|⟨_,n,J⟩
   ·exact absurd G N
   rw[J]
   try ext
   rw[zP (by simp)];exact iteF ((a.trans j).trans x)
  ·rintro b c ⟨v2,rfl,a⟩;exact D c a
def sp_q(K:Frag):Sp:=λvs H Q _=>E4 λ(p q:Addr)(d:Nat)(x:Dd)=>A11 (vs=[.ref p,.ref q]) (DdS K H p x) (WyI K H q d) ((d=2\/d=3)) (Sq d x.1) (x.2.1.length=d) ((0<x.2.2/\x.2.2<2^150)) (mF 1000 x.1) (nY 1000 x.2.1) (gl x.2.2 x.2.1=1) (∀r H',Same H H'->DdAt K H' r x->Q (.ref r) H')
theorem ok_q(T:Txt K mg t):FnOk P w K mg base CX0 9 t.a_q t.d_q ["one","way"] (sp_q K):=by
 have i0:=@ok_9 P w K mg base t T;have h6:=@ok_1h P w K mg base t T;have g5:=@ok_1q P w K mg base t T;have b6:=@ok_1l P w K mg base t T;have h3:=@ok_18 P w K mg base t T;have i3:=@ok_10 P w K mg base t T;have g6:=@ok_1g P w K mg base t T;apply T.F_q.ok sc_q
 ·obtain⟨p,q,d,⟨M,ts,u⟩,rfl,a4,L,C,b,lt,⟨b0,c6⟩,b5,c0,c7,f0⟩:=h;replace b:Sq d M:=b;replace lt:ts.length=d:=lt;have l1:=(nJ (d:=d)).1;have R:=b.1;have c5:mF 2 (idM d):=λr hr z f=>yJ (jI r hr z f) ∅;have b9:∀{A:LM},Sq d A->A≠[]:=λh z=>by have:=h.1;rw[z]at this;simp at this;omega
  refine⟨_,(oM (lP (oS i0 hr.mo T.F_9 (oJ (nU T.z_len (oT (pq 0))) (oJ (pq 1) oK))))
   (oM (oX (i:=2) sc_q.nd rfl (Or.inl rfl) (oS h6 hr.mo T.F_1h (oJ (pq 1) oK)))
   (oM (oX (i:=3) sc_q.nd rfl (Or.inl rfl) (oS g5 hr.mo T.F_1q (oJ (pq 1) oK)))
   (oM (oX (i:=4) sc_q.nd rfl (Or.inl rfl) (oS b6 hr.mo T.F_1l (oJ (oS b6 hr.mo T.F_1l (oJ (oT (pq 3)) (oJ (oT (pq 0)) oK))) (oJ (oT (pq 2)) oK))))
   (oM (oX (i:=5) sc_q.nd rfl (Or.inr rfl) (oP nT (oT (pq 3)) (oT (pq 2))))
   (oM (nV (fK (lJ (aJ rfl) rfl T.z_any (nofun) (oJ (nP (sc:=oN cF) (N:=N_q) (fr:=[("under",5)]) (te:=(tCB (λxs H Q=>∃(p:Addr)(bs:List Bool),xs=[.ref p]/\SqL K H p (bs.map V.bl)/\Q (.bl (bs.any id)) H) (oW (mE (iSeq K (tVar 0)) (oV 0) (tEl (tOp (rI0 λi j=>.bl (!decide (i=j))) (tOp (rI (λ_ j=>j≠0) λi j=>.int (i.fmod j)) (tVar 0) (tVar 1)) (tC (.int 0)))) 1 [("under",1)]) tNil))) rfl rfl (nofun) rfl (nofun) (nE (pq 4)) (λ_ _ _ a5=>(lJ (aJ rfl) rfl T.z_any (nofun) (oJ (nP (N:=["row","under"]) (fr:=[("under",1)]) (te:=(tOp (rI0 λi j=>.bl (!decide (i=j))) (tOp (rI (λ_ j=>j≠0) λi j=>.int (i.fmod j)) (tVar 0) (tVar 1)) (tC (.int 0)))) a5 rfl (nofun) rfl (nofun) (nE (pv 0)) (λ_ _ _ f7=>(gP jM (oP mL (pv 0) (pv 1)) oR (nM _)))) oK)))) oK)))
   (oO jJ)
   mB)
   (oM (iO (i:=6) (sc:=oN cF) (N:=N_q) (fr:=[("under",5)]) (te:=(mE (iSeq K (tVar 0)) (oV 0) (tEl (tOp (rI kE λi j=>.int (i.fdiv j)) (tVar 0) (tVar 1))) 1 [("under",1)])) rfl rfl (nofun) rfl sc_q.nd rfl rfl (nofun) (nE (pq 4)) (λ_ _ _ a5=>(nP (N:=["row","under"]) (fr:=[("under",1)]) (te:=(tOp (rI kE λi j=>.int (i.fdiv j)) (tVar 0) (tVar 1))) a5 rfl (nofun) rfl (nofun) (nE (pv 0)) (λ_ _ _ f7=>(oP lD (pv 0) (pv 1))))))
   (oO (nB (oS h3 hr.mo T.F_18 (oJ (pq 6) (oJ (oS i3 hr.mo T.F_10 (oJ (oS g6 hr.mo T.F_1g (oJ (pq 0) (oJ (oT (pq 1)) oK))) (oJ (pq 1) oK))) oK)))))))))))),?_⟩
  show tSeq _ _ _ [some (.ref p),some (.ref q),none,none,none,none,none] H;right;refine cJ a4 λa g0=>iA g0 ?_;rw[R];refine⟨q,d,rfl,L,?_⟩;left;refine⟨q,d,rfl,L,C,λo j6 c2 f2=>?_⟩;left;refine⟨q,d,rfl,L.up c2,C,λn j0 Y g4=>?_⟩;obtain⟨f1,d2,e5⟩:=g4;obtain⟨h7,d1,g7⟩:=f2.up Y;have d4:=c2.trans Y;left;refine⟨true,n,_,_,_,rfl,rfl,SqB.tup d2,rfl,?_⟩;refine cJ (a4.up d4) λF a2=>?_;refine⟨false,false,true,true,f1,F,idM d,M,d,rfl,e5.b,a2,b9 b,b.2,λr hr=>by rw[nJ.2 r hr,R],⋯,⋯,⋯,?_,λc j7 j3 I b7=>?_⟩
  ·exactλr hr z f a1 X y b3=>yG (nH (c5 r hr z f)) (nH (b5 a1 X y b3)) ∅
  rw[(kP C b).1]at b7;have j8:=Y.trans I;refine⟨true,o,_,_,_,rfl,rfl,SqB.tup (I _ _ d1),rfl,?_⟩;refine⟨false,false,false,false,c,h7,M,idM d,d,rfl,b7.b,(g7.up I).b,b9 nJ,nJ.2,λr hr=>by rw[b.2 r hr,l1],⋯,⋯,⋯,?_,λk1 k2 j5 c8 c4=>?_⟩
  ·exactλr hr z f a1 X y b3=>yG (nH (b5 r hr z f)) (nH (c5 a1 X y b3)) ∅
  rw[(kP C b).2]at c4;have e3:=(d4.trans I).trans c8;have d5:=I.trans c8;left;refine⟨true,n,_,_,_,rfl,rfl,SqB.tup (d5 _ _ d2),rfl,?_⟩;refine⟨true,o,_,_,_,rfl,rfl,SqB.tup (d5 _ _ d1),rfl,?_⟩
  try ext
  refine⟨yG (nH (show(1:Int).natAbs<2^1 by decide)) (nH (show(1:Int).natAbs<2^1 by decide)) ∅,?_⟩;rw[show(1:Int)*1=1 by decide];obtain⟨xs,a0,a8,e2⟩:=(c4.b (K:=K)).walk;have d9:∀(ys:List V),(∀(j:Nat) y,ys[j]?=some y->y=V.bl false)->ys=(List.replicate ys.length false).map V.bl:=λys h=>by
   refine xY (by rw[zqe,xM]) λj e0 c9=>?_;rw[vZ,List.getElem_replicate];exact h j _ (zqd e0)
  have c1:∀n:Nat,(List.replicate n false).any id=false:=λn=>by
   rw[sK];intro z f;rw[wK f]
   decide
  left;exfalso;refine⟨false,⟨_,a0⟩,λi2 f8=>?_⟩;refine nQ (λj y _=>y=V.bl false) f8 a0 (by rw[a8,R];omega) (λ_ _ _ _ h _=>h) ?_ ?_
  ·intro j y d7 zs D g j4 h4 g2;obtain⟨b1,r,rfl,S,U⟩:=e2 j y D;have e9:r.length=d:=b.2 r (zqb S);subst eB;show tCB _ _ [some (.ref b1),some (.int 1)] d7 h4;ext;exfalso;refine⟨false,⟨_,U.up g⟩,λa7 N=>?_⟩;refine nQ (λk y _=>y=V.bl false) N (U.up g) (by rw[zqe];omega) (λ_ _ _ _ h _=>h) ?_ ?_
   ·intro k y J i9 Z m d8 W a3;obtain⟨l,d3,rfl⟩:=mS Z;subst eB;show tOp _ _ _ [some (.int l),some (.int 1)] J W;ext;have:=fms l 1 ∅;refine⟨∅,a3 _ _ (Same.refl _) ?_⟩;rw[show l.fmod 1=0 by omega];rfl
   ·intro J ys m a9 f9 b2;have D:=d9 ys b2;refine⟨a7,rfl,List.replicate ys.length false,by rw[←D];exact SqL.of a9,?_⟩;rw[c1];exact g2 _ _ m rfl
  ·intro d7 ys g i4 f9 e6;have D:=d9 ys e6;refine⟨i2,rfl,List.replicate ys.length false,by rw[←D];exact SqL.of i4,?_⟩;rw[c1]
   try ext
   have e7:=e3.trans g;have b8:=SqB.up a0 g;left;exfalso;refine⟨false,⟨_,b8⟩,λF a2=>?_⟩;refine nQ (RowR F λj=>M.getD j []) a2 b8 (by rw[a8,R];omega) (RowR.mono (a:=F)) ?_ ?_
   ·intro j y J zs Z m d8 W a3;obtain⟨b1,r,rfl,S,U⟩:=e2 j y Z;have e9:r.length=d:=b.2 r (zqb S);have g9:M.getD j []=r:=by rw[zqc,S];rfl
    have c3:=(U.up g).up m;subst eB;show mE _ _ _ _ _ [some (.ref b1),some (.int 1)] J W;exfalso;refine⟨false,⟨_,c3⟩,λa7 N=>?_⟩;refine nQ (λk y _=>∃n,r[k]?=some n/\y=.int n) N c3 (by rw[zqe];omega) (λ_ _ _ _ h _=>h) ?_ ?_
    ·intro k y a6 k0 b4 x j2 f6 e4;obtain⟨l,d3,rfl⟩:=mS b4;subst eB;show tOp _ _ _ [some (.int l),some (.int 1)] a6 f6;ext;refine⟨⟨∅,∅⟩,e4 _ _ (Same.refl _) ⟨l,d3,?_⟩⟩;rw[sE]
    ·intro a6 f4 x i6 h8 G;have b4:f4=r.map V.int:=nW (by rw[h8,zqe]) G;subst b4;exact a3 _ _ x ⟨a7,rfl,zW (mI d8 N),by dsimp only;rw[g9];exact i6⟩
   ·intro J h1 m a9 h9 b2;have d0:=MatL.of a9 b2;have e:(List.range h1.length).map (λj=>M.getD j [])=M:=by
     rw[h9,a8];refine xY (by rw[zqe,List.length_range]) λi e0 c9=>?_;rw[vZ,List.getElem_range,zqc,zqd c9];rfl
    rw[e]at d0;have O:=e7.trans m;obtain⟨v,g8,i7,j1,i1⟩:=L.up O;symm;refine⟨true,q,_,_,_,rfl,rfl,SqB.tup i7,rfl,?_⟩;have f3:Fine d M ts u:=⟨b,lt,b0,b5.le ∅,c0.le ∅,by have:u<2^150:=c6;omega⟩;refine⟨p,g8,M,ts,List.replicate d 0,u,1,d,rfl,a4.up O,i1.s,f3,⋯,⋯,xM,λz f=>by rw[wK f];exact vQ _,∅,∅,λh5 a6 x G=>?_⟩;rw[(Ad C b lt).1,tL]at G;obtain⟨g1,h2⟩:=gM b0 c7;rw[g1,h2]at G;refine⟨h5,q,d,ts,u,rfl,L.up (O.trans x),G,C,lt,b0,by have:u<2^150:=c6;omega,c0.le ∅,c7,λh0 j9 d6 g3=>?_⟩;exact⟨false,false,F,h0,M,ts,u,rfl,((d0.up x).up d6).b,g3,⋯,λf5 i5 i8 e8=>f0 f5 i5 (((O.trans x).trans d6).trans i8) e8⟩
def sp_1e(K:Frag):Sp:=λvs H Q _=>E4 λ(a s:Addr)(qs:LA)(d:Nat)=>A7 (vs=[.ref a,.ref s]) (H a=some (.lst (qs.map V.ref))) (qs.length=d) ((∀(i:Nat) q,qs[i]?=some q->nI H q ((idM d).getD i []) 1)) (nI H s (List.replicate d 0) 1) ((d=2\/d=3)) (∀r H',Same H H'->WyI K H' r d->Q (.ref r) H')
theorem ok_1e(T:Txt K mg t):FnOk P w K mg base CX0 6 t.a_1e t.d_1e py' (sp_1e K):=by
 have b1:=@ok_v P w K mg base t T;apply T.F_1e.ok sc_1e
 ·obtain⟨a,e2,c4,d,rfl,b4,hl,S,c1,f2,d0⟩:=h;have d2:FnOk P w K mg base CX0 (d+1) t.a_1 t.d_1 pL' (sp_1 K d):=ok_1 T d;refine⟨_,(oM (oX (i:=2) sc_1e.nd rfl (Or.inr rfl) (nU T.z_len (pq 0)))
   (oM (nV (nN bP (pq 2) (mO (oJ oR (oJ oR oK))) rfl)
   (oO jJ)
   mB)
   (oM (nV (PW.pt (fM (fK (lJ (aJ rfl) rfl T.z_any (nofun) (oJ (nP (sc:=oN s_1e) (N:=N_1e) (fr:=[("axes",2)]) (te:=(tOp (rI0 λi j=>.bl (!decide (i=j))) (tCB (jD K) (oW (tOp (rIxB K) (tVar 0) (tC (.int 0))) tNil)) (tVar 1))) rfl rfl (nofun) rfl (nofun) (nE (pq 0)) (λ_ _ _ b2=>(gP jM (nU T.z_len (oT (pv 0))) (pv 1) (nM _)))) oK))) (fL (nN jM (nU T.z_len (oT (pq 1))) (pq 2) (nM _)))))
   (oO jJ)
   mB)
   (oM (nV (nN lZ (oS d2 hr.mo T.F_1 (oJ (nP (sc:=oN s_1e) (N:=N_1e) (fr:=[]) (te:=(tOp (rIxB K) (tVar 0) (tC (.int 0)))) rfl rfl (nofun) rfl (nofun) (nE (pq 0)) (λ_ _ _ b2=>(oT (pv 0)))) oK)) oR (nM _))
   (oO jJ)
   mB)
   (oO (nB (mO (oJ (mP kJ rfl T.z_tuple (nofun) (oJ (nP (sc:=oN s_1e) (N:=N_1e) (fr:=[]) (te:=(mJ (sp_v K t.a_1t) [] E0 (oW (tOp (rIxB K) (tVar 0) (tC (.int 0))) (oW (tOp (rIxB K) (tVar 0) (tC (.int 1))) tNil)))) rfl rfl (nofun) rfl (nofun) (nE (pq 0)) (λ_ _ _ b2=>(jW b1 hr.mo rfl T.F_v.m T.F_v.kp T.F_v.b .nil hJ (oJ (oT (pv 0)) (oJ (oT (pv 0)) oK))))) oK)) (oJ (jW b1 hr.mo rfl T.F_v.m T.F_v.kp T.F_v.b .nil hJ (oJ (oT (pq 1)) (oJ (oT (pq 1)) oK))) oK))))))))),?_⟩
  show tSeq _ _ _ [some (.ref a),some (.ref e2),none] H;right;refine⟨false,a,_,rfl,SqB.lst b4,?_⟩;rw[zqe,hl];left;refine⟨by show 2<=sizeLine;decide,λa1 c9=>?_⟩;have D:Same H (upd H a1 (.tup [.int 2,.int 3])):=Same.new c9;refine⟨a1,_,rfl,.inr (SqT.of oQ),rfl,rfl,_,rfl,?_⟩;generalize upd H a1 (.tup [.int 2,.int 3])=f5 at D;rw[inV2,zL (show(d:Int)=2\/(d:Int)=3 by omega)];refine iteF ?_;have R:∀i,i<d->((idM d).getD i []).length=d:=λi hi=>by
   have b:i<(idM d).length:=by rw[nJ.1];exact hi
   exact nJ.2 _ (by rw[zqc,zqd b];exact xO b)
  have c0:∀{i q},c4[i]?=some q->i<d:=λe=>by rw[←hl];exact(zqa e).1
  have p:∀{H'},Same H H'->SqB false K H' a (c4.map V.ref):=λs=>SqB.lst (s _ _ b4);left;exfalso;refine⟨false,⟨_,p D⟩,λe7 d7=>?_⟩;refine nQ (λj y _=>y=V.bl false) d7 (p D) (by rw[zqe];omega) (λ_ _ _ _ h _=>h) ?_ ?_
  ·intro j y a9 zs g U X J F;obtain⟨q,n,rfl⟩:=mX g;subst eB;show tOp _ _ _ [some (.ref q),some (.int d)] a9 J;ext;refine kZ ((S j q n).upS (D.trans U)) λx m=>lO (b:=true) (SqB.tup m) ?_
   try ext
   refine F _ _ (Same.refl _) ?_;rw[R j (c0 n),zL rfl];rfl
  ·intro a9 ys U a4 f4 d6;have g:ys=(List.replicate ys.length false).map V.bl:=by
    refine xY (by rw[zqe,xM]) λj e9 f6=>?_;rw[vZ,List.getElem_replicate];exact d6 j _ (zqd e9)
   have d4:(List.replicate ys.length false).any id=false:=by
    rw[sK];intro z W;rw[wK W]
    decide
   refine⟨e7,rfl,List.replicate ys.length false,by rw[←g];exact SqL.of a4,?_⟩;rw[d4]
   try ext
   have I:=D.trans U;refine kZ (c1.upS I) λx m=>lO (b:=true) (SqB.tup m) ?_
   try ext
   rw[xM,zL rfl];refine iteF ?_;have d8:mF 2 (idM d):=λr hr z W=>yJ (jI r hr z W) ∅;left;exfalso;refine⟨false,⟨_,p I⟩,λe0 d3=>?_⟩;refine nQ (λj y _=>∃q,y=V.ref q/\SqT K H q (((idM d).getD j []).map V.int)) d3 (p I) (by rw[zqe];omega) (λ_ _ _ _ h _=>h) ?_ ?_
   ·intro j y a0 zs g a3 X J F;obtain⟨q,n,rfl⟩:=mX g;obtain⟨z,Z,a2⟩:=S j q n;subst eB;show tOp _ _ _ [some (.ref q)] a0 J;ext;exact⟨true,q,_,_,_,rfl,rfl,SqB.tup ((I.trans a3) _ _ Z),rfl,F _ _ (Same.refl _) ⟨z,rfl,SqT.of a2⟩⟩
   ·intro a0 c8 a3 Y b5 e3;have b3:=I.trans a3;have a5:∃ps:LA,c8=ps.map V.ref/\Paired (λq r=>SqT K H q (r.map V.int)) ps (idM d):=iR (by rw[b5,zqe,hl,nJ.1]) λj y v=>by
     obtain⟨q,C,f⟩:=e3 j y v;have b:j<(idM d).length:=by rw[nJ.1,←hl,←zqe (f:=V.ref),←b5];exact(zqa v).1
     obtain⟨r,c⟩:=kH rfl b;exact⟨q,r,C,c,by rw[zqc,c]at f;exact f⟩
    obtain⟨ps,rfl,c2⟩:=a5;have f1:MatB false true K a0 e0 (idM d):=⟨ps,SqB.lst Y,nS c2,λi q r a4 Y=>by
     obtain⟨b0,c,z⟩:=nZ c2 a4;rw[Y]at c;cases c;exact mH b3 _ _ z⟩
    refine Ar ⋯ ⋯ f1 nJ d8 ∅ λf7 d9=>?_;rw[Eb f2]
    try ext
    have u:=b3.trans d9;rw[zP ∅];refine iteF ?_;obtain⟨b8,c6⟩:=(⟨λi hi=>gM (u:=1) (ns:=(idM d).getD i []) ∅ (eN _),gM (u:=1) (ns:=List.replicate d 0) ∅ (eN _)⟩:(∀i,i<d->redT 1 ((idM d).getD i [])=(idM d).getD i []/\redU 1 ((idM d).getD i [])=1)/\(redT 1 (List.replicate d 0)=List.replicate d 0/\redU 1 (List.replicate d 0)=1));symm;exfalso;refine⟨false,⟨_,p u⟩,λb9 d1=>?_⟩;refine nQ (λj y H'=>∃M,y=V.ref M/\nI (offH b9 H') M ((idM d).getD j []) 1) d1 (p u) (by rw[zqe];omega) (λ_ _ _ _⟨M,C,f⟩e6=>⟨M,C,f.upS (cN e6)⟩) ?_ ?_
    ·intro j y k zs g N X J F;obtain⟨q,n,rfl⟩:=mX g;have b:=c0 n;have c3:=(S j q n).upS (u.trans N);subst eB;show mJ _ _ _ _ [some (.ref q)] k J;ext;refine kZ c3 λx m=>jQ c3 ?_;refine⟨true,x,_,1,rfl,SqB.tup m,by rw[R j b];omega,jF (B:=1) ∅ ∅,λz=>?_,λ_ _ r e5 o G=>?_⟩
     ·rcases z with z|z
      ·omega
      ·have:=R j b;rw[z]at this;simp at this;omega
     ·rw[(b8 j b).1,(b8 j b).2]at G;obtain⟨z,Z,a2⟩:=G;have tk:=fC (K:=K) (o _ _ X);exact F _ _ o ⟨r,rfl,z,tk.k _ _ Z,tk.k _ _ a2⟩
    ·intro k e8 N f0 b7 f3;have a5:∃ps:LA,e8=ps.map V.ref/\Paired (λq r=>nI k q r 1) ps (idM d):=iR (by rw[b7,zqe,hl,nJ.1]) λj y v=>by
      obtain⟨q,C,f⟩:=f3 j y v;have b:j<(idM d).length:=by rw[nJ.1,←hl,←zqe (f:=V.ref),←b7];exact(zqa v).1
      obtain⟨r,c⟩:=kH rfl b;exact⟨q,r,C,c,by rw[zqc,c]at f;exact f.upS cM⟩
     obtain⟨L,rfl,c7⟩:=a5;refine⟨b9,_,rfl,.inl ⟨SqL.of f0,λl e4=>?_⟩⟩;have o:Same k (upd k l (.tup (L.map V.ref))):=Same.new e4;have a8:(upd k l (.tup (L.map V.ref))) l=some (.tup (L.map V.ref)):=oQ;generalize upd k l (.tup (L.map V.ref))=e5 at o a8;have a7:=c1.upS ((u.trans N).trans o);refine kZ a7 λx m=>jQ a7 ?_;refine⟨true,x,_,1,rfl,SqB.tup m,by rw[xM];omega,jF (B:=1) ∅ ∅,λz=>?_,λ_ _ r b6 a6 G=>?_⟩
     ·rcases z with z|z
      ·omega
      ·have:=wH List.length z;rw[xM]at this;simp at this;omega
     ·rw[c6.1,c6.2]at G;refine⟨(by show 2<=sizeLine;decide),λc5 d5=>?_⟩;have O:Same b6 (upd b6 c5 (.tup [.ref l,.ref r])):=Same.new d5;refine d0 c5 _ ((((u.trans N).trans o).trans a6).trans O) ⟨l,r,oQ,⟨L,SqT.of (O _ _ (a6 _ _ a8)),(nS c7).trans nJ.1,λi q e=>?_⟩,G.upS O⟩;obtain⟨b0,c,z⟩:=nZ c7 e;have:(idM d).getD i []=b0:=by rw[zqc,c];rfl
      rw[this];exact z.upS ((o.trans a6).trans O)
noncomputable abbrev Alk:=List ((SP')×Nat)
def plO(σ:SP'):PyData:=plD σ.1 σ.2
theorem cZ{σ c:SP'}:plO σ=plO c↔σ=c:=by
 unfold plO;rw[Xm];exact⟨λ⟨a,b⟩=>Prod.ext a b,λe=>by rw[e];exact⟨rfl,rfl⟩⟩
theorem iG(σ:SP'):tT 4 (plO σ)=true:=pl_t _ _
def entA(e:(SP')×Nat):PyData×V:=(plO e.1,V.int (e.2:Nat))
theorem Ea{σ:SP'}:∀{D:Alk},(σ∉D.map (·.1)/\vT (D.map entA) (plO σ)=none)\/∃n,(σ,n)∈D/\vT (D.map entA) (plO σ)=some (.int ((n:Nat):Int))
 |[]=>.inl ⟨by simp,rfl⟩
 | e:: D=>by
  by_cases z:e.1=σ
  ·refine .inr ⟨e.2,by rw[←z];exact .head _,?_⟩;rw[zK,gX (by show plO e.1=_;rw[z])];rfl
  ·have c:¬ (entA e).1=plO σ:=λq=>z (cZ.mp q);rw[zK,zK,gE c];rcases Ea (σ:=σ) (D:=D) with⟨b,a⟩|⟨n,b,a⟩
   ·exact .inl ⟨by rw[xE,not_or];exact⟨λq=>z q.symm,b⟩,a⟩
   ·exact .inr ⟨n,.tail _ b,a⟩
structure AlT(d:Nat)(σ:SP')(srt:Tb)(i:Nat)(D:Alk):Prop where
 nd:(D.map (·.1)).Nodup
 num:∀e∈D,∃y,srt[e.2]?=some y/\act d σ y.1=e.1
 all:∀(j:Nat) y,j<i->srt[j]?=some y->act d σ y.1∈D.map (·.1)
 len:D.length<=i
theorem AlT.old{d:Nat}{σ:SP'}{srt:Tb}{i:Nat}{D:Alk}{y:Dd×List Nat}(h:AlT d σ srt i D)(e:srt[i]?=some y)(m:act d σ y.1∈D.map (·.1)):AlT d σ srt (i+1) D:=
 ⟨h.nd,h.num,λj z b a=>by
  by_cases q:j=i
  ·subst q;rw[e]at a;cases a;exact m
  ·exact h.all j z ⋯ a,vU h.len⟩
theorem AlT.new{d:Nat}{σ:SP'}{srt:Tb}{i:Nat}{D:Alk}{y:Dd×List Nat}(h:AlT d σ srt i D)(e:srt[i]?=some y)(m:act d σ y.1∉D.map (·.1)):AlT d σ srt (i+1) (D++[(act d σ y.1,i)]):=by
 refine⟨?_,λf k=>?_,λj z n c=>?_,by rw[zS];exact rB h.len⟩
 ·rw[yM,sI];refine⟨h.nd,by simp,λa g b l=>?_⟩;rw[pW.mp l];intro q;rw[q]at g;exact m g
 ·rcases pY.mp k with q|q
  ·exact h.num f q
  ·rw[pW.mp q];exact⟨y,e,rfl⟩
 ·rw[yM,pY]
  by_cases q:j=i
  ·subst q;rw[e]at c;cases c;exact .inr (by simp)
  ·exact .inl (h.all j z ⋯ c)
theorem AlT.one{d:Nat}{σ:SP'}{srt:Tb}{i:Nat}{D:Alk}(h:AlT d σ srt i D){a:SP'}{m n:Nat}(e:(a,m)∈D)(f:(a,n)∈D):m=n:=by
 obtain⟨i,hi⟩:=yB e;obtain⟨j,b⟩:=yB f;have e1:(D.map (·.1))[i]?=some a:=by rw[zC,hi];rfl
 have c:(D.map (·.1))[j]?=some a:=by rw[zC,b];rfl
 have:i=j:=(sJ (zqa e1).1 h.nd).mp (e1.trans c.symm);subst this;rw[hi]at b;cases b;rfl
structure Mg(d:Nat)(σ:SP')(srt:Tb)(D:Alk):Prop where
 rise:D.Pairwise λa b=>lx (fl (plO a.1)) (fl (plO b.1))=true
 num:∀e∈D,∃y,srt[e.2]?=some y/\act d σ y.1=e.1
 all:∀y∈srt,act d σ y.1∈D.map (·.1)
 nd:(D.map (·.1)).Nodup
 len:D.length<=srt.length
def Ab(K:Frag)(H:Hp)(r:Addr)(D:Alk):Prop:=∃ps:LA,H r=some (.lst (ps.map V.ref))/\Paired (λp(e:(SP')×Nat)=>∃q,H p=some (.tup [.ref q,.int ((e.2:Nat):Int)])/\Dt K H (.ref q) (plO e.1)) ps D
theorem Ab.up{K:Frag}{H H':Hp}{r:Addr}{D:Alk}(h:Ab K H r D)(s:Same H H'):Ab K H' r D:=by
 obtain⟨ps,c,a⟩:=h;exact⟨ps,s _ _ c,Paired.mapP a λ_ e⟨q,d,b⟩=>⟨q,s _ _ d,mV (mH s) 4 (pl_t _ _) b⟩⟩
def sp_1k(K:Frag)(t:Adr):Sp:=λvs H Q _=>E6 λ(g q:Addr)(d:Nat)(ms:List Dd)(srt:Tb)(σ:SP')=>A8 (vs=[.ref g,.ref q]) (GrpF K t H g d ms srt) ((d=2\/d=3)) ((∀y∈srt,MbOk d y.1)) (srt.length<=200) (nI H q σ.1 σ.2) (SpOk d σ) (∀r D H',Same H H'->H r=none->Ab K H' r D->Mg d σ srt D->Q (.ref r) H')
theorem Xd{H:Hp}{g:Addr}{d:Nat}{ms:List Dd}{srt:Tb}(h:GrpF K t H g d ms srt):∃a fs,H g=some (.ins t.a_b a fs)/\fs.lookup (Str.ofString "members")=none:=by
 obtain⟨a,f,lo,c,e,b,_⟩:=h;exact⟨a,_,b,rfl⟩
theorem gN{H H':Hp}{a:Addr}(s:Same H H')(h:H' a=none):H a=none:=by
 cases z:H a with
 |none=>rfl
 |some o=>rw[s _ _ z]at h;cases h
theorem ok_1k(T:Txt K mg t):FnOk P w K mg base CX0 4 t.a_1k t.d_1k ["group","spot"] (sp_1k K t):=by
 have g9:=@ok_2 P w K mg base t T;have f8:=@ok_k P w K mg base t T;have h9:=@ok_1g P w K mg base t T;apply T.F_1k.ok sc_1k
 ·have W:=hr.units;obtain⟨g,q,d,ms,srt,σ,rfl,i2,f2,f0,h5,i9,J,f7⟩:=h;refine⟨_,(oM (oX (i:=2) sc_1k.nd rfl (Or.inr rfl) Iz)
   (oM (lC yF rfl (hZ rfl T.z_enumerate (oJ (gR (C:=t.a_b) (pq 0) T.cl_b T.me_2 g9 hr.mo T.b_2 .nil kM) oK)) (lR rfl (nO (nL (i:=3) sc_1k.nd rfl (Or.inl rfl)) (nO (nL (i:=4) sc_1k.nd rfl (Or.inl rfl)) lQ)))
   (oM (oX (i:=5) sc_1k.nd rfl (Or.inl rfl) (oS f8 hr.mo T.F_k (oJ (oS h9 hr.mo T.F_1g (oJ (pq 4) (oJ (pq 1) oK))) oK)))
   (oO (nV (nN (Hc W) (pq 5) (pq 2) rfl)
   (oO (jU (pq 3) (dG (pq 2) (pq 5) (Cz W))))
   mB))))
   (oO (nB (nP (sc:=oN s_1k) (N:=N_1k) (fr:=[("numbers",2)]) (te:=(tTup (oW (tVar 0) (oW (tOp (aK K) (tVar 1) (tVar 0)) tNil)))) rfl rfl (nofun) rfl (nofun) (nE (lJ (Jw (N:=200) Kw W rfl) rfl T.z_sorted (nofun) (oJ (pq 2) oK))) (λ_ _ _ k2=>(mO (oJ (pv 0) (oJ (mC (ix_T W) (pv 1) (pv 0) (λ_ _=>rfl)) oK))))))))),?_⟩
  show tSeq _ _ _ [some (.ref g),some (.ref q),none,none,none,none] H;refine st λN1 e1=>?_;simp only[Cv];ext;intro c d4 e2;have c6:Same H (upd H c (mT c [])):=Same.new d4;generalize upd H c (mT c [])=k5 at*
  subst e1;refine st λN1 e1=>lF λB eB=>?_;simp only[iN];ext;simp only[jK];ext;have c8:=i2.up c6;obtain⟨g2,fs,h1,g1⟩:=Xd c8;refine⟨g2,fs,h1,g1,g,d,ms,srt,rfl,c8,λl a7 k0 a2 l0 hl c3=>?_⟩;have h7:a7.length=srt.length:=nS c3;refine⟨false,l,rfl,⟨_,SqB.lst hl⟩,?_⟩;have h0:l≠c:=λz=>by
   obtain⟨_,_,xs,C,_⟩:=e2.up a2;rw[z,C]at hl;cases hl
  have i4:∀b o,H b=some o->b≠c:=λb o e z=>by rw[z,d4]at e;cases e
  have h8:=c6.trans a2;refine fT (g:=gTup K 2 (nR (oV 3) (nR (oV 4) gNil))) (tb:=B) (λi S H'=>∃(D:Alk)(v3 a8 Y:Option V),S=[some (.ref g),some (.ref q),some (.ref c),v3,a8,Y]/\Same H H'/\H' l=some (.lst (a7.map V.ref))/\Paired (λp x=>Dt K H' (.ref p) (dat x.1)) a7 srt/\DTr K H' c (D.map entA)/\AlT d σ srt i D)
   ⟨[],none,none,none,rfl,h8,hl,c3,e2.up a2,⟨uV,(λe h=>by cases h),(λj y h=>absurd h (tQ j)),zE _⟩⟩ (λi S H' _⟨_,_,_,_,_,_,h,_⟩=>SqB.lst h) ?_ ?_
  ·rintro i y p S a9 M ⟨D,v3,a8,Y,rfl,Z,e9,b2,R,a⟩ i8;obtain⟨m,e7,rfl⟩:=mX M;obtain⟨x,C,_⟩:=nZ b2 e7;have sp:=Same.new (o:=.tup [.int (i:Int),.ref m]) i8;refine⟨p,[.int i,.ref m],rfl,SqT.of oQ,rfl,_,[.ref m],rfl,_,[],rfl,rfl,?_⟩;have j0:=sp _ _ e9;have e6:=Paired.mapP b2 λ_(z:Dd×List Nat)h=>mV (mH sp) 4 (jR z.1) h;have i0:=R.up sp;have v:=Z.trans sp;generalize upd a9 p (.tup [.int (i:Int),.ref m])=f1 at*
   obtain⟨k1,e5,f9⟩:=nZ e6 e7;rw[C]at e5;cases e5;have e8:=f0 x (zqb C);have f5:=e8.fine;subst eB;show tSeq _ _ _ [some (.ref g),some (.ref q),some (.ref c),some (.int i),some (.ref m),Y] f1;refine st λk8 b6=>?_;ext;refine⟨m,q,x.1.1,x.1.2.1,σ.1,x.1.2.2,σ.2,d,rfl,Ac f9,(i9.upS v).s,f5,⋯,⋯,J.len,J.bits.le ∅,J.pos,pK J.le (nofun),λr I F c0=>?_⟩;have mo:=Ee f2 J e8;refine⟨r,mvT σ x.1,mvU σ x.1,rfl,c0,by rw[mo.len];omega,mo.pos,λd6 e3 j2 i1=>?_⟩;have X:=F.trans j2;have d8:Dt K e3 (.ref d6) (plO (act d σ x.1)):=by rw[Ef];exact PlS.dt i1.s
   have U:=i0.up X;have c2:=X _ _ j0;have c7:=Paired.mapP e6 λ_(z:Dd×List Nat)h=>mV (mH X) 4 (jR z.1) h;have c5:=v.trans X;subst b6;ext;refine Kv U (iG (act d σ x.1)) d8 ?_;rcases Ea (σ:=act d σ x.1) (D:=D) with⟨u,G⟩|⟨n,u,G⟩
   case inr =>
    rw[G]
    try ext
    exact⟨c5,c2,c7,D,U,a.old C (pZ.mpr ⟨_,u,rfl⟩)⟩
   rw[G]
   try ext
   refine iteT ?_;simp only[gSub];ext;have a0:D.length<=200:=by have:=a.len;have:=(zqa C).1;omega
   refine⟨c,_,d6,_,rfl,rfl,U,iG (act d σ x.1),d8,by rw[zqe];exact yJ a0 ∅,λg6 d1 j5 e4=>?_⟩;have a6:pT (D.map entA) (plO (act d σ x.1)) (.int i)=(D++[(act d σ x.1,i)]).map entA:=by
    unfold pT;rw[G,yM];rfl
   rw[a6]at e4;obtain⟨k4,g4,_⟩:=U.ex;have i3:TK K e3 g6:=TK.off g4 (λ_ z=>by cases z) (λ_ _ z=>by cases z) j5;exact⟨λb o e=>d1 b o (i4 b o e) (c5 _ _ e),d1 _ _ h0 c2,Paired.mapP c7 λ_(z:Dd×List Nat)h=>mV i3.t 4 (jR z.1) h,_,e4,a.new C u⟩
  ·rintro S a9 ⟨D,v3,a8,Y,rfl,Z,e9,b2,R,a⟩;rw[zqe,h7]at a;symm;exfalso;have b0:∀e∈D,e.1.1.length=d:=λe O=>by
    obtain⟨y,M,j6⟩:=a.num e O;have mo:=Ee f2 J (f0 y (zqb M));rw[←j6,Ef];show(nX _ _).length=d;unfold nX;rw[zqe];exact mo.len
   have h4:=yA a.len h5;refine⟨c,D.map entA,[.int 0],(List.replicate d (0:Int)).map PyData.int,rfl,by rw[zqe];exact h4,R,λk3 i7=>?_,λi5 b8 f1 v j8 d7 j3 c9 f6=>?_⟩
   ·obtain⟨e,O,rfl⟩:=pZ.mp i7;exact Mj (ns:=List.replicate d 0) (u:=0) (by rw[xM,b0 e O])
   obtain⟨k,f,a3⟩:=Db (f:=λe:(SP')×Nat=>plO e.1) (l:=b8.map (·.2)) (tb:=D) (by rw[xI]at c9;exact c9);have l1:b8.length=k.length:=by have:=wH List.length a3;simpa using this.symm
   have a0:=f.length_eq;refine⟨false,i5,rfl,⟨_,SqB.lst d7⟩,λr d9=>?_⟩;refine nQ (λj y H'=>∃p q e,y=V.ref p/\p≠r/\k[j]?=some e/\H' p=some (.tup [.ref q,.int ((e.2:Nat):Int)])/\Dt K a9 (.ref q) (plO e.1)) d9 (SqB.lst d7) (by rw[zqe];omega) (λ_ _ _ _⟨p,q,e,a4,c1,b9,b5,b7⟩j1=>⟨p,q,e,a4,c1,b9,j1 _ _ c1 b5,b7⟩) ?_ ?_
   ·intro j y I zs M F g7 i6 g5;obtain⟨pv,a5,rfl⟩:=mX M;obtain⟨b1,L⟩:=j3 pv (zqb a5);obtain⟨e,b3⟩:=kH (l:=k) rfl (show j<k.length by have:=(zqa a5).1;omega);have b6:pv.2=plO e.1:=by
     have:=wH (λl=>l[j]?) a3;simp only[List.getElem?_map,a5,b3,Option.map_some]at this;exact(zU this).symm
    rw[b6]at L b1;obtain⟨d0,e0⟩:=Kn L;rw[e0]at L;rw[e0];have d5:=f.mem_iff.mp (zqb b3);have d3:=v.trans F;subst eB;show tTup _ [some (.ref d0),some (.ref c)] I i6;ext;rcases Ea (σ:=e.1) (D:=D) with⟨u,_⟩|⟨n,u,G⟩
    ·exact absurd (pZ.mpr ⟨e,d5,rfl⟩) u
    have g0:n=e.2:=a.one u d5;subst g0;refine De (R.up d3) b1 (mV (mH d3) 4 b1 L) G ?_;refine⟨by show 2<=sizeLine;decide,λa6 a1=>?_⟩;exact g5 _ _ (Same.new a1) ⟨a6,d0,e,rfl,(λz=>by rw[z,g7]at a1;cases a1),b3,oQ,L⟩
   ·intro I ys F j4 g3 c0;obtain⟨ps,rfl,j7⟩:=iR (F:=λp(e:(SP')×Nat)=>∃q,I p=some (.tup [.ref q,.int ((e.2:Nat):Int)])/\Dt K I (.ref q) (plO e.1)) (D:=k) (ys:=ys) (by rw[g3,zqe,l1]) λj y f4=>by
     obtain⟨p,q,e,a4,_,b9,b5,b7⟩:=c0 j y f4;exact⟨p,e,a4,b9,q,b5,mV (mH (v.trans F)) 4 (pl_t _ _) b7⟩
    have c4:(k.map (·.1)).Nodup:=(f.map (·.1)).nodup_iff.mpr a.nd;refine f7 r k I ((Z.trans v).trans F) (gN (Z.trans v) d9) ⟨ps,j4,j7⟩ ⟨?_,λe O=>a.num e (f.mem_iff.mp O),λy N=>?_,c4,by rw[a0];exact a.len⟩
    ·have d2:(b8.map (·.2)).Pairwise λp q=>lx (fl q) (fl p)=false:=List.pairwise_map.mpr f6;rw[←a3]at d2;have h3:=List.pairwise_map.mp d2;have g8:=Xk (f:=λe:(SP')×Nat=>plO e.1) (l:=k) ((List.pairwise_map.mp c4).imp λh e=>h (by rw[e])) (λx b4 y N e=>?_) (λx b4 y N=>Mj ((b0 x (f.mem_iff.mp b4)).trans (b0 y (f.mem_iff.mp N)).symm)) h3
     ·exact g8
     ·have e1:=cZ.mp e;have h2:=f.mem_iff.mp b4;have h6:=f.mem_iff.mp N;obtain⟨j9,k6⟩:=x;obtain⟨k7,k9⟩:=y;dsimp only at e1;subst e1;rw[a.one h2 h6]
    ·obtain⟨j,f3⟩:=yB N;exact(f.map (·.1)).mem_iff.mpr (a.all j y (zqa f3).1 f3)
theorem Xc{d:Nat}:mF 200000 (idM d):=λr hr z a=>zF (show z.natAbs<2^1 from yJ (jI r hr z a) ∅) (zY ∅ ∅)
theorem Xb{c a:Type}{F:c->a->Prop}{ps b:List c}{ms ns:List a}(h:Paired F ps ms)(h':Paired F b ns):Paired F (ps++b) (ms++ns):=by
 induction h with
 |nil=>exact h'
 |cons h _ d=>exact .cons h d
def sp_7(K:Frag)(t:Adr):Sp:=λvs H Q _=>E9 λ(g wy:Addr)(k p:Nat)(L:List Stp)(S:LI')(su:Int)(ms:List Dd)(srt:Tb)=>A7 (vs=[.ref g,.ref wy,.int 200]) (GrpF K t H g (famD k) ms srt) (WyI K H wy (famD k)) (jH k p L S su) ((∀m∈ms,InF (frm k p L S su) (oZ m))) (srt.Perm (tab (famD k) (ms.map oZ) 192)) (∀g' ms' srt' H',Same H H'->GrpF K t H' g' (famD k) ms' srt'->(∀x,x∈srt'.map (·.1)↔x∈srt.map (·.1))->srt'.length<=200->Q (.ref g') H')
theorem ok_7(T:Txt K mg t):FnOk P w K mg base CX0 16 t.a_7 t.d_7 pt' (sp_7 K t):=by
 have j8:=@ok_o P w K mg base t T;have j4:=@ok_9 P w K mg base t T;have k0:=@ok_n P w K mg base t T;have b1:=@ok_e P w K mg base t T;have h7:=@ok_2 P w K mg base t T;have c7:=@ok_q P w K mg base t T;have k7:=@ok_1j P w K mg base t T;have g3:=@ok_g P w K mg base t T;have i9:=@ok_1r P w K mg base t T;have k6:=@ok_15 P w K mg base t T;apply T.F_7.ok sc_7
 ·have m9:=hr.units;obtain⟨g,f,k,p,L,J,W,ms,srt,rfl,D,a6,ok,h6,O,g1⟩:=h;have Z:=kC k;have okF:=ok.frm;have e8:∀s∈ms.map oZ,InF (frm k p L J W) s:=λs h=>by
   obtain⟨m,Y,rfl⟩:=pZ.mp h;exact h6 m Y
  have tb:=dA okF e8 192;have n7:srt.length<=192:=by rw[O.length_eq];exact tb.1
  have f3:∀y∈srt,InF (frm k p L J W) y.1:=λy b=>tb.2 y (O.mem_iff.mp b);have Y:∀y∈srt,MbOk (famD k) y.1:=λy b=>Mv ok (f3 y b);have c8:nK (famD k)∈srt.map (·.1):=(O.map (·.1)).mem_iff.mpr (pZ.mpr ⟨_,eW,rfl⟩);refine⟨_,(oM (lP (oS j8 hr.mo T.F_o (oJ (pq 2) oK)))
   (oM (lP (oS j4 hr.mo T.F_9 (oJ (gR (C:=t.a_b) (pq 0) T.cl_b T.me_e b1 hr.mo T.b_e .nil kM) (oJ (pq 1) oK))))
   (oM (lP (oS k0 hr.mo T.F_n (oJ (pq 0) (oJ (oT (pq 1)) oK))))
   (oM (iO (i:=3) (sc:=oN s_7) (N:=N_7) (fr:=[("way",1)]) (te:=(mJ (sp_q K) [] E0 (oW (tVar 0) (oW (tVar 1) tNil)))) rfl rfl (nofun) rfl sc_7.nd rfl rfl (nofun) (nE (gR (C:=t.a_b) (pq 0) T.cl_b T.me_2 h7 hr.mo T.b_2 .nil kM)) (λ_ _ _ d3=>(oS c7 hr.mo T.F_q (oJ (pv 0) (oJ (pv 1) oK)))))
   (oM (nV (nN bK (oS k7 hr.mo T.F_1j (oJ (nU T.z_len (pq 3)) (oJ (oT (pq 1)) oK))) (pq 2) (nM _))
   (oO jJ)
   mB)
   (oM (iO (i:=4) (sc:=oN s_7) (N:=N_7) (fr:=[]) (te:=(tTup (oW (tCB (gT K) (oW (tVar 0) tNil)) (oW (tC (.int 1)) tNil)))) rfl rfl (nofun) rfl sc_7.nd rfl rfl (nofun) (nE (oS g3 hr.mo T.F_g (oJ (gR (C:=t.a_b) (pq 0) T.cl_b T.me_e b1 hr.mo T.b_e .nil kM) oK))) (λ_ _ _ d3=>(mO (oJ (mP kJ rfl T.z_tuple (nofun) (oJ (pv 0) oK)) (oJ oR oK)))))
   (oO (nB (oS k6 hr.mo T.F_15 (oJ (gR (C:=t.a_b) (pq 0) T.cl_b T.me_e b1 hr.mo T.b_e .nil kM) (oJ (oP dL (pq 3) (nP (sc:=oN s_7) (N:=N_7) (fr:=[("way",1)]) (te:=(mJ (sp_q K) [] E0 (oW (mJ (sp_1r K) [] E0 (oW (tVar 0) tNil)) (oW (tVar 1) tNil)))) rfl rfl (nofun) rfl (nofun) (nE (pq 4)) (λ_ _ _ d3=>(oS c7 hr.mo T.F_q (oJ (oS i9 hr.mo T.F_1r (oJ (pv 0) oK)) (oJ (pv 1) oK)))))) oK))))))))))),?_⟩
  show tSeq _ _ _ [some (.ref g),some (.ref f),some (.int 200),none,none] H;right;refine⟨200,rfl,∅,∅,?_⟩;left;simp only[jK];ext;obtain⟨g9,n9,lo,n2,m7,h8,_⟩:=id D;refine⟨g9,_,h8,rfl,g,famD k,ms,srt,rfl,D,f,famD k,rfl,a6,?_⟩;obtain⟨b5,k3,i1,c9,n6⟩:=id a6;have e6:∀{H'},Same H H'->SqB true K H' f [.ref b5,.ref k3]:=λs=>SqB.tup (s _ _ i1);left;refine⟨true,f,_,_,_,rfl,rfl,e6 (Same.refl _),rfl,?_⟩;refine⟨g,b5,famD k,ms,srt,rfl,D,c9,Z,c8,λm4 d0=>?_⟩;left;refine nC λB eB=>?_;simp only[iSeq,jK];ext;have d5:=D.up d0;obtain⟨g8,n0,m3,m1,m8,h3,_⟩:=id d5;refine⟨g8,_,h3,rfl,g,famD k,ms,srt,rfl,d5,λl h5 l7 f8 n5 hl c4=>?_⟩;have g2:h5.length=srt.length:=nS c4;have e5:=d0.trans f8;refine⟨false,l,rfl,⟨_,SqB.lst hl⟩,λb7 h0=>?_⟩;refine nQ (DdR K b7 (srt.map (·.1))) h0 (SqB.lst hl) (by rw[zqe];omega) DdR.mono ?_ ?_
  ·intro j y d8 zs M a4 S X R;obtain⟨m,b8,rfl⟩:=mX M;obtain⟨x,f4,F⟩:=nZ c4 b8;have c:=Y x (zqb f4);have a9:=c.le;subst eB;show mJ _ _ _ _ [some (.ref m),some (.ref f)] d8 X;ext;refine⟨m,f,famD k,x.1,rfl,(Ac F).up a4,a6.up (e5.trans a4),Z,c.sq,c.len,⟨c.pos,⋯⟩,c.bm.le ∅,λz d=>?_,c.low,λr k4 U i7=>?_⟩
   ·have l6:=c.bt z d;exact zF (show z.natAbs<2^7 by omega) (zY ∅ ∅)
   ·exact R _ _ U ⟨r,x.1,rfl,by rw[zC,f4];rfl,i7.tk (fC (U _ _ S))⟩
  ·intro d8 ys a4 d6 h1 i8;obtain⟨C,rfl,f1⟩:=Dc (by rw[h1,zqe,zqe];exact g2) i8;have lq:C.length=srt.length:=by rw[nS f1,zqe]
   have b3:=e5.trans a4;left;refine⟨false,b7,_,rfl,SqB.lst d6,true,f,_,_,_,rfl,rfl,e6 b3,rfl,?_⟩;rw[zqe,lq];refine⟨srt.length,famD k,b5,rfl,c9.up b3,Z,⋯,λk4 U=>?_⟩
   try ext
   have c0:=b3.trans U;rw[zP ⋯];refine iteF ?_;have c6:=D.up c0;obtain⟨l2,l4,m0,m5,n4,f9,_⟩:=id c6;left;exfalso;simp only[jK];ext;refine⟨l2,_,f9,rfl,g,famD k,ms,srt,rfl,c6,famD k,rfl,⋯,λk5 n3 l8 d1 f6=>?_⟩;obtain⟨xs,a9,b4,k2⟩:=(f6.b (K:=K)).walk;have l1:=(nJ (d:=famD k)).1;have l5:∀i,i<famD k->((idM (famD k)).getD i []).length=famD k:=λi hi=>by
    have a8:i<(idM (famD k)).length:=by rw[nJ.1];exact hi
    exact nJ.2 _ (by rw[zqc,zqd a8];exact xO a8)
   refine⟨false,k5,rfl,⟨_,a9⟩,λh9 g6=>?_⟩;refine nQ (λj y H'=>∃a1,y=V.ref a1/\nI (offH h9 H') a1 ((idM (famD k)).getD j []) 1) g6 a9 (by rw[b4,l1];omega) (λ_ _ _ _⟨a1,b0,a0⟩j2=>⟨a1,b0,a0.upS (cN j2)⟩) ?_ ?_
   ·intro j y v zs M a5 S X R;obtain⟨e7,r,rfl,n,a3⟩:=k2 j y M;subst eB;show tTup _ [some (.ref e7)] v X;ext;refine⟨e7,_,rfl,.inl ⟨a3.up a5,λl1 j0=>?_⟩⟩;have u:Same v (upd v l1 (.tup (r.map V.int))):=Same.new j0;have c3:(upd v l1 (.tup (r.map V.int))) l1=some (.tup (r.map V.int)):=oQ;generalize upd v l1 (.tup (r.map V.int))=e at u c3;refine⟨(by show 2<=sizeLine;decide),λe2 g0=>?_⟩;have a:Same e (upd e e2 (.tup [.ref l1,.int 1])):=Same.new g0;have d2:=u.trans a;have tk:=fC (K:=K) (d2 _ _ S);have i3:(idM (famD k)).getD j []=r:=by rw[zqc,n];rfl
    exact R _ _ d2 ⟨e2,rfl,by rw[i3];exact⟨l1,tk.k _ _ oQ,tk.k _ _ (a _ _ c3)⟩⟩
   ·intro v ys a5 e3 e9 i5;have b2:=(c0.trans d1).trans a5;symm;simp only[jK];ext;have j9:∃ps:LA,ys=ps.map V.ref/\Paired (λq r=>nI v q r 1) ps (idM (famD k)):=iR (by rw[e9,b4]) λj y c2=>by
     obtain⟨q,b0,a0⟩:=i5 j y c2;have a8:j<(idM (famD k)).length:=by rw[←b4,←e9];exact(zqa c2).1
     obtain⟨r,n⟩:=kH rfl a8;exact⟨q,r,b0,n,by rw[zqc,n]at a0;exact a0.upS cM⟩
    obtain⟨ps,rfl,a3⟩:=j9;have j3:ps.length=famD k:=(nS a3).trans l1;have d4:=D.up b2;obtain⟨j5,n8,m6,m2,n1,g7,_⟩:=id d4;refine⟨j5,_,g7,rfl,g,famD k,ms,srt,rfl,d4,?_⟩;exfalso;refine⟨false,⟨_,SqB.lst e3⟩,λe0 g4=>?_⟩;refine nQ (DdR K e0 ((idM (famD k)).map λr=>(idM (famD k),r,1))) g4 (SqB.lst e3) (by rw[zqe];omega) DdR.mono ?_ ?_
    ·intro j y e zs M u S X R;obtain⟨q,b8,rfl⟩:=mX M;obtain⟨r,n,b6⟩:=nZ a3 b8;have I:r.length=famD k:=nJ.2 r (zqb n);have h4:∀z∈r,z.natAbs<2^1:=λz d=>yJ (jI r (zqb n) z d) ∅;subst eB;show mJ _ _ _ _ [some (.ref q),some (.ref f)] e X;ext;refine⟨q,r,1,famD k,rfl,b6.upS u,I,Z,∅,jF (B:=1) ∅ ∅,λi4 i6 a e4=>?_⟩;obtain⟨j7,k1⟩:=gM (u:=1) (ns:=r) ∅ (eN _);rw[j7,k1]at e4;refine⟨i4,f,famD k,(idM (famD k),r,1),rfl,lA.s e4,a6.up ((b2.trans u).trans a),Z,nJ,I,⟨by show(0:Int)<1;decide,by show(1:Int)<2^150;decide⟩,λr hr z d=>zF (yJ (jI r hr z d) (∅:1<2^1)) (zY ∅ ∅),λz d=>zF (h4 z d) (zY ∅ ∅),eN _,λg5 f5 b9 f7=>?_⟩;have d9:=a.trans b9;exact R _ _ d9 ⟨g5,_,rfl,by rw[zC,n];rfl,f7.tk (fC (d9 _ _ S))⟩
    ·intro e l9 u l0 j1 b6;obtain⟨us,rfl,d7⟩:=Dc (by rw[j1,zqe,zqe,j3,l1]) b6;have o0:us.length=famD k:=by rw[nS d7,zqe,l1]
     have f2:=((U.trans d1).trans a5).trans u;have i2:=b2.trans u;refine⟨b7,e0,_,_,rfl,rfl,f2 _ _ d6,l0,by rw[zqe,zqe];exact yA (show C.length+us.length<=1000 by omega) ∅,λN k8=>?_⟩;have a:Same e (upd e N (.lst (C.map V.ref++us.map V.ref))):=Same.new k8;have c5:(upd e N (.lst (C.map V.ref++us.map V.ref))) N=some (.lst ((C++us).map V.ref)):=by rw[oQ,yM]
     generalize upd e N (.lst (C.map V.ref++us.map V.ref))=i6 at a c5;have a7:∀m∈srt.map (·.1)++(idM (famD k)).map λr=>((idM (famD k),r,1):Dd),lY (famD k) m/\oZ m∈srt.map (·.1)/\InF (frm k p L J W) (oZ m):=λm o=>by
      rcases pY.mp o with h|h
      ·obtain⟨y,b,rfl⟩:=pZ.mp h;have c:=Y y b;rw[c.rest];exact⟨c.fine,h,f3 y b⟩
      ·obtain⟨r,c1,rfl⟩:=pZ.mp h;have I:r.length=famD k:=nJ.2 r c1;rw[Mh I];exact⟨⟨nJ,I,by show(0:Int)<1;decide,Xc,λz d=>zF (yJ (jI r c1 z d) (∅:1<2^1)) (zY ∅ ∅),by show(1:Int)<_;decide⟩,c8,cV okF⟩
     refine⟨false,N,C++us,_,k,p,L,J,W,rfl,SqB.lst c5,Xb (Paired.mapP f1 λ_ _ z=>(z.up f2).up a) (Paired.mapP d7 λ_ _ z=>z.up a),ok,λm o=>⟨(a7 m o).1,(a7 m o).2.2⟩,by rw[zS,zqe,zqe,l1];omega,λg' f0 l3 f5 b9 h2 a2 k9=>?_⟩;have i0:∀s∈f0.map oZ,InF (frm k p L J W) s:=λs h=>by
      obtain⟨m,o,rfl⟩:=pZ.mp h;exact(a7 m (a2.sub m o)).2.2
     have j6:=dA okF i0 192;have G:=Le okF e8 (N:=192) (zE _);refine g1 g' f0 l3 f5 (i2.trans (a.trans b9)) h2 (λx=>⟨λF=>?_,λF=>?_⟩) (by rw[a2.pm.length_eq];exact yA j6.1 ∅)
     ·obtain⟨y,b,rfl⟩:=pZ.mp F;refine(O.map (·.1)).mem_iff.mpr (Xh G (λs h=>?_) y (a2.pm.mem_iff.mp b));obtain⟨m,o,rfl⟩:=pZ.mp h;exact(O.map (·.1)).mem_iff.mp (a7 m (a2.sub m o)).2.1
     ·have:=k9 x (wC _ F);obtain⟨y,b,rfl⟩:=pZ.mp F;rw[(Y y b).rest]at this;exact this
def Orb(d:Nat)(T:List Dd)(σ v:SP'):Prop:=∃x∈T,act d σ x=v
section
variable {d:Nat} {T:List Dd} {σ τ v:SP'}
theorem Xa(G:Grp d T):Orb d T σ (act d σ (nK d)):=⟨_,G.one,rfl⟩
theorem Fz(G:Grp d T)(o:σ.1.length=d)(q:0<σ.2)(n:τ.1.length=d)(k0:0<τ.2){x y:Dd}(g:x∈T)(j:y∈T)(e:act d σ x=act d τ y)(h:Orb d T σ v):Orb d T τ v:=by
 have a:=G.dim;obtain⟨z,f,rfl⟩:=h;obtain⟨b,c,e1,r⟩:=G.inv x g;have l:=G.rs x g;have p:=G.rs y j;have i:=G.rs z f;have m:=G.rs b c;have k:=G.rs _ (G.mul b c z f);refine⟨nD d y (nD d b z),G.mul y j _ (G.mul b c z f),?_⟩;rw[←Lc a n k0 p k,←e,Lc a o q l k,←Ae a l m i,e1,(cW a i).1]
structure jA(d:Nat)(T:List Dd)(σ κ:SP'):Prop where
 mem:Orb d T σ κ
 least:∀v,Orb d T σ v->v=κ\/lx (fl (plO κ)) (fl (plO v))=true
theorem key_one{κ a:SP'}(h:jA d T σ κ)(h':jA d T τ a)(e:∀v,Orb d T σ v↔Orb d T τ v):κ=a:=by
 rcases h.least a ((e _).mpr h'.mem) with q|q
 ·exact q.symm
 rcases h'.least κ ((e _).mp h.mem) with r|r
 ·exact r
 rw[Xl q]at r;cases r
theorem Yz(G:Grp d T)(c:σ.1.length=d)(f:0<σ.2)(b:τ.1.length=d)(k0:0<τ.2){κ g:SP'}(h:jA d T σ κ)(h':jA d T τ g):Orb d T τ (act d σ (nK d))↔κ=g:=by
 constructor
 ·rintro⟨y,a,e⟩;exact key_one h h' λv=>⟨Fz G c f b k0 G.one a e.symm,Fz G b k0 c f a G.one e⟩
 ·intro e;subst e;obtain⟨x,j,e1⟩:=h.mem;obtain⟨y,a,i⟩:=h'.mem;exact Fz G c f b k0 j a (e1.trans i.symm) (Xa G)
end
theorem Yy{d:Nat}{σ:SP'}{srt:Tb}{D:Alk}(a:Mg d σ srt D)(k:0<srt.length):∃e r,D=e:: r/\jA d (srt.map (·.1)) σ e.1:=by
 have m:D≠[]:=λz=>by
  have:=a.all srt[0] (xO k);rw[z]at this;cases this
 obtain⟨e,r,rfl⟩:=List.exists_cons_of_ne_nil m;refine⟨e,r,rfl,?_,?_⟩
 ·obtain⟨y,l,b⟩:=a.num e (.head _);exact⟨y.1,pZ.mpr ⟨y,zqb l,rfl⟩,b⟩
 ·rintro v ⟨x,g,rfl⟩;obtain⟨y,j,rfl⟩:=pZ.mp g;rcases xE.mp (a.all y j) with q|q
  ·exact .inl q
  ·obtain⟨f,c,i⟩:=pZ.mp q;rw[←i];exact .inr ((List.pairwise_cons.mp a.rise).1 f c)
noncomputable abbrev Gt:=List ((SP')×List Nat)
noncomputable def gtS(E:Gt)(i:Nat)(κ:SP'):Gt:=if κ∈E.map (·.1) then E.map (λe=>if e.1=κ then(e.1,e.2++[i]) else e) else E++[(κ,[i])]
def gtN(ks:List (SP')):Nat->Gt
 |0=>[]
 |n+1=>match ks[n]? with
  |some κ=>gtS (gtN ks n) n κ
  |none=>gtN ks n
theorem fH{ks:List (SP')}{n:Nat}{κ:SP'}(e:ks[n]?=some κ):gtN ks (n+1)=gtS (gtN ks n) n κ:=by
 show(match ks[n]? with|some κ=>_|none=>_)=_;rw[e]
theorem Fy{ks:List (SP')}{n:Nat}(e:ks[n]?=none):gtN ks (n+1)=gtN ks n:=by
 show(match ks[n]? with|some κ=>_|none=>_)=_;rw[e]
theorem Yx{E:Gt}{i:Nat}{κ:SP'}:(gtS E i κ).map (·.1)=if κ∈E.map (·.1) then E.map (·.1) else E.map (·.1)++[κ]:=by
 unfold gtS;split
 ·rw[xI];refine wU λe _=>?_;show(if e.1=κ then(e.1,e.2++[i]) else e).1=e.1;split <;> rfl
 ·rw[yM];rfl
theorem bD{ks:List (SP')}:∀n,((gtN ks n).map (·.1)).Nodup
 |0=>uV
 | n+1=>by
  cases e:ks[n]? with
  |none =>
   rw[Fy e];exact bD n
  | some κ =>
   rw[fH e,Yx];split
   ·exact bD n
   ·next h =>
    rw[sI];refine⟨bD n,by simp,λa c b d=>?_⟩;rw[pW.mp d];intro q;rw[q]at c;exact h c
theorem dB{ks:List (SP')}:∀n,(gtN ks n).length<=n
 |0=>zE _
 | n+1=>by
  cases e:ks[n]? with
  |none =>
   rw[Fy e];exact vU (dB n)
  |some κ =>
   rw[fH e];unfold gtS;split
   ·rw[zqe];exact vU (dB n)
   ·rw[zS];exact rB (dB n)
theorem dC{ks:List (SP')}:∀n,∀e∈gtN ks n,e.2.length<=n/\∀i∈e.2,i<n
 |0,e,h=>by cases h
 | n+1,e,h=>by
  cases q:ks[n]? with
  |none =>
   rw[Fy q]at h;have:=dC n e h;exact⟨vU this.1,λi hi=>vC (this.2 i hi)⟩
  | some κ =>
   rw[fH q]at h;unfold gtS at h;split at h
   ·obtain⟨f,a,rfl⟩:=pZ.mp h;have:=dC n f a;split
    ·refine⟨by rw[zS];exact rB this.1,λi hi=>?_⟩;rcases pY.mp hi with r|r
     ·exact vC (this.2 i r)
     ·rw[pW.mp r];exact vJ n
    ·exact⟨vU this.1,λi hi=>vC (this.2 i hi)⟩
   ·rcases pY.mp h with r|r
    ·have:=dC n e r;exact⟨vU this.1,λi hi=>vC (this.2 i hi)⟩
    ·rw[pW.mp r];exact⟨by show 1<=n+1;omega,λi hi=>by rw[pW.mp hi];exact vJ n⟩
theorem Mf{ks r:List (SP')}:∀n,n<=ks.length->gtN (ks++r) n=gtN ks n
 |0,_=>rfl
 |n+1,h=>by
  obtain⟨κ,e⟩:=kH (l:=ks) rfl (show n<ks.length by omega);have a:(ks++r)[n]?=some κ:=by rw[yI ⋯,e]
  rw[fH e,fH a,Mf n ⋯]
def GtAt(H:Hp)(E:Gt)(kvs:List (PyData×V)):Prop:=Paired (λ(e:(SP')×List Nat)(kv:PyData×V)=>kv.1=plO e.1/\∃p,kv.2=.ref p/\H p=some (.lst (e.2.map λn=>V.int (n:Nat)))) E kvs
theorem Yw{H:Hp}{κ:SP'}{E:Gt}{kvs:List (PyData×V)}(h:GtAt H E kvs):(κ∉E.map (·.1)/\vT kvs (plO κ)=none)\/∃e p,e∈E/\e.1=κ/\vT kvs (plO κ)=some (.ref p)/\H p=some (.lst (e.2.map λn=>V.int (n:Nat))):=by
 induction h with
 |nil=>exact .inl ⟨by simp,rfl⟩
 | @cons e i E kvs g t m =>
  obtain⟨d,p,l,k⟩:=g
  by_cases z:e.1=κ
  ·refine .inr ⟨e,p,.head _,z,?_,k⟩;rw[gX (by rw[d,z]),l]
  ·have j:¬ i.1=plO κ:=λq=>z (cZ.mp (d.symm.trans q));rw[gE j];rcases m with⟨a,b⟩|⟨f,q,a,b,c⟩
   ·exact .inl ⟨by rw[zK,xE,not_or];exact⟨λq=>z q.symm,a⟩,b⟩
   ·exact .inr ⟨f,q,.tail _ a,b,c⟩
theorem Yv{E:Gt}(g:(E.map (·.1)).Nodup){e f:(SP')×List Nat}(b:e∈E)(c:f∈E)(q:e.1=f.1):e=f:=by
 obtain⟨i,hi⟩:=yB b;obtain⟨j,a⟩:=yB c;have e1:(E.map (·.1))[i]?=some e.1:=by rw[zC,hi];rfl
 have d:(E.map (·.1))[j]?=some e.1:=by rw[zC,a,q];rfl
 have:i=j:=(sJ (zqa e1).1 g).mp (e1.trans d.symm);subst this;rw[hi]at a;cases a;rfl
theorem Yu{H H':Hp}{κ:SP'}{i:Nat}{l:Addr}{e:(SP')×List Nat}{E:Gt}{kvs:List (PyData×V)}(h:GtAt H E kvs)(u:∀f∈E,f.1=κ->f=e)(j:∀p xs,H p=some (.lst xs)->H' p=some (.lst xs))(hl:H' l=some (.lst ((e.2++[i]).map λn=>V.int (n:Nat)))):
  GtAt H' (E.map λe=>if e.1=κ then(e.1,e.2++[i]) else e) (kvs.map λa=>if a.1=plO κ then(a.1,V.ref l) else a):=by
 induction h with
 |nil=>exact .nil
 |@cons f a E kvs c t o =>
  obtain⟨b,p,m,k⟩:=c;refine .cons ?_ (o λg r=>u g (.tail _ r))
  by_cases z:f.1=κ
  ·have:=u f (.head _) z;subst this;dsimp only;rw[zJ z,zJ (by rw[b,z])];exact⟨b,l,rfl,hl⟩
  ·have d:¬ a.1=plO κ:=λq=>z (cZ.mp (b.symm.trans q));dsimp only;rw[zI z,zI d];exact⟨b,p,m,j _ _ k⟩
def sp_x(K:Frag)(t:Adr):Sp:=λvs H Q _=>E8 λ(b:Bool)(g l:Addr)(d:Nat)(ms:List Dd)(srt:Tb)(ps:LA)(σs:List (SP'))=>A11 (vs=[.ref g,.ref l]) (GrpF K t H g d ms srt) ((d=2\/d=3)) ((∀y∈srt,MbOk d y.1)) (0<srt.length) (srt.length<=200) (SqB b K H l (ps.map V.ref)) (Paired (λp(σ:SP')=>nI H p σ.1 σ.2) ps σs) ((∀σ∈σs,SpOk d σ)) (σs.length<=8) (∀r ks rs H',Same H H'->ks.length=σs.length->(∀(i:Nat) σ κ,σs[i]?=some σ->ks[i]?=some κ->jA d (srt.map (·.1)) σ κ)->H r=none->H' r=some (.lst (rs.map V.ref))->(∀p∈rs,H p=none/\p≠r)->Paired (λp(e:(SP')×List Nat)=>H' p=some (.lst (e.2.map λn=>V.int (n:Nat)))) rs (gtN ks σs.length)->Q (.ref r) H')
def GIv(K:Frag)(H:Hp)(σs:List (SP'))(g l aw:Addr)(d:Nat)(srt:Tb)(i:Nat)(τ:St)(H':Hp):Prop:=∃(ks:List (SP'))(kvs:List (PyData×V))(v3 v4 v5:Option V),τ=[some (.ref g),some (.ref l),some (.ref aw),v3,v4,v5]/\Same H H'/\ks.length=i/\(∀(j:Nat) σ κ,σs[j]?=some σ->ks[j]?=some κ->jA d (srt.map (·.1)) σ κ)/\DTr K H' aw kvs/\GtAt H' (gtN ks i) kvs/\∀kv∈kvs,∀p,kv.2=.ref p->H p=none
theorem ok_x(T:Txt K mg t):FnOk P w K mg base CX0 5 t.a_x t.d_x ["group","spots"] (sp_x K t):=by
 have g3:=@ok_1k P w K mg base t T;apply T.F_x.ok sc_x
 ·have d9:=hr.units;obtain⟨b,g,l,d,ms,srt,ps,c9,rfl,h5,j3,j0,e8,g7,c8,e2,h3,j5,e9⟩:=h;have f0:ps.length=c9.length:=nS e2;refine⟨_,(oM (oX (i:=2) sc_x.nd rfl (Or.inl rfl) Iz)
   (oM (lC yF rfl (hZ rfl T.z_enumerate (oJ (pq 1) oK)) (lR rfl (nO (nL (i:=3) sc_x.nd rfl (Or.inl rfl)) (nO (nL (i:=4) sc_x.nd rfl (Or.inl rfl)) lQ)))
   (oM (oX (i:=5) sc_x.nd rfl (Or.inl rfl) (oT (oT (oS g3 hr.mo T.F_1k (oJ (pq 0) (oJ (pq 4) oK))))))
   (oO (jU (oP dL (Ix (T:= "") sG uY PySem.F.type_dict_get (Ta d9) (pq 2) (oJ (pq 5) (oJ (lH oK) oK))) (lH (oJ (pq 3) oK))) (dG (pq 2) (pq 5) (Cz d9))))))
   (oO (nB (Uz rfl T.z_list (pq 2)))))),?_⟩
  show tSeq _ _ _ [some (.ref g),some (.ref l),none,none,none,none] H;refine st λN1 e1=>?_;simp only[Cv];ext;intro m d6 i0;have c7:Same H (upd H m (mT m [])):=Same.new d6;generalize upd H m (mT m [])=k0 at*
  have h7:∀b o,H b=some o->b≠m:=λb o e z=>by rw[z,d6]at e;cases e
  subst e1;refine st λN1 e1=>lF λB eB=>?_;simp only[iN];ext;refine⟨b,⟨_,c8.up c7⟩,?_⟩;refine fT (g:=gTup K 2 (nR (oV 3) (nR (oV 4) gNil))) (tb:=B) (GIv K H c9 g l m d srt)
   ⟨[],[],none,none,none,rfl,c7,rfl,(λj σ κ _ e=>by cases e),i0,.nil,λa0 h=>by cases h⟩ (λi c4 H' _⟨_,_,_,_,_,_,s,_⟩=>c8.up s) ?_ ?_
  ·rintro i y p c4 u f4 ⟨ks,kvs,v3,g4,e3,rfl,a4,L,b4,a8,a2,a3⟩ j2;obtain⟨q,i8,rfl⟩:=mX f4;obtain⟨σ,W,i1⟩:=nZ e2 i8;have i9:=h3 σ (zqb W);have sp:=Same.new (o:=.tup [.int (i:Int),.ref q]) j2;refine⟨p,[.int i,.ref q],rfl,SqT.of oQ,rfl,_,[.ref q],rfl,_,[],rfl,rfl,?_⟩;have h2:=a8.up sp;have i4:GtAt (upd u p (.tup [.int (i:Int),.ref q])) (gtN ks i) kvs:=Paired.mapP a2 λ_ _⟨a,r,b,c⟩=>⟨a,r,b,sp _ _ c⟩;have b8:=a4.trans sp;generalize upd u p (.tup [.int (i:Int),.ref q])=j1 at*
   subst eB;show tSeq _ _ _ [some (.ref g),some (.ref l),some (.ref m),some (.int i),some (.ref q),e3] j1;refine st λk2 c0=>?_;ext;refine⟨g,q,d,ms,srt,σ,rfl,h5.up b8,j3,j0,g7,i1.upS b8,i9,λr D S b5 Z h4 f9=>?_⟩;obtain⟨e,j9,rfl,i5⟩:=Yy f9 e8;obtain⟨j8,i7,g6⟩:=h4;cases g6 with
   |@cons h0 _ k3 _ g5 _ =>
   obtain⟨d5,b1,b2⟩:=g5;refine fD (i:=0) i7 rfl rfl ?_;refine⟨true,h0,_,_,_,rfl,rfl,SqB.tup b1,rfl,?_⟩;have e7:=b8.trans b5;have b6:=h2.up b5;have d3:GtAt S (gtN ks i) kvs:=Paired.mapP i4 λ_ _⟨a,r,b,c⟩=>⟨a,r,b,b5 _ _ c⟩;have h6:kvs.length<=200:=by
    have k6:=nS d3;have k1:=dB (ks:=ks) i;have g9:=(zqa W).1;omega
   subst c0;ext;simp only[tBMR,gSub];ext;refine⟨⟨kvs,b6⟩,by show 0<=sizeLine;decide,λx i2=>?_⟩;have a6:Same S (upd S x (.lst [])):=Same.new i2;have d4:(upd S x (.lst [])) x=some (.lst (([]:List Nat).map λn=>V.int (n:Nat))):=oQ;generalize upd S x (.lst [])=a5 at a6 d4;refine⟨m,kvs,d5,plO e.1,.ref x,rfl,rfl,b6.up a6,iG _,mV (mH a6) 4 (iG _) b2,?_⟩;refine⟨by show 1<=sizeLine;decide,λM g8=>?_⟩;have c1:Same a5 (upd a5 M (.lst [.int i])):=Same.new g8;have e5:(upd a5 M (.lst [.int i])) M=some (.lst [.int i]):=oQ;generalize upd a5 M (.lst [.int i])=v at c1 e5;have a1:=a6.trans c1;have i3:=b6.up a1;have b0:GtAt v (gtN ks i) kvs:=Paired.mapP d3 λ_ _⟨a,r,b,c⟩=>⟨a,r,b,a1 _ _ c⟩;have d8:=e7.trans a1
   -- the row so far
   have f3:∃(X:Addr)(row:List Nat),(vT kvs (plO e.1)).getD (.ref x)=.ref X/\v X=some (.lst (row.map λn=>V.int (n:Nat)))/\row.length<=200/\∀k C,(∀p xs,v p=some (.lst xs)->C p=some (.lst xs))->C k=some (.lst ((row++[i]).map λn=>V.int (n:Nat)))->GtAt C (gtS (gtN ks i) i e.1) (pT kvs (plO e.1) (.ref k)):=by
    have g9:=(zqa W).1;rcases Yw (κ:=e.1) b0 with⟨N,O⟩|⟨f,a7,N,O,c5,f8⟩
    ·refine⟨x,[],by rw[O];rfl,c1 _ _ d4,∅,λk C b3 F=>?_⟩;unfold gtS pT;rw[zI N,O];exact vW (Paired.mapP b0 λ_ _⟨a,r,b,c⟩=>⟨a,r,b,b3 _ _ c⟩) ⟨rfl,k,rfl,F⟩
    ·refine⟨a7,f.2,by rw[c5];rfl,f8,by have:=(dC i f N).1;omega,λk C b3 F=>?_⟩;unfold gtS pT;rw[zJ (pZ.mpr ⟨f,N,O⟩),c5];exact Yu b0 (λk4 e6 f1=>Yv (bD i) e6 N (f1.trans O.symm)) b3 F
   obtain⟨X,row,h1,h8,k5,put⟩:=f3;rw[h1];refine⟨X,M,_,_,rfl,rfl,h8,e5,by rw[zqe];exact yA (show row.length+1<=1000 by omega) ∅,λk d1=>?_⟩;have R:Same v (upd v k (.lst ((row.map λn=>V.int (n:Nat))++[.int i]))):=Same.new d1;have F:(upd v k (.lst ((row.map λn=>V.int (n:Nat))++[.int i]))) k=some (.lst ((row++[i]).map λn=>V.int (n:Nat))):=by rw[oQ,yM];rfl
   generalize upd v k (.lst ((row.map λn=>V.int (n:Nat))++[.int i]))=C at R F;have d2:=i3.up R;refine⟨m,_,d5,_,rfl,rfl,d2,iG e.1,mV (mH (a1.trans R)) 4 (iG _) b2,yJ h6 ∅,λe4 d7 j7 f5=>?_⟩;obtain⟨j6,f2,_⟩:=d2.ex;have c2:∀p xs,C p=some (.lst xs)->e4 p=some (.lst xs):=λp xs z=>d7 p _ (λf7=>by rw[f7,f2]at z;cases z) z;have e0:(ks++[e.1])[i]?=some e.1:=by rw[zZ ⋯,L];simp
   have g1:gtN (ks++[e.1]) (i+1)=gtS (gtN ks i) i e.1:=by rw[fH e0,Mf i ⋯]
   refine⟨ks++[e.1],_,_,_,_,rfl,λb o z=>d7 b o (h7 b o z) ((d8.trans R) _ _ z),by rw[zS,L];rfl,λj h9 κ a9 J=>?_,f5,?_,λa0 I a7 ep=>?_⟩
   ·by_cases z:j<ks.length
    ·rw[yI z]at J;exact b4 j h9 κ a9 J
    ·have:j=i:=by have:=(zqa J).1;rw[zS]at this;simp at this;omega
     subst this;rw[e0]at J;cases J;rw[W]at a9;cases a9;exact i5
   ·rw[g1];exact put k e4 (λp xs z=>c2 p xs (R _ _ z)) (c2 _ _ F)
   ·unfold pT at I;have c6:H k=none:=gN d8 d1;split at I
    ·obtain⟨f6,h',rfl⟩:=pZ.mp I;split at ep
     ·cases ep;exact c6
     ·exact a3 f6 h' a7 ep
    ·rcases pY.mp I with h'|h'
     ·exact a3 a0 h' a7 ep
     ·rw[pW.mp h']at ep;cases ep;exact c6
  ·rintro c4 u ⟨ks,kvs,v3,g4,e3,rfl,a4,L,b4,a8,a2,a3⟩;rw[zqe,f0]at L a2;subst e1;simp only[Dy];ext;simp only[Dy];ext;refine⟨kvs,a8,λr Z=>?_⟩;have b9:Same u (upd u r (.lst (kvs.map (·.2)))):=Same.new Z;have g2:∀{E:Gt}{kvs:List (PyData×V)},GtAt u E kvs->∃G:LA,kvs.map (·.2)=G.map V.ref/\Paired (λp(e:(SP')×List Nat)=>u p=some (.lst (e.2.map λn=>V.int (n:Nat)))) G E:=λh=>by
    induction h with
    |nil=>exact⟨[],rfl,.nil⟩
    |cons h _ i6 =>
     obtain⟨_,p,e1,c0⟩:=h;obtain⟨G,Y,U⟩:=i6;exact⟨p:: G,by rw[zK,e1,Y];rfl,.cons c0 U⟩
   obtain⟨G,Y,U⟩:=g2 a2;rw[Y]at b9 ⊢;refine e9 r ks G _ (a4.trans b9) L b4 (gN a4 Z) oQ (λp d0=>?_) (Paired.mapP U λ_ _ z=>b9 _ _ z);obtain⟨b7,c3⟩:∃b7,u p=some b7:=by
    obtain⟨j,j4⟩:=yB d0;obtain⟨b7,_,z⟩:=nZ U j4;exact⟨_,z⟩
   refine⟨?_,λz=>by rw[z,Z]at c3;cases c3⟩;have:V.ref p∈kvs.map (·.2):=by rw[Y];exact pZ.mpr ⟨p,d0,rfl⟩
   obtain⟨a0,I,g0⟩:=pZ.mp this;exact a3 a0 I p g0
structure PsOk(d i:Nat)(σ:SP'):Prop where
 len:σ.1.length=d
 bits:nY (40+60*i) σ.1
 pos:0<σ.2
 le:σ.2<=144*72^i
 low:gl σ.2 σ.1=1
theorem PsOk.mono{d i j:Nat}{σ:SP'}(h:PsOk d i σ)(a:i<=j):PsOk d j σ:=⟨h.len,h.bits.le ⋯,h.pos,pN h.le (by
 have:=zY (show 0<72 by decide) a;have e1:((72:Int)^i)=((72^i:Nat):Int):=by norm_cast
 have b:((72:Int)^j)=((72^j:Nat):Int):=by norm_cast
 rw[e1,b];omega),h.low⟩
theorem PsOk.sp{d i:Nat}{σ:SP'}(h:PsOk d i σ)(hi:i<=8):SpOk d σ:=by
 have a:=h.mono hi;exact⟨a.len,a.bits.le ∅,a.pos,Int.lt_of_le_of_lt a.le (nofun),a.low⟩
def iH(v:Int)(ns fs:LI'):LI':=List.zipWith (λn f=>n+f*v) ns fs
theorem Me{d:Nat}{v:Int}{ns fs:LI'}(g:ns.length=d)(j:fs.length=d):Cong v (iH v ns fs) ns:=by
 refine⟨by show(List.zipWith _ _ _).length=_;rw[xD,g,j,tX],λi a b c e=>?_⟩;obtain⟨f,k⟩:=kH j (Xn g e);have l:(iH v ns fs)[i]?=some (b+f*v):=Mr e k;rw[l]at c;cases c;exact⟨f,by rw[vN];omega⟩
structure PrOk(d i:Nat)(σ:SP'):Prop where
 len:σ.1.length=d
 bits:nY (39+60*i) σ.1
 pos:0<σ.2
 le:σ.2<=144*72^i
 low:gl σ.2 σ.1=1
theorem PrOk.mono{d i j:Nat}{σ:SP'}(h:PrOk d i σ)(a:i<=j):PrOk d j σ:=
 ⟨h.len,h.bits.le ⋯,h.pos,(PsOk.mono ⟨h.len,h.bits.le ⋯,h.pos,h.le,h.low⟩ a).le,h.low⟩
theorem Yt{i:Nat}(hi:i<=8):(144*72^i:Int)<2^60:=by
 rcases(show i=0\/i=1\/i=2\/i=3\/i=4\/i=5\/i=6\/i=7\/i=8 by omega) with e|e|e|e|e|e|e|e|e <;> subst e <;> decide +kernel
theorem Ys{d i:Nat}(c:d=2\/d=3){σ:SP'}{x:Dd}(h:PsOk d i σ)(hi:i<8)(a:MbOk d x):PrOk d (i+1) (mvT σ x,mvU σ x):=by
 have g:=Mo h.pos a;have b:=Mn h.pos a;have f:σ.2<2^60:=Int.lt_of_le_of_lt h.le (Yt ⋯);refine⟨b.1,Mp c h.len h.pos h.bits f a ?_,g.1,?_,b.2⟩
 ·rcases(show i=0\/i=1\/i=2\/i=3\/i=4\/i=5\/i=6\/i=7 by omega) with e|e|e|e|e|e|e|e <;> subst e <;> decide +kernel
 ·have e1:((72:Int)^(i+1))=72*72^i:=by rw[Int.pow_succ,vN]
  have:=h.le;show mvU σ x<=144*72^(i+1);rw[e1];generalize (72:Int)^i=z at*
  omega
theorem Yr{d i:Nat}{σ:SP'}(h:PsOk d i σ)(hi:i<8):PrOk d (i+1) σ:=by
 have h':=h.mono (pE i);exact⟨h.len,h.bits.le ⋯,h.pos,h'.le,h.low⟩
theorem Yq{d i:Nat}{σ:SP'}{fs:LI'}(h:PrOk d i σ)(hi:i<=8)(b:fs.length=d)(o:∀f∈fs,f.natAbs<=1):PsOk d i (iH σ.2 σ.1 fs,σ.2):=by
 have a:=Me (v:=σ.2) h.len b;refine⟨a.1.trans h.len,λz q=>?_,h.pos,h.le,a.gl.trans h.low⟩;obtain⟨j,n,f,p,l,rfl⟩:=Mt (show z∈List.zipWith _ _ _ from q);have b1:=h.bits _ (zqb p);have b2:=o f (zqb l);have k:σ.2.natAbs<2^(39+60*i):=by
  have m:=h.le;have c:=h.pos;rcases(show i=0\/i=1\/i=2\/i=3\/i=4\/i=5\/i=6\/i=7\/i=8 by omega) with e|e|e|e|e|e|e|e|e <;> subst e <;> exact Mq (A:=_) c m (nofun)
 have g:(f*σ.2).natAbs<2^(39+60*i):=by
  rw[xC];exact yJ (wD _ b2) (by rw[pO];exact k)
 refine nab2 b1 g ?_;rw[show 40+60*i=(39+60*i)+1 by omega,qT];omega
def fI(K:Frag)(H:Hp)(l:Addr)(srt:Tb):Prop:=∃os:LA,H l=some (.lst (os.map V.ref))/\Paired (λp x=>Dt K H (.ref p) (dat x.1)) os srt
theorem fI.up{K:Frag}{H H':Hp}{l:Addr}{srt:Tb}(h:fI K H l srt)(s:Same H H'):fI K H' l srt:=by
 obtain⟨b,c,a⟩:=h;exact⟨b,s _ _ c,Paired.mapP a λ_(z:Dd×List Nat)h=>mV (mH s) 4 (jR z.1) h⟩
theorem Yp{K:Frag}{H:Hp}{l:Addr}{srt:Tb}{Q:VK}{n:Nat}{I:Int}{y:Dd×List Nat}(h:fI K H l srt)(e:srt[n]?=some y)(d:I=n)(q:∀p,Dt K H (.ref p) (dat y.1)->Q (.ref p) H):rIxB K (.ref l) (.int I) H Q:=by
 obtain⟨i,f,a⟩:=h;obtain⟨p,ep⟩:=kH (nS a) (zqa e).1;obtain⟨g,b,c⟩:=nZ a ep;rw[e]at b;cases b;exact fD (i:=n) f (by rw[zC,ep];rfl) d (q p c)
theorem Yo{B:Nat}{w:Int}{TT:LI'}(a:0<w)(b:nY B TT):nY B (redT w TT):=λz c=>by
 obtain⟨t,d,hl⟩:=(eX (ts:=TT) a).1 z c;exact yJ hl (b t d)
theorem Yn{d:Nat}{TT:LI'}{w:Int}(hl:TT.length=d)(a:0<w)(f:w<=144)(c:nY 40 TT):PsOk d 0 (redT w TT,redU w TT):=by
 obtain⟨_,b,e⟩:=eX (ts:=TT) a;exact⟨by rw[Mu];exact hl,Yo a c,b,pN e ⋯,Di ⋯⟩
def PsAt(H:Hp)(ps:LA)(σs:List (SP')):Prop:=Paired (λp(σ:SP')=>nI H p σ.1 σ.2) ps σs
theorem PsAt.up{H H':Hp}{ps:LA}{a:List (SP')}(h:PsAt H ps a)(s:Same H H'):PsAt H' ps a:=Paired.mapP h λ_ _ z=>z.upS s
theorem Aa{K:Frag}{H:Hp}{a:Addr}{ps:LA}{b:List (SP')}(c:H a=some (.lst (ps.map V.ref)))(d:PsAt H ps b):Dt K H (.ref a) (.list (b.map plO)):=by
 refine .lst (SqL.of c) ?_;clear c
 induction d with
 |nil=>exact .nil
 |cons h _ e=>exact .cons (PlS.dt h.s) e
theorem Bz(a:List (SP')):iT 4 (.list (a.map plO))=true:=by
 show(a.map plO).all (iT 3)=true;rw[wI];intro d b;obtain⟨x,_,rfl⟩:=pZ.mp b;exact Xo _ _
def sp_i(K:Frag):Sp:=λvs H Q _=>E11 λ(b:Bool)(a l fq:Addr)(cs:LI')(k p:Nat)(L:List Stp)(S:LI')(su:Int)(srt:Tb)=>A10 (vs=[.ref a,.ref l,.ref fq]) (SqB b K H a (cs.map V.int)) (cs.length<=8) (fI K H l srt) ((∀y∈srt,MbOk (famD k) y.1)) (0<srt.length) (srt.length<=200) (fF H fq k p L S su) (jH k p L S su) (∀r ps σs H',Same H H'->H r=none->H' r=some (.lst (ps.map V.ref))->PsAt H' ps σs->(∀σ∈σs,SpOk (famD k) σ)->σs.length<=8->Q (.ref r) H')
def SpI(H:Hp)(a l fq r:Addr)(d i:Nat)(τ:St)(H':Hp):Prop:=∃(ps:LA)(σs:List (SP'))(v4 v5 v6 v7 v8:Option V),τ=[some (.ref a),some (.ref l),some (.ref fq),some (.ref r),v4,v5,v6,v7,v8]/\Same H H'/\H' r=some (.lst (ps.map V.ref))/\PsAt H' ps σs/\σs.length=i/\∀(j:Nat) σ,σs[j]?=some σ->PsOk d j σ
theorem ok_i(T:Txt K mg t):FnOk P w K mg base CX0 4 t.a_i t.d_i pb' (sp_i K):=by
 have k4:=@ok_6 P w K mg base t T;have l7:=@ok_d P w K mg base t T;have i4:=@ok_c P w K mg base t T;apply T.F_i.ok sc_i
 ·have l5:=hr.units;obtain⟨b,a,l,C,cs,k,p,L,j0,k7,srt,rfl,f4,j4,n3,n2,n6,n9,n1,ok,i2⟩:=h;have h3:=kC k;have b2:∀x y:Int,y≠0->y.natAbs<1073741824->kE x y:=λx y n0 k5=>⟨n0,zF ((sU ⋯).mpr (show y.natAbs<2^30 from k5)) ∅⟩;refine⟨_,(oM (oX (i:=3) sc_i.nd rfl (Or.inl rfl) (lH oK))
   (oM (lC yF rfl (nE (pq 0)) (nL (i:=4) sc_i.nd rfl (Or.inl rfl))
   (oO (nV (PW.pt (fM (nN lZ (oP mL (pq 4) oR) oR (nM _)) (fL (nN (Ge l5) (pq 3) (lH oK) (nM _)))))
   (oO (lP (iK xA xL xK jY (pq 3) (oJ (oS k4 hr.mo T.F_6 (oJ (oP lD (pq 4) oR) (oJ (pq 2) oK))) oK))))
   (oM (oX (i:=5) sc_i.nd rfl (Or.inl rfl) (mC ix_B (pq 3) (oP mL (oP lD (pq 4) oR) (nU T.z_len (pq 3))) (λ_ _=>rfl)))
   (oM (oX (i:=6) sc_i.nd rfl (Or.inr rfl) (oS l7 hr.mo T.F_d (oJ (mC ix_B (pq 1) (oP mL (oP lD (pq 4) oR) (nU T.z_len (pq 1))) (λ_ _=>rfl)) (oJ (pq 5) oK))))
   (oM (oX (i:=7) sc_i.nd rfl (Or.inr rfl) (nP (sc:=oN eG) (N:=N_i) (fr:=[]) (te:=(tOp (rI0 λi j=>.int (i-j)) (tOp (rI (λ_ j=>j≠0) λi j=>.int (i.fmod j)) (tOp (rI0 λi j=>.int (i+j)) (tVar 0) (tC (.int 1))) (tC (.int 3))) (tC (.int 1)))) rfl rfl (nofun) rfl (nofun) (nE (oS i4 hr.mo T.F_c (oJ (oP lD (pq 4) oR) (oJ oR (oJ (nU T.z_len (oT (pq 5))) oK))))) (λ_ _ _ f5=>(oP iJ (oP mL (oP mY (pv 0) oR) oR) oR))))
   (oM (nV (nN lZ (oP mL (pq 4) oR) oR (nM _))
   (oM (oX (i:=6) sc_i.nd rfl (Or.inr rfl) (pq 5))
   (oO (oX (i:=7) sc_i.nd rfl (Or.inr rfl) (nP (sc:=oN eG) (N:=N_i) (fr:=[]) (te:=(tC (.int 0))) rfl rfl (nofun) rfl (nofun) (nE (pq 7)) (λ_ _ _ f5=>oR)))))
   mB)
   (oM (iO (i:=8) (sc:=oN eG) (N:=N_i) (fr:=[("_law_reached_here",6),("_law_far",7)]) (te:=(tOp (rI0 λi j=>.int (i+j)) (tOp (rIxB K) (tOp (rIxB K) (tVar 1) (tC (.int 0))) (tVar 0)) (tOp (rI (λi j=>IntMulOk i j) λi j=>.int (i*j)) (tOp (rIxB K) (tVar 2) (tVar 0)) (tOp (rIxB K) (tVar 1) (tC (.int 1)))))) rfl rfl (nofun) rfl sc_i.nd rfl rfl (nofun) (mU rfl T.z_range (oJ (nU T.z_len (pq 7)) oK)) (λ_ _ _ f5=>(oP mY (mC ix_B (oT (pv 1)) (pv 0) (λ_ _=>rfl)) (oP nT (mC ix_B (pv 2) (pv 0) (λ_ _=>rfl)) (oT (pv 1))))))
   (oO (lP (iK xA xL xK jY (pq 3) (oJ (mO (oJ (mP kJ rfl T.z_tuple (nofun) (oJ (pq 8) oK)) (oJ (oT (pq 6)) oK))) oK))))))))))))
   (oO (nB (pq 3))))),?_⟩
  show tSeq _ _ _ [some (.ref a),some (.ref l),some (.ref C),none,none,none,none,none,none] H;right;refine⟨by show 0<=sizeLine;decide,λr c4=>?_⟩;have c6:Same H (upd H r (.lst [])):=Same.new c4;have f9:(upd H r (.lst [])) r=some (.lst (([]:LA).map V.ref)):=oQ;generalize upd H r (.lst [])=f7 at c6 f9;subst e1;refine st λN1 e1=>lF λB eB=>?_;simp only[iSeq];ext;refine⟨b,⟨_,f4.up c6⟩,?_⟩;refine kX (b:=b) (g:=oV 4) (tb:=B) (SpI H a l C r (famD k)) ⟨[],[],none,none,none,none,none,rfl,c6,f9,.nil,rfl,λj σ h=>by cases h⟩ (λi e7 H' _⟨_,_,_,_,_,_,_,_,s,_⟩=>f4.up s) ?_ ?_
  ·rintro i y e7 u a2 ⟨ps,M,a3,S,O,N,J,rfl,a8,D,Z,Y,b5⟩;obtain⟨c,i8,rfl⟩:=mS a2;have hi:i<8:=by have:=(zqa i8).1;omega
   have e9:ps.length=i:=by rw[nS Z,Y]
   -- one more
   have put:∀(q:Addr)(a6:SP')(m:Hp)(a3 S O N J:Option V),Same u m->nI m q a6.1 a6.2->PsOk (famD k) i a6->SpI H a l C r (famD k) (i+1) [some (.ref a),some (.ref l),some (.ref C),some (.ref r),a3,S,O,N,J] (upd m r (.lst (ps.map V.ref++[.ref q]))):=by
    intro q a6 m a3 S O N J g c3 l2;have b8:=g _ _ D;have tk:∀b xs,m b=some (.tup xs)->(upd m r (.lst (ps.map V.ref++[.ref q]))) b=some (.tup xs):=λb xs z=>by rw[oU (λj5=>by rw[j5,b8]at z;cases z)];exact z
    refine⟨ps++[q],M++[a6],a3,S,O,N,J,rfl,Same.over c4 (a8.trans g),by rw[oQ,yM];rfl,vW (Paired.mapP (Z.up g) λ_ _⟨z,d0,d4⟩=>⟨z,tk _ _ d0,tk _ _ d4⟩) (let ⟨z,d0,d4⟩:=c3;⟨z,tk _ _ d0,tk _ _ d4⟩),by rw[zS,Y];rfl,λj σ a0=>?_⟩
    by_cases z:j<M.length
    ·rw[yI z]at a0;exact b5 j σ a0
    ·have:j=i:=by have:=(zqa a0).1;rw[zS]at this;simp at this;omega
     subst this;rw[zZ ⋯,Y,uW]at a0;cases a0;exact l2
   have g3:ps.length+1<=1000:=⋯
   subst eB;show tIfS _ _ _ _ [some (.ref a),some (.ref l),some (.ref C),some (.ref r),some (.int c),S,O,N,J] u;have f6:∀m,Same u m->tyV K "list" (.ref r) m/\kE c 3/\sp_6 K [.int (c.fdiv 3),.ref C] m (λx f7=>Go (.ref r) [x] f7 λ_ H'=>SpI H a l C r (famD k) (i+1) [some (.ref a),some (.ref l),some (.ref C),some (.ref r),some (.int c),S,O,N,J] H') E0:=by
    intro m g;refine⟨tyL (g _ _ D),b2 _ _ ∅ ∅,_,C,k,p,L,j0,k7,rfl,n1.up (a8.trans g),ok,λq d8 TT w b3 c3 h4 l3 l8 i6=>?_⟩;have f8:=g.trans b3;refine⟨r,_,_,rfl,rfl,f8 _ _ D,by rw[zqe];exact yA g3 ∅,?_⟩;exact put q _ d8 _ _ _ _ _ f8 c3 ((Yn l8 h4 l3 i6).mono (yV _))
   simp only[tIfS,tIf,tOr,fN,tOp,tVar,qVar,tC,Pc,Pb,tLst,oW,tNil,List.getElem?_cons_zero,List.getElem?_cons_succ,Option.some.injEq,exists_eq_left',exists_eq_left,V.int.injEq,V.bl.injEq,V.ref.injEq,and_true,true_and,ne_eq,exists_and_left,and_assoc,↓reduceIte];refine⟨∅,ite2 (λ_=>by ext;exact f6 u (Same.refl _)) λn8=>⟨by show 0<=sizeLine;decide,λb7 i1=>?_⟩⟩;have g:Same u (upd u b7 (.lst [])):=Same.new i1;have g9:(upd u b7 (.lst [])) b7=some (.lst (([]:LA).map V.ref)):=oQ;generalize upd u b7 (.lst [])=m at g g9;have m2:(PyData.list (M.map plO)=PyData.list (([]:List (SP')).map plO))↔i=0:=by
    rw[PyData.list.injEq,←Y];cases M with
    |nil=>simp
    |cons a b=>simp
   refine Hs 4 ∅ (Aa (g _ _ D) (Z.up g)) (Aa g9 .nil) (Bz _) (Bz _) (b:=decide (i=0)) (by rw[m2];exact decide_eq_true_iff) ⟨_,rfl,ite2 (λ_=>by ext;exact f6 m g) λf2=>?_⟩;have o1:0<i:=by
    have:¬ i=0:=λz=>by rw[z]at f2;simp at f2
    omega
   have b8:=g _ _ D;have n5:=Z.up g;refine st λa4 I=>?_;ext;refine⟨b2 _ _ ∅ ∅,?_⟩;refine⟨false,r,_,rfl,SqB.lst b8,?_⟩;rw[zqe,e9];have i9:=fms (c.fdiv 3) i ⋯;refine⟨_,_,rfl,rfl,⋯,?_⟩;obtain⟨n,j3⟩:=xQ i9.1;have d3:n<i:=⋯
   obtain⟨c9,g2⟩:=kH e9 d3;obtain⟨σ,i0,d1⟩:=nZ n5 g2;have e2:=b5 n σ i0;refine fD (i:=n) b8 (by rw[zC,g2];rfl) j3 ?_;subst I;refine st λa4 I=>?_;ext;refine⟨b2 _ _ ∅ ∅,?_⟩;have g4:=n3.up (a8.trans g);obtain⟨k1,k8,l0⟩:=id g4;have lo:k1.length=srt.length:=nS l0;refine⟨false,l,_,rfl,SqB.lst k8,?_⟩;rw[zqe,lo];have j2:=fms (c.fdiv 24) srt.length ⋯;refine⟨_,_,rfl,rfl,⋯,?_⟩;obtain⟨h5,h7⟩:=xQ j2.1;have n4:h5<srt.length:=⋯
   obtain⟨U,f0⟩:=kH (l:=srt) rfl n4;refine Yp (I:=(c.fdiv 24).fmod srt.length) g4 f0 h7 λk2 j9=>?_;have W:=n2 U (zqb f0);have l1:nY 7 U.1.2.1:=λz c7=>by have:=W.bt z c7;have e:(2:Nat)^7=128:=rfl;omega
   have n7:=W.le;have k6:=W.pos;have a1:=e2.sp ⋯;refine⟨k2,c9,U.1,σ.1,σ.2,famD k,rfl,Ac j9,d1.s,W.sq,h3,W.len,a1.len,W.bm.le ∅,l1.le ∅,a1.bits.le ∅,k6,⋯,a1.pos,pK a1.le (nofun),λh0 d8 b3 e5=>?_⟩;have h8:nI d8 h0 (mvT σ U.1) (mvU σ U.1):=e5;clear e5;subst I;refine st λa4 I=>?_;ext;exfalso;refine⟨b2 _ _ ∅ ∅,?_⟩;refine As (d1.upS b3).s λo0 k3=>lO (b:=true) k3 ?_;rw[a1.len];refine⟨_,3,famD k,rfl,∅,∅,⋯,λl9 o4 ds g7 o2 g1 h9 o3=>?_⟩;refine⟨false,l9,rfl,⟨_,SqB.lst g1⟩,λm7 j7=>?_⟩;refine nQ (λj y _=>∃n,(ds.map λn=>(n+1).fmod 3-1)[j]?=some n/\y=.int n) j7 (SqB.lst g1) (by rw[zqe];omega) (λ_ _ _ _ h _=>h) ?_ ?_
   ·intro j v b6 zs l6 _ _ d6 c8;obtain⟨n,d3,rfl⟩:=mS l6;subst eB;show tOp _ _ _ [some (.int n)] b6 d6;ext;exact⟨∅,c8 _ b6 (Same.refl _) ⟨_,by rw[zC,d3];rfl,rfl⟩⟩
   intro b6 ys h1 c1 j8 m4;have m0:ys=(ds.map λn=>(n+1).fmod 3-1).map V.int:=nW (by rw[j8];simp) m4;subst m0;have b1:(ds.map λn=>(n+1).fmod 3-1).length=famD k:=by rw[zqe];exact h9
   have e3:∀f∈ds.map λn=>(n+1).fmod 3-1,f.natAbs<=1:=λf d5=>by
    obtain⟨n,_,rfl⟩:=pZ.mp d5;have:=fms (n+1) 3 ∅;omega
   generalize (ds.map λn=>(n+1).fmod 3-1)=fs at c1 b1 e3;have g8:=(b3.trans g7).trans h1;have g5:=g.trans g8;subst I;refine st λa4 I=>?_;have go:∀(c0 a5:Addr)(d:SP')(fs:LI')(G:Hp),Same u G->nI G c0 d.1 d.2->PrOk (famD k) i d->G a5=some (.lst (fs.map V.int))->fs.length=famD k->(∀f∈fs,f.natAbs<=1)->a4 [some (.ref a),some (.ref l),some (.ref C),some (.ref r),some (.int c),some (.ref c9),some (.ref c0),some (.ref a5),J] G:=by
    intro c0 a5 d fs G a7 f1 c2 f3 b4 h2;subst I;refine st λa4 I=>?_;ext;refine nC λB eB=>?_;simp only[mD];ext;refine lO (SqB.lst f3) ?_;rw[b4];refine⟨_,rfl,⋯,⋯,λd2 c5=>?_⟩;rw[zR];refine lG (λj y _=>∃n,(iH d.2 d.1 fs)[j]?=some n/\y=.int n) c5 ⋯ (λ_ _ _ _ r _=>r) ?_ ?_
    ·intro j X zs R a9 k0 l4 m8;obtain⟨n,g0⟩:=kH c2.len R;obtain⟨f,d7⟩:=kH b4 R;have b0:=f1.upS a9;subst eB;show tOp _ _ _ [some (.int (0+(j:Int))),some (.ref c0),some (.ref a5)] X l4;ext;refine As b0.s λz c7=>?_;refine⟨true,z,_,_,_,rfl,rfl,(c7:SqB true K X z _),mZ (kB g0) ⋯,?_⟩;refine⟨false,a5,_,_,_,rfl,rfl,SqB.lst (a9 _ _ f3),mZ (kB d7) ⋯,?_⟩;refine eJ b0.s ?_
     try ext
     have:=h2 f (zqb d7);exact⟨wL (wZ ⋯ ⋯),m8 _ _ (Same.refl _) ⟨_,Mr g0 d7,rfl⟩⟩
    ·intro X ys a9 m1 m3 b0;have j6:=Me (v:=d.2) c2.len b4;have j1:ys=(iH d.2 d.1 fs).map V.int:=nW (by rw[m3,j6.1,c2.len]) b0;subst j1;subst I;ext;have g6:=a7.trans a9;refine⟨tyL (g6 _ _ D),d2,_,rfl,.inl ⟨SqL.of m1,λF m6=>?_⟩⟩;have d9:Same X (upd X F (.tup ((iH d.2 d.1 fs).map V.int))):=Same.new m6;have e6:(upd X F (.tup ((iH d.2 d.1 fs).map V.int))) F=some (.tup ((iH d.2 d.1 fs).map V.int)):=oQ;generalize upd X F (.tup ((iH d.2 d.1 fs).map V.int))=b9 at d9 e6;refine eJ ((f1.upS a9).upS d9).s ?_;refine⟨(by show 2<=sizeLine;decide),λo i7=>?_⟩;have e0:Same b9 (upd b9 o (.tup [.ref F,.int d.2])):=Same.new i7;have e4:(upd b9 o (.tup [.ref F,.int d.2])) o=some (.tup [.ref F,.int d.2]):=oQ;generalize upd b9 o (.tup [.ref F,.int d.2])=i3 at e0 e4;have e8:=(g6.trans d9).trans e0;refine⟨r,_,_,rfl,rfl,e8 _ _ D,by rw[zqe];exact yA g3 ∅,?_⟩;exact put o (iH d.2 d.1 fs,d.2) i3 _ _ _ _ _ e8 ⟨F,e4,e0 _ _ e6⟩ (Yq c2 ⋯ b4 h2)
   ext;refine⟨∅,ite2 (λ_=>?_) λ_=>go h0 m7 (mvT σ U.1,mvU σ U.1) fs b6 g5 ((h8.upS g7).upS h1) ((Ys h3 e2 ⋯ W).mono ⋯) c1 b1 e3⟩;exfalso;refine⟨false,⟨_,SqB.lst c1⟩,λd2 c5=>?_⟩;refine nQ (λj y _=>∃n,(List.replicate (famD k) (0:Int))[j]?=some n/\y=.int n) c5 (SqB.lst c1) (by rw[zqe];omega) (λ_ _ _ _ h _=>h) ?_ ?_
   ·intro j y G zs a2 a7 k0 d6 c8;have R:j<famD k:=by rw[←b1,←zqe (f:=V.int)];exact(zqa a2).1
    subst eB;show tC _ [some y] G d6;ext;exact c8 _ _ (Same.refl _) ⟨0,by rw[vG,zJ R],rfl⟩
   intro G ys a7 i5 h6 k9;have a2:ys=(List.replicate (famD k) (0:Int)).map V.int:=nW (by rw[h6,zqe,b1];simp) k9;subst a2;exact go c9 d2 σ _ G (g5.trans a7) ((d1.upS g8).upS a7) ((Yr e2 ⋯).mono ⋯) i5 (by simp) λf d5=>by rw[List.eq_of_mem_replicate d5];decide
  ·rintro e7 u ⟨ps,M,a3,S,O,N,J,rfl,a8,D,Z,Y,b5⟩;symm;have m5:M.length<=8:=by rw[Y,zqe];exact j4
   refine i2 r ps M u a8 c4 D Z (λσ m9=>?_) m5;obtain⟨j,R⟩:=yB m9;exact(b5 j σ R).sp (by have:=(zqa R).1;omega)
def PlL(K:Frag)(H:Hp)(a:Addr)(D:List (SP')):Prop:=∃qs:LA,H a=some (.lst (qs.map V.ref))/\Paired (λp(e:SP')=>Dt K H (.ref p) (plO e)) qs D
theorem PlL.up{K:Frag}{H H':Hp}{a:Addr}{D:List (SP')}(h:PlL K H a D)(s:Same H H'):PlL K H' a D:=by
 obtain⟨c,d,b⟩:=h;exact⟨c,s _ _ d,Paired.mapP b λ_ e z=>mV (mH s) 4 (iG e) z⟩
theorem PlL.tk{K:Frag}{H H':Hp}{a:Addr}{D:List (SP')}(h:PlL K H a D)(s:TK K H H')(e:H' a=H a):PlL K H' a D:=by
 obtain⟨c,d,b⟩:=h;exact⟨c,e.trans d,Paired.mapP b λ_ e z=>mV s.t 4 (iG e) z⟩
theorem Ym{K:Frag}{H:Hp}{l p:Addr}{D:List (SP')}{g:SP'}{b:Bool}{Q:VK}(h:PlL K H l D)(r:Dt K H (.ref p) (plO g))(m:g∈D↔b=true)(q:Q (.bl b) H):rInD K false (.ref p) (.ref l) H Q:=by
 obtain⟨ps,n,u⟩:=h;have i:∃f:List (V×PyData),f.map (·.1)=ps.map V.ref/\f.map (·.2)=D.map plO/\∀q∈f,tT 4 q.2=true/\Dt K H q.1 q.2:=by
  clear n m
  induction u with
  |nil=>exact⟨[],rfl,rfl,λq i=>by cases i⟩
  |@cons p x ps L o _ C =>
   obtain⟨f,a,b,c⟩:=C;refine⟨(.ref p,plO x):: f,by rw[zK,zK,a],by rw[zK,zK,b],λq i=>?_⟩;rcases xE.mp i with e|e
   ·rw[e];exact⟨iG _,o⟩
   ·exact c q e
 obtain⟨f,a,c,d⟩:=i;have v:(f.any λy=>decide (y.2=plO g))=b:=by
  rw[Bool.eq_iff_iff,←m,List.any_eq_true];constructor
  ·rintro⟨y,j,e⟩;have:y.2∈f.map (·.2):=pZ.mpr ⟨y,j,rfl⟩;rw[c]at this;obtain⟨z,F,k⟩:=pZ.mp this;rw[yP e]at k;rw[←cZ.mp k];exact F
  ·intro h;have:plO g∈f.map (·.2):=by rw[c];exact pZ.mpr ⟨g,h,rfl⟩
   obtain⟨y,j,e⟩:=pZ.mp this;exact⟨y,j,zL e⟩
 refine⟨l,f,plO g,rfl,.inl (by rw[a];exact SqL.of n),d,iG _,r,?_⟩;rw[v];exact q
theorem Yl{d:Nat}(c:d=2\/d=3){σ:SP'}(hl:σ.1.length=d)(e:0<σ.2)(g:gl σ.2 σ.1=1):act d σ (nK d)=(nX σ.2 σ.1,σ.2):=by
 rw[Ld];show(nX (redU (1*σ.2) (movT (idM d) (List.replicate d 0) 1 σ.1 σ.2)) (redT (1*σ.2) (movT (idM d) (List.replicate d 0) 1 σ.1 σ.2)),redU (1*σ.2) (movT (idM d) (List.replicate d 0) 1 σ.1 σ.2))=_;rw[(Ad c nJ hl).2,tM];obtain⟨a,b⟩:=gM e g;rw[a,b]
def FsAt(K:Frag)(H:Hp)(d:Nat)(T:List Dd)(p:Addr)(κ:SP'):Prop:=∃D σ,PlL K H p D/\SpOk d σ/\jA d T σ κ/\∀v,v∈D↔Orb d T σ v
abbrev GtR(H:Hp)(p:Addr)(e:(SP')×List Nat):Prop:=H p=some (.lst (e.2.map λn=>V.int (n:Nat)))
def sp_11(K:Frag):Sp:=λvs H Q _=>E7 λ(r l:Addr)(ps:LA)(σs ks:List (SP'))(srt:Tb)(d:Nat)=>A13 (vs=[.ref r,.ref l]) (H r=some (.lst (ps.map V.ref))) (PsAt H ps σs) ((∀σ∈σs,SpOk d σ)) (σs.length<=8) (fI K H l srt) ((∀y∈srt,MbOk d y.1)) (srt.length<=200) ((d=2\/d=3)) (Grp d (srt.map (·.1))) (ks.length=σs.length) ((∀(i:Nat) σ κ,σs[i]?=some σ->ks[i]?=some κ->jA d (srt.map (·.1)) σ κ)) (∀q rs H',Same H H'->H q=none->H' q=some (.lst (rs.map V.ref))->(∀p∈rs,H p=none)->Paired (GtR H') rs (gtN ks σs.length)->Q (.ref q) H')
structure DuS(K:Frag)(H H':Hp)(d:Nat)(T:List Dd)(E:Gt)(q f:Addr)(rs fs:LA):Prop where
 s:Same H H'
 eq:H' q=some (.lst (rs.map V.ref))
 ef:H' f=some (.lst (fs.map V.ref))
 nd:(q:: f:: (rs++fs)).Nodup
 new:∀p∈q:: f:: (rs++fs),H p=none
 rows:Paired (GtR H') rs E
 firsts:Paired (λp(e:(SP')×List Nat)=>FsAt K H' d T p e.1) fs E
theorem DuS.up{H H' c:Hp}{d:Nat}{T:List Dd}{E:Gt}{q f:Addr}{e fs:LA}(h:DuS K H H' d T E q f e fs)(s:Same H' c):DuS K H c d T E q f e fs:=
 ⟨h.s.trans s,s _ _ h.eq,s _ _ h.ef,h.nd,h.new,Paired.mapP h.rows λ_ _ z=>s _ _ z,Paired.mapP h.firsts λ_ _⟨D,σ,a,b⟩=>⟨D,σ,a.up s,b⟩⟩
def DuI(K:Frag)(H:Hp)(d:Nat)(T:List Dd)(ks:List (SP'))(r l q f:Addr)(i:Nat)(τ:St)(H':Hp):Prop:=∃(rs fs:LA)(v4 v5 v6 v7 v8:Option V),τ=[some (.ref r),some (.ref l),some (.ref q),some (.ref f),v4,v5,v6,v7,v8]/\DuS K H H' d T (gtN ks i) q f rs fs
def DuJ(K:Frag)(H:Hp)(d:Nat)(T:List Dd)(E:Gt)(κ:SP')(r l q f sp:Addr)(rs fs:LA)(i j:Nat)(τ:St)(H':Hp):Prop:=∃(at':Int)(v7 v8:Option V),τ=[some (.ref r),some (.ref l),some (.ref q),some (.ref f),some (.int (i:Int)),some (.ref sp),some (.int at'),v7,v8]/\DuS K H H' d T E q f rs fs/\((at'=-1/\∀n e,n<j->E[n]?=some e->e.1≠κ)\/∃n e,n<j/\at'=(n:Int)/\E[n]?=some e/\e.1=κ)
theorem iU{d c:Type}{F:d->c->Prop}:∀{l:List d}{m:List c},l.length=m.length->(∀(i:Nat) a b,l[i]?=some a->m[i]?=some b->F a b)->Paired F l m
 |[],[],_,_=>.nil
 |a:: l,b:: m,h,k=>.cons (k 0 a b rfl rfl) (iU (by simpa using h) λi x y e1 e=>k (i+1) x y (by simpa using e1) (by simpa using e))
theorem Md{b:Type}{l:List b}(d:l.Nodup){i j:Nat}{a:b}(e1:l[i]?=some a)(c:l[j]?=some a):i=j:=(sJ (zqa e1).1 d).mp (e1.trans c.symm)
theorem Yk{H l:Hp}{d:Nat}{T:List Dd}{E:Gt}{q f:Addr}{C fs:LA}(h:DuS K H l d T E q f C fs)(M:(E.map (·.1)).Nodup){n i:Nat}{e:(SP')×List Nat}{κ:SP'}{p:Addr}(o:E[n]?=some e)(u:e.1=κ)(ep:C[n]?=some p):DuS K H (upd l p (.lst ((e.2.map λn=>V.int (n:Nat))++[.int (i:Int)]))) d T (gtS E i κ) q f C fs:=by
 have r:=zqb ep;obtain⟨N,L⟩:=rM.mp h.nd;obtain⟨I,G⟩:=rM.mp L;have pq:q≠p:=λz=>N (by rw[z];simp[r]);have O:f≠p:=λz=>I (by rw[z];simp[r]);obtain⟨F,X,U⟩:=sI.mp G;have row:l p=some (.lst (e.2.map λn=>V.int (n:Nat))):=by
  obtain⟨c,g,z⟩:=nZ h.rows ep;rw[o]at g;cases g;exact z
 have tk:TK K l (upd l p (.lst ((e.2.map λn=>V.int (n:Nat))++[.int (i:Int)]))):=TK.off row (λ_ z=>by cases z) (λ_ _ z=>by cases z) λ_ S=>oU S;have x:gtS E i κ=E.map λe=>if e.1=κ then(e.1,e.2++[i]) else e:=by unfold gtS;rw[zJ (pZ.mpr ⟨e,zqb o,u⟩)]
 rw[x];refine⟨Same.over (h.new p (by simp[r])) h.s,by rw[oU pq];exact h.eq,by rw[oU O];exact h.ef,h.nd,h.new,iU (by rw[zqe];exact nS h.rows) λm a b j k=>?_,iU (by rw[zqe];exact nS h.firsts) λm a b j k=>?_⟩
 ·rw[zC]at k;obtain⟨c,g,z⟩:=nZ h.rows j;rw[g]at k;cases k
  by_cases w:c.1=κ
  ·have J:m=n:=Md M (a:=κ) (by rw[zC,g,rW,w]) (by rw[zC,o,rW,u]);subst J;rw[ep]at j;cases j;rw[o]at g;cases g;show(upd l p _) p=some (.lst ((if e.1=κ then(e.1,e.2++[i]) else e).2.map λn=>V.int (n:Nat)));rw[zJ w,oQ,yM];rfl
  ·have y:a≠p:=λv=>by
    rw[v]at j;have:=Md F j ep;subst this;rw[o]at g;cases g;exact w u
   show(upd l p _) a=some (.lst ((if c.1=κ then(c.1,c.2++[i]) else c).2.map λn=>V.int (n:Nat)));rw[zI w,oU y];exact z
 ·rw[zC]at k;obtain⟨c,g,D,σ,W,R⟩:=nZ h.firsts j;rw[g]at k;cases k;have y:a≠p:=λv=>U p r a (zqb j) v.symm;have x:(if c.1=κ then(c.1,c.2++[i]) else c).1=c.1:=by split <;> rfl
  show FsAt K _ d T a (if c.1=κ then(c.1,c.2++[i]) else c).1;rw[x];exact⟨D,σ,W.tk tk (oU y),R⟩
theorem Yj{H a0 k u:Hp}{d:Nat}{T:List Dd}{E:Gt}{q f:Addr}{l fs:LA}(h:DuS K H a0 d T E q f l fs){i:Nat}{κ:SP'}(b9:∀(n:Nat)(e:(SP')×List Nat),E[n]?=some e->e.1≠κ){g p:Addr}(b0:Same a0 k)(a8:a0 g=none)(y:FsAt K k d T g κ)(J:upd k f (.lst (fs.map V.ref++[.ref g])) p=none)
  (I:u=upd (upd (upd k f (.lst (fs.map V.ref++[.ref g]))) p (.lst [.int (i:Int)])) q (.lst (l.map V.ref++[.ref p]))):DuS K H u d T (gtS E i κ) q f (l++[p]) (fs++[g]):=by
 have r:=h.up b0;obtain⟨M,b8⟩:=rM.mp h.nd;obtain⟨U,b6⟩:=rM.mp b8;obtain⟨d4,d0,d1⟩:=sI.mp b6;have a7:q≠f:=λz=>M (by rw[z];simp);have a3:f≠p:=λz=>by rw[←z,oQ]at J;cases J
 have v:k p=none:=by rw[oU (zW a3)]at J;exact J
 obtain⟨D,σ,b3,c9,c5,c6⟩:=y;obtain⟨d6,b5,d5⟩:=id b3;have b4:p≠g:=λz=>by rw[z,b5]at v;cases v
 have pq:p≠q:=λz=>by rw[z,r.eq]at v;cases v
 have old:∀x∈q:: f:: (l++fs),x≠g/\x≠p:=λx c=>by
  have:∃o,a0 x=some o:=by
   rcases xE.mp c with z|z
   ·rw[z];exact⟨_,h.eq⟩
   rcases xE.mp z with z|z
   ·rw[z];exact⟨_,h.ef⟩
   rcases pY.mp z with z|z
   ·obtain⟨j,N⟩:=yB z;obtain⟨O,_,w⟩:=nZ h.rows N;exact⟨_,w⟩
   ·obtain⟨j,N⟩:=yB z;obtain⟨O,_,_,_,⟨_,w,_⟩,_⟩:=nZ h.firsts N;exact⟨_,w⟩
  obtain⟨o,X⟩:=this;exact⟨(λz=>by rw[z,a8]at X;cases X),(λz=>by rw[z]at X;rw[b0 _ _ X]at v;cases v)⟩
 have G:=λx c=>(old x c).1;have op:=λx c=>(old x c).2;have W:q∈q:: f:: (l++fs):=.head _;have Y:f∈q:: f:: (l++fs):=.tail _ (.head _);have S:∀x∈l,x∈q:: f:: (l++fs):=λx c=>by simp[c]
 have Z:∀x∈fs,x∈q:: f:: (l++fs):=λx c=>by simp[c]
 have a1:∀x,x≠f->x≠p->x≠q->u x=k x:=λx a6 a4 c4=>by rw[I,oU c4,oU a4,oU a6]
 have d2:∀x∈l,u x=k x:=λx c=>a1 x (λz=>U (by rw[←z];simp[c])) (op x (S x c)) (λz=>M (by rw[←z];simp[c]));have c0:∀x∈fs,u x=k x:=λx c=>a1 x (λz=>U (by rw[←z];simp[c])) (op x (Z x c)) (λz=>M (by rw[←z];simp[c]));have c3:u g=k g:=a1 g (zW (G f Y)) (zW b4) (zW (G q W));have tk:TK K k u:=by
  have a9:TK K k (upd k f (.lst (fs.map V.ref++[.ref g]))):=TK.off r.ef (λ_ z=>by cases z) (λ_ _ z=>by cases z) λ_ a5=>oU a5;have b2:Same (upd k f (.lst (fs.map V.ref++[.ref g]))) (upd (upd k f (.lst (fs.map V.ref++[.ref g]))) p (.lst [.int (i:Int)])):=Same.new J;have b1:TK K (upd (upd k f (.lst (fs.map V.ref++[.ref g]))) p (.lst [.int (i:Int)])) u:=by
   rw[I];exact TK.off (o:=.lst (l.map V.ref)) (by rw[oU (zW pq),oU a7];exact r.eq) (λ_ z=>by cases z) (λ_ _ z=>by cases z) λ_ a5=>oU a5
  exact⟨λb xs z=>b1.k _ _ (b2 _ _ (a9.k _ _ z)),λb xs z=>b1.t _ _ (mH b2 _ _ (a9.t _ _ z))⟩
 have c7:gtS E i κ=E++[(κ,[i])]:=by
  unfold gtS;rw[zI];intro z;obtain⟨O,c2,C⟩:=pZ.mp z;obtain⟨j,N⟩:=yB c2;exact b9 j O N C
 rw[c7];have c8:H p=none:=gN r.s v;have d3:H g=none:=gN h.s a8;refine⟨?_,by rw[I,oQ,yM];rfl,by rw[I,oU (zW a7),oU a3,oQ,yM];rfl,?_,λx c=>?_,?_,?_⟩
 ·rw[I];refine Same.over (h.new q W) ?_;exact(Same.over (h.new f Y) r.s).trans (Same.new J)
 ·refine rM.mpr ⟨?_,rM.mpr ⟨?_,?_⟩⟩
  ·intro z;have L:q=f\/q∈l\/q=p\/q∈fs\/q=g:=by simpa [or_assoc]using z
   rcases L with z|z|z|z|z
   ·exact a7 z
   ·exact M (by simp[z])
   ·exact pq z.symm
   ·exact M (by simp[z])
   ·exact G q W z
  ·intro z;have L:f∈l\/f=p\/f∈fs\/f=g:=by simpa [or_assoc]using z
   rcases L with z|z|z|z
   ·exact U (by simp[z])
   ·exact a3 z
   ·exact U (by simp[z])
   ·exact G f Y z
  ·refine sI.mpr ⟨sI.mpr ⟨d4,by simp,λa y b F=>by rw[List.mem_singleton.mp F];exact op a (S a y)⟩,sI.mpr ⟨d0,by simp,λa y b F=>by rw[List.mem_singleton.mp F];exact G a (Z a y)⟩,λa y b F=>?_⟩;rcases pY.mp y with z|z
   ·rcases pY.mp F with w|w
    ·exact d1 a z b w
    ·rw[pW.mp w];exact G a (S a z)
   ·rw[pW.mp z];rcases pY.mp F with w|w
    ·exact zW (op b (Z b w))
    ·rw[pW.mp w];exact b4
 ·have L:x=q\/x=f\/x∈l\/x=p\/x∈fs\/x=g:=by simpa [or_assoc]using c
  rcases L with z|z|z|z|z|z
  ·rw[z];exact h.new q W
  ·rw[z];exact h.new f Y
  ·exact h.new x (S x z)
  ·rw[z];exact c8
  ·exact h.new x (Z x z)
  ·rw[z];exact d3
 ·refine vW (iU (nS r.rows) λm a b R a2=>?_) ?_
  ·obtain⟨O,C,z⟩:=nZ r.rows R;rw[a2]at C;cases C;exact(d2 a (zqb R)).trans z
  ·show u p=_;rw[I,oU pq,oQ];rfl
 ·refine vW (iU (nS r.firsts) λm a b R a2=>?_) ⟨D,σ,b3.tk tk c3,c9,c5,c6⟩;obtain⟨O,C,b7,c1,a6,a4⟩:=nZ r.firsts R;rw[a2]at C;cases C;exact⟨b7,c1,a6.tk tk (c0 a (zqb R)),a4⟩
theorem ok_11(T:Txt K mg t):FnOk P w K mg base CX0 4 t.a_11 t.d_11 pe' (sp_11 K):=by
 have d5:=@ok_z P w K mg base t T;have i7:=@ok_d P w K mg base t T;apply T.F_11.ok sc_11
 ·have i5:=hr.units;obtain⟨r,l,ps,d1,ks,srt,d,rfl,e0,e5,i6,l3,k7,f1,l5,c4,G,f4,g6,f5⟩:=h;have f7:ps.length=d1.length:=nS e5;have l8:∀x∈srt.map (·.1),MbOk d x:=λx W=>by
   obtain⟨y,b7,rfl⟩:=pZ.mp W;exact f1 y b7
  refine⟨_,(oM (oX (i:=2) sc_11.nd rfl (Or.inl rfl) (lH oK))
   (oM (oX (i:=3) sc_11.nd rfl (Or.inl rfl) (lH oK))
   (oM (lC yF rfl (hZ rfl T.z_enumerate (oJ (pq 0) oK)) (lR rfl (nO (nL (i:=4) sc_11.nd rfl (Or.inl rfl)) (nO (nL (i:=5) sc_11.nd rfl (Or.inr rfl)) lQ)))
   (oM (oX (i:=6) sc_11.nd rfl (Or.inl rfl) (iV iW oR))
   (oM (lC yF rfl (hZ rfl T.z_enumerate (oJ (pq 3) oK)) (lR rfl (nO (nL (i:=7) sc_11.nd rfl (Or.inl rfl)) (nO (nL (i:=8) sc_11.nd rfl (Or.inl rfl)) lQ)))
   (oO (nV (nN (Tj i5) (oS d5 hr.mo T.F_z (oJ (pq 5) oK)) (pq 8) rfl)
   (oO (oX (i:=6) sc_11.nd rfl (Or.inl rfl) (pq 7)))
   mB)))
   (oO (nV (nN lZ (pq 6) (iV iW oR) (nM _))
   (oM (lP (iK xA xL xK jY (pq 3) (oJ (nP (sc:=oN s_11) (N:=N_11) (fr:=[("_law_spot",5)]) (te:=(mJ (sp_z K) [] E0 (oW (mJ (sp_d K) [] E0 (oW (tVar 0) (oW (tVar 1) tNil))) tNil))) rfl rfl (nofun) rfl (nofun) (nE (pq 1)) (λ_ _ _ l4=>(oS d5 hr.mo T.F_z (oJ (oS i7 hr.mo T.F_d (oJ (pv 0) (oJ (pv 1) oK))) oK)))) oK)))
   (oO (lP (iK xA xL xK jY (pq 2) (oJ (lH (oJ (pq 4) oK)) oK)))))
   (oO (lP (iK xA xL xK jY (mC ix_B (pq 2) (pq 6) (λ_ _=>rfl)) (oJ (pq 4) oK)))))))))
   (oO (nB (pq 2)))))),?_⟩
  show tSeq _ _ _ [some (.ref r),some (.ref l),none,none,none,none,none,none,none] H;right;refine⟨by show 0<=sizeLine;decide,λq c3=>?_⟩;have a2:Same H (upd H q (.lst [])):=Same.new c3;have a1:(upd H q (.lst [])) q=some (.lst (([]:LA).map V.ref)):=oQ;generalize upd H q (.lst [])=a5 at a2 a1;left;refine⟨by show 0<=sizeLine;decide,λf b6=>?_⟩;have a0:Same a5 (upd a5 f (.lst [])):=Same.new b6;have e4:(upd a5 f (.lst [])) f=some (.lst (([]:LA).map V.ref)):=oQ;generalize upd a5 f (.lst [])=l2 at a0 e4;have c9:q≠f:=λz=>by rw[z,b6]at a1;cases a1
  have g3:H f=none:=gN a2 b6;subst e1;refine st λN1 e1=>lF λB eB=>?_;simp only[iN];ext;refine⟨false,⟨_,SqB.lst ((a2.trans a0) _ _ e0)⟩,?_⟩;refine fT (g:=gTup K 2 (nR (oV 4) (nR (oV 5) gNil))) (tb:=B) (DuI K H d (srt.map (·.1)) ks r l q f)
   ⟨[],[],none,none,none,none,none,rfl,⟨a2.trans a0,a0 _ _ a1,e4,by simpa using c9,λp b3=>by
    rcases xE.mp b3 with z|z
    ·rw[z];exact c3
    ·rw[pW.mp z];exact g3,.nil,.nil⟩⟩ (λi M H' _⟨_,_,_,_,_,_,_,_,h⟩=>SqB.lst (h.s _ _ e0)) ?_ ?_
  ·rintro i y p M b5 b1 ⟨k,fs,h6,j8,d6,O,N,rfl,o⟩ k9;obtain⟨sp,k3,rfl⟩:=mX b1;obtain⟨σ,a9,e7⟩:=nZ e5 k3;have c:=i6 σ (zqb a9);have hi:i<d1.length:=(zqa a9).1;obtain⟨κ,e6⟩:=kH f4 hi;have f0:=g6 i σ κ a9 e6;have e3:=fH e6;have h2:=Same.new (o:=.tup [.int (i:Int),.ref sp]) k9;refine⟨p,[.int i,.ref sp],rfl,SqT.of oQ,rfl,_,[.ref sp],rfl,_,[],rfl,rfl,?_⟩;have a6:=o.up h2;generalize upd b5 p (.tup [.int (i:Int),.ref sp])=k4 at*
   clear o;have f6:k.length=(gtN ks i).length:=nS a6.rows;have h0:fs.length=(gtN ks i).length:=nS a6.firsts;have m1:=dB (ks:=ks) i;subst eB;show tSeq _ _ _ [some (.ref r),some (.ref l),some (.ref q),some (.ref f),some (.int i),some (.ref sp),d6,O,N] k4;refine st λi4 c0=>?_;ext;subst c0;refine st λi4 c0=>lF λB eB=>?_;simp only[iN];ext;refine⟨false,⟨_,SqB.lst a6.ef⟩,?_⟩;refine fT (g:=gTup K 2 (nR (oV 7) (nR (oV 8) gNil))) (tb:=B) (DuJ K H d (srt.map (·.1)) (gtN ks i) κ r l q f sp k fs i)
    ⟨-1,O,N,rfl,a6,.inl ⟨rfl,λn e h=>absurd h (tQ n)⟩⟩ (λj M H' _⟨_,_,_,_,h,_⟩=>SqB.lst h.ef) ?_ ?_
   ·rintro j y e2 M b8 j2 ⟨b2,O,N,rfl,g,Z⟩ k5;obtain⟨X,i9,rfl⟩:=mX j2;have h7:=Same.new (o:=.tup [.int (j:Int),.ref X]) k5;refine⟨e2,[.int j,.ref X],rfl,SqT.of oQ,rfl,_,[.ref X],rfl,_,[],rfl,rfl,?_⟩;have a3:=g.up h7;generalize upd b8 e2 (.tup [.int (j:Int),.ref X])=u at*
    clear g;obtain⟨e,U,D,m0,g8,c6,j5,k2⟩:=nZ a3.firsts i9;subst eB;show tIfS _ _ _ _ [some (.ref r),some (.ref l),some (.ref q),some (.ref f),some (.int i),some (.ref sp),some (.int b2),some (.int j),some (.ref X)] u;ext;refine⟨sp,σ.1,σ.2,rfl,(e7.upS a3.s).s,by rw[c.len];omega,c.pos,λj6 d3 Y j7=>?_⟩;have f2:Dt K d3 (.ref j6) (plO (act d σ (nK d))):=by rw[Yl c4 c.len c.pos c.low];exact PlS.dt j7.s
    have f9:=Yz G c.len c.pos c6.len c6.pos f0 j5;refine Ym (b:=decide (κ=e.1)) (g8.up Y) f2 (by rw[k2,f9,decide_eq_true_iff]) ?_
    try ext
    refine ite2 (λh=>?_) λh=>?_
    ·have c1:=yP h;exact⟨(j:Int),_,_,rfl,a3.up Y,.inr ⟨j,e,vJ j,rfl,U,c1.symm⟩⟩
    ·have c1:¬ κ=e.1:=λz=>h (zL z);refine⟨b2,_,_,rfl,a3.up Y,?_⟩;rcases Z with⟨J,C⟩|⟨n,a4,J,C,R,b4⟩
     ·refine .inl ⟨J,λn a4 l6 I=>?_⟩
      by_cases z:n=j
      ·subst z;rw[U]at I;cases I;exactλz=>c1 z.symm
      ·exact C n a4 ⋯ I
     ·exact .inr ⟨n,a4,⋯,C,R,b4⟩
   ·rintro M b8 ⟨b2,O,N,rfl,g,Z⟩;rw[zqe,h0]at Z;subst c0;ext;rcases Z with⟨J,C⟩|⟨n,e,J,C,R,b4⟩
    ·subst J;rw[zL rfl];refine iteT ⟨tyL g.ef,?_⟩;exfalso;obtain⟨h5,d8,d9⟩:=id (k7.up g.s);have lo:h5.length=srt.length:=nS d9;refine⟨false,⟨_,SqB.lst d8⟩,λS c7=>?_⟩;refine nQ (λj y H'=>∃(p:Addr)(x:Dd×List Nat),y=V.ref p/\srt[j]?=some x/\nI (offH S H') p (nX (mvU σ x.1) (mvT σ x.1)) (mvU σ x.1)) c7 (SqB.lst d8) (by rw[zqe];omega) (λ_ _ _ _⟨f8,g1,b0,a8,c5⟩k0=>⟨f8,g1,b0,a8,c5.upS (cN k0)⟩) ?_ ?_
     ·intro j y u zs b1 L h4 j4 h3;obtain⟨d4,g0,rfl⟩:=mX b1;obtain⟨x,a7,h1⟩:=nZ d9 g0;have F:=f1 x (zqb a7);have mo:=Ee c4 c F;have l1:=F.le;have h9:=F.pos;have i2:nY 7 x.1.2.1:=λz g9=>by have:=F.bt z g9;have e:(2:Nat)^7=128:=rfl;omega
      subst eB;show mJ _ _ _ _ [some (.ref d4),some (.ref sp)] u j4;ext;refine⟨d4,sp,x.1,σ.1,σ.2,d,rfl,(Ac h1).up L,(e7.upS (g.s.trans L)).s,F.sq,c4,F.len,c.len,F.bm.le ∅,i2.le ∅,c.bits.le ∅,h9,⋯,c.pos,pK c.le (nofun),λi0 d3 Y j3=>?_⟩;refine⟨i0,mvT σ x.1,mvU σ x.1,rfl,nI.s j3,by rw[mo.len];omega,mo.pos,λk6 l9 j0 l0=>?_⟩;have d0:=Y.trans j0;obtain⟨z,h8,i8⟩:=l0;have tk:=fC (K:=K) (d0 _ _ h4);exact h3 _ _ d0 ⟨k6,x,rfl,a7,z,tk.k _ _ h8,tk.k _ _ i8⟩
     intro u ys L i1 j9 j1;obtain⟨k1,rfl,e9⟩:=iR (F:=λp(x:Dd×List Nat)=>Dt K u (.ref p) (plO (act d σ x.1))) (D:=srt) (ys:=ys) (by rw[j9,zqe,lo]) λj y f3=>by
      obtain⟨g7,x,b0,a8,c5⟩:=j1 j y f3;exact⟨g7,x,b0,a8,by rw[Ef];exact PlS.dt (c5.upS cM).s⟩
     have i3:FsAt K u d (srt.map (·.1)) S κ:=by
      refine⟨srt.map λx=>act d σ x.1,σ,⟨k1,i1,?_⟩,c,f0,λv=>?_⟩
      ·refine iU (by rw[zqe];exact nS e9) λm a b k8 b9=>?_;rw[zC]at b9;obtain⟨x,a7,z⟩:=nZ e9 k8;rw[a7]at b9;cases b9;exact z
      ·rw[pZ];constructor
       ·rintro⟨x,W,rfl⟩;exact⟨x.1,pZ.mpr ⟨x,W,rfl⟩,rfl⟩
       ·rintro⟨x,W,rfl⟩;obtain⟨y,b7,rfl⟩:=pZ.mp W;exact⟨y,b7,rfl⟩
     have g5:=L _ _ g.ef;refine⟨f,_,_,rfl,rfl,g5,by rw[zqe];exact yA (show fs.length+1<=1000 by omega) ∅,?_⟩;have g2:q≠f:=c9;have e8:(upd u f (.lst (fs.map V.ref++[.ref S]))) q=some (.lst (k.map V.ref)):=by rw[oU g2];exact L _ _ g.eq
     refine⟨tyL e8,by show 1<=sizeLine;decide,λc8 d7=>?_⟩;have g4:(upd (upd u f (.lst (fs.map V.ref++[.ref S]))) c8 (.lst [.int (i:Int)])) q=some (.lst (k.map V.ref)):=(Same.new d7) _ _ e8;refine⟨q,_,_,rfl,rfl,g4,by rw[zqe];exact yA (show k.length+1<=1000 by omega) ∅,?_⟩;refine⟨k++[c8],fs++[S],_,_,_,_,_,rfl,?_⟩;rw[e3];exact Yj g (λn e I=>C n e (zqa I).1 I) L c7 i3 d7 rfl
    ·subst C;rw[zP ⋯];refine iteF ?_;obtain⟨d2,c2⟩:=kH f6 J;have row:b8 d2=some (.lst (e.2.map λn=>V.int (n:Nat))):=by
      obtain⟨a4,U,z⟩:=nZ g.rows c2;rw[R]at U;cases U;exact z
     refine fD (i:=n) g.eq (by rw[zC,c2];rfl) rfl ⟨tyL row,?_⟩;have l7:=(dC (ks:=ks) i e (zqb R)).1;refine⟨d2,_,_,rfl,rfl,row,by rw[zqe];exact yA (show e.2.length+1<=1000 by omega) ∅,?_⟩;refine⟨k,fs,_,_,_,_,_,rfl,?_⟩;rw[e3];exact Yk g (bD i) R b4 c2
  ·rintro M b5 ⟨k,fs,h6,j8,d6,O,N,rfl,o⟩;rw[zqe,f7]at o;symm;exact f5 q k b5 o.s c3 o.eq (λp b3=>o.new p (by simp[b3])) o.rows
theorem Yi{d:Nat}{T c:List Dd}(G:Grp d T)(p:c.Perm T):Grp d c:=
 ⟨G.dim,p.nodup_iff.mpr G.nd,λx a=>G.rs x (p.mem_iff.mp a),p.mem_iff.mpr G.one,λx a y b=>p.mem_iff.mpr (G.mul x (p.mem_iff.mp a) y (p.mem_iff.mp b)),λx a=>by
  obtain⟨y,b,e⟩:=G.inv x (p.mem_iff.mp a);exact⟨y,p.mem_iff.mpr b,e⟩⟩
theorem Yh{d:Nat}{T b:List Dd}{σ κ:SP'}(h:∀x,x∈b↔x∈T)(k:jA d b σ κ):jA d T σ κ:=by
 have o:∀v,Orb d b σ v↔Orb d T σ v:=λv=>⟨λ⟨x,a,e⟩=>⟨x,(h x).mp a,e⟩,λ⟨x,a,e⟩=>⟨x,(h x).mpr a,e⟩⟩;exact⟨(o _).mp k.mem,λv c=>k.least v ((o v).mpr c)⟩
theorem Mc{d:Nat}{T:List Dd}{c ks e:List (SP')}(l1:ks.length=c.length)(l2:e.length=c.length)(g:∀(i:Nat) σ κ,c[i]?=some σ->ks[i]?=some κ->jA d T σ κ)(f:∀(i:Nat) σ κ,c[i]?=some σ->e[i]?=some κ->jA d T σ κ):ks=e:=by
 refine xY ⋯ λi a b=>?_;have hi:i<c.length:=⋯
 exact key_one (g i _ _ (zqd hi) (zqd a)) (f i _ _ (zqd hi) (zqd b)) λv=>Iff.rfl
noncomputable def rowD(e:(SP')×List Nat):PyData:=.list (e.2.map λn=>PyData.int (n:Nat))
theorem dD{H:Hp}{r:Addr}{b:LA}{E:Gt}(a:H r=some (.lst (b.map V.ref)))(d:Paired (GtR H) b E):Dt K H (.ref r) (.list (E.map rowD)):=by
 refine .lst (SqL.of a) ?_;clear a
 induction d with
 |nil=>exact .nil
 | @cons p e _ _ h _ f =>
  refine .cons ?_ f;have:Dt K H (.ref p) (kU false (e.2.map λn=>((n:Nat):Int))):=Dt.intsB (b:=false) (SqB.lst (by rw[xI];exact h));have c:kU false (e.2.map λn=>((n:Nat):Int))=rowD e:=by
   show PyData.list ((e.2.map λn=>((n:Nat):Int)).map PyData.int)=_;rw[xI];rfl
  rw[←c];exact this
theorem dE(E:Gt):iT 3 (.list (E.map rowD))=true:=by
 show(E.map rowD).all (iT 2)=true;rw[wI];intro d a;obtain⟨e,_,rfl⟩:=pZ.mp a;show(e.2.map λn=>PyData.int (n:Nat)).all (iT 1)=true;rw[wI];intro d a;obtain⟨i,_,rfl⟩:=pZ.mp a;rfl
structure MutS(H8 H':Hp)(r hd q:Addr)(ps rs rs2:LA)(E:Gt)(i:Nat):Prop where
 s:Same H8 H'
 er:H' r=some (.lst (rs.map V.ref))
 eh:H' hd=some (.lst (ps.map V.ref))
 rows:∀p∈rs,∃xs,H' p=some (.lst xs)/\xs.length<=20+i
 eq:H' q=some (.lst (rs2.map V.ref))
 rows2:Paired (GtR H') rs2 E
theorem MutS.write{a H':Hp}{r b q p:Addr}{ps f c:LA}{E:Gt}{i:Nat}{xs:List V}{v:V}(h:MutS a H' r b q ps f c E i)(j:a p=none)(k:p≠r)(l:p≠b)(n:p≠q)(y:p∉c)(F:xs.length<=20+i):MutS a (upd H' p (.lst (xs++[v]))) r b q ps f c E (i+1):=by
 refine⟨Same.over j h.s,by rw[oU (zW k)];exact h.er,by rw[oU (zW l)];exact h.eh,λx u=>?_,by rw[oU (zW n)];exact h.eq,iU (nS h.rows2) λm x e g o=>?_⟩
 ·by_cases z:x=p
  ·subst z;exact⟨_,oQ,by rw[zS];show xs.length+1<=20+(i+1);omega⟩
  ·obtain⟨ys,e1,D⟩:=h.rows x u;exact⟨ys,by rw[oU z];exact e1,⋯⟩
 ·obtain⟨C,d,z⟩:=nZ h.rows2 g;rw[o]at d;cases d;show(upd H' p _) x=_;rw[oU (λw=>y (by rw[←w];exact zqb g))];exact z
theorem ok_1s(T:Txt K mg t):FnOk P w K mg base CX0 18 t.a_1s t.d_1s pE' (Gb K):=by
 have s0:=@ok_l P w K mg base t T;have s5:=@ok_j P w K mg base t T;have p1:=@ok_f P w K mg base t T;have u2:=@ok_0 P w K mg base t T;have r0:=@ok_2 P w K mg base t T;have q3:=@ok_i P w K mg base t T;have g3:=@ok_x P w K mg base t T;have v5:=@ok_y P w K mg base t T;have v0:=@ok_11 P w K mg base t T;have o5:=@ok_1e P w K mg base t T;have t4:=@ok_7 P w K mg base t T;apply T.F_1s.ok sc_1s
 ·have d1:=hr.units;obtain⟨a,ns,rfl,c6,y5,x5,o7⟩:=h;have g4:SqB false K H a (ns.map V.int):=c6;refine⟨_,(oM (oX (i:=1) sc_1s.nd rfl (Or.inl rfl) (oS s0 hr.mo T.F_l (oJ (pq 0) oK)))
   (oM (oX (i:=2) sc_1s.nd rfl (Or.inl rfl) (oS s5 hr.mo T.F_j (oJ (dJ sl_B (pq 0) (iY oR) (iY (oP mY oR (oP mL (oP lD (oS p1 hr.mo T.F_f (oJ (pq 0) (oJ oR oK))) oR) oR)))) (oJ (pq 1) oK))))
   (oM (oX (i:=3) sc_1s.nd rfl (Or.inl rfl) (Bs (C:=t.a_b) (T.mk_b) u2 hr.mo rfl T.m_b T.bd_Group___init__ (dvs:=[.int 200]) (.cons ⟨_,rfl⟩ .nil) kM (oJ (nU T.z_len (oT (oT (pq 1)))) (oJ (pq 2) oK))))
   (oM (oX (i:=4) sc_1s.nd rfl (Or.inl rfl) (gR (C:=t.a_b) (pq 3) T.cl_b T.me_2 r0 hr.mo T.b_2 .nil kM))
   (oM (oX (i:=5) sc_1s.nd rfl (Or.inl rfl) (oS q3 hr.mo T.F_i (oJ (dJ sl_B (pq 0) (iY oR) (iY oR)) (oJ (pq 4) (oJ (pq 1) oK)))))
   (oM (oX (i:=6) sc_1s.nd rfl (Or.inl rfl) (mP gC rfl T.z_list (nofun) (oJ (pq 5) oK)))
   (oM (oX (i:=7) sc_1s.nd rfl (Or.inl rfl) (oS g3 hr.mo T.F_x (oJ (pq 3) (oJ (pq 6) oK))))
   (oM (nV (PW.pt (fM (nN (bQ d1) (pq 6) (pq 5) (nM _)) (fL (By (fK (lJ bU rfl T.z_isinstance (nofun) (oJ (pq 7) (oJ (bG (v:=.ty "list") rfl T.z_list (nofun) rfl) oK))))))))
   (oO (nB bE))
   mB)
   (oM (lC yF rfl (nE (pq 7)) (nL (i:=8) sc_1s.nd rfl (Or.inl rfl))
   (oO (nV (PW.pt (fM (By (fK (lJ bU rfl T.z_isinstance (nofun) (oJ (pq 8) (oJ (bG (v:=.ty "list") rfl T.z_list (nofun) rfl) oK))))) (fL (nN (bQ d1) (kQ (xs:=["_law_number"]) (fr:=[]) (g:=(oV 0)) (tt:=(iM (tNot (tB (mJ (sp_y) [] E0 (oW (tVar 0) tNil)))) (tVar 0))) (lL (sc:=oN s_1s) (N:=N_1s) rfl rfl (nofun)) rfl (nE (pq 8)) (λ_ _ _ a1=>(kR (N:=["_law_number"]) (i:=0) a1 rfl (nofun))) (λ_ _ _ a1=>(Hz (By (fK (oS v5 hr.mo T.F_y (oJ (pv 0) oK)))) (pv 0)))) (lH oK) (nM _)))))
   (oO (nB bE))
   mB)))
   (oM (oX (i:=9) sc_1s.nd rfl (Or.inl rfl) (oS v0 hr.mo T.F_11 (oJ (pq 5) (oJ (pq 4) oK))))
   (oM (nV (nN (bQ d1) (pq 7) (pq 9) (nM _))
   (oO (nB bE))
   mB)
   (oM (lC yF rfl (nE (pq 7)) (nL (i:=8) sc_1s.nd rfl (Or.inl rfl))
   (oO (lP (iK xA xL xK jY (pq 8) (oJ oR oK)))))
   (oM (lP (Gq xA PySem.F.slot_list_clear PySem.F.type_list_clear Gn (pq 7)))
   (oM (lP (Gq xA PySem.F.slot_list_clear PySem.F.type_list_clear Gn (pq 6)))
   (oM (nV (nN (bQ d1) (oS g3 hr.mo T.F_x (oJ (pq 3) (oJ (mP kJ rfl T.z_tuple (nofun) (oJ (pq 5) oK)) oK))) (pq 9) (nM _))
   (oO (nB bE))
   mB)
   (oM (oX (i:=10) sc_1s.nd rfl (Or.inr rfl) (nU T.z_len (oT (oT (pq 1)))))
   (oM (gS (i:=11) (xs:=["_law_i"]) (fr:=[("_law_d",10)]) (g:=(oV 0)) (tt:=(tEl (tTup (oW (tCB (gT K) (oW (mE (mD (oW (tVar 1) tNil)) (oV 0) (tEl (tCB (λxs H Q=>(∃i,xs=[.int i]/\Q (.int i) H)\/∃k,xs=[.bl k]/\Q (.int (if k then 1 else 0)) H) (oW (tOp (rI0 λi j=>.bl (decide (i=j))) (tVar 1) (tVar 0)) tNil))) 1 [("_law_i",0)]) tNil)) (oW (tC (.int 1)) tNil))))) (lL (sc:=oN s_1s) (N:=N_1s) rfl rfl (nofun)) rfl sc_1s.nd rfl rfl (mU rfl T.z_range (oJ (pq 10) oK)) (λ_ _ _ a1=>(jC (N:=["_law_i","_law_d"]) (i:=0) a1 rfl (nofun) rfl)) (λ_ _ _ a1=>(lU (mO (oJ (mP kJ rfl T.z_tuple (nofun) (oJ (nP (N:=["_law_i","_law_d"]) (fr:=[("_law_i",0)]) (te:=(tCB (λxs H Q=>(∃i,xs=[.int i]/\Q (.int i) H)\/∃k,xs=[.bl k]/\Q (.int (if k then 1 else 0)) H) (oW (tOp (rI0 λi j=>.bl (decide (i=j))) (tVar 1) (tVar 0)) tNil))) a1 rfl (nofun) rfl (nofun) (mU rfl T.z_range (oJ (pv 1) oK)) (λ_ _ _ x7=>(mP Bv rfl T.z_int (nofun) (oJ (gP lZ (pv 1) (pv 0) (nM _)) oK)))) oK)) (oJ oR oK))))))
   (oO (nB (gP (Ge d1) (oS g3 hr.mo T.F_x (oJ (jW t4 hr.mo rfl T.m_7 T.F_7.kp T.bd_changed (dvs:=[.int 200]) (.cons ⟨_,rfl⟩ .nil) kM (oJ (pq 3) (oJ (oS o5 hr.mo T.F_1e (oJ (pq 11) (oJ (mO (oJ (mP kJ rfl T.z_tuple (nofun) (oJ (nP (sc:=oN s_1s) (N:=N_1s) (fr:=[]) (te:=(tC (.int 0))) rfl rfl (nofun) rfl (nofun) (mU rfl T.z_range (oJ (pq 10) oK)) (λ_ _ _ a1=>oR)) oK)) (oJ oR oK))) oK))) oK))) (oJ (pq 5) oK))) (pq 9) (nM _))))))))))))))))))))),?_⟩
  show tSeq _ _ _ [some (.ref a),none,none,none,none,none,none,none,none,none,none,none] H;right;refine⟨a,ns,rfl,c6,λR k p c5 c4 d0 e6 h1 n8 ok=>?_⟩;have b8:=kC k;left;refine⟨a,ns,2,rfl,g4.up h1,∅,?_⟩;generalize ns.getD (Int.toNat 2) 0=n7
  try ext
  refine⟨⟨∅,∅⟩,∅,?_⟩;refine⟨false,a,_,rfl,g4.up h1,(by intro e;cases e),λU q6=>?_⟩;rw[dS];have z1:=fms (n7.fdiv 12) 4 ∅;obtain⟨m0,q8⟩:=xQ (show 0<=3+(n7.fdiv 12).fmod 4 by omega);rw[q8];have j7:((ns.drop (HT.sIx ns.length 0 (some 3))).take (HT.sIx ns.length ns.length (some (m0:Int))-HT.sIx ns.length 0 (some 3))).length<=3:=by
   rw[xF,show((3:Int))=((3:Nat):Int) from rfl,HT.sIx_nat,HT.sIx_nat];omega
  generalize (ns.drop (HT.sIx ns.length 0 (some 3))).take (HT.sIx ns.length ns.length (some (m0:Int))-HT.sIx ns.length 0 (some 3))=cs at j7;have k7:(upd e6 U (seqO false (cs.map V.int))) U=some (.lst (cs.map V.int)):=oQ;have e2:Same e6 (upd e6 U (seqO false (cs.map V.int))):=Same.new q6;generalize upd e6 U (seqO false (cs.map V.int))=x2 at k7 e2;refine⟨false,U,R,cs,k,p,c5,c4,d0,rfl,SqB.lst k7,j7,n8.up e2,ok,λmk u3 ms i2 n4 s6 r3 c7 y7=>?_⟩;have i6:=n8.up (e2.trans n4);obtain⟨lq,sp,o8,O,Y,e4,f3⟩:=id i6;have okF:=ok.frm;have m9:∀s∈ms.map oZ,InF (frm k p c5 c4 d0) s:=λs a5=>by
   obtain⟨m,a8,rfl⟩:=pZ.mp a5;exact(c7 m a8).2
  have tb:=dA okF m9 192;left;simp only[bO];ext;refine⟨true,R,_,_,_,rfl,rfl,SqB.tup O,rfl,true,sp,_,_,_,rfl,rfl,SqB.tup e4,rfl,?_⟩;refine lO (SqB.lst f3) ?_;rw[ok.lS]
  try ext
  intro g h6 l8 q4 r1;have e7:Same i2 (upd (upd i2 h6 (.own g)) g (.ins t.a_b h6 [])):=(Same.new q4).trans (Same.new (by rw[oU (zW r1)];exact l8));refine⟨false,famD k,mk,g,h6,u3,ms,InF (frm k p c5 c4 d0),192,rfl,oQ,b8,SqB.lst (e7 _ _ s6),Paired.mapP r3 λ_ _ z=>z.up e7,⋯,λs a5=>(c7 s a5).1,λs a5=>(fG ok (c7 s a5).2).1,λx d=>(fG ok d).1,cV okF,λx s d a5=>Af okF d (c7 s a5).2,
   yA tb.1 ∅,tb.1,λy M=>(fG ok (tb.2 y M)).1,cT,λsrt n1 k9 f1 b3=>⟨rfl,?_⟩⟩
  have j9:Same i2 n1:=λb o e=>k9 b o (λz=>by rw[z,l8]at e;cases e) (e7 _ _ e);have z7:srt.length<=192:=by rw[b3.length_eq];exact tb.1
  have a8:∀y∈srt,MbOk (famD k) y.1:=λy M=>Mv ok (tb.2 y (b3.mem_iff.mp M));have f9:0<srt.length:=by rw[b3.length_eq];exact List.length_pos_of_mem eW
  have x3:nK (famD k)∈srt.map (·.1):=(b3.map (·.1)).mem_iff.mpr (pZ.mpr ⟨_,eW,rfl⟩);have l6:SqB false K n1 a (ns.map V.int):=g4.up (((h1.trans e2).trans n4).trans j9);have g7:=i6.up j9;clear e7 O Y e4 f3 i6 k9;left;simp only[jK];ext;obtain⟨r4,x4,x8,z5,y9,s1,_⟩:=id f1;refine⟨r4,_,s1,rfl,g,famD k,ms,srt,rfl,f1,λl q9 d5 i9 z2 hl k4=>?_⟩;have j2:fI K d5 l srt:=⟨q9,hl,k4⟩;clear hl k4;left;refine⟨false,a,_,rfl,l6.up i9,(by intro e;cases e),λd2 t5=>?_⟩;rw[dS];have j6:((ns.drop (HT.sIx ns.length 0 (some 14))).take (HT.sIx ns.length ns.length (some 22)-HT.sIx ns.length 0 (some 14))).length<=8:=by
   rw[xF,show((14:Int))=((14:Nat):Int) from rfl,show((22:Int))=((22:Nat):Int) from rfl,HT.sIx_nat,HT.sIx_nat];omega
  generalize (ns.drop (HT.sIx ns.length 0 (some 14))).take (HT.sIx ns.length ns.length (some 22)-HT.sIx ns.length 0 (some 14))=c8 at j6;have l4:(upd d5 d2 (seqO false (c8.map V.int))) d2=some (.lst (c8.map V.int)):=oQ;have f5:Same d5 (upd d5 d2 (seqO false (c8.map V.int))):=Same.new t5;generalize upd d5 d2 (seqO false (c8.map V.int))=y1 at l4 f5;have n9:=i9.trans f5;refine⟨false,d2,l,R,c8,k,p,c5,c4,d0,srt,rfl,SqB.lst l4,j6,j2.up f5,a8,f9,⋯,g7.up n9,ok,λX ps v G m7 z4 d9 d8 e9 e5=>?_⟩;have l3:=f5.trans m7;have j0:=(f1.up i9).up l3;have o0:=j2.up l3;have w7:=g7.up (n9.trans m7);have n3:Grp (famD k) (srt.map (·.1)):=Yi (Le okF m9 (N:=192) (zE _)) (b3.map _);clear j2 g7 l6 f1;left;refine⟨false,X,_,rfl,SqB.lst d9,λc l0=>?_⟩;have b9:Same G (upd G c (.lst (ps.map V.ref))):=Same.new l0;have b7:(upd G c (.lst (ps.map V.ref))) c=some (.lst (ps.map V.ref)):=oQ;generalize upd G c (.lst (ps.map V.ref))=aa at b9 b7;have k6:=d8.up b9;left;refine⟨false,g,c,famD k,ms,srt,ps,v,rfl,j0.up b9,b8,a8,f9,⋯,SqB.lst b7,k6,e9,e5,λr ks b0 u1 f4 g1 h2 g6 a4 u9 j4=>?_⟩;have i4:=b9.trans f4;have wide:=dC (ks:=ks) v.length;have x9:b0.length=(gtN ks v.length).length:=nS j4;have x6:=dB (ks:=ks) v.length;left;refine aD 4 ∅ (Aa (f4 _ _ b7) (k6.up f4)) (Aa (i4 _ _ d9) (d8.up i4)) (Bz _) (Bz _) (b:=true) (by simp) ?_
  try ext
  refine⟨_,_,_,_,rfl,.ty (.lst a4),rfl,T.h_g,_,rfl,?_⟩;ext;subst e1;refine st λN1 e1=>lF λB eB=>?_;simp only[iSeq];ext;refine⟨false,⟨_,SqB.lst a4⟩,?_⟩;refine kX (b:=false) (g:=oV 8) (tb:=B) (λi I H'=>∃Z:Option V,I=[some (.ref a),some (.ref R),some (.ref mk),some (.ref g),some (.ref l),some (.ref X),some (.ref c),some (.ref r),Z,none,none,none]/\Same u1 H') ⟨none,rfl,Same.refl _⟩ (λi I H' _⟨_,_,s⟩=>SqB.lst (s _ _ a4)) ?_ ?_
  ·rintro i y I c2 a0 ⟨Z,rfl,a9⟩;obtain⟨a6,d7,rfl⟩:=mX a0;obtain⟨e,d4,p0⟩:=nZ j4 d7;have l5:=a9 _ _ p0;have x1:=(wide e (zqb d4)).1;have c6:SqB false K c2 a6 ((e.2.map λn=>((n:Nat):Int)).map V.int):=SqB.lst (by rw[xI];exact l5);subst eB;show tIfS _ _ _ _ [some (.ref a),some (.ref R),some (.ref mk),some (.ref g),some (.ref l),some (.ref X),some (.ref c),some (.ref r),some (.ref a6),none,none,none] c2;ext;refine⟨_,_,_,_,rfl,.ty (.lst l5),rfl,T.h_g,_,rfl,?_⟩;ext;refine Hq λC B t3 eB=>?_;simp only[iSeq];ext;refine⟨false,⟨_,c6⟩,λi8 h7=>?_⟩;subst t3;subst eB;refine Xp h7 c6 (by rw[zqe];omega) λf0 N w2=>?_;refine⟨∅,λo4 w4=>?_⟩;have n5:Same f0 (upd f0 o4 (.lst [])):=Same.new w4;exact aD 1 ∅ (Dt.intsB (b:=false) (ns:=[]) (SqB.lst (n5 _ _ w2))) (Dt.intsB (b:=false) (ns:=[]) (SqB.lst oQ)) (Bb _ _ _) (Bb _ _ _) (b:=true) (by simp) ⟨_,rfl,iteF ((a9.trans N).trans n5)⟩
  ·rintro I c2 ⟨Z,rfl,a9⟩;have f6:=i4.trans a9;have g5:=Paired.mapP j4 λ_ _ z=>a9 _ _ z;have d6:=a9 _ _ a4;left;refine⟨X,l,ps,v,ks,srt,famD k,rfl,f6 _ _ d9,d8.up f6,e9,e5,o0.up f6,a8,⋯,b8,n3,g1,h2,λq J f0 N j3 m8 g8 n0=>?_⟩;left;refine aD 3 ∅ (dD (N _ _ d6) (Paired.mapP g5 λ_ _ z=>N _ _ z)) (dD m8 n0) (dE _) (dE _) (b:=true) (by simp) ?_
   try ext
   subst e1;refine st λN1 e1=>lF λB eB=>?_;simp only[iSeq];ext;have q0:∀x,x∈b0->∃o,c2 x=some o:=λx d=>by
    obtain⟨j,F⟩:=yB d;obtain⟨_,_,z⟩:=nZ g5 F;exact⟨_,z⟩
   have e0:c2 c=some (.lst (ps.map V.ref)):=a9 _ _ (f4 _ _ b7);have t1:G r=none:=gN b9 g6;have v1:r≠c:=λz=>by rw[z,b7]at g6;cases g6
   have w6:r≠q:=λz=>by rw[z,j3]at d6;cases d6
   have o3:c≠q:=λz=>by rw[z,j3]at e0;cases e0
   have U:∀x∈J,x≠r/\x≠c:=λx d=>⟨(λz=>by have:=g8 x d;rw[z,d6]at this;cases this),(λz=>by have:=g8 x d;rw[z,e0]at this;cases this)⟩;have r7:∀x∈b0,G x=none/\x≠r/\x≠c/\x≠q/\x∉J:=λx d=>by
    obtain⟨b1,b2⟩:=u9 x d;obtain⟨o,e3⟩:=q0 x d;exact⟨gN b9 b1,b2,(λz=>by rw[z,b7]at b1;cases b1),(λz=>by rw[z,j3]at e3;cases e3),λz=>by rw[g8 x z]at e3;cases e3⟩
   have m2:MutS G f0 r c q ps b0 J (gtN ks v.length) 0:=⟨f6.trans N,N _ _ d6,N _ _ e0,λx d=>by
    obtain⟨j,F⟩:=yB d;obtain⟨i1,a3,z⟩:=nZ g5 F;exact⟨_,N _ _ z,by have:=(wide i1 (zqb a3)).1;rw[zqe];omega⟩,m8,n0⟩
   refine⟨false,⟨_,SqB.lst m2.er⟩,?_⟩;refine kX (b:=false) (g:=oV 8) (tb:=B) (λi I H'=>∃Z:Option V,I=[some (.ref a),some (.ref R),some (.ref mk),some (.ref g),some (.ref l),some (.ref X),some (.ref c),some (.ref r),Z,some (.ref q),none,none]/\MutS G H' r c q ps b0 J (gtN ks v.length) i) ⟨_,rfl,m2⟩ (λi I H' _⟨_,_,s⟩=>SqB.lst s.er) ?_ ?_
   ·rintro i y I L a0 ⟨Z,rfl,D⟩;obtain⟨a6,d7,rfl⟩:=mX a0;have hi:i<b0.length:=(zqa d7).1;obtain⟨xs,W,w8⟩:=D.rows a6 (zqb d7);obtain⟨t9,u6,r6,u4,p7⟩:=r7 a6 (zqb d7);subst eB;show Fp _ _ [some (.ref a),some (.ref R),some (.ref mk),some (.ref g),some (.ref l),some (.ref X),some (.ref c),some (.ref r),some (.ref a6),some (.ref q),none,none] L;ext;refine⟨tyL W,a6,_,_,rfl,rfl,W,yA (show xs.length+1<=1000 by omega) ∅,?_⟩;exact D.write t9 u6 r6 u4 p7 w8
   ·rintro I L ⟨Z,rfl,D⟩;left;refine⟨tyL D.er,r,_,rfl,rfl,D.er,?_⟩;have n6:Same G (upd L r (.lst [])):=Same.over t1 D.s;have f8:(upd L r (.lst [])) c=some (.lst (ps.map V.ref)):=by rw[oU (zW v1)];exact D.eh
    have k3:(upd L r (.lst [])) q=some (.lst (J.map V.ref)):=by rw[oU (zW w6)];exact D.eq
    have i7:Paired (GtR (upd L r (.lst []))) J (gtN ks v.length):=iU (nS D.rows2) λm x e W d4=>by
     obtain⟨i1,a3,z⟩:=nZ D.rows2 W;rw[d4]at a3;cases a3;show(upd L r _) x=_;rw[oU (U x (zqb W)).1];exact z
    show N1 _ (upd L r (.lst []));generalize upd L r (.lst [])=b4 at*
    left;refine⟨tyL f8,c,_,rfl,rfl,f8,?_⟩;have j5:Same G (upd b4 c (.lst [])):=Same.over l0 n6;have m5:(upd b4 c (.lst [])) q=some (.lst (J.map V.ref)):=by rw[oU (zW o3)];exact k3
    have j8:Paired (GtR (upd b4 c (.lst []))) J (gtN ks v.length):=iU (nS i7) λm x e W d4=>by
     obtain⟨i1,a3,z⟩:=nZ i7 W;rw[d4]at a3;cases a3;show(upd b4 c _) x=_;rw[oU (U x (zqb W)).2];exact z
    show N1 _ (upd b4 c (.lst []));generalize upd b4 c (.lst [])=e8 at*
    clear i7 k3 f8 n6;left;refine⟨X,_,rfl,.inl ⟨SqL.of (j5 _ _ d9),λc9 o1=>?_⟩⟩;have f7:Same e8 (upd e8 c9 (.tup (ps.map V.ref))):=Same.new o1;have m1:(upd e8 c9 (.tup (ps.map V.ref))) c9=some (.tup (ps.map V.ref)):=oQ;generalize upd e8 c9 (.tup (ps.map V.ref))=z3 at f7 m1;have h5:=j5.trans f7;refine⟨true,g,c9,famD k,ms,srt,ps,v,rfl,j0.up h5,b8,a8,f9,⋯,SqB.tup m1,d8.up h5,e9,e5,λy3 y0 z0 s7 m4 q1 s9 _ p2 _ t8=>?_⟩;have v9:=Mc g1 q1 h2 s9;subst v9;have g0:=f7.trans m4;have m6:=h5.trans m4;have r5:Paired (GtR s7) J (gtN ks v.length):=Paired.mapP j8 λ_ _ z=>g0 _ _ z;refine aD 3 ∅ (dD p2 t8) (dD (g0 _ _ m5) r5) (dE _) (dE _) (b:=true) (by simp) ⟨_,rfl,iteF ?_⟩;obtain⟨lq,sp,o8,O,Y,e4,f3⟩:=w7.up m6;left;refine⟨true,R,_,_,_,rfl,rfl,SqB.tup O,rfl,true,sp,_,_,_,rfl,rfl,SqB.tup e4,rfl,?_⟩;refine lO (SqB.lst f3) ?_;rw[ok.lS];left;refine nC λB eB=>?_;simp only[mD];ext;refine⟨⋯,⋯,λi8 h7=>?_⟩;rw[zR];have l1:=(nJ (d:=famD k)).1;refine lG (λj y H'=>∃c3,y=V.ref c3/\nI (offH i8 H') c3 ((idM (famD k)).getD j []) 1) h7 ⋯ (λ_ _ _ _⟨c3,O,Y⟩v4=>⟨c3,O,Y.upS (cN v4)⟩) ?_ ?_
    ·intro j h4 zs F h8 l7 i5 i0;subst eB;show tTup _ [some (.int (0+(j:Int))),some (.int (famD k))] h4 i5;ext;refine nC λB eB=>?_;simp only[mD];ext;refine⟨⋯,⋯,λs3 p6=>?_⟩;rw[zR];obtain⟨u,a7⟩:=kH l1 F;have t0:(idM (famD k)).getD j []=u:=by rw[zqc,a7];rfl
     have o6:u.length=famD k:=nJ.2 u (zqb a7);have r8:u=(List.range (famD k)).map λi=>if j=i then(1:Int) else 0:=by
      unfold idM at a7;rw[zC,yR F]at a7;exact(zU a7).symm
     refine lG (λi y _=>∃n,u[i]?=some n/\y=.int n) p6 ⋯ (λ_ _ _ _ h _=>h) ?_ ?_
     ·intro i f z6 hi d3 x0 t6 t7;subst eB;show tCB _ _ [some (.int (0+(i:Int))),some (.int (0+(j:Int)))] f t6;ext;refine .inr (t7 _ _ (Same.refl _) ⟨_,by rw[r8,zC,yR hi];rfl,?_⟩);show _=V.int (if j=i then 1 else 0)
      by_cases z:j=i
      ·rw[zJ z,zL ⋯];rfl
      ·rw[zI z,zP ⋯];rfl
     ·intro f ys d3 i3 q7 g9;have a0:ys=u.map V.int:=nW (by rw[q7,o6]) g9;subst a0;refine⟨s3,_,rfl,.inl ⟨SqL.of i3,λl2 j1=>?_⟩⟩;have c0:Same f (upd f l2 (.tup (u.map V.int))):=Same.new j1;have c1:(upd f l2 (.tup (u.map V.int))) l2=some (.tup (u.map V.int)):=oQ;generalize upd f l2 (.tup (u.map V.int))=a2 at c0 c1;refine⟨(by show 2<=sizeLine;decide),λS g2=>?_⟩;have b6:Same a2 (upd a2 S (.tup [.ref l2,.int 1])):=Same.new g2;have b5:=(d3.trans c0).trans b6;have tk:=fC (K:=K) (b5 _ _ l7);exact i0 _ _ b5 ⟨S,rfl,by rw[t0];exact⟨l2,tk.k _ _ oQ,tk.k _ _ (b6 _ _ c1)⟩⟩
    intro h4 ys h8 q5 m3 u0;have f2:∃ps:LA,ys=ps.map V.ref/\Paired (λq r=>nI h4 q r 1) ps (idM (famD k)):=iR (by rw[m3,l1]) λj y k0=>by
     obtain⟨q,O,Y⟩:=u0 j y k0;have F:j<(idM (famD k)).length:=by rw[l1,←m3];exact(zqa k0).1
     obtain⟨r,a4⟩:=kH rfl F;exact⟨q,r,O,a4,by rw[zqc,a4]at Y;exact Y.upS cM⟩
    obtain⟨k1,rfl,f2⟩:=f2;have w0:k1.length=famD k:=(nS f2).trans l1;have k5:=m6.trans h8;have p4:=g0.trans h8;symm;refine nC λB eB=>?_;simp only[mD];ext;refine⟨⋯,⋯,λr9 o9=>?_⟩;rw[zR];refine lG (λj y _=>∃n,(List.replicate (famD k) (0:Int))[j]?=some n/\y=.int n) o9 ⋯ (λ_ _ _ _ h _=>h) ?_ ?_
    ·intro j f zs F d3 l7 i5 i0;subst eB;show tC _ [some (.int (0+(j:Int)))] f i5;ext;exact i0 _ _ (Same.refl _) ⟨0,by rw[vG,zJ F],rfl⟩
    intro f ys d3 i3 q2 g9;have a0:ys=(List.replicate (famD k) (0:Int)).map V.int:=nW (by rw[q2];simp) g9;subst a0;refine⟨r9,_,rfl,.inl ⟨SqL.of i3,λl2 j1=>?_⟩⟩;have c0:Same f (upd f l2 (.tup ((List.replicate (famD k) (0:Int)).map V.int))):=Same.new j1;have c1:(upd f l2 (.tup ((List.replicate (famD k) (0:Int)).map V.int))) l2=some (.tup ((List.replicate (famD k) (0:Int)).map V.int)):=oQ;generalize upd f l2 (.tup ((List.replicate (famD k) (0:Int)).map V.int))=a2 at c0 c1;refine⟨(by show 2<=sizeLine;decide),λS g2=>?_⟩;have b6:Same a2 (upd a2 S (.tup [.ref l2,.int 1])):=Same.new g2;have k8:nI (upd a2 S (.tup [.ref l2,.int 1])) S (List.replicate (famD k) 0) 1:=⟨l2,oQ,b6 _ _ c1⟩;generalize upd a2 S (.tup [.ref l2,.int 1])=z8 at b6 k8;have b5:=(d3.trans c0).trans b6;refine⟨i8,S,k1,famD k,rfl,b5 _ _ q5,w0,λi c3 e=>?_,k8,b8,λu5 y2 p5 w3=>?_⟩
    ·obtain⟨u,a7,z⟩:=nZ f2 e;have:(idM (famD k)).getD i []=u:=by rw[zqc,a7];rfl
     rw[this];exact z.upS b5
    have h9:=b5.trans p5;refine⟨g,u5,k,p,c5,c4,d0,ms,srt,rfl,j0.up (k5.trans h9),w3,ok,λm h=>(c7 m h).2,b3,λu7 w1 h3 w9 l9 s2 h0 p9=>?_⟩;have n2:=(k5.trans h9).trans l9;have v6:=(p4.trans h9).trans l9;have s8:∀x∈srt.map (·.1),MbOk (famD k) x:=λx d=>by
     obtain⟨y,M,rfl⟩:=pZ.mp d;exact a8 y M
    have v8:∀y∈h3,MbOk (famD k) y.1:=λy M=>s8 y.1 ((h0 _).mp (pZ.mpr ⟨y,M,rfl⟩));have o2:0<h3.length:=by
     have w5:=(h0 (nK (famD k))).mpr n3.one;obtain⟨y,M,_⟩:=pZ.mp w5;exact List.length_pos_of_mem M
    refine⟨false,u7,X,famD k,w1,h3,ps,v,rfl,s2,b8,v8,o2,p9,SqB.lst (n2 _ _ d9),d8.up n2,e9,e5,λy6 y4 y8 z9 t2 p3 r2 _ s4 _ p8=>?_⟩;have u8:=Mc g1 p3 h2 λi σ κ e1 v7=>Yh h0 (r2 i σ κ e1 v7);subst u8;have k2:=v6.trans t2;exact Hs 3 ∅ (dD s4 p8) (dD (k2 _ _ m5) (Paired.mapP j8 λ_ _ z=>k2 _ _ z)) (dE _) (dE _) (b:=true) (by simp) (o7 _)
end
theorem us1{b:Type}{us:List b}(h:us.length=1):∃a,us=[a]:=match us,h with|[a],_=>⟨a,rfl⟩
theorem us2{c:Type}{us:List c}(h:us.length=2):∃a b,us=[a,b]:=match us,h with|[a,b],_=>⟨a,b,rfl⟩
theorem us3{d:Type}{us:List d}(h:us.length=3):∃b c a,us=[b,c,a]:=match us,h with|[b,c,a],_=>⟨b,c,a,rfl⟩
theorem us4{e:Type}{us:List e}(h:us.length=4):∃c d a b,us=[c,d,a,b]:=match us,h with|[c,d,a,b],_=>⟨c,d,a,b,rfl⟩
theorem us5{f:Type}{us:List f}(h:us.length=5):∃d e a c b,us=[d,e,a,c,b]:=match us,h with|[d,e,a,c,b],_=>⟨d,e,a,c,b,rfl⟩
abbrev caG(K:Frag)(C:Addr):Prop:=findIn K (.ref C) "__class__"=some (some (.builtin "object.__class__"))
abbrev nG(K:Frag)(x:Str)(f:Addr):Prop:=nsIn K mainGlobals x=some (some (.ref f))
local macro_rules | `(tactic| walk_at "1")=>`(tactic| (intro _ _ _ _ _ _ us hl; obtain ⟨_,hh⟩:=us1 hl; subst hh; rfl))
local macro_rules | `(tactic| walk_at "2")=>`(tactic| (intro _ _ _ _ _ _ us hl; obtain ⟨_,_,hh⟩:=us2 hl; subst hh; rfl))
theorem txt_mk{K:Frag}{h:Heap}{g5:MT}(X:K.In h)(G:h.Ns mainGlobals g5)
  {g6 b9 c8 e8 j2 a i9 f8 b6 O V t P a7 a9 w S c9 l c0 a8 a0 r b0 y L c5 U a4 b5 k c1 u c6 C D a1 b1 T p d0 b7 a5 g d e c x b8 c7 N J Y i q R m F a6 b3 c3 o W a2 j z n M I c2 b2:Addr}{l0 k7 z9 w8 v5 ak p3 r0 w4 bv l5 ad y4 n6 y1 x7 u5 y8 al w0 au u9 s1 q2 q7 o0 r3 bw t5 x3 r1 r5 r2 o2 p1 am l8 bi w5 bt m0 w2 x5 bn m1 ca m4 s7 y6 bd q3 z1 l7 s3 m9 ce u4 p4 n2 z2 ac ay ae:FuncData}
  {b:Addr}{y9 bm:Option Addr}{t1:Array (Option Value)}{u7 x6 ax r6 i7 v7:Value}
  {f6:Addr}{v4:Value}{t3:Option Addr}{v0:Nat}{ai:Array (Option Value)}{a3:Tok}
  {f:Addr}{q6 k9:Option Addr}{bp:Array (Option Value)}{bc bh y0 af i6 z6:Value}
  {e6:Addr}{o9:Value}{v1:Option Addr}{s5:Nat}{ar:Array (Option Value)}{Z:Tok}
  {m3:Tok}
  (w7:nG K "CrystalError" g6)
  (an:nG K "NoPlace" b9)
  (p2:nG K "NoDeed" c8)
  (br:nG K "TooMany" e8)
  (bf:nG K "NoNumber" j2)
  (m7:nG K "Group" a)
  (v8:nG K "NotKept" i9)
  (l2:nG K "NoChange" f8)
  (n1:nG K "divisor" b6)
  (d9:Fun K "divisor" "divisor" s_12 b6 l0)
  (x0:nG K "multiple" O)
  (j8:Fun K "multiple" "multiple" s_16 O k7)
  (bu:nG K "place" V)
  (k3:Fun K "place" "place" aX V z9)
  (y7:nG K "rest_place" t)
  (i5:Fun K "rest_place" "rest_place" aY t w8)
  (t9:nG K "place_sum" P)
  (e0:Fun K "place_sum" "place_sum" aZ P v5)
  (t0:nG K "opposite" a7)
  (i2:Fun K "opposite" "opposite" s_17 a7 ak)
  (q8:nG K "place_less" a9)
  (j0:Fun K "place_less" "place_less" Dx a9 p3)
  (ba:nG K "still_rows" w)
  (i8:Fun K "still_rows" "still_rows" Az w r0)
  (bj:nG K "dot" S)
  (d7:Fun K "dot" "dot" s_1p S w4)
  (u1:nG K "turned" c9)
  (f5:Fun K "turned" "turned" s_1b c9 bv)
  (az:nG K "times" l)
  (h0:Fun K "times" "times" s_1l l l5)
  (ag:nG K "without" c0)
  (j1:Fun K "without" "without" s_1a c0 ad)
  (q5:nG K "determinant" a8)
  (h5:Fun K "determinant" "determinant" s_1 a8 y4)
  (p8:nG K "cofactor" a0)
  (f7:Fun K "cofactor" "cofactor" s_14 a0 n6)
  (x1:nG K "crossed" r)
  (e4:Fun K "crossed" "crossed" s_1d r y1)
  (s8:nG K "scaled" b0)
  (f2:Fun K "scaled" "scaled" s_1i b0 x7)
  (u8:nG K "joined" y)
  (k1:Fun K "joined" "joined" s_18 y u5)
  (bg:nG K "deed" L)
  (e2:Fun K "deed" "deed" s_1m L y8)
  (x9:nG K "still" c5)
  (i4:Fun K "still" "still" s_1n c5 al)
  (n3:nG K "move" U)
  (g0:Fun K "move" "move" s_1r U w0)
  (bq:nG K "moved" a4)
  (j6:Fun K "moved" "moved" s_1g a4 au)
  (as:nG K "behind" b5)
  (g4:Fun K "behind" "behind" s_1f b5 u9)
  (ap:nG K "rest" k)
  (i0:Fun K "rest" "rest" s_1o k s1)
  (bz:nG K "alike" c1)
  (d3:Fun K "alike" "alike" s_1k c1 q2)
  (y2:nG K "gathered" u)
  (f4:Fun K "gathered" "gathered" Dw u q7)
  (k8:nG K "change" c6)
  (d8:Fun K "change" "change" s_1e c6 o0)
  (o8:nG K "check_beside" C)
  (d2:Fun K "check_beside" "check_beside" s_9 C r3)
  (o3:nG K "forth" D)
  (j7:Fun K "forth" "forth" s_1h D bw)
  (m6:nG K "home" a1)
  (j9:Fun K "home" "home" s_1q a1 t5)
  (r8:nG K "led" b1)
  (e3:Fun K "led" "led" s_1v b1 x3)
  (w6:nG K "new_place" T)
  (e9:Fun K "new_place" "new_place" s_10 T r1)
  (n9:nG K "new_deed" p)
  (h7:Fun K "new_deed" "new_deed" cF p r5)
  (r9:nG K "check_most" d0)
  (i3:Fun K "check_most" "check_most" Dv d0 r2)
  (cd:nG K "check_axes" b7)
  (d4:Fun K "check_axes" "check_axes" Du b7 o2)
  (p0:nG K "closed" a5)
  (f3:Fun K "closed" "closed" s_1c a5 p1)
  (ch:findIn K (.ref a) "__init__"=some (some (.ref b)))
  (n0:K.lookup b=some ⟨u7,y9,.func (fnOf "__init__" "Group.__init__" (jL s_0) (kD s_0) (oN s_0) (.ref f6) x6 ax r6 bm i7 v7),t1⟩)
  (u0:K.lookup f6=some ⟨v4,t3,.seq #[.int 200 a3] v0,ai⟩)
  (bo:codeIn K i7 "Group.__init__"=true)
  (q1:keepIn K (.ref b)=true)
  (cf:findIn K (.ref a) "axes"=some (some (.ref g)))
  (f0:Fun K "axes" "Group.axes" Ds g am)
  (cj:findIn K (.ref a) "makers"=some (some (.ref d)))
  (k4:Fun K "makers" "Group.makers" Dr d l8)
  (ci:findIn K (.ref a) "members"=some (some (.ref e)))
  (j3:Fun K "members" "Group.members" s_2 e bi)
  (cg:findIn K (.ref a) "at"=some (some (.ref c)))
  (f9:Fun K "at" "Group.at" Dq c w5)
  (aj:nG K "group_of" x)
  (i1:Fun K "group_of" "group_of" s_15 x bt)
  (s2:nG K "check_moves" b8)
  (g1:Fun K "check_moves" "check_moves" Dp b8 m0)
  (s6:nG K "grown" c7)
  (g8:Fun K "grown" "grown" s_1j c7 w2)
  (k5:nG K "changed" f)
  (w1:K.lookup f=some ⟨bc,q6,.func (fnOf "changed" "changed" (jL s_7) (kD s_7) (oN s_7) (.ref e6) bh y0 af k9 i6 z6),bp⟩)
  (z5:K.lookup e6=some ⟨o9,v1,.seq #[.int 200 Z] s5,ar⟩)
  (n8:codeIn K i6 "changed"=true)
  (z7:keepIn K (.ref f)=true)
  (v9:nG K "_law_cell_at" N)
  (e5:Fun K "_law_cell_at" "_law_cell_at" Do N x5)
  (be:nG K "_law_whole" J)
  (g7:Fun K "_law_whole" "_law_whole" Dm J bn)
  (x8:nG K "_law_digits" Y)
  (h4:Fun K "_law_digits" "_law_digits" Dl Y m1)
  (l3:nG K "_law_shared" i)
  (h9:Fun K "_law_shared" "_law_shared" Dk i ca)
  (s9:nG K "_law_place" q)
  (d6:Fun K "_law_place" "_law_place" Ay q m4)
  (o5:nG K "_law_family" R)
  (k0:Fun K "_law_family" "_law_family" cG R s7)
  (bx:nG K "_law_rows_times" m)
  (k2:Fun K "_law_rows_times" "_law_rows_times" s_8 m y6)
  (o4:nG K "_law_led" F)
  (h8:Fun K "_law_led" "_law_led" s_19 F bd)
  (x4:nG K "_law_maker" a6)
  (h3:Fun K "_law_maker" "_law_maker" Ax a6 q3)
  (y5:nG K "_law_step" b3)
  (j4:Fun K "_law_step" "_law_step" s_13 b3 z1)
  (cc:nG K "_law_rows_there" c3)
  (f1:Fun K "_law_rows_there" "_law_rows_there" s_3 c3 l7)
  (l9:nG K "_law_tops_there" o)
  (h6:Fun K "_law_tops_there" "_law_tops_there" s_5 o s3)
  (n5:nG K "_law_deed_there" W)
  (h2:Fun K "_law_deed_there" "_law_deed_there" s_4 W m9)
  (p9:nG K "_law_frame" a2)
  (e7:Fun K "_law_frame" "_law_frame" cH a2 ce)
  (r4:nG K "_law_makers" j)
  (g9:Fun K "_law_makers" "_law_makers" Dj j u4)
  (s0:nG K "_law_reached" z)
  (g2:Fun K "_law_reached" "_law_reached" Aw z p4)
  (m5:nG K "_law_rest" n)
  (h1:Fun K "_law_rest" "_law_rest" Av n n2)
  (t4:nG K "_law_asked_at" M)
  (d5:Fun K "_law_asked_at" "_law_asked_at" s_6 M z2)
  (s4:nG K "_law_spots" I)
  (j5:Fun K "_law_spots" "_law_spots" eG I ac)
  (aq:nG K "_law_due" c2)
  (g3:Fun K "_law_due" "_law_due" s_11 c2 ay)
  (ao:nG K "law" b2)
  (c4:Fun K "law" "law" s_1s b2 ae)
  (ah:nsIn K mainGlobals "MOST_MEMBERS"=some (some (.int 200 m3)))
  (q0:nsIn K mainGlobals "any"=some none)
  (u2:nsIn K mainGlobals "sum"=some none)
  (o7:nsIn K mainGlobals "zip"=some none)
  (m8:nsIn K mainGlobals "enumerate"=some none)
  (m2:nsIn K mainGlobals "range"=some none)
  (l4:nsIn K mainGlobals "len"=some none)
  (av:nsIn K mainGlobals "abs"=some none)
  (x2:nsIn K mainGlobals "isinstance"=some none)
  (p6:nsIn K mainGlobals "int"=some none)
  (p7:nsIn K mainGlobals "bool"=some none)
  (o1:nsIn K mainGlobals "list"=some none)
  (z8:nsIn K mainGlobals "tuple"=some none)
  (k6:nsIn K mainGlobals "sorted"=some none)
  (p5:nsIn K mainGlobals "dict"=some none)
  (n7:kitOne K (.type "int") (.type "int")=some true)
  (q9:kitOne K (.type "int") (.type "bool")=some false)
  (l6:kitOne K (.type "tuple") (.type "tuple")=some true)
  (o6:kitOne K (.type "list") (.type "list")=some true)
  (u6:PySem.W.excIn K b9 [.type "ValueError",.type "Exception",.type "BaseException",.type "object"] "ValueError.__new__"=true)
  (ab:PySem.W.excIn K c8 [.type "ValueError",.type "Exception",.type "BaseException",.type "object"] "ValueError.__new__"=true)
  (z4:L2.Cls K a)
  (aw:L2.Mk K a b)
  (v6:L2.Meth K a "members" e)
  (bb:findIn K (.ref a) "dimension"=some none)
  (cb:findIn K (.ref a) "given"=some none)
  (t8:findIn K (.ref a) "ordered"=some none)
  (t2:findIn K (.ref a) "shortest"=some none)
  (aa:findIn K (.ref a) "numbers"=some none)
  (l1:L2.Meth K a "axes" g)
  (u3:L2.Meth K a "makers" d)
  (q4:L2.Meth K a "at" c)
  :∃n4,Txt K g5 n4:=by
 have b4:=Js (st:=s_0) (ds:=[.int 200 a3]) n0 bo q1 u0;have t7:=b4.bindsA (ps:=ph') λ_ _ _ _ _ _ _ us hl=>by obtain⟨_,_,_,_,rfl⟩:=us4 hl;exact⟨_,rfl,rfl⟩
 have t6:=b4.binds (ps:=ph') λ_ _ _ _ _ _ _ us hl=>by obtain⟨_,_,_,rfl⟩:=us3 (Nat.succ.inj hl);exact⟨_,rfl,rfl⟩
 have z3:=f0.binds (ps:=pM') (by walk_at "1");have z0:=k4.binds (ps:=pM') (by walk_at "1");have y3:=j3.binds (ps:=pM') (by walk_at "1");have w3:=f9.binds (ps:=pH') (by walk_at "2");have d1:=Js (st:=s_7) (ds:=[.int 200 Z]) w1 n8 z7 z5;have r7:=d1.bindsA (ps:=pt') λ_ _ _ _ _ _ _ us hl=>by obtain⟨_,_,_,rfl⟩:=us3 hl;exact⟨_,rfl,rfl⟩
 have w9:=d1.binds (ps:=pt') λ_ _ _ _ _ _ _ us hl=>by obtain⟨_,_,rfl⟩:=us2 (Nat.succ.inj hl);exact⟨_,rfl,rfl⟩
 obtain⟨_,_,_,_,_,_,_,_,_,rfl,_,_⟩:=id c4.ex;exact⟨⟨b6,O,V,t,P,a7,a9,w,S,c9,l,c0,a8,a0,r,b0,y,L,c5,U,a4,b5,k,c1,u,c6,C,D,a1,b1,T,p,d0,b7,a5,b,g,d,e,c,x,b8,c7,f,N,J,Y,i,q,R,m,F,a6,b3,c3,o,W,a2,j,z,n,M,I,c2,b2,_,_,_,_,_,_,_,_,_,_,_,_,_,_,_,_,_,_,_,_,_,_,_,_,_,_,_,_,_,_,_,_,_,_,_,_,_,_,_,_,_,_,_,_,_,_,_,_,_,_,_,_,_,_,_,_,_,_,_,_,_,_,_,_,_,g6,b9,c8,e8,j2,a,i9,f8,a3,Z⟩,⟨⟨d9,yH X G n1,d9.binds (λ_ _ _ _ _ _ us hl=>by obtain⟨_,_,rfl⟩:=us2 hl;rfl)⟩,⟨j8,yH X G x0,j8.binds (λ_ _ _ _ _ _ us hl=>by obtain⟨_,rfl⟩:=us1 hl;rfl)⟩,⟨k3,yH X G bu,k3.binds (λ_ _ _ _ _ _ us hl=>by obtain⟨_,_,rfl⟩:=us2 hl;rfl)⟩,⟨i5,yH X G y7,i5.binds (λ_ _ _ _ _ _ us hl=>by obtain⟨_,rfl⟩:=us1 hl;rfl)⟩,⟨e0,yH X G t9,e0.binds (λ_ _ _ _ _ _ us hl=>by obtain⟨_,_,rfl⟩:=us2 hl;rfl)⟩,⟨i2,yH X G t0,i2.binds (λ_ _ _ _ _ _ us hl=>by obtain⟨_,rfl⟩:=us1 hl;rfl)⟩,⟨j0,yH X G q8,j0.binds (λ_ _ _ _ _ _ us hl=>by obtain⟨_,_,rfl⟩:=us2 hl;rfl)⟩,⟨i8,yH X G ba,i8.binds (λ_ _ _ _ _ _ us hl=>by obtain⟨_,rfl⟩:=us1 hl;rfl)⟩,⟨d7,yH X G bj,d7.binds (λ_ _ _ _ _ _ us hl=>by obtain⟨_,_,rfl⟩:=us2 hl;rfl)⟩,⟨f5,yH X G u1,f5.binds (λ_ _ _ _ _ _ us hl=>by obtain⟨_,rfl⟩:=us1 hl;rfl)⟩,⟨h0,yH X G az,h0.binds (λ_ _ _ _ _ _ us hl=>by obtain⟨_,_,rfl⟩:=us2 hl;rfl)⟩,⟨j1,yH X G ag,j1.binds (λ_ _ _ _ _ _ us hl=>by obtain⟨_,_,_,rfl⟩:=us3 hl;rfl)⟩,⟨h5,yH X G q5,h5.binds (λ_ _ _ _ _ _ us hl=>by obtain⟨_,rfl⟩:=us1 hl;rfl)⟩,⟨f7,yH X G p8,f7.binds (λ_ _ _ _ _ _ us hl=>by obtain⟨_,_,_,rfl⟩:=us3 hl;rfl)⟩,⟨e4,yH X G x1,e4.binds (λ_ _ _ _ _ _ us hl=>by obtain⟨_,rfl⟩:=us1 hl;rfl)⟩,⟨f2,yH X G s8,f2.binds (λ_ _ _ _ _ _ us hl=>by obtain⟨_,_,rfl⟩:=us2 hl;rfl)⟩,⟨k1,yH X G u8,k1.binds (λ_ _ _ _ _ _ us hl=>by obtain⟨_,_,rfl⟩:=us2 hl;rfl)⟩,⟨e2,yH X G bg,e2.binds (λ_ _ _ _ _ _ us hl=>by obtain⟨_,_,_,rfl⟩:=us3 hl;rfl)⟩,⟨i4,yH X G x9,i4.binds (λ_ _ _ _ _ _ us hl=>by obtain⟨_,rfl⟩:=us1 hl;rfl)⟩,⟨g0,yH X G n3,g0.binds (λ_ _ _ _ _ _ us hl=>by obtain⟨_,rfl⟩:=us1 hl;rfl)⟩,⟨j6,yH X G bq,j6.binds (λ_ _ _ _ _ _ us hl=>by obtain⟨_,_,rfl⟩:=us2 hl;rfl)⟩,⟨g4,yH X G as,g4.binds (λ_ _ _ _ _ _ us hl=>by obtain⟨_,_,rfl⟩:=us2 hl;rfl)⟩,⟨i0,yH X G ap,i0.binds (λ_ _ _ _ _ _ us hl=>by obtain⟨_,rfl⟩:=us1 hl;rfl)⟩,⟨d3,yH X G bz,d3.binds (λ_ _ _ _ _ _ us hl=>by obtain⟨_,_,rfl⟩:=us2 hl;rfl)⟩,⟨f4,yH X G y2,f4.binds (λ_ _ _ _ _ _ us hl=>by obtain⟨_,_,rfl⟩:=us2 hl;rfl)⟩,⟨d8,yH X G k8,d8.binds (λ_ _ _ _ _ _ us hl=>by obtain⟨_,_,rfl⟩:=us2 hl;rfl)⟩,⟨d2,yH X G o8,d2.binds (λ_ _ _ _ _ _ us hl=>by obtain⟨_,_,rfl⟩:=us2 hl;rfl)⟩,⟨j7,yH X G o3,j7.binds (λ_ _ _ _ _ _ us hl=>by obtain⟨_,rfl⟩:=us1 hl;rfl)⟩,⟨j9,yH X G m6,j9.binds (λ_ _ _ _ _ _ us hl=>by obtain⟨_,rfl⟩:=us1 hl;rfl)⟩,⟨e3,yH X G r8,e3.binds (λ_ _ _ _ _ _ us hl=>by obtain⟨_,_,rfl⟩:=us2 hl;rfl)⟩,⟨e9,yH X G w6,e9.binds (λ_ _ _ _ _ _ us hl=>by obtain⟨_,_,rfl⟩:=us2 hl;rfl)⟩,⟨h7,yH X G n9,h7.binds (λ_ _ _ _ _ _ us hl=>by obtain⟨_,_,rfl⟩:=us2 hl;rfl)⟩,⟨i3,yH X G r9,i3.binds (λ_ _ _ _ _ _ us hl=>by obtain⟨_,rfl⟩:=us1 hl;rfl)⟩,⟨d4,yH X G cd,d4.binds (λ_ _ _ _ _ _ us hl=>by obtain⟨_,_,rfl⟩:=us2 hl;rfl)⟩,⟨f3,yH X G p0,f3.binds (λ_ _ _ _ _ _ us hl=>by obtain⟨_,_,_,rfl⟩:=us3 hl;rfl)⟩,b4,t6,t7,f0,z3,k4,z0,j3,y3,f9,w3,⟨i1,yH X G aj,i1.binds (λ_ _ _ _ _ _ us hl=>by obtain⟨_,_,rfl⟩:=us2 hl;rfl)⟩,⟨g1,yH X G s2,g1.binds (λ_ _ _ _ _ _ us hl=>by obtain⟨_,_,rfl⟩:=us2 hl;rfl)⟩,⟨g8,yH X G s6,g8.binds (λ_ _ _ _ _ _ us hl=>by obtain⟨_,_,rfl⟩:=us2 hl;rfl)⟩,d1,w9,yH X G k5,r7,⟨e5,yH X G v9,e5.binds (λ_ _ _ _ _ _ us hl=>by obtain⟨_,_,rfl⟩:=us2 hl;rfl)⟩,⟨g7,yH X G be,g7.binds (λ_ _ _ _ _ _ us hl=>by obtain⟨_,rfl⟩:=us1 hl;rfl)⟩,⟨h4,yH X G x8,h4.binds (λ_ _ _ _ _ _ us hl=>by obtain⟨_,_,_,rfl⟩:=us3 hl;rfl)⟩,⟨h9,yH X G l3,h9.binds (λ_ _ _ _ _ _ us hl=>by obtain⟨_,_,rfl⟩:=us2 hl;rfl)⟩,⟨d6,yH X G s9,d6.binds (λ_ _ _ _ _ _ us hl=>by obtain⟨_,_,rfl⟩:=us2 hl;rfl)⟩,⟨k0,yH X G o5,k0.binds (λ_ _ _ _ _ _ us hl=>by obtain⟨_,rfl⟩:=us1 hl;rfl)⟩,⟨k2,yH X G bx,k2.binds (λ_ _ _ _ _ _ us hl=>by obtain⟨_,_,rfl⟩:=us2 hl;rfl)⟩,⟨h8,yH X G o4,h8.binds (λ_ _ _ _ _ _ us hl=>by obtain⟨_,_,rfl⟩:=us2 hl;rfl)⟩,⟨h3,yH X G x4,h3.binds (λ_ _ _ _ _ _ us hl=>by obtain⟨_,_,_,rfl⟩:=us3 hl;rfl)⟩,⟨j4,yH X G y5,j4.binds (λ_ _ _ _ _ _ us hl=>by obtain⟨_,_,rfl⟩:=us2 hl;rfl)⟩,⟨f1,yH X G cc,f1.binds (λ_ _ _ _ _ _ us hl=>by obtain⟨_,_,rfl⟩:=us2 hl;rfl)⟩,⟨h6,yH X G l9,h6.binds (λ_ _ _ _ _ _ us hl=>by obtain⟨_,_,rfl⟩:=us2 hl;rfl)⟩,⟨h2,yH X G n5,h2.binds (λ_ _ _ _ _ _ us hl=>by obtain⟨_,_,_,_,_,rfl⟩:=us5 hl;rfl)⟩,⟨e7,yH X G p9,e7.binds (λ_ _ _ _ _ _ us hl=>by obtain⟨_,rfl⟩:=us1 hl;rfl)⟩,⟨g9,yH X G r4,g9.binds (λ_ _ _ _ _ _ us hl=>by obtain⟨_,_,rfl⟩:=us2 hl;rfl)⟩,⟨g2,yH X G s0,g2.binds (λ_ _ _ _ _ _ us hl=>by obtain⟨_,_,rfl⟩:=us2 hl;rfl)⟩,⟨h1,yH X G m5,h1.binds (λ_ _ _ _ _ _ us hl=>by obtain⟨_,rfl⟩:=us1 hl;rfl)⟩,⟨d5,yH X G t4,d5.binds (λ_ _ _ _ _ _ us hl=>by obtain⟨_,_,rfl⟩:=us2 hl;rfl)⟩,⟨j5,yH X G s4,j5.binds (λ_ _ _ _ _ _ us hl=>by obtain⟨_,_,_,rfl⟩:=us3 hl;rfl)⟩,⟨g3,yH X G aq,g3.binds (λ_ _ _ _ _ _ us hl=>by obtain⟨_,_,rfl⟩:=us2 hl;rfl)⟩,⟨c4,yH X G ao,c4.binds (λ_ _ _ _ _ _ us hl=>by obtain⟨_,rfl⟩:=us1 hl;rfl)⟩,xB X G q0,xB X G u2,xB X G o7,xB X G m8,xB X G m2,xB X G l4,xB X G av,xB X G x2,xB X G p6,xB X G p7,xB X G o1,xB X G z8,xB X G k6,xB X G p5,yH X G w7,yH X G an,yH X G p2,yH X G br,yH X G bf,yH X G m7,yH X G v8,yH X G l2,⟨_,yH X G ah,_,rfl⟩,n7,q9,l6,o6,u6,ab,z4,aw,v6,bb,cb,t8,t2,aa,l1,u3,q4,λs v=>.of_eq rfl⟩⟩
end Cw
end
open PySem PySem.W PyProof.Rows
/-! Names that the head would else lay equations under: the proof wants none of them. -/
namespace PySem.W.Fast
local macro_rules|`(command|include $x)=>`(def $x:ident:=Nat)|`(command|include $x $y $z*)=>`(def $x:ident:=Nat
include $y $z*)
include tw16852678620771487830 tw14268032259399537493 tw4139129130804675186 tw13368861596692402140 tw16659977459655808176 tw446492992893931170 tw4212042369706072943 tw14515195341724470105 tw14835851168105538085 tw60358852707488983 tw12969377864048984638 tw7835450930500968029 tw10395531734459680346 tw12866240415492927866 tw8756930565833976008 tw1103621404876140401 tw2355152241167232135 tw4586917159753702016 tw17858741450167992603 tw8889628359509729919 tw4236869212996057078 tw7257832064580414180 tw4635065199582775124 tw9482278426890040199 tw12335641204901750407 tw2907886367205433428 tw4338723638135726135 tw4034124205547578397 tw957572120389388787 tw6656802529139413730 tw9760392144001612837 tw12747491107597980586 tw9743186614987211257 tw12557017945514824256 tw5457584869428152668 tw400903235929603873 tw13985138265864983520 tw5699431505302198593 tw13757845113503985823 tw707328487232410990 tw14289634292937939489 tw6956643944596508646 tw14880014913012978438 tw6654517169079261630 tw18217455414036950687 tw12454031764847852111 tw13747783089026579593 tw7795764773393153375 tw5113089256303257614 tw2194565576357964322 tw9936073566448469506 tw206938412534027833 tw7284494979850390799 tw6263684145648559438 tw18128348650523053631 tw4031847474469410443 tw2925921479239222947 tw3264438532469164179 tw11512882817312484071 tw1863828497503873526 tw7557278946817496926 tw3631905316563937990 tw4082326179309800945 tw2091906596485356480 tw9091882146210653343 tw14098442552636008248 tw1604062259701099439 tw16873054331923605364 tw6544651755534776423 tw2345485382665234344 tw6427952160505373503 tw6481706387986038634 tw5492548117856260929 tw11899746849533287026 tw9356773156270303063 tw15819525112178286874 tw5135579125491826854 tw11295855939489954744 tw1622550763793922129 tw12989407536026362773 tw1870936089142047596 tw3706986930393361431 tw6536080068807844051 tw16140753376731640261 tw4174437853726388832 tw2146512980811788039 tw15667314055974854283 tw13464487155929152865 tw6889693944101614685 tw8969044071817011476 tw10687051072087042853 tw18009084657539509056 tw2761630566031238170 tw13485617038894491429 tw16130582444451283769 tw12838670099359006132 tw2558051895074674777 tw9248261597143209105 tw18234942948403042740 tw473855194275135473 tw5205681974272592543 tw14982927460670941050 tw7256830936003426404 tw11324985474542076183 tw18041760594661500850 tw11093052017462483874 tw12050159589575566107 tw8326627407269778280 tw8827348089200450615 tw7469195417706399435 tw15636721181179656349 tw5400309442841054405 tw1165134651124224809 tw14514909422494294393 tw11424574825829630087 tw10627015835601774242 tw4526357857206917383 tw15404690069283627956 tw1780206306337159631 tw2169994000809685060 tw9539297653082847198 tw9649929711967028449 tw6460464317173076963 tw514482994317556587 tw16086951221085211065 tw5245377070944578483 tw16112367325129242274 tw14477721510408242778 tw16129361988847346831 tw14959577472857685246 tw2218952232567821502 tw10527690746865887947 tw5480305585348025801 tw10306796037317908862 tw8406468526421272304 tw1164292221137089427 tw11040524082067647423 tw17074900093789149652 tw8168420203105407042 tw17706201668330232053 tw9001896842833810117 tw17188108541090934200 tw15463764785435035835 tw5637365505800802625 tw4807839111954487083 tw362053506692305012 tw15895839741355354520 tw8538147282554881093 tw12793676689126212178 tw4998942824769289605 tw6697182717433114800 tw6651531938528993077 tw3294701474546009419 tw3839815189965765662 tw9870153675571139907 tw10775347189020570516 tw9255526411774797373 tw8818823450340016530 tw9748613601057132591 tw16932164028625523959 tw9110718856868894145 tw18048555278334220624 tw4158352815211369408 tw1491022758780369628 tw6419145533341277952 tw4144714173959215690 tw4385512222572101033 tw8548676058681120293 tw11846129284220068840 tw5078563086408534072 tw15580662393384605263 tw10473489254686840683 tw7184356729302307634 tw14180338957053543887 tw8057337614351283043 tw1828783687962526695 tw13040732476007482190 tw6066247040501457282 tw16364179340633477824 tw7845353463558140492 tw5936218578218784161 tw7655573244167008494 tw14349081535604083043 tw8390476005908332679 tw4545352850124422092 tw614432568491077180 tw3095069619078398707 tw17353538900078590072 tw10890885798423894166 tw16654911759304356994 tw2562031290507587185 tw157716514932075224 tw16272505226084915547 tw7873311504919092455 tw3612121337304441442 tw8863414071596458525 tw3319108641653176517 tw6227640755150210974 tw6088406912527632352 tw13927073555695994121 tw763183516952399573 tw9524197226994927218 tw17642923318894137171 tw4666535172233721277 tw11309676913437561271 tw2036743398040362880 tw13744336974520170312 tw2184784684676985111 tw6895940745369587510 tw18273241868830462476 tw10588179513281076005 tw11366449331087638408 tw12523145564110206968 tw12859350211381105643 tw4272450121570972981 tw6170309067228607506 tw824185268600533614 tw4247026356755397152 tw2836309190200033024 tw12574739032885670656 tw123996273089959239 tw6951484840951974740 tw8179786191332667534 tw14972601607295552832 tw11995336079024181021 tw644363902499067485 tw12181416058889534565 tw5368254808217457987 tw2691807026953608734 tw12551031473987465932 tw1437873302540008847 tw8170598528778185907 tw4049321839796579279 tw7560225509055924248 tw14168555164212495331 tw1592296542308706066 tw15484385933820952989 tw15879286332604123697 tw4885961866953669235 tw535674987330703440 tw17520044557898730821 tw7221763506797758868 tw1058942360266578193 tw7041113624008949959 tw11026741419230001810 tw11189159163341792086 tw14211834652910948286 tw9622684426189900446 tw1558880999913182658 tw10164825520070134718 tw284660029913287490 tw17835142400912140427 tw7634794764295205722 tw532037986831607744 tw17348323643238574780 tw18381513489057797907 tw1112299655488811289 tw13680658853098944655 tw458571083060773671 tw11685886545788443785 tw9599491518924124225 tw11599634471750782658 tw7202913225867873103 tw703556450704753205 tw12930446799629483725 tw10040822305584062452 tw13177973794609684133 tw9777701669890208771 tw16342276702468352307 tw12530373005613239065 tw13448782560389085541 tw5347008387346648554 tw1821890524437303252 tw5225550055372179744 tw7773187395796286161 tw8470962763273227167 tw14759942477973060347 tw3758498356520516757 tw1183153522965016752 tw15047739167155604226 tw1603484671199228716 tw14106542475011671515 tw9760987480621451258 tw11849123065865006880 tw11945572442848249602 tw12598471495741638553 tw4515174521843903113 tw382317265662653674 tw10871290585717267284 tw873991579245631237 tw9416728117550252694 tw1669594204648574269 tw7248662085381094896 tw13840324303454480689 tw18391731561168450835 tw9145147618461200340 tw16435615228224893779 tw17686565790072783467 tw17786581938820484057 tw4818057195489499069 tw2193031859199250743 tw1814153490663139533 tw10174774065772078370 tw13168733261956312237 tw1086250581046869049 tw12765328423446328060 tw17689024013640539841 tw1029438921689353441 tw1418938852340393485 tw12552164608444070663 tw7791888280408128181 tw7719780950367990428 tw6167011327002804430 tw5206310363852738809 tw11830880328876948324 tw109044619014043046 tw16951054804967408116 tw8544751454502585995 tw9168432365806094533
end PySem.W.Fast
set_option maxRecDepth 100000 in
set_option maxHeartbeats 0 in
theorem PySem.Challenge.cw_crystalwords_k63_gathered_holds : PySem.Challenge.rw_crystalwords_k63_gathered.Holds := by
 w_on; o_law; k_head; (case hw=>w_witness2)
 k_fill
 refine L2.walkB (l:=PySem.Challenge.rw_crystalwords_k63_gathered) (k:=18) (x := "_law_script") rfl rfl ⟨rfl,by decide,by decide⟩ (λ w h Y=>PySem.W.kIn_of Y) ?F
 case F =>
  intro w mg fa h KX G hmg
  have T:∃ t,Cw.Txt (L2.KOf KX) mg t:=by
   dsimp only [L2.KOf]
   refine' Cw.txt_mk KX G ?n_1w ?n_1t ?n_1u ?n_20 ?n_1x ?n_b ?n_1z ?n_1y ?n_12 ?F_12 ?n_16 ?F_16 ?n_v ?F_v ?n_k ?F_k ?n_w ?F_w ?n_17 ?F_17 ?n_u ?F_u ?n_g ?F_g ?n_1p ?F_1p ?n_1b ?F_1b ?n_1l ?F_1l ?n_1a ?F_1a ?n_1 ?F_1 ?n_14 ?F_14 ?n_1d ?F_1d ?n_1i ?F_1i ?n_18 ?F_18 ?n_1m ?F_1m ?n_1n ?F_1n ?n_1r ?F_1r ?n_1g ?F_1g ?n_1f ?F_1f ?n_1o ?F_1o ?n_1k ?F_1k ?n_x ?F_x ?n_1e ?F_1e ?n_9 ?F_9 ?n_1h ?F_1h ?n_1q ?F_1q ?n_1v ?F_1v ?n_10 ?F_10 ?n_q ?F_q ?n_o ?F_o ?n_t ?F_t ?n_1c ?F_1c ?n_0 ?l_0 ?t_Group___init__ ?c_0 ?k_0 ?n_e ?F_e ?n_a ?F_a ?n_2 ?F_2 ?n_r ?F_r ?n_15 ?F_15 ?n_n ?F_n ?n_1j ?F_1j ?n_7 ?l_7 ?t_changed ?c_7 ?k_7 ?n_f ?F_f ?n_y ?F_y ?n_c ?F_c ?n_s ?F_s ?n_h ?F_h ?n_m ?F_m ?n_8 ?F_8 ?n_19 ?F_19 ?n_p ?F_p ?n_13 ?F_13 ?n_3 ?F_3 ?n_5 ?F_5 ?n_4 ?F_4 ?n_l ?F_l ?n_j ?F_j ?n_d ?F_d ?n_z ?F_z ?n_6 ?F_6 ?n_i ?F_i ?n_11 ?F_11 ?n_1s ?F_1s ?n_MOST_MEMBERS ?y_any ?y_sum ?y_zip ?y_enumerate ?y_range ?y_len ?y_abs ?y_isinstance ?y_int ?y_bool ?y_list ?y_tuple ?y_sorted ?y_dict ?q_d ?q_e ?q_k_tt ?q_g ?q_8 ?q_9 ?q_a ?q_b ?q_0 ?q_3 ?q_c ?q_6 ?q_4 ?q_7 ?q_2 ?q_1 ?q_5
   (case n_1w | n_1t | n_1u | n_20 | n_1x | n_b | n_1z | n_1y | n_12 | n_16 | n_v | n_k | n_w | n_17 | n_u | n_g | n_1p | n_1b | n_1l | n_1a | n_1 | n_14 | n_1d | n_1i | n_18 | n_1m | n_1n | n_1r | n_1g | n_1f | n_1o | n_1k | n_x | n_1e | n_9 | n_1h | n_1q | n_1v | n_10 | n_q | n_o | n_t | n_1c | n_15 | n_n | n_1j | n_7 | n_f | n_y | n_c | n_s | n_h | n_m | n_8 | n_19 | n_p | n_13 | n_3 | n_5 | n_4 | n_l | n_j | n_d | n_z | n_6 | n_i | n_11 | n_1s=>show _=_; k_is)
   (case n_0 | l_0 | t_Group___init__ | c_0 | k_0 | n_e | n_a | n_2 | n_r | l_7 | t_changed | c_7 | k_7 | n_MOST_MEMBERS | y_any | y_sum | y_zip | y_enumerate | y_range | y_len | y_abs | y_isinstance | y_int | y_bool | y_list | y_tuple | y_sorted | y_dict | q_3 | q_c | q_6 | q_4 | q_7=>k_is)
   (case F_12 | F_16 | F_v | F_k | F_w | F_17 | F_u | F_g | F_1p | F_1b | F_1l | F_1a | F_1 | F_14 | F_1d | F_1i | F_18 | F_1m | F_1n | F_1r | F_1g | F_1f | F_1o | F_1k | F_x | F_1e | F_9 | F_1h | F_1q | F_1v | F_10 | F_q | F_o | F_t | F_1c | F_e | F_a | F_2 | F_r | F_15 | F_n | F_1j | F_f | F_y | F_c | F_s | F_h | F_m | F_8 | F_19 | F_p | F_13 | F_3 | F_5 | F_4 | F_l | F_j | F_d | F_z | F_6 | F_i | F_11 | F_1s=>refine' L2.fun_mk ?l ?c ?k; (case l=>k_is); (case c=>k_is); (case k=>k_is))
   (case q_d | q_e | q_k_tt | q_g=>kit_is)
   (case q_8 | q_9=>k_exc)
   (case q_a | q_b=>exact ⟨by k_is,by k_is,by k_is,by k_is⟩)
   (case q_0 | q_2 | q_1 | q_5=>exact ⟨by k_is,by k_is,by k_is⟩)
  obtain ⟨t,T⟩:=T
  have e0:=hmg.symm.trans T.F_1s.m
  cases e0
  exact ⟨t.d_1s,T.bl,λ base kb nb=>Cw.ok_1s T⟩
#print axioms PySem.Challenge.cw_crystalwords_k63_gathered_holds