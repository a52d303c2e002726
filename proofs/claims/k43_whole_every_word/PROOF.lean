import PyProof.Rows.All
import Wide.All
import OpenK.AllK
import Wide.FinOn
import Lean
import PyProof.EqAt
import PyProof.EqKinds
import PyProof.TupleCall
import PySem.Challenge.RW_crystalwords_k43_whole_every_word
set_option Elab.async false
set_option linter.all false
set_option compiler.extract_closed false
set_option genSizeOf false
set_option bootstrap.genMatcherCode false
set_option maxRecDepth 100000
local macro_rules | `(⋯)=>`(by omega)
local macro_rules | `(∅)=>`(by decide)
local macro_rules | `(nofun)=>`(by decide +kernel)
local macro_rules | `(tactic| ext)=>`(tactic| walk_at "r")
noncomputable section
theorem dLe{d k:Nat}(h:d=2\/d=3)(g:3≤k):d≤k:=by
 rcases h with h|h<;>rw[h]
 ·exact Nat.le_trans (by decide) g
 ·exact g
theorem eLe{x d k:Nat}(e:x=d)(h:d=2\/d=3)(g:3≤k):x≤k:=by rw[e];exact dLe h g
theorem eLt{x y k:Nat}(e:x=y)(g:k<y):k<x:=by rw[e];exact g
theorem iNn{x:Int}(h:0<x):¬x<0:=Int.not_lt.mpr (Int.le_of_lt h)
local macro_rules | `(tactic| omega)=>`(tactic| first | (with_reducible first | assumption | exact Int.ne_of_gt (by assumption) | exact iNn (by assumption) | exact Int.le_of_lt (by assumption) | exact eLt (by assumption) (by assumption) | exact dLe (by assumption) (by decide) | exact eLe (by assumption) (by assumption) (by decide) | exact Nat.le_trans (by assumption) (by decide) | exact Nat.lt_of_lt_of_le (by assumption) (by decide) | exact Nat.lt_of_le_of_lt (by assumption) (by decide) | exact Nat.le_trans (Nat.le_of_lt (by assumption)) (by decide) | exact Nat.le_of_lt (by assumption)) | decide | lia | omega +splitDisjunctions)
abbrev SP':=List Int×Int
abbrev LI':=List Int
abbrev PN:=List (PySem.Addr×PySem.Obj)
abbrev VP:=PySem.Value->PySem.Shared->Prop
abbrev LW:=List PySem.Value
abbrev LA:=List PySem.Addr
abbrev MT:=PySem.Str->Option PySem.Value
def zA:=@PySem.wpAny_bind
def zB:=@PySem.wpAny_pure
def zC:=@PySem.Heap.get?_push_of_some
def zD:=@if_neg
def zE:=@Nat.le_refl
def zF:=@if_pos
def zG:=@PyProof.Rows.wpS_bind
def zH:=@PyProof.Rows.wpS_pure
def zI:=@List.getElem?_map
def zJ:=@Nat.lt_of_lt_of_le
def zK:=@List.map_cons
def zL:=@PySem.Heap.lt_size
def zM:=@Array.length_toList
def zN:=@decide_eq_false
def zO:=@List.mem_cons_of_mem
def zP:=@decide_eq_true
def zQ:=@Int.toNat_natCast
def zR:=@Bool.and_eq_true
def zS:=@PySem.Heap.get?_push_size
def zT:=@List.size_toArray
def zU:=@List.length_cons
def zV:=@List.getElem?_append_right
def zW:=@Option.some.inj
def zX:=@Bool.false_ne_true
def zY:=@Nat.ne_of_lt
def zZ:=@List.mem_cons_self
def yA:=@Ne.symm
def yB:=@Nat.zero_le
def yC:=@Nat.pow_le_pow_right
def yD:=@List.getElem?_append_left
def yE:=@List.length_append
def yF:=@List.mem_of_getElem?
def yG:=@Nat.le_trans
def yH:=@Array.getElem?_toList
def yI:=@List.append_assoc
def yJ:=@Array.toList_append
def yK:=@List.length_take
def yL:=@PySem.PassesOwn.never
def yM:=@PySem.F.plainAttrs_list
def yN:=@LawfulBEq.eq_of_beq
def yO:=@List.mem_append_right
def yP:=@PySem.W.mg_of
def yQ:=@PyProof.Rows.mulOk_of_bits
def yR:=@List.cons.injEq
def yS:=@List.length_map
def yT:=@List.take_of_length_le
def yU:=@PySem.wpAny_mono
def yV:=@PySem.W.mg_none_of
def yW:=@List.getElem?_range
def yX:=@List.zipWith_cons_cons
def yY:=@PySem.F.slot_list_append
def yZ:=@PySem.F.type_list_append
def xA:=@Int.natAbs_mul
def xB:=@PySem.wpAny_holding
def xC:=@Nat.lt_irrefl
def xD:=@List.map_append
def xE:=@Int.mul_pos
def xF:=@PySem.F.excBase_ValueError
def xG:=@List.lookup_cons
def xH:=@List.all_cons
def xI:=@List.mem_cons
def xJ:=@PyProof.Rows.wpS_forRange
def xK:=@List.map_map
def xL:=@PySem.wpAny_newObj_type
def xM:=@PySem.W.kia_one
def xN:=@List.getElem?_eq_getElem
def xO:=@Nat.zero_add
def xP:=@PyProof.Rows.callWith_type1
def xQ:=@of_decide_eq_true
def xR:=@PySem.Heap.size_push
def xS:=@Int.fmod_eq_emod_of_nonneg
def xT:=@List.getElem?_of_mem
def xU:=@List.mem_append_left
def xV:=@PySem.wpAny_call_entry
def xW:=@PySem.wpAny_field
def xX:=@List.length_zipWith
def xY:=@List.getElem?_zipWith
def xZ:=@Nat.mul_le_mul
def wA:=@List.take_append_drop
def wB:=@PySem.wpAny_callSpecial?_slot
def wC:=@Nat.mul_le_mul_right
def wD:=@List.take_add_one
def wE:=@List.map_congr_left
def wF:=@List.getElem?_eq_none
def wG:=@PySem.Heap.get?_update_self
def wH:=@congrArg
def wI:=@PySem.wpAny_Call_Name_kw
def wJ:=@PySem.wpAny_seqItems
def wK:=@PySem.F.slot_dict_keyiterator_next
def wL:=@PyProof.Rows.wpS_mono
def wM:=@List.append_nil
def wN:=@List.foldl_cons
def wO:=@List.getElem_of_mem
def wP:=@List.replicate_succ
def wQ:=@List.getElem?_set_self
def wR:=@Int.mul_comm
def wS:=@PySem.wpAny_standAt
def wT:=@PyProof.Rows.wpS_modify
def wU:=@PySem.wpAny_rule
def wW:=@PySem.W.Looks.here
def wX:=@Nat.lt_of_le_of_lt
def wY:=@Int.add_zero
def wZ:=@Int.le_of_lt
def vA:=@List.eq_nil_of_length_eq_zero
def vB:=@PySem.wpAny_typeNameOfWhole_keyiter
def vC:=@PySem.Heap.SameBut.update
def vD:=@PySem.mem_of_lookup
def vE:=@List.all_eq_true
def vF:=@List.getElem_mem
def vG:=@Nat.pow_add
def vH:=@PySem.Heap.get?_update_other
def vI:=@Nat.sub_self
def vJ:=@List.getElem?_drop
def vK:=@of_decide_eq_false
def vL:=@PySem.wpAny_setField_rec
def vM:=@List.perm_append_comm
def vN:=@PySem.F.slot_dict_get
def vO:=@PySem.wpAny_passesOwn
def vP:=@PySem.wpAny_attempt
def vQ:=@PySem.F.slot_tuple_iterator_next
def vR:=@List.drop_eq_getElem_cons
def vS:=@PySem.W.looks_findIn
def vU:=@PySem.Calls.evalArgs_plain
def vV:=@List.eraseIdx_append_of_length_le
def vW:=@List.zipIdx_cons
def vX:=@Nat.lt_succ_self
def vY:=@Nat.le_of_lt
def vZ:=@PySem.wpAny_isInstance
def uA:=@List.getElem?_take_of_lt
def uB:=@List.ext_getElem
def uC:=@PySem.wpAny_typeNameOf_keyiter
def uD:=@Nat.lt_or_ge
def uE:=@List.getElem_map
def uF:=@Int.zero_mul
def uG:=@PySem.F.plainAttrs_dict
def uH:=@PySem.W.callWith_K
def uI:=@PySem.wpAny_loadPart'
def uJ:=@List.forIn_cons
def uK:=@PySem.wpAny_pyIter_tuple
def uL:=@Int.fmod_nonneg_of_pos
def uM:=@PySem.Calls.callWith_builtin
def uN:=@Nat.le_succ
def uO:=@PySem.wpAny_truthy_bool
def uP:=@PySem.wpAny_loadPart_at
def uQ:=@List.foldl_append
def uR:=@Int.natAbs_add_le
def uS:=@List.length_range
def uT:=@Array.toList_push
def uU:=@List.Pairwise.sublist
def uV:=@PySem.codeAny_mono
def uW:=@PyProof.Rows.wpS_get
def uX:=@PySem.wpAny_typeOf
def uY:=@List.nodup_nil
def uZ:=@List.cons_lt_cons_iff
def tD:=@PySem.F.type_dict_get
def tE:=@Array.toList_reverse
def tF:=@List.length_drop
def tG:=@List.getElem?_set_ne
def tH:=@Nat.mul_lt_mul''
def tI:=@PySem.wpAny_call
def tJ:=@PySem.codeAny_call_builtin
def tK:=@PySem.IntMulOk.of_left
def tL:=@PySem.Around.under_plainId
def tM:=@List.eraseIdx_of_length_le
def tN:=@List.getD_eq_getElem?_getD
def tO:=@Option.some_ne_none
def tP:=@List.filterMap_cons
def tQ:=@PySem.wpAny_execs_nil
def tR:=@Nat.two_pow_pos
def tS:=@List.nodup_cons
def tU:=@Nat.min_eq_left
def tV:=@PySem.codeAny_builtin
def tW:=@List.mem_or_eq_of_mem_set
def tX:=@Int.fmod_lt_of_pos
def tY:=@List.mem_of_mem_eraseIdx
def tZ:=@Nat.le_of_eq
def sD:=@PySem.Obj.data_mapFields
def sE:=@Nat.mul_comm
def sF:=@Nat.add_zero
def sG:=@Int.zero_add
def sH:=@PySem.wpAny_setField
def sI:=@Int.mul_le_mul
def sJ:=@PySem.wpAny_pyIter_list
def sK:=@List.flatten_cons
def sL:=@List.drop_sublist
def sQ:=@PyProof.Rows.subscriptTail_builtinR
def sT:=@List.drop_eq_nil_of_le
def sU:=@Nat.add_assoc
def sV:=@PySem.W.any_some
def sW:=@List.contains_iff_mem
def sZ:=@List.length_replicate
def rA:=@List.Perm.append_left
def rB:=@List.getElem?_reverse
def rC:=@PySem.W.methodCall_KW
def rD:=@PySem.W.hideAll_none
def rE:=@List.length_eraseIdx
def rF:=@List.getElem?_zipIdx
def rG:=@List.map_nil
def rH:=@PySem.call_meets
def rJ:=@PySem.wpAny_updateSeq_pair
def rK:=@List.of_mem_zip
def rL:=@PySem.F.slot_zip_next
def rM:=@Nat.ne_of_gt
def rN:=@Bool.eq_iff_iff
def rO:=@PySem.W.looks_clsIn
def rP:=@PySem.W.looks_mroIn
def rQ:=@PySem.W.hideAll_get
def rR:=@PySem.W.plainGet_of
def rS:=@PyProof.Rows.wpS_lift
def rT:=@Int.mul_one
def rV:=@PySem.wpAny_tupleItemsOf
def rW:=@List.zip_cons_cons
def rX:=@PySem.Code.quiet_builtin
def rY:=@Array.size_extract
def rZ:=@PySem.W.of_hideAll
def qB:=@PySem.W.isNs_of_in
def qC:=@List.getElem_range
def qD:=@PyProof.Rows.assignInOrder_cons
def qE:=@List.any_cons
def qF:=@Nat.mul_assoc
def qG:=@PySem.plainId_quiet
def qH:=@PySem.wpAny_onRaise
def qI:=@List.take_add
def qJ:=@Nat.lt_succ_of_lt
def qK:=@Nat.le_of_succ_le
def qL:=@List.nodup_append
def qM:=@List.reverse_perm
def qN:=@PySem.W.kitx_list
def qO:=@PySem.wpAny_dictEntries
def qP:=@Nat.pow_succ
def qQ:=@Nat.le_add_right
def qR:=@PySem.W.Looks.ld
def qT:=@Nat.succ_le_succ
def qU:=@Int.dvd_refl
def qV:=@List.take_length
def qW:=@Nat.succ.inj
def qX:=@Nat.succ_mul
def qZ:=@PySem.wpAny_pyHash_int
def pC:=@PySem.wpAny_dictEpoch
def pE:=@PySem.pushCells_keeps
def pF:=@PySem.Heap.Ns.of_isNs
def pG:=@Int.one_mul
def pH:=@PySem.wpAny_letGo
def pI:=@PySem.seqIndex_of
def pJ:=@PySem.wpAny_newTuple
def pK:=@PySem.isSubtype_stop
def pL:=@List.drop_drop
def pM:=@List.take_zero
def pN:=@PySem.wpAny_loadPart
def pO:=@Int.mul_zero
def pQ:=@PySem.seqIndex_neg
def pR:=@Nat.min_self
def pS:=@List.mem_singleton
def pU:=@Nat.one_mul
def pV:=@Nat.log2_lt
def pW:=@beq_iff_eq
def pY:=@beq_eq_false_iff_ne
def pZ:=@List.mem_map
def oA:=@List.mem_append
def oB:=@List.not_lt
def oC:=@List.mem_range
def oE:=@List.mem_filterMap
def oF:=@Bool.eq_false_iff
def oG:=@List.getElem?_eq_some_iff
def oH:=@List.pairwise_append
namespace L2
open PySem PySem.Spec PyProof.Rows
open PySem.W (Frag)
abbrev Key:=Sum Int Str
def Eg:Key->Value->Bool
 |.inl k,v=>Value.isInt k v
 |.inr x,v=>Value.isStrOf x v
def keyH(w:World):Key->Int
 |.inl k=>hashInt k
 |.inr x=>hashStr w x
theorem iB:∀{k:Key}{v:Value},Eg k v=true->(∃i t,k=Sum.inl i/\v=Value.int i t)\/(∃x t,k=Sum.inr x/\v=Value.str x t)
 |.inl i,v,h=>by
  obtain⟨t,e⟩:=Value.isInt_shape (k:=i) (v:=v) h;exact .inl ⟨i,t,rfl,e⟩
 |.inr x,v,h=>by
  obtain⟨t,e⟩:=Value.isStrOf_shape (x:=x) (v:=v) h;exact .inr ⟨x,t,rfl,e⟩
theorem Mo(a b:Int):decide ((Sum.inl a:Key)=Sum.inl b)=(a == b):=by
 by_cases e:a=b
 ·subst e;simp
 ·have h:¬ (Sum.inl a:Key)=Sum.inl b:=λq=>e (Sum.inl.inj q);rw[zN h];exact(pY.mpr e).symm
theorem Mn(a b:Str):decide ((Sum.inr a:Key)=Sum.inr b)=decide (a=b):=by
 by_cases e:a=b
 ·subst e;simp
 ·have h:¬ (Sum.inr a:Key)=Sum.inr b:=λq=>e (Sum.inr.inj q);rw[zN h,zN e]
theorem Mm(a:Int)(b:Str):decide ((Sum.inl a:Key)=Sum.inr b)=false:=zN (λq=>nomatch q)
theorem Ml(a:Str)(b:Int):decide ((Sum.inr a:Key)=Sum.inl b)=false:=zN (λq=>nomatch q)
def Ef(prog:Program)(w:World):PySem.KeyKind prog w Key where
 is:=Eg
 hash:=keyH w
 inj:=λv a b ha hb=>by
  rcases iB ha with⟨i,t,rfl,rfl⟩|⟨x,t,rfl,rfl⟩
  ·rcases iB hb with⟨j,u,rfl,e⟩|⟨y,u,rfl,e⟩
   ·injection e with e1 _;rw[e1]
   ·exact nomatch e
  ·rcases iB hb with⟨j,u,rfl,e⟩|⟨y,u,rfl,e⟩
   ·exact nomatch e
   ·injection e with e1 _;rw[e1]
 byValue:=λk v h=>by
  rcases iB h with⟨i,t,rfl,rfl⟩|⟨x,t,rfl,rfl⟩ <;> rfl
 pyHash:=λhv h=>by
  rcases iB hv with⟨i,t,rfl,rfl⟩|⟨x,t,rfl,rfl⟩
  ·exact qZ h
  ·exact wpAny_pyHash_str h
 eqBool:=λhu hv h=>by
  rcases iB hu with⟨i,t,rfl,rfl⟩|⟨x,t,rfl,rfl⟩
  ·rcases iB hv with⟨j,u,rfl,rfl⟩|⟨y,u,rfl,rfl⟩
   ·rw[Mo]at h;exact wpAny_eqBool_int h
   ·rw[Mm]at h;exact SeqAt.EqAt.int_str i t y u _ _ _ _ h
  ·rcases iB hv with⟨j,u,rfl,rfl⟩|⟨y,u,rfl,rfl⟩
   ·rw[Ml]at h;exact SeqAt.EqAt.str_int x t j u _ _ _ _ h
   ·rw[Mn]at h;exact wpAny_eqBool_str h
 «strs»:=λk x t v h=>by
  rcases iB h with⟨i,u,rfl,e⟩|⟨y,u,rfl,e⟩
  ·exact nomatch e
  ·injection e with e1 _;subst e1;cases v <;> rfl
inductive V where
 |non|bl(b:Bool)|int(i:Int)|str(x:Str)|byt(b:Array UInt8)|flt(b:UInt64)|ref(a:Addr)|ty(n:String)
 deriving DecidableEq
def RelV:V->Value->Prop
 |.non,u=>u=Value.none
 |.bl b,u=>u=Value.bool b
 |.int i,u=>∃t,u=Value.int i t
 |.str x,u=>∃t,u=Value.str x t
 |.byt b,u=>∃t,u=Value.bytes b t
 |.flt b,u=>∃t,u=Value.float b t
 |.ref a,u=>u=Value.ref a
 |.ty n,u=>u=Value.type n
abbrev Vals:List V->LW->Prop:=Paired RelV
theorem Vals.length{xs:List V}{us:LW}(r:Vals xs us):xs.length=us.length:=Paired.length r
theorem Vals.get:∀{xs:List V}{us:LW}{i:Nat}{x:V},Vals xs us->xs[i]?=some x->∃u,us[i]?=some u/\RelV x u
 |_,_,_,_,.nil,e=>by simp at e
 |_,_,0,_,.cons r _,e=>by simp at e;subst e;exact⟨_,rfl,r⟩
 |_,_,i+1,x,.cons _ a,e=>by
  obtain⟨u,b,c⟩:=Vals.get (i:=i) (x:=x) a (by simpa using e);exact⟨u,by simpa using b,c⟩
theorem Vals.set{x:V}{u:Value}(r:RelV x u):∀{xs:List V}{us:LW}(i:Nat),Vals xs us->Vals (xs.set i x) (us.set i u)
 |_,_,_,.nil=>.nil
 |_,_,0,.cons _ t=>.cons r t
 |_,_,i+1,.cons q t=>.cons q (Vals.set r i t)
theorem Vals.append:∀{xs ys:List V}{us a:LW},Vals xs us->Vals ys a->Vals (xs++ys) (us++a)
 |_,_,_,_,.nil,s=>s
 |_,_,_,_,.cons r b,s=>.cons r (Vals.append b s)
theorem Vals.take:∀{xs:List V}{us:LW}(n:Nat),Vals xs us->Vals (xs.take n) (us.take n)
 |_,_,0,_=>.nil
 |_,_,_+1,.nil=>.nil
 |_,_,n+1,.cons r t=>.cons r (Vals.take n t)
theorem Vals.drop:∀{xs:List V}{us:LW}(n:Nat),Vals xs us->Vals (xs.drop n) (us.drop n)
 |_,_,0,r=>r
 |_,_,_+1,.nil=>.nil
 |_,_,n+1,.cons _ t=>Vals.drop n t
theorem Vals.none_of:∀{xs:List V}{us:LW}{i:Nat},Vals xs us->xs[i]?=none->us[i]?=none:=λ{xs us i}r e=>by
 have a:=r.length;have b:xs.length<=i:=List.getElem?_eq_none_iff.mp e;exact List.getElem?_eq_none_iff.mpr ⋯
def RelO:Option V->Option Value->Prop
 |some v,some u=>RelV v u
 |none,none=>True
 |_,_=>False
def KV{κ:Type}:List (κ×V)->List (κ×Value)->Prop:=Paired λ(p:κ×V)(q:κ×Value)=>p.1=q.1/\RelV p.2 q.2
def kV:Key->V
 |.inl i=>.int i
 |.inr x=>.str x
inductive HO where
  |lst(xs:List V)
  |tup(xs:List V)
  |dK(kvs:List (Key×V))|dT(kvs:List (List Key×V))
  |set(S:Int->Bool)(n:Nat)
  |ins(C dx:Addr)(fs:List (Str×V))
  |own(x:Addr)
  |xd(fs:List (Str×V))
  |met(f x:Addr)
  |rng(lo hi:Int)
  |frz(o:Obj)(u:HO)
  |tbl(ps:Array Value)
  |ext(φ:Heap->Prop)
abbrev Hp:=Addr->Option HO
def upd(H:Hp)(a:Addr)(o:HO):Hp:=λb=>if b=a then some o else H b
theorem oP{H:Hp}{a:Addr}{o:HO}:upd H a o a=some o:=by unfold upd;rw[zF rfl]
theorem oT{H:Hp}{a b:Addr}{o:HO}(h:b≠a):upd H a o b=H b:=by unfold upd;rw[zD h]
theorem nY{H:Hp}{a b:Addr}{o:HO}(h:H a=some o)(h':H b=none):a≠b:=by
 intro e;subst e;rw[h]at h';cases h'
section
variable (P:Program) (w:World)
def nO(H:Hp)(h:Heap)(a:Addr):HO->Prop
 |.lst xs=>xs.length<=sizeLine/\∃(its:LW)(n:Nat),Vals xs its/\h.get? a=some {cls:=.type "list",data:=.seq its.toArray n}
 |.tup xs=>xs.length<=sizeLine/\∃its:LW,Vals xs its/\IsTup h a its.toArray
 |.dK kvs=>kvs.length<=sizeLine/\(a == sysModules)=false/\∃vs,KV kvs vs/\h.DictOf (Ef P w) a vs
 | .dT kvs=>kvs.length<=sizeLine/\(a == sysModules)=false/\∃xs:List (List Key×Addr×Value),
   Paired (λ(p:List Key×V)(q:List Key×Addr×Value)=>p.1=q.1/\H q.2.1=some (.tup (p.1.map kV))/\RelV p.2 q.2.2) kvs xs /\
   ∃o es ep,h.get? a=some o/\o.ExactDict/\o.data=.dict es ep/\es.toList=xs.map (entryOfKey (tupleKind (Ef P w)))/\(xs.map (·.1)).Nodup
 |.set S n=>h.SetOf (intKind P w) a S n
 | .ins C dx fs=>H dx=some (.own a)/\fs.length<=1000/\dx≠a/\h.get? a=some (PySem.W.instObj C dx) /\
   ∃mA,h.Ns1 dx mA/\(∀f,RelO (fs.lookup f) (mA f))/\PySem.Within mA (fs.map (·.1))
 |.own _=>∃o,h.get? a=some o
 |.xd fs=>∃mA,h.Ns1 a mA/\∀f,RelO (fs.lookup f) (mA f)
 |.rng lo hi=>∃t u v,h.get? a=some {cls:=.type "range",data:=.fields #[.int lo t,.int hi u,.int 1 v]}
 |.frz o u=>h.get? a=some o/\nO H h a u
 |.tbl ps=>h.get? a=some {cls:=.none,data:=.fields ps}
 |.met f x=>h.get? a=some (PySem.W.methodObj (.ref f) (.ref x))
 |.ext φ=>φ h/\(∃o,h.get? a=some o)/\∀h1 h2:Heap,φ h1->(∀o,h1.get? a=some o->h2.get? a=some o)->φ h2
def HOk(H:Hp)(h:Heap):Prop:=∀a o,H a=some o->nO P w H h a o
end
section
variable {P:Program} {w:World} {H H':Hp} {h h':Heap} {a:Addr} {o:HO}
theorem nO.lt(x:nO P w H h a o):a<h.objs.size:=by
 cases o with
 |lst xs=>obtain⟨_,_,_,_,e⟩:=x;exact zL e
 |tup xs=>obtain⟨_,_,_,p⟩:=x;exact p.lt
 |dK kvs=>obtain⟨_,_,_,_,o,_,_,e,_⟩:=x;exact zL e
 |dT kvs=>obtain⟨_,_,_,_,o,_,_,e,_⟩:=x;exact zL e
 |set S n=>obtain⟨o,_,_,_,e,_⟩:=x;exact zL e
 |ins C c fs=>obtain⟨_,_,_,e,_⟩:=x;exact zL e
 |own y=>obtain⟨_,e⟩:=x;exact zL e
 |xd fs=>obtain⟨_,⟨_,_,_,e,_⟩,_⟩:=x;exact zL e
 |rng lo hi=>obtain⟨_,_,_,e⟩:=x;exact zL e
 |frz b u=>obtain⟨e,_⟩:=x;exact zL e
 |tbl ps=>exact zL (show h.get? a=some _ from x)
 |met f y=>exact zL (show h.get? a=some _ from x)
 |ext d=>obtain⟨_,⟨_,e⟩,_⟩:=x;exact zL e
theorem Paired.mapP{c d:Type}{F e:c->d->Prop}:∀{i:List c}{g:List d},Paired F i g->(∀a b,F a b->e a b)->Paired e i g
 |_,_,.nil,_=>.nil
 |_,_,.cons r j,f=>.cons (f _ _ r) (Paired.mapP j f)
theorem nO.stay(x:nO P w H h a o)(k:∀b u,(b=a\/H b=some (.own a))->h.get? b=some u->h'.get? b=some u)
  (m:∀b,H b=some (.own a)->H' b=some (.own a))(D:∀b xs,H b=some (.tup xs)->H' b=some (.tup xs)):nO P w H' h' a o:=by
 induction o with
 |lst xs=>obtain⟨z,its,n,r,e⟩:=x;exact⟨z,its,n,r,k _ _ (.inl rfl) e⟩
 |tup xs=>obtain⟨z,its,r,g,e,c⟩:=x;exact⟨z,its,r,g,k _ _ (.inl rfl) e,c⟩
 |dK kvs=>obtain⟨z,y,vs,r,g,es,ep,e,c⟩:=x;exact⟨z,y,vs,r,g,es,ep,k _ _ (.inl rfl) e,c⟩
 |dT kvs =>
  obtain⟨z,y,xs,r,g,es,ep,e,c⟩:=x;exact⟨z,y,xs,Paired.mapP r λp q z=>⟨z.1,D _ _ z.2.1,z.2.2⟩,g,es,ep,k _ _ (.inl rfl) e,c⟩
 |set S n=>obtain⟨g,es,ep,l,e,c⟩:=x;exact⟨g,es,ep,l,k _ _ (.inl rfl) e,c⟩
 |ins C J fs =>
  obtain⟨d,z,G,e,j,⟨i,es,ep,t,c⟩,r⟩:=x;exact⟨m _ d,z,G,k _ _ (.inl rfl) e,j,⟨i,es,ep,k _ _ (.inr d) t,c⟩,r⟩
 |own y=>obtain⟨g,e⟩:=x;exact⟨g,k _ _ (.inl rfl) e⟩
 |xd fs=>obtain⟨j,⟨i,es,ep,e,c⟩,r⟩:=x;exact⟨j,⟨i,es,ep,k _ _ (.inl rfl) e,c⟩,r⟩
 |rng lo hi=>obtain⟨l,u,v,e⟩:=x;exact⟨l,u,v,k _ _ (.inl rfl) e⟩
 |frz g u F=>obtain⟨e,q⟩:=x;exact⟨k _ _ (.inl rfl) e,F q⟩
 |tbl ps =>
  have e:h.get? a=some {cls:=.none,data:=.fields ps}:=x;show h'.get? a=some {cls:=.none,data:=.fields ps};exact k a _ (.inl rfl) e
 |met f y =>
  have e:h.get? a=some (PySem.W.methodObj (.ref f) (.ref y)):=x;show h'.get? a=some (PySem.W.methodObj (.ref f) (.ref y));exact k a _ (.inl rfl) e
 |ext I=>obtain⟨p,⟨o,e⟩,st⟩:=x;exact⟨st _ _ p λo q=>k _ _ (.inl rfl) q,⟨o,k _ _ (.inl rfl) e⟩,st⟩
theorem HOk.lt(x:HOk P w H h)(e:H a=some o):a<h.objs.size:=(x a o e).lt
theorem HOk.fresh(x:HOk P w H h)(e:h.objs.size<=a):H a=none:=by
 cases q:H a with
 |none=>rfl
 |some u=>exact absurd (zJ (x.lt q) e) (xC _)
theorem HOk.kept(x:HOk P w H h)(k:∀b u,h.get? b=some u->h'.get? b=some u):HOk P w H h':=λa o e =>
 (x a o e).stay (λb u _ q=>k b u q) (λ_ q=>q) λ_ _ q=>q
theorem HOk.laid(x:HOk P w H h)(k:∀b u,h.get? b=some u->h'.get? b=some u)(g:h.objs.size<=a)(new:nO P w (upd H a o) h' a o):HOk P w (upd H a o) h':=λb u e=>by
 have d:=x.fresh g
 by_cases f:b=a
 ·subst f;rw[oP]at e;cases e;exact new
 ·rw[oT f]at e;exact(x b u e).stay (λc v _ q=>k c v q) (λc q=>by rw[oT (nY q d)];exact q) λc xs q=>by rw[oT (nY q d)];exact q
end
def Rd(H:Hp)(a:Addr)(u:HO):Prop:=H a=some u\/∃o,H a=some (.frz o u)
theorem Rd.ok{P:Program}{w:World}{H:Hp}{h:Heap}{a:Addr}{u:HO}(r:Rd H a u)(x:HOk P w H h):nO P w H h a u:=by
 rcases r with r|⟨o,r⟩
 ·exact x a u r
 ·obtain⟨_,q⟩:=x a _ r;exact q
def Mut:Option HO->Prop
 |some (.lst _)=>True
 |some (.dK _)=>True
 |some (.dT _)=>True
 |some (.set _ _)=>True
 |some (.ins _ _ _)=>True
 |some (.ext _)=>True
 |_=>False
section
variable {P:Program} {w:World} {H:Hp} {h h':Heap} {x e:Addr} {o':HO}
theorem HOk.write(ok:HOk P w H h)(d:Mut (H x))(l:e=x\/H e=some (.own x))(k:∀b u,b≠e->h.get? b=some u->h'.get? b=some u)(n:∃u,h'.get? e=some u)
  (new:nO P w (upd H x o') h' x o'):HOk P w (upd H x o') h':=λb u q=>by
 have j:∀c y,H c=some (.own y)->c≠x:=λc y r z=>by subst z;rw[r]at d;exact d
 have o:∀c xs,H c=some (.tup xs)->c≠x:=λc xs r z=>by subst z;rw[r]at d;exact d
 by_cases a:b=x
 ·subst a;rw[oP]at q;cases q;exact new
 ·rw[oT a]at q
  by_cases g:b=e
  ·have i:H b=some (.own x):=by
    rcases l with z|z
    ·exact absurd (g.trans z) a
    ·rw[g];exact z
   rw[q]at i;cases i;obtain⟨v,m⟩:=n;exact⟨v,by rw[g];exact m⟩
  ·refine(ok b u q).stay (λc v f r=>k c v ?_ r) (λc r=>by rw[oT (j c b r)];exact r) λc xs r=>by rw[oT (o c xs r)];exact r
   rcases f with rfl|f
   ·exact g
   ·rintro rfl;rcases l with z|z
    ·exact j c b f z
    ·rw[f]at z;cases z;exact a rfl
end
structure Un(fs ex:LA)(H H':Hp)(h h':Heap):Prop where
 keep:∀b o,h.get? b=some o->H b=none->b∉fs->b∉ex->h'.get? b=some o
 slot:∀b o,h.get? b=some o->H b=none->b∈fs->b∉ex->∃sl,h'.get? b=some {o with slots:=sl}
 free:∀b o,h.get? b=some o->H b=none->b∉ex->H' b=none
 there:∀b o,h.get? b=some o->b∉ex->∃o',h'.get? b=some o'
 tups:∀b xs,H b=some (.tup xs)->H' b=some (.tup xs)
 frzs:∀b o u,H b=some (.frz o u)->H' b=some (.frz o u)
 tbls:∀b ps,H b=some (.tbl ps)->∃more,H' b=some (.tbl (ps++more))
section
variable {fs fs' ex ex':LA} {H H1 H2:Hp} {h h1 h2 h':Heap} {a x e:Addr} {o:HO}
theorem Un.any(u:Un fs ex H H1 h h1){b:Addr}{c:Obj}(q:h.get? b=some c)(n:H b=none)(d:b∉ex):∃g,h1.get? b=some {c with slots:=g}:=by
 by_cases f:b∈fs
 ·exact u.slot b c q n f d
 ·exact⟨c.slots,u.keep b c q n f d⟩
theorem Un.trans(a:Un fs ex H H1 h h1)(b:Un fs ex H1 H2 h1 h2):Un fs ex H H2 h h2 where
 keep:=λc d q n g f=>b.keep c d (a.keep c d q n g f) (a.free c d q n f) g f
 slot:=λc d q n g f=>by
  obtain⟨p,e1⟩:=a.slot c d q n g f;obtain⟨m,i⟩:=b.slot c _ e1 (a.free c d q n f) g f;exact⟨m,i⟩
 free:=λc d q n f=>by
  obtain⟨j,e1⟩:=a.there c d q f;exact b.free c j e1 (a.free c d q n f) f
 there:=λc d q f=>by
  obtain⟨j,e1⟩:=a.there c d q f;exact b.there c j e1 f
 tups:=λc xs q=>b.tups c xs (a.tups c xs q)
 frzs:=λc d xs q=>b.frzs c d xs (a.frzs c d xs q)
 tbls:=λc ps q=>by
  obtain⟨k,e1⟩:=a.tbls c ps q;obtain⟨l,i⟩:=b.tbls c _ e1;exact⟨k++l,by rw[i,Array.append_assoc]⟩
theorem Un.kept(k:∀b u,h.get? b=some u->h'.get? b=some u):Un fs ex H H h h':=
 ⟨λb c q _ _ _=>k b c q,λb c q _ _ _=>⟨c.slots,k b c q⟩,λ_ _ _ n _=>n,λb c q _=>⟨c,k b c q⟩,λ_ _ q=>q,λ_ _ _ q=>q,λ_ ps q=>⟨#[],by rw[q];simp⟩⟩
theorem Un.refl:Un fs ex H H h h:=Un.kept λ_ _ q=>q
theorem Un.laid(k:∀b u,h.get? b=some u->h'.get? b=some u)(d:h.objs.size<=a)(c:H a=none):Un fs ex H (upd H a o) h h' where
 keep:=λb u q _ _ _=>k b u q
 slot:=λb u q _ _ _=>⟨u.slots,k b u q⟩
 free:=λb u q n _=>by rw[oT (zY (zJ (zL q) d))];exact n
 there:=λb u q _=>⟨u,k b u q⟩
 tups:=λb xs q=>by rw[oT (nY q c)];exact q
 frzs:=λb u xs q=>by rw[oT (nY q c)];exact q
 tbls:=λb ps q=>⟨#[],by rw[oT (nY q c),q];simp⟩
theorem Un.write(c:Mut (H x))(l:e=x\/H e=some (.own x))(k:∀b u,b≠e->h.get? b=some u->h'.get? b=some u)(j:∃u,h'.get? e=some u):Un fs ex H (upd H x o) h h':=by
 have g:∀b,H b=none->b≠x:=λb n z=>by subst z;rw[n]at c;exact c
 have f:∀b,H b=none->b≠e:=λb n z=>by
  subst z;rcases l with r|r
  ·exact g b n r
  ·rw[n]at r;cases r
 have d:∀b u,H b=some u->¬ Mut (some u)->b≠x:=λb u q nm z=>by subst z;rw[q]at c;exact nm c
 refine⟨λb u q n _ _=>k b u (f b n) q,λb u q n _ _=>⟨u.slots,k b u (f b n) q⟩,λb u q n _=>by rw[oT (g b n)];exact n,λb u q _=>?_,
  λb xs q=>by rw[oT (d b _ q λz=>z)];exact q,λb u xs q=>by rw[oT (d b _ q λz=>z)];exact q,λb ps q=>⟨#[],by rw[oT (d b _ q λz=>z),q];simp⟩⟩
 by_cases i:b=e
 ·subst i;exact j
 ·exact⟨u,k b u i q⟩
end
def trk(h:Heap)(H:Hp):LA:=(List.range h.objs.size).filter λa=>(H a).isSome
def hidT(h:Heap)(H:Hp):Heap:=PySem.W.hideAll h (trk h H)
theorem Mj(h:Heap)(H:Hp):(hidT h H).objs.size=h.objs.size:=PySem.W.hideAll_size _ _
theorem Mi{h:Heap}{H:Hp}{b:Addr}{o:Obj}(e:h.get? b=some o)(n:H b=none):(hidT h H).get? b=some o:=
 rQ _ e λa=>by
  have q:(H b).isSome=true:=(List.mem_filter.mp a).2;rw[n]at q;simp at q
theorem Mh{h:Heap}{H:Hp}{b:Addr}{o:Obj}(e:(hidT h H).get? b=some o):h.get? b=some o/\H b=none:=by
 have a:h.get? b=some o:=rZ (trk h H) e;refine⟨a,?_⟩;cases q:H b with
 |none=>rfl
 |some x =>
  have c:b∈trk h H:=List.mem_filter.mpr ⟨oC.mpr (zL a),by simp[q]⟩;have z:(hidT h H).get? b=none:=rD (trk h H) c;rw[z]at e;cases e
def Mg(g h:Heap)(L:Addr):PN:=(List.range h.objs.size).filterMap λa=>if a=L\/(g.get? a).isSome=true then none else(h.get? a).map λo=>(a,o)
def rest(g h:Heap)(L d:Addr):PN:=(Mg g h L).filter λp=>decide (p.1≠d)
structure Mod(K:Frag)(mg:MT)(base:Heap):Prop where
 kin:K.In base
 glob:base.Ns mainGlobals mg
 blt:∃mb,base.Ns builtinsNs mb/\∀x:Str,x≠"__name__" -> mb x=bootBuiltins x
 nolimit:base.NoLimit
structure Cx where
 prog:Program
 w:World
 K:Frag
 mg:MT
 base:Heap
 A:Around
 N:List Str
 s₀:Shared
 H₀:Hp
 env:Env
 outer:List Env
 stack:List Env
 ex:LA
 fn:Str->Bool
 calm:Bool
 pn:PN
 xe:VP
def frs(l:List Env):LA:=l.filterMap (·.frame)
abbrev Cx.fs(X:Cx):LA:=frs X.outer
def Vis(sc:Scope)(x:Str):Prop:=sc.names.lookup x=some .local\/sc.names.lookup x=some .cell\/sc.names.lookup x=some .free
def Loc(sc:Scope)(x:Str):Prop:=sc.names.lookup x=some .local\/sc.names.lookup x=some .cell
def Look(env:Env)(h:Heap)(m:MT)(x:Str)(u:Value):Prop:=
 (env.kindOf x=some .local/\m x=some u)\/((env.kindOf x=some .cell\/env.kindOf x=some .free)/\∃c,env.cells.lookup x=some c/\h.IsCell c (some u))
structure Cx.Ok(X:Cx):Prop where
 mod:Mod X.K X.mg X.base
 kind:X.env.scope.kind=.function
 glob:X.env.globals=mainGlobals
 blt:X.env.builtins=builtinsNs
 above:X.s₀.heap.objs.size<=X.env.locals
 inj:∀x y c,X.env.cells.lookup x=some c->X.env.cells.lookup y=some c->x=y
 has:∀x,(X.env.kindOf x=some .cell\/X.env.kindOf x=some .free)->∃c,X.env.cells.lookup x=some c
 cab:∀x c,X.fn x=true->X.env.cells.lookup x=some c->X.s₀.heap.objs.size<=c
 hd:X.calm=true->X.A.handled=none
 frames:X.A.frames=some X.stack
 stk:X.stack=X.outer\/(X.stack=X.env:: X.outer/\X.env.frame=some X.env.locals)
 exf:∀b∈X.ex,b≠X.env.locals/\∀x c,X.env.cells.lookup x=some c->c≠b
 bs:∀b o,X.base.get? b=some o->X.s₀.heap.get? b=some o/\X.H₀ b=none
 bsz:X.base.objs.size<=X.s₀.heap.objs.size
 noex:∀b o,X.base.get? b=some o->b∉X.ex
 exfs:∀b∈X.ex,b∉X.fs
 funs:X.s₀.heap.FunFrames X.base X.outer
 frf:∀b∈X.fs,X.H₀ b=none
structure Inv(X:Cx)(pins:PN)(σ:List (Option V))(H:Hp)(s:Shared):Prop where
 ok:X.Ok
 os:s.os=X.s₀.os
 bare:AllBare s.gens
 base:Un X.fs X.ex X.H₀ H X.s₀.heap s.heap
 loc:∃m,s.heap.Ns X.env.locals m/\∀(i:Nat)(x:Str)(v:V),X.N[i]?=some x->σ[i]?=some (some v)->Vis X.env.scope x->∃u,RelV v u/\Look X.env s.heap m x u
 cell:∀x c,X.env.cells.lookup x=some c->∃v,s.heap.IsCell c v
 free:H X.env.locals=none
 freeC:∀x c,X.env.cells.lookup x=some c->H c=none
 pin:∀p∈X.pn++pins,s.heap.get? p.1=some p.2/\H p.1=none/\p.1≠X.env.locals/\p.1∉X.fs/\∀v,p.2.data≠.cell v
 hok:HOk X.prog X.w H s.heap
 len:σ.length=X.N.length
section
variable {X:Cx} {pins:PN} {σ:List (Option V)} {H H':Hp} {s:Shared} {h':Heap}
theorem Cx.Ok.nofr(ok:X.Ok){b:Addr}{o:Obj}(e:X.base.get? b=some o):b∉X.fs:=λa=>by
 have:=(ok.funs.mem a).1;rw[e]at this;cases this
theorem Inv.bs(I:Inv X pins σ H s):∀b o,X.base.get? b=some o->s.heap.get? b=some o/\H b=none:=λb o e =>
 ⟨I.base.keep b o (I.ok.bs b o e).1 (I.ok.bs b o e).2 (I.ok.nofr e) (I.ok.noex b o e),I.base.free b o (I.ok.bs b o e).1 (I.ok.bs b o e).2 (I.ok.noex b o e)⟩
theorem Inv.bk(I:Inv X pins σ H s):∀b o,X.base.get? b=some o->s.heap.get? b=some o:=λb o e=>(I.bs b o e).1
theorem Inv.mod(I:Inv X pins σ H s):Mod X.K X.mg X.base:=I.ok.mod
theorem Inv.kIn(I:Inv X pins σ H s):X.K.In s.heap:=I.ok.mod.kin.keeps I.bk
theorem Inv.lt(I:Inv X pins σ H s):X.env.locals<s.heap.objs.size:=let ⟨_,a,_⟩:=I.loc;a.lt
theorem Inv.sz(I:Inv X pins σ H s):X.s₀.heap.objs.size<=s.heap.objs.size:=yG I.ok.above (vY I.lt)
theorem Inv.nofs(I:Inv X pins σ H s){a:Addr}(h:s.heap.objs.size<=a):a∉X.fs:=λb=>by
 obtain⟨_,o,c,_⟩:=I.ok.funs.mem b;exact absurd (zJ (zL c) (yG I.sz h)) (xC _)
theorem Inv.cne(I:Inv X pins σ H s):∀x c,X.env.cells.lookup x=some c->c≠X.env.locals:=λx c e z=>by
 obtain⟨v,o,a,b⟩:=I.cell x c e;obtain⟨m,⟨g,es,ep,f,d,_⟩,_⟩:=I.loc;rw[z,f]at a;cases a;rw[d]at b;cases b
theorem Inv.funs(I:Inv X pins σ H s):s.heap.FunFrames X.base X.outer:=by
 have all:∀(l:List Env),(∀b∈frs l,b∈X.fs)->X.s₀.heap.FunFrames X.base l->s.heap.FunFrames X.base l:=by
  intro l
  induction l with
  |nil=>intro _ _;trivial
  |cons env r k =>
   intro f hl;obtain⟨j,⟨L,o,d,g,i,m⟩,hr⟩:=hl;have c:L∈X.fs:=f L (by unfold frs;rw[tP,d];exact zZ);obtain⟨n,e⟩:=I.base.slot L o i (I.ok.frf L c) c λz=>I.ok.exfs L z c;exact⟨j,⟨L,_,d,g,e,m⟩,k (λb a=>f b (by unfold frs;rw[tP,d];exact zO _ a)) hr⟩
 exact all X.outer (λ_ a=>a) I.ok.funs
theorem Inv.stack(I:Inv X pins σ H s):s.heap.FunFrames X.base X.stack:=by
 rcases I.ok.stk with e|⟨e,b⟩
 ·rw[e];exact I.funs
 ·rw[e];obtain⟨m,a,_⟩:=I.loc;refine .cons (by rw[I.ok.kind];decide) b a ?_ I.funs;exact Heap.get?_none_of_le (yG I.ok.bsz I.ok.above)
theorem Inv.stkSub(I:Inv X pins σ H s):∀b∈frs X.stack,b∈X.env.locals:: X.fs:=λb a=>by
 rcases I.ok.stk with e|⟨e,c⟩
 ·rw[e]at a;exact zO _ a
 ·rw[e]at a;unfold frs at a;rw[tP,c]at a;exact a
theorem Inv.stkFree(I:Inv X pins σ H s):∀b∈frs X.stack,H b=none:=λb a=>by
 rcases xI.mp (I.stkSub b a) with e|a
 ·rw[e];exact I.free
 ·obtain⟨_,o,c,_⟩:=I.ok.funs.mem a;exact I.base.free b o c (I.ok.frf b a) λz=>I.ok.exfs b z a
theorem Inv.step{g':Array GenState}{t':Nat}{d':Drawn}{ch:LA}(I:Inv X pins σ H s)
  (y:∀b∈ch,(b∈X.ex\/X.s₀.heap.objs.size<=b)/\b≠X.env.locals/\(∀x c,X.env.cells.lookup x=some c->c≠b)/\∀p∈X.pn++pins,p.1≠b)
  (J:∀b o,b≠X.env.locals->b∉X.fs->b∉ch->s.heap.get? b=some o->H b=none->h'.get? b=some o)
  (L:∀b o,b≠X.env.locals->b∈X.fs->b∉ch->s.heap.get? b=some o->H b=none->∃F,h'.get? b=some {o with slots:=F})(D:∀b o,b∉ch->s.heap.get? b=some o->H b=none->H' b=none)
  (there:∀b o,b∉ch->s.heap.get? b=some o->∃j,h'.get? b=some j)
  (Z:∀b xs,H b=some (.tup xs)->H' b=some (.tup xs))(a3:∀b o u,H b=some (.frz o u)->H' b=some (.frz o u))(a1:∀b ps,H b=some (.tbl ps)->∃more,H' b=some (.tbl (ps++more)))
  (ns:∀m,s.heap.Ns X.env.locals m->h'.Ns X.env.locals m)(W:HOk X.prog X.w H' h')(U:AllBare g'):
  Inv X pins σ H' {s with heap:=h',gens:=g',drawn:=d',toks:=t'}:=by
 have P:∀b o,X.s₀.heap.get? b=some o->b≠X.env.locals:=λb o e=>zY (zJ (zL e) I.ok.above);have C:∀b o,X.s₀.heap.get? b=some o->b∉X.ex->b∉ch:=λb o e a f=>by
  rcases(y b f).1 with z|z
  ·exact a z
  ·exact absurd (zJ (zL e) z) (xC _)
 have N:∀x c,X.env.cells.lookup x=some c->∀v,s.heap.IsCell c v->h'.IsCell c v:=λx c e v⟨o,g,G⟩=>by
  have t:c∉ch:=λz=>(y c z).2.2.1 x c e rfl
  by_cases M:c∈X.fs
  ·obtain⟨F,q⟩:=L c o (I.cne x c e) M t g (I.freeC x c e);exact⟨_,q,G⟩
  ·exact⟨o,J c o (I.cne x c e) M t g (I.freeC x c e),G⟩
 refine⟨I.ok,I.os,U,⟨λb o e n f a=>?_,λb o e n f a=>?_,λb o e n a=>?_,λb o e a=>?_,λb xs e=>Z b xs (I.base.tups b xs e),λb o xs e=>a3 b o xs (I.base.frzs b o xs e),λb ps e=>?_⟩,?_,λx c e=>?_,?_,λx c e=>?_,λp K=>?_,W,I.len⟩
 ·exact J b o (P b o e) f (C b o e a) (I.base.keep b o e n f a) (I.base.free b o e n a)
 ·obtain⟨F,e1⟩:=I.base.slot b o e n f a;obtain⟨a2,w⟩:=L b _ (P b o e) f (C b o e a) e1 (I.base.free b o e n a);exact⟨a2,w⟩
 ·obtain⟨j,e1⟩:=I.base.there b o e a;exact D b j (C b o e a) e1 (I.base.free b o e n a)
 ·obtain⟨j,e1⟩:=I.base.there b o e a;exact there b j (C b o e a) e1
 ·obtain⟨Y,e1⟩:=I.base.tbls b ps e;obtain⟨T,w⟩:=a1 b _ e1;exact⟨Y++T,by rw[w,Array.append_assoc]⟩
 ·obtain⟨m,S,hl⟩:=I.loc;refine⟨m,ns m S,λi x v e1 w a0=>?_⟩;obtain⟨u,r,l⟩:=hl i x v e1 w a0;refine⟨u,r,?_⟩;rcases l with l|⟨k,c,e,z⟩
  ·exact .inl l
  ·exact .inr ⟨k,c,e,N x c e _ z⟩
 ·obtain⟨v,z⟩:=I.cell x c e;exact⟨v,N x c e v z⟩
 ·obtain⟨m,⟨o,_,_,g,_⟩,_⟩:=I.loc;exact D _ o (λz=>(y _ z).2.1 rfl) g I.free
 ·obtain⟨v,o,g,G⟩:=I.cell x c e;exact D c o (λz=>(y c z).2.2.1 x c e rfl) g (I.freeC x c e)
 ·obtain⟨e,n,R,O,d⟩:=I.pin p K;have t:p.1∉ch:=λz=>(y p.1 z).2.2.2 p K rfl;exact⟨J p.1 p.2 R O t e n,D p.1 p.2 t e n,R,O,d⟩
theorem Inv.un{t':Nat}(I:Inv X pins σ H s)(u:Un X.fs [] H H' s.heap h')(l:HOk X.prog X.w H' h'):Inv X pins σ H' {s with heap:=h',toks:=t'}:=by
 obtain⟨m,⟨o,es,ep,c,r⟩,_⟩:=id I.loc;obtain⟨t,j⟩:=u.any c I.free (by simp);exact I.step (g':=s.gens) (d':=s.drawn) (ch:=[]) (λ_ z=>nomatch z) (λb o _ a _ e n=>u.keep b o e n a (by simp)) (λb o _ a _ e n=>u.slot b o e n a (by simp)) (λb o _ e n=>u.free b o e n (by simp)) (λb o _ e=>u.there b o e (by simp)) u.tups u.frzs u.tbls (λq k=>by
  obtain⟨p,i,f,d,g⟩:=k;rw[c]at d;cases d;exact⟨_,i,f,j,g⟩) l I.bare
theorem Inv.call{g':Array GenState}{t':Nat}{d':Drawn}{ch:LA}(I:Inv X pins σ H s)(u:Un (frs X.stack) ch H H' s.heap h')(w:HOk X.prog X.w H' h')(j:AllBare g')
  (i:∀b∈ch,(b∈X.ex\/X.s₀.heap.objs.size<=b)/\b≠X.env.locals/\(∀x c,X.env.cells.lookup x=some c->c≠b)/\∀p∈X.pn++pins,p.1≠b):
  Inv X pins σ H' {s with heap:=h',gens:=g',drawn:=d',toks:=t'}:=by
 obtain⟨m,⟨o,es,ep,f,r⟩,_⟩:=id I.loc;obtain⟨D,d⟩:=u.any f I.free λz=>(i _ z).2.1 rfl;exact I.step (ch:=ch) i (λb o d l a e n=>u.keep b o e n (λz=>(xI.mp (I.stkSub b z)).elim d l) a) (λb o _ _ a e n=>u.any e n a) (λb o a e n=>u.free b o e n a) (λb o a e=>u.there b o e a) u.tups u.frzs u.tbls (λC v=>by
  obtain⟨y,t,k,g,q⟩:=v;rw[f]at g;cases g;exact⟨_,t,k,d,q⟩) w j
theorem Inv.turned{t':Nat}{a:Addr}(I:Inv X pins σ H s)(k:∀b o,b≠a->s.heap.get? b=some o->h'.get? b=some o)(i:H a=none)(g:a≠X.env.locals)
  (y:a∈X.ex\/X.s₀.heap.objs.size<=a)(C:∀x c,X.env.cells.lookup x=some c->c≠a)(w:∀p∈X.pn++pins,p.1≠a):Inv X pins σ H {s with heap:=h',toks:=t'}:=by
 have f:∀b u,H b=some u->b≠a:=λb u e z=>by rw[z,i]at e;cases e
 refine I.step (g':=s.gens) (d':=s.drawn) (ch:=[a]) (λb j=>?_) (λb o _ _ d e _=>k b o (λz=>d (by simp[z])) e) (λb o _ _ d e _=>⟨o.slots,k b o (λz=>d (by simp[z])) e⟩) (λ_ _ _ _ n=>n)
  (λb o d e=>⟨o,k b o (λz=>d (by simp[z])) e⟩) (λ_ _ e=>e) (λ_ _ _ e=>e) (λb ps e=>⟨#[],by rw[e];simp⟩) (λm t=>?_) (λb u e=>?_) I.bare
 ·have e:b=a:=by simpa using j
  subst e;exact⟨y,g,C,w⟩
 ·obtain⟨o,es,ep,l,r⟩:=t;exact⟨o,es,ep,k _ o (yA g) l,r⟩
 ·refine(I.hok b u e).stay (λc v d q=>k c v ?_ q) (λ_ q=>q) λ_ _ q=>q;rcases d with z|z
  ·rw[z];exact f b u e
  ·exact f c _ z
theorem Inv.tok(I:Inv X pins σ H s)(t:Nat):Inv X pins σ H {s with toks:=t}:=I.un (h':=s.heap) (t':=t) Un.refl I.hok
theorem Inv.kept{t':Nat}(I:Inv X pins σ H s)(k:∀b u,s.heap.get? b=some u->h'.get? b=some u):Inv X pins σ H {s with heap:=h',toks:=t'}:=I.un (Un.kept k) (I.hok.kept k)
theorem Inv.laid{a:Addr}{o:HO}{t':Nat}(I:Inv X pins σ H s)(k:∀b u,s.heap.get? b=some u->h'.get? b=some u)(c:s.heap.objs.size<=a)(new:nO X.prog X.w (upd H a o) h' a o):
  Inv X pins σ (upd H a o) {s with heap:=h',toks:=t'}:=I.un (Un.laid k c (I.hok.fresh c)) (I.hok.laid k c new)
theorem Inv.write{x e:Addr}{o:HO}{t':Nat}(I:Inv X pins σ H s)(a:Mut (H x))(d:e=x\/H e=some (.own x))(k:∀b u,b≠e->s.heap.get? b=some u->h'.get? b=some u)(c:∃u,h'.get? e=some u)
  (new:nO X.prog X.w (upd H x o) h' x o):Inv X pins σ (upd H x o) {s with heap:=h',toks:=t'}:=I.un (Un.write a d k c) (I.hok.write a d k c new)
theorem Inv.pins_of{a:PN}(I:Inv X pins σ H s)(h:∀p∈a,s.heap.get? p.1=some p.2/\H p.1=none/\p.1≠X.env.locals/\p.1∉X.fs/\∀v,p.2.data≠.cell v):Inv X a σ H s:=
 ⟨I.ok,I.os,I.bare,I.base,I.loc,I.cell,I.free,I.freeC,λp b=>(oA.mp b).elim (λz=>I.pin p (xU _ z)) (h p),I.hok,I.len⟩
theorem Ee{N:List Str}(d:N.Nodup){i j:Nat}{x:Str}(a:N[i]?=some x)(b:N[j]?=some x):i=j:=by
 obtain⟨e,e1⟩:=oG.mp a;obtain⟨f,c⟩:=oG.mp b;exact(List.getElem_inj d).mp (e1.trans c.symm)
theorem Ed{M:Model}{A:Around}{E:VP}{i:Nat}{x:Str}{v:V}{u:Value}{Q:Unit->Shared->Prop}(I:Inv X pins σ H s)(a1:X.N.Nodup)(hi:X.N[i]?=some x)(l:Loc X.env.scope x)(r:RelV v u)
  (h:∀S,Inv X pins (σ.set i (some v)) H S->(∃a,Heap.SameBut a s.heap S.heap/\(a=X.env.locals\/X.env.cells.lookup x=some a))->Q () S)(a8:X.fn x=true\/X.env.scope.names.lookup x=some .local:=by first|exact .inl rfl|exact .inr rfl|assumption):wpAny M A (storeName X.env x u) Q E s:=by
 obtain⟨m,K,hl⟩:=id I.loc;have b4:(X.env.scope.kind == .class || (X.env.scope.kind == .module && X.env.locals != X.env.globals))=false:=by rw[I.ok.kind];rfl
 have a6:i<σ.length:=by rw[I.len];exact(oG.mp hi).1
 have cne:=I.cne;have a4:∀{a:Addr}{h':Heap},(∃o,s.heap.get? a=some o/\H a=none)->Heap.SameBut a s.heap h'->HOk X.prog X.w H h':=λ{a h'}b3 f b b2 e=>by
  obtain⟨_,_,a2⟩:=b3;refine(I.hok b b2 e).stay (λc F g q=>(f.2 c ?_).trans q) (λ_ q=>q) λ_ _ q=>q;rintro rfl;rcases g with rfl|g
  ·rw[a2]at e;cases e
  ·rw[a2]at g;cases g
 rcases l with w|w
 ·refine wpAny_storeName_local w K (λh' b5 f=>?_) b4;obtain⟨b0,_,_,a9,_⟩:=id K;refine h _ ⟨I.ok,I.os,I.bare,⟨λb o e n C l=>?_,λb o e n C l=>?_,I.base.free,λb o e l=>?_,I.base.tups,I.base.frzs,I.base.tbls⟩,⟨_,b5,λj y Y e1 t U=>?_⟩,λy c e=>?_,I.free,I.freeC,λp P=>?_,a4 ⟨b0,a9,I.free⟩ f,by simpa using I.len⟩ ⟨_,f,.inl rfl⟩
  ·exact(f.2 b (zY (zJ (zL e) I.ok.above))).trans (I.base.keep b o e n C l)
  ·obtain⟨O,e1⟩:=I.base.slot b o e n C l;exact⟨O,(f.2 b (zY (zJ (zL e) I.ok.above))).trans e1⟩
  ·obtain⟨N,e1⟩:=I.base.there b o e l;exact⟨N,(f.2 b (zY (zJ (zL e) I.ok.above))).trans e1⟩
  ·by_cases D:j=i
   ·subst D;rw[hi]at e1;cases e1;rw[wQ a6]at t;cases t;exact⟨u,r,.inl ⟨w,by simp⟩⟩
   ·rw[tG (yA D)]at t;obtain⟨T,L,q⟩:=hl j y Y e1 t U;refine⟨T,L,?_⟩;rcases q with⟨k,e⟩|⟨k,c,e,z⟩
    ·refine .inl ⟨k,?_⟩;have:y≠x:=λe=>D (Ee a1 e1 (e ▸ hi));simp[this,e]
    ·exact .inr ⟨k,c,e,z.sameBut f (cne y c e)⟩
  ·obtain⟨F,z⟩:=I.cell y c e;exact⟨F,z.sameBut f (cne y c e)⟩
  ·obtain⟨e,n,J,W,d⟩:=I.pin p P;exact⟨(f.2 p.1 J).trans e,n,J,W,d⟩
 ·have R:X.fn x=true:=by
   rcases a8 with z|z
   ·exact z
   ·rw[z]at w;cases w
  obtain⟨c,g⟩:=I.ok.has x (.inl w);obtain⟨F,z⟩:=I.cell x c g;refine wpAny_storeName_cell I.ok.kind w g z (λh' Z f=>?_);obtain⟨a0,a5,b6⟩:=id z;refine h {s with heap:=h'} ⟨I.ok,I.os,I.bare,⟨λb o e n C l=>?_,λb o e n C l=>?_,I.base.free,λb o e l=>?_,I.base.tups,I.base.frzs,I.base.tbls⟩,⟨m,K.sameBut f (yA (cne x c g)),λj y Y e1 t U=>?_⟩,λy G e=>?_,I.free,I.freeC,λp P=>?_,a4 ⟨a0,a5,I.freeC x c g⟩ f,by simpa using I.len⟩ ⟨c,f,.inr g⟩
  ·exact(f.2 b (zY (zJ (zL e) (I.ok.cab x c R g)))).trans (I.base.keep b o e n C l)
  ·obtain⟨O,e1⟩:=I.base.slot b o e n C l;exact⟨O,(f.2 b (zY (zJ (zL e) (I.ok.cab x c R g)))).trans e1⟩
  ·obtain⟨N,e1⟩:=I.base.there b o e l;exact⟨N,(f.2 b (zY (zJ (zL e) (I.ok.cab x c R g)))).trans e1⟩
  ·by_cases D:j=i
   ·subst D;rw[hi]at e1;cases e1;rw[wQ a6]at t;cases t;exact⟨u,r,.inr ⟨.inl w,c,g,Z⟩⟩
   ·rw[tG (yA D)]at t;obtain⟨T,L,q⟩:=hl j y Y e1 t U;refine⟨T,L,?_⟩;rcases q with q|⟨k,G,e,b1⟩
    ·exact .inl q
    ·refine .inr ⟨k,G,e,b1.sameBut f ?_⟩;rintro rfl;exact D (Ee a1 e1 (I.ok.inj _ _ _ e g ▸ hi))
  ·by_cases a3:G=c
   ·subst a3;exact⟨_,Z⟩
   ·obtain⟨b7,b8⟩:=I.cell y G e;exact⟨b7,b8.sameBut f a3⟩
  ·obtain⟨e,n,J,W,d⟩:=I.pin p P;refine⟨(f.2 p.1 ?_).trans e,n,J,W,d⟩;intro q;rw[q,a5]at e;have a7:a0=p.2:=zW e;exact d F (by rw[←a7];exact b6)
theorem dE{M:Model}{A:Around}{E:VP}{i:Nat}{x:Str}{v:V}{u:Value}{Q:Unit->Shared->Prop}(I:Inv X pins σ H s)(c:X.N.Nodup)(hi:X.N[i]?=some x)(d:Loc X.env.scope x)(r:RelV v u)
  (h:∀a,Inv X pins (σ.set i (some v)) H a->Q () a)(e:X.fn x=true\/X.env.scope.names.lookup x=some .local:=by first|exact .inl rfl|exact .inr rfl|assumption):wpAny M A (storeName X.env x u) Q E s:=
 Ed I c hi d r (λa b _=>h a b) e
theorem Inv.call'{a:Shared}{ch:LA}(I:Inv X pins σ H s)(f:a.os=s.os)(u:Un (frs X.stack) ch H H' s.heap a.heap)(j:HOk X.prog X.w H' a.heap)(d:AllBare a.gens)
  (i:∀b∈ch,(b∈X.ex\/X.s₀.heap.objs.size<=b)/\b≠X.env.locals/\(∀x c,X.env.cells.lookup x=some c->c≠b)/\∀p∈X.pn++pins,p.1≠b):Inv X pins σ H' a:=by
 obtain⟨h',g',d',t',g⟩:=a;have e:g=s.os:=f;subst e;exact I.call (g':=g') (t':=t') (d':=d') u j d i
end
abbrev XK:=Value->Option Addr->Hp->Prop
abbrev St:=List (Option V)
abbrev VK:=V->Hp->Prop
abbrev TE:=St->Hp->VK->Prop
abbrev TT:=St->Hp->(Bool->Hp->Prop)->Prop
abbrev TA:=St->Hp->(List V->Hp->Prop)->Prop
structure Ends where
 nx:St->Hp->Prop
 rt:VK
 bk:St->Hp->Prop:=λ_ _=>False
 ct:St->Hp->Prop:=λ_ _=>False
abbrev TS:=Ends->St->Hp->Prop
def EP(X:Cx)(pins:PN)(σ:St)(Q:VK)(u:Value)(s':Shared):Prop:=∃v H',Inv X pins σ H' s'/\RelV v u/\Q v H'
def TP(X:Cx)(pins:PN)(σ:St)(Q:Bool->Hp->Prop)(b:Bool)(s':Shared):Prop:=∃H',Inv X pins σ H' s'/\Q b H'
def AP(X:Cx)(pins:PN)(σ:St)(Q:List V->Hp->Prop)(us:LW)(s':Shared):Prop:=∃vs H',Inv X pins σ H' s'/\Vals vs us/\Q vs H'
def SP(X:Cx)(pins:PN)(D:Ends)(f:Flow)(s':Shared):Prop:=
 match f with
 |.next=>∃σ' H',Inv X pins σ' H' s'/\D.nx σ' H'
 |.brk=>∃σ' H',Inv X pins σ' H' s'/\D.bk σ' H'
 |.cont=>∃σ' H',Inv X pins σ' H' s'/\D.ct σ' H'
 |.ret u=>∃v σ' H',Inv X pins σ' H' s'/\RelV v u/\D.rt v H'
def PE(X:Cx)(e:Expr)(t:TE):Prop:=
 ∀(pins:PN)(s:Shared)(σ:St)(H:Hp)(Q:VK),Inv X pins σ H s->t σ H Q->wpAny (model X.prog X.w) X.A (eval e X.env) (EP X pins σ Q) X.xe s
def PT(X:Cx)(e:Expr)(t:TT):Prop:=
 ∀(pins:PN)(s:Shared)(σ:St)(H:Hp)(Q:Bool->Hp->Prop),Inv X pins σ H s->t σ H Q->wpAny (model X.prog X.w) X.A (isTrue e X.env (eval e X.env)) (TP X pins σ Q) X.xe s
def PW(X:Cx)(e:Expr)(t:TT):Prop:=
 ∀(whole:Sem Value)(pins:PN)(s:Shared)(σ:St)(H:Hp)(Q:Bool->Hp->Prop),Inv X pins σ H s->t σ H Q->wpAny (model X.prog X.w) X.A (isTrue e X.env whole) (TP X pins σ Q) X.xe s
theorem PW.pt{X:Cx}{e:Expr}{t:TT}(h:PW X e t):PT X e t:=h _
def PA(X:Cx)(es:List Expr)(t:TA):Prop:=
 ∀(pos:Pos)(pins:PN)(s:Shared)(σ:St)(H:Hp)(Q:List V->Hp->Prop),Inv X pins σ H s->t σ H Q->wpAny (model X.prog X.w) X.A (spliced (backTo pos (starEach es X.env))) (AP X pins σ Q) X.xe s
def PS(X:Cx)(st:Stmt)(t:TS):Prop:=
 ∀(pins:PN)(s:Shared)(σ:St)(H:Hp)(D:Ends),Inv X pins σ H s->t D σ H->wpAny (model X.prog X.w) X.A (exec st X.env) (SP X pins D) X.xe s
def PSs(X:Cx)(st:List Stmt)(t:TS):Prop:=
 ∀(pins:PN)(s:Shared)(σ:St)(H:Hp)(D:Ends),Inv X pins σ H s->t D σ H->wpAny (model X.prog X.w) X.A (execs st X.env) (SP X pins D) X.xe s
theorem thn{b:Type}{c:Sem b}{Q d:b->Shared->Prop}{M:Model}{A:Around}{E:VP}{s:Shared}(h:wpAny M A c Q E s)(e:∀a s,Q a s->d a s):wpAny M A c d E s:=yU h e λ_ _ x=>x
section
variable {X:Cx}
def tVar(i:Nat):TE:=λσ H Q=>∃v,σ[i]?=some (some v)/\Q v H
def tC(v:V):TE:=λ_ H Q=>Q v H
theorem Mf{i:Nat}{x:Str}{w:Pos}(p:X.N[i]?=some x)(k:Vis X.env.scope x)(d:(x == ("__debug__" :Str))=false:=by decide)(t:(x == ("__classdict__" :Str))=false:=by decide):PE X (.Name x w) (tVar i):=by
 intro o s j H Q I h;obtain⟨v,e,h⟩:=h;obtain⟨m,n,hl⟩:=I.loc;obtain⟨u,r,l⟩:=hl i x v p e k;have b:EP X o j Q u s:=⟨v,H,I,r,h⟩;rcases l with⟨a,q⟩|⟨a,c,g,f⟩
 ·exact wpAny_Name (wpAny_loadName_local I.ok.kind a n q b) d
 ·rcases a with a|a
  ·exact wpAny_Name (wpAny_loadName_cell I.ok.kind a g f b) d
  ·exact wpAny_Name (wpAny_loadName_free I.ok.kind a g f b t) d
theorem oN{i j a}:PE X (.Constant (.int i) j a) (tC (.int i)):=λ_ _ _ H _ I h=>wpAny_Constant_int ⟨.int i,H,I.tok _,⟨_,rfl⟩,h⟩
theorem mZ{b j a}:PE X (.Constant (.bool b) j a) (tC (.bl b)):=λ_ _ _ H _ I h=>Constant_bool ⟨.bl b,H,I,rfl,h⟩
theorem iR{j a}:PE X (.Constant .none j a) (tC .non):=λ_ _ _ H _ I h=>Constant_none ⟨.non,H,I,rfl,h⟩
theorem gM{x j a}:PE X (.Constant (.str x) j a) (tC (.str x)):=λ_ _ _ H _ I h=>Calls.Constant_str ⟨.str x,H,I.tok _,⟨_,rfl⟩,h⟩
def Gl(X:Cx)(x:Str):Prop:=X.env.kindOf x=some .globalImplicit
theorem iC{E:VP}{c:PN}{s:Shared}{b:St}{H:Hp}{x:Str}{u:Value}{f:Pos}{Q:VP}(I:Inv X c b H s)(a:Gl X x)(d:X.mg x=some u)(h:Q u s)
  (e:(x == ("__debug__" :Str))=false:=by decide):wpAny (model X.prog X.w) X.A (eval (.Name x f) X.env) Q E s:=
 Calls.Name_function_global I.ok.kind a (Calls.loadGlobal_global (by rw[I.ok.glob];exact I.mod.glob.keeps I.bk) d h) e
theorem iD{E:VP}{e:PN}{s:Shared}{b:St}{H:Hp}{x:Str}{u:Value}{k:Pos}{Q:VP}(I:Inv X e b H s)(a:Gl X x)(f:X.mg x=none)(c:bootBuiltins x=some u)(h:Q u s)
  (d:x≠"__name__" := by decide)(j:(x == ("__debug__" :Str))=false:=by decide):wpAny (model X.prog X.w) X.A (eval (.Name x k) X.env) Q E s:=by
 obtain⟨l,g,i⟩:=I.mod.blt;exact Calls.Name_function_global I.ok.kind a (Calls.loadGlobal_builtin (by rw[I.ok.glob];exact I.mod.glob.keeps I.bk) f (by rw[I.ok.blt];exact g.keeps I.bk) ((i x d).trans c) h) j
theorem Me{x:Str}{v:V}{u:Value}{c:Pos}(a:Gl X x)(d:X.mg x=some u)(r:RelV v u)(b:(x == ("__debug__" :Str))=false:=by decide):PE X (.Name x c) (tC v):=
 λ_ _ _ H _ I h=>iC I a d ⟨v,H,I,r,h⟩ b
theorem fN{x:Str}{v:V}{u:Value}{f:Pos}(a:Gl X x)(d:X.mg x=none)(b:bootBuiltins x=some u)(r:RelV v u)(c:x≠"__name__" := by decide)(e:(x == ("__debug__" :Str))=false:=by decide):PE X (.Name x f) (tC v):=
 λ_ _ _ H _ I h=>iD I a d b ⟨v,H,I,r,h⟩ c e
variable {a b:Expr} {ta tb:TE} {pos:Pos}
def tB(t:TE):TT:=λσ H Q=>t σ H λx H1=>∃c,x=.bl c/\Q c H1
theorem lJ{e:Expr}{f:TE}(h:PE X e f)(k:∀c,isTrue e X.env c=(do let v ←c;standAt e.pos;holding [v] (truthy v)):=by intro _;rfl):PT X e (tB f):=by
 intro i s g H Q I n;refine isTrue_plain (thn (h i s g H _ I n) ?_) (k _);rintro v o ⟨x,j,m,r1,l⟩;obtain⟨d,rfl,q⟩:=l;cases r1;exact uO ⟨j,m,q⟩
variable {tA tB':TT} {rest:List Expr}
def tAnd(t u:TT):TT:=λσ H Q=>t σ H λc H1=>if c=true then u σ H1 Q else Q false H1
def tOr(t u:TT):TT:=λσ H Q=>t σ H λc H1=>if c=true then Q true H1 else u σ H1 Q
def tNot(t:TT):TT:=λσ H Q=>t σ H λc H1=>Q (!c) H1
theorem Md(f:PT X a tA):PW X (.BoolOp .And [a] pos) tA:=by
 intro i g s d H Q I h;refine isTrue_and (thn (f g s d H Q I h) λc j e=>?_);cases c with
 |true=>exact isTrue_and_nil e
 |false=>exact e
theorem jP(f:PT X a tA):PW X (.BoolOp .Or [a] pos) tA:=by
 intro i g s d H Q I h;refine isTrue_or (thn (f g s d H Q I h) λc j e=>?_);cases c with
 |false=>exact isTrue_or_nil e
 |true=>exact e
theorem Mc(m:PT X a tA)(k:PW X (.BoolOp .And (b:: rest) pos) tB'):PW X (.BoolOp .And (a:: b:: rest) pos) (tAnd tA tB'):=by
 intro j e s d H Q I h;refine isTrue_and (thn (m e s d H _ I h) ?_);rintro c l ⟨f,i,g⟩;cases c with
 |true=>exact k j e l d f Q i g
 |false=>exact⟨f,i,g⟩
theorem kN(m:PT X a tA)(k:PW X (.BoolOp .Or (b:: rest) pos) tB'):PW X (.BoolOp .Or (a:: b:: rest) pos) (tOr tA tB'):=by
 intro j e s d H Q I h;refine isTrue_or (thn (m e s d H _ I h) ?_);rintro c l ⟨f,i,g⟩;cases c with
 |true=>exact⟨f,i,g⟩
 |false=>exact k j e l d f Q i g
theorem kF(e:PT X a tA):PT X (.UnaryOp .Not a pos) (tNot tA):=by
 intro g s d H Q I h;exact isTrue_not (e g s d H (λc f=>Q (!c) f) I h)
def Mb(ta tb:TE):TE:=λσ H Q=>ta σ H λx H1=>∃c,x=.bl c/\if c=true then tb σ H1 Q else Q (.bl false) H1
def tOrV(ta tb:TE):TE:=λσ H Q=>ta σ H λx H1=>∃c,x=.bl c/\if c=true then Q (.bl true) H1 else tb σ H1 Q
def Ma(ta:TE):TE:=λσ H Q=>ta σ H λx H1=>∃c,x=.bl c/\Q (.bl (!c)) H1
theorem dF{op}{c:TE}(h:PE X a c):PE X (.BoolOp op [a] pos) c:=λf s d H Q I e=>BoolOp_one (h f s d H Q I e)
theorem dG(l:PE X a ta)(j:PE X (.BoolOp .And (b:: rest) pos) tb):PE X (.BoolOp .And (a:: b:: rest) pos) (Mb ta tb):=by
 intro f s e H Q I h;refine BoolOp_and (thn (l f s e H _ I h) ?_);rintro v k ⟨x,g,i,r1,d⟩;obtain⟨c,rfl,d⟩:=d;cases r1;refine uO ?_;cases c with
 |true=>exact j f k e g Q i d
 |false=>exact⟨.bl false,g,i,rfl,d⟩
theorem Nz(f:PE X a ta):PE X (.UnaryOp .Not a pos) (Ma ta):=by
 intro g s e H Q I h;refine UnaryOp_ (thn (f g s e H _ I h) ?_);rintro v k ⟨x,i,j,r1,d⟩;obtain⟨c,rfl,d⟩:=d;cases r1;exact not_of (uO ⟨.bl (!c),i,j,rfl,d⟩)
def tIf(t:TT)(ta tb:TE):TE:=λσ H Q=>t σ H λc H1=>if c=true then ta σ H1 Q else tb σ H1 Q
theorem Eb{c:Expr}(n:PT X c tA)(m:PE X a ta)(l:PE X b tb):PE X (.IfExp c a b pos) (tIf tA ta tb):=by
 intro f s e H Q I h;refine wpAny_IfExp (thn (n f s e H _ I h) ?_);rintro d g ⟨i,k,j⟩;cases d with
 |true=>exact m f g e i Q k j
 |false=>exact l f g e i Q k j
end
def SqL(K:Frag)(H:Hp)(a:Addr)(xs:List V):Prop:=
 Rd H a (.lst xs) \/
  ∃(o:Obj)(its:Array Value)(n:Nat),K.lookup a=some o/\o.cls=.type "list" /\ o.dict=none/\o.data=.seq its n/\its.size<=sizeLine/\Vals xs its.toList
def SqT(K:Frag)(H:Hp)(a:Addr)(xs:List V):Prop:=
 Rd H a (.tup xs) \/
  ∃(o:Obj)(its:Array Value)(n:Nat),K.lookup a=some o/\o.cls=.type "tuple" /\ o.data=.seq its n/\its.size<=sizeLine/\Vals xs its.toList
def absV:Value->Option V
 |.none=>some .non
 |.bool b=>some (.bl b)
 |.int i _=>some (.int i)
 |.str x _=>some (.str x)
 |.bytes b _=>some (.byt b)
 |.float b _=>some (.flt b)
 |.ref a=>some (.ref a)
 |.type n=>some (.ty n)
 |_=>none
theorem RelV.abs{x:V}{u:Value}(r:RelV x u):absV u=some x:=by
 cases x with
 |non=>cases r;rfl
 |bl _=>cases r;rfl
 |int _=>obtain⟨t,rfl⟩:=r;rfl
 |str _=>obtain⟨t,rfl⟩:=r;rfl
 |byt _=>obtain⟨t,rfl⟩:=r;rfl
 |flt _=>obtain⟨t,rfl⟩:=r;rfl
 |ref _=>cases r;rfl
 |ty _=>cases r;rfl
theorem RelV.inj{x y:V}{u:Value}(r:RelV x u)(q:RelV y u):x=y:=zW (r.abs.symm.trans q.abs)
theorem Vals.inj:∀{xs ys:List V}{us:LW},Vals xs us->Vals ys us->xs=ys
 |_,_,_,.nil,.nil=>rfl
 |_,_,_,.cons r a,.cons b t'=>by rw[r.inj b,Vals.inj a t']
section
variable {X:Cx} {pins:PN} {σ:St} {H:Hp} {s:Shared} {a:Addr} {xs ys:List V}
theorem SqL.of{K:Frag}(h:H a=some (.lst xs)):SqL K H a xs:=.inl (.inl h)
theorem SqT.of{K:Frag}(h:H a=some (.tup xs)):SqT K H a xs:=.inl (.inl h)
theorem Inv.list(I:Inv X pins σ H s)(h:SqL X.K H a xs):∃its:LW,Vals xs its/\PlainL s.heap a its.toArray/\xs.length<=sizeLine:=by
 rcases h with h|⟨o,its,n,b,c,d,f,g,r⟩
 ·obtain⟨z,its,n,r,e⟩:=h.ok I.hok;exact⟨its,r,⟨_,n,e,rfl,rfl,rfl⟩,z⟩
 ·refine⟨its.toList,r,⟨o,n,I.kIn a o b,c,d,by simpa using f⟩,?_⟩;have e:=r.length;simp only[Array.length_toList]at e;omega
theorem Inv.tuple(I:Inv X pins σ H s)(h:SqT X.K H a xs):∃its:LW,Vals xs its/\IsTup s.heap a its.toArray/\xs.length<=sizeLine:=by
 rcases h with h|⟨o,its,n,d,b,c,f,r⟩
 ·obtain⟨z,its,r,p⟩:=h.ok I.hok;exact⟨its,r,p,z⟩
 ·refine⟨its.toList,r,⟨o,I.kIn a o d,b,n,by simpa using c⟩,?_⟩;have e:=r.length;simp only[Array.length_toList]at e;omega
theorem Inv.list_inj(I:Inv X pins σ H s)(h:SqL X.K H a xs)(h':SqL X.K H a ys):xs=ys:=by
 obtain⟨its,r,⟨o,n,e,_,_,d⟩,_⟩:=I.list h;obtain⟨its',f,⟨i,g,b,_,_,d'⟩,_⟩:=I.list h';rw[e]at b;cases b;rw[d]at d';injection d' with c _;have:its=its':=by simpa using wH Array.toList c
 subst this;exact r.inj f
theorem Inv.tuple_inj(I:Inv X pins σ H s)(h:SqT X.K H a xs)(h':SqT X.K H a ys):xs=ys:=by
 obtain⟨its,r,⟨o,e,_,n,d⟩,_⟩:=I.tuple h;obtain⟨its',f,⟨i,b,_,g,d'⟩,_⟩:=I.tuple h';rw[e]at b;cases b;rw[d]at d';injection d' with c _;have:its=its':=by simpa using wH Array.toList c
 subst this;exact r.inj f
end
abbrev Cx.wish(X:Cx)(E:VP):Cx:={X with xe:=E}
abbrev Cx.nox(X:Cx):Cx:=X.wish λ_ _=>False
theorem Cx.Ok.wish{X:Cx}(ok:X.Ok)(E:VP):(X.wish E).Ok:=
 ⟨ok.mod,ok.kind,ok.glob,ok.blt,ok.above,ok.inj,ok.has,ok.cab,ok.hd,ok.frames,ok.stk,ok.exf,ok.bs,ok.bsz,ok.noex,ok.exfs,ok.funs,ok.frf⟩
theorem Cx.Ok.unwish{X:Cx}{E:VP}(ok:(X.wish E).Ok):X.Ok:=
 ⟨ok.mod,ok.kind,ok.glob,ok.blt,ok.above,ok.inj,ok.has,ok.cab,ok.hd,ok.frames,ok.stk,ok.exf,ok.bs,ok.bsz,ok.noex,ok.exfs,ok.funs,ok.frf⟩
section
variable {X:Cx} {pins:PN} {σ:St} {H:Hp} {s:Shared} {E:VP}
theorem Inv.wish(I:Inv X pins σ H s)(E:VP):Inv (X.wish E) pins σ H s:=⟨I.ok.wish E,I.os,I.bare,I.base,I.loc,I.cell,I.free,I.freeC,I.pin,I.hok,I.len⟩
theorem Inv.unwish(I:Inv (X.wish E) pins σ H s):Inv X pins σ H s:=⟨I.ok.unwish,I.os,I.bare,I.base,I.loc,I.cell,I.free,I.freeC,I.pin,I.hok,I.len⟩
theorem SP.unwish{D:Ends}{f:Flow}{b:Shared}(h:SP (X.wish E) pins D f b):SP X pins D f b:=by
 cases f with
 |next=>obtain⟨a,H',I,q⟩:=h;exact⟨a,H',I.unwish,q⟩
 |brk=>obtain⟨a,H',I,q⟩:=h;exact⟨a,H',I.unwish,q⟩
 |cont=>obtain⟨a,H',I,q⟩:=h;exact⟨a,H',I.unwish,q⟩
 |ret u=>obtain⟨v,a,H',I,r,q⟩:=h;exact⟨v,a,H',I.unwish,r,q⟩
theorem PSs.nox{st:List Stmt}{a:TS}(h:PSs X.nox st a):PSs X st a:=λpins s σ H D I b =>
 yU (h pins s σ H D (I.wish _) b) (λ_ _ q=>q.unwish) λ_ _ z=>False.elim z
end
section
variable {X:Cx} {st:Stmt} {rest:List Stmt} {t u:TS} {e:Expr} {te:TE} {pos:Pos}
def Ny:TS:=λD σ H=>D.nx σ H
def tSeq(t u:TS):TS:=λD σ H=>t {D with nx:=u D} σ H
theorem nJ:PSs X [] Ny:=λ_ _ a H _ I h=>tQ ⟨a,H,I,h⟩
theorem oM(i:PS X st t)(j:PSs X rest u):PSs X (st:: rest) (tSeq t u):=by
 intro a s b H D I h;refine wpAny_execs_cons (thn (i a s b H {D with nx:=u D} I h) λf d q=>?_);cases f with
 |next =>
  obtain⟨g,H',c,q⟩:=q;exact j a d g H' D c q
 |ret v=>exact q
 |brk=>exact q
 |cont=>exact q
theorem oO(b:PS X st t):PSs X [st] t:=by
 intro c s a H D I h;refine wpAny_execs_cons (thn (b c s a H D I h) λf d q=>?_);cases f with
 |next=>exact tQ q
 |ret v=>exact q
 |brk=>exact q
 |cont=>exact q
theorem Inv.quiet{b:PN}{a:St}{H:Hp}{s:Shared}(I:Inv X b a H s):interactive X.env=false:=by simp[interactive,I.ok.kind]
def Ea(te:TE):TS:=λD σ H=>te σ H λ_ H1=>D.nx σ H1
theorem lU(d:PE X e te)(i:swapsWith e none pos.line X.env=pure false:=by rfl):PS X (.Expr e pos) (Ea te):=by
 intro b s a H D I h;exact wpAny_Expr_any (thn (d b s a H _ I h) λv j⟨x,c,g,r1,f⟩=>⟨a,c,g,f⟩) I.quiet i
def tRet(te:TE):TS:=λD σ H=>te σ H D.rt
theorem oW(d:PE X e te):PS X (.Return (some e) pos) (tRet te):=by
 intro b s a H D I h;exact wpAny_Return_some (thn (d b s a H _ I h) λv i⟨x,c,g,r1,f⟩=>⟨x,a,c,g,r1,f⟩)
def u_e:TS:=λD _ H=>D.rt .non H
def tIfS(c:TT)(t u:TS):TS:=λD σ H=>c σ H λb H1=>if b=true then t D σ H1 else u D σ H1
theorem nK{c:Expr}{a b:List Stmt}{i:TT}(p:PT X c i)(o:PSs X a t)(n:PSs X b u):PS X (.If c a b pos) (tIfS i t u):=by
 intro g s f H D I h;refine wpAny_If (thn (p g s f H _ I h) ?_);rintro d j ⟨k,m,l⟩;cases d with
 |true=>exact o g j f k D m l
 |false=>exact n g j f k D m l
def Fz:TS:=λ_ _ _=>False
theorem An:PS X st Fz:=λ_ _ _ _ _ _ h=>h.elim
theorem Nx{a:List Stmt}:PSs X a Fz:=λ_ _ _ _ _ _ h=>h.elim
end
abbrev TG:=V->St->Hp->(St->Hp->Prop)->Prop
abbrev TGs:=List V->St->Hp->(St->Hp->Prop)->Prop
def PG(X:Cx)(target:Expr)(t:TG):Prop:=
 ∀(pins:PN)(s:Shared)(σ:St)(H:Hp)(v:V)(u:Value)(Q:St->Hp->Prop),Inv X pins σ H s->RelV v u->t v σ H Q ->
  wpAny (model X.prog X.w) X.A (assign target X.env u) (λ_ s'=>∃σ' H',Inv X pins σ' H' s'/\Q σ' H') X.xe s
def PGs(X:Cx)(ts:List Expr)(t:TGs):Prop:=
 ∀(pins:PN)(s:Shared)(σ:St)(H:Hp)(vs:List V)(us:LW)(Q:St->Hp->Prop),Inv X pins σ H s->Vals vs us->t vs σ H Q ->
  wpAny (model X.prog X.w) X.A (assignInOrder ((assignEach ts X.env).map (·.2)) us) (λ_ s'=>∃σ' H',Inv X pins σ' H' s'/\Q σ' H') X.xe s
abbrev TSet:=V->V->V->Hp->(Hp->Prop)->Prop
def PSet(X:Cx)(t:TSet):Prop:=
 ∀(pins:PN)(s:Shared)(σ:St)(H:Hp)(o i v:V)(ov iv u:Value)(Q:Hp->Prop),Inv X pins σ H s->RelV o ov->RelV i iv->RelV v u->t o i v H Q ->
  wpAny (model X.prog X.w) X.A (setItem ov iv u) (λ_ s'=>∃H',Inv X pins σ H' s'/\Q H') X.xe s
abbrev TIp:=V->V->Hp->VK->Prop
def PIp(X:Cx)(op:Operator)(t:TIp):Prop:=
 ∀(pins:PN)(s:Shared)(σ:St)(H:Hp)(x y:V)(v u:Value)(Q:VK),Inv X pins σ H s->RelV x v->RelV y u->t x y H Q ->
  wpAny (model X.prog X.w) X.A (inplaceOp op v u) (EP X pins σ Q) X.xe s
section
variable {X:Cx} {pos:Pos}
def nB(i:Nat):TG:=λv σ H Q=>Q (σ.set i (some v)) H
theorem nX{i:Nat}{x:Str}(b:X.N.Nodup)(hi:X.N[i]?=some x)(c:Loc X.env.scope x)(d:X.fn x=true\/X.env.scope.names.lookup x=some .local:=by first|exact .inl rfl|exact .inr rfl|assumption):PG X (.Name x pos) (nB i):=by
 intro f s e H v u Q I r h;exact wpAny_assign_Name (dE I b hi c r (λg a=>⟨_,H,a,h⟩) d)
def gNil:TGs:=λvs σ H Q=>vs=[]/\Q σ H
def lC(t:TG)(u:TGs):TGs:=λvs σ H Q=>∃v r,vs=v:: r/\t v σ H λσ' H'=>u r σ' H' Q
theorem iU:PGs X [] gNil:=by
 intro b s a H vs us Q I r h;obtain⟨e,h⟩:=h;subst e;cases r;exact assignInOrder_nil ⟨a,H,I,h⟩
theorem lD{e:Expr}{es:List Expr}{b:TG}{u:TGs}(j:PG X e b)(m:PGs X es u)
  (n:(assignEach (e:: es) X.env).map (·.2)=assign e X.env:: (assignEach es X.env).map (·.2):=by rfl):PGs X (e:: es) (lC b u):=by
 intro a s c H vs us Q I r h;obtain⟨v,o,e1,h⟩:=h;subst e1;cases r with
 |cons r f =>
  rw[n];refine qD (thn (j a s c H _ _ _ I r h) ?_);rintro _ d ⟨i,g,l,k⟩;exact m a d i g _ _ Q l f k
def gTup(K:Frag)(n:Nat)(t:TGs):TG:=λv σ H Q=>∃a xs,v=.ref a/\SqT K H a xs/\xs.length=n/\t xs σ H Q
theorem gN{es:List Expr}{k:Nat}{i:TGs}{n:Nat}(p:X.calm=true)(h:PGs X es i)
  (j:(assignEach es X.env).length=n:=by rfl)(w:(assignEach es X.env).findIdx? (·.1)=none:=by rfl):PG X (.Tuple es k pos) (gTup X.K n i):=by
 intro f s d H v u Q I r c;obtain⟨a,xs,e1,m,hl,c⟩:=c;subst e1;cases r;obtain⟨its,g,q,x⟩:=I.tuple m;refine assign_Tuple_tuple (I.ok.hd p) q (by simp[j,←hl,g.length]) w λh' l=>?_;have t:Inv X f d H {s with heap:=h'}:=I.kept (t':=s.toks) λb o e=>l b o (zY (zL e)) e;exact h f _ d H xs _ Q t (by simpa using g) c
def gSub(to ti:TE)(t:TSet):TG:=λv σ H Q=>to σ H λo H1=>ti σ H1 λi H2=>t o i v H2 λH3=>Q σ H3
theorem fO{o i:Expr}{g f:TE}{e:TSet}(k:PE X o g)(hi:PE X i f)(G:PSet X e)
  (C:∀v,assign (.Subscript o i pos) X.env v=(do
   let a ←holding [v] (eval o X.env)
   let b ←holding [v,a] (eval i X.env)
   standAt pos
   holding [v,a,b] (setItem a b v)
   release [v,a,b] []):=by intro _;rfl):PG X (.Subscript o i pos) (gSub g f e):=by
 intro d s c H v u Q I r h;rw[C];refine zA (xB (thn (k d s c H _ I h) ?_));rintro a n ⟨x,F,m,r1,l⟩;refine zA (xB (thn (hi d n c F _ m l) ?_));rintro b D ⟨y,q,t,r2,w⟩;refine zA (wS (zA (xB (thn (G d D c q x y v a b u _ t r1 r2 r w) ?_))));rintro _ J ⟨p,z,j⟩;exact wpAny_release ⟨c,p,z,j⟩
def tAsg(te:TE)(g:TG):TS:=λD σ H=>te σ H λx H1=>g x σ H1 D.nx
theorem iV{a e:Expr}{te:TE}{g:TG}(k:PE X e te)(d:PG X a g)(o:swapsWithSole [a] e pos.line X.env=pure false:=by rfl)(m:swappedStores [a] e X.env=pure none:=by rfl)
  (j:(assignEach [a] X.env).map (·.2)=[assign a X.env]:=by rfl):PS X (.Assign [a] e pos) (tAsg te g):=by
 intro c s b H D I h;refine wpAny_Assign_stores (thn (k c s b H _ I h) ?_) o m;rintro v f ⟨x,i,n,r1,l⟩;rw[j];exact thn (d c f b i x v _ n r1 l) λ_ p q=>q
theorem oU{i:Nat}{x:Str}{e:Expr}{te:TE}{a:Pos}(d:X.N.Nodup)(hi:X.N[i]?=some x)(f:Loc X.env.scope x)(k:PE X e te)(o:swapsWith e (some (.Name x a)) pos.line X.env=pure false:=by rfl)(j:X.fn x=true\/X.env.scope.names.lookup x=some .local:=by first|exact .inl rfl|exact .inr rfl|assumption):
  PS X (.Assign [.Name x a] e pos) (tAsg te (nB i)):=by
 intro c s b H D I h;refine wpAny_Assign_Name (thn (k c s b H _ I h) ?_) o;rintro v p ⟨y,g,n,r1,m⟩;exact dE n d hi f r1 (λq l=>⟨_,g,l,m⟩) j
def tPar(i j:Nat)(ta:TA):TS:=λD σ H=>ta σ H λvs H1=>∃v w,vs=[v,w]/\D.nx ((σ.set i (some v)).set j (some w)) H1
theorem Nw{i j:Nat}{x y:Str}{a b:Expr}{J:TA}{n g pt:Pos}{m k2 l}(P:X.calm=true)(C:X.N.Nodup)(hi:X.N[i]?=some x)(V:X.N[j]?=some y)(O:i≠j)
  (z:X.env.scope.names.lookup x=some .local)(r:X.env.scope.names.lookup y=some .local)(W:PA X [a,b] J)
  (S:swappedStores [.Tuple [.Name x n,.Name y g] m pt] (.Tuple [a,b] k2 l) X.env=pure (some [x,y]))
  (a0:swapsWithSole [.Tuple [.Name x n,.Name y g] m pt] (.Tuple [a,b] k2 l) pos.line X.env=pure false:=by rfl):
  PS X (.Assign [.Tuple [.Name x n,.Name y g] m pt] (.Tuple [a,b] k2 l) pos) (tPar i j J):=by
 intro u s t H D I h;rw[exec_Assign_arm];refine zA (wS ?_);rw[a0];refine zA (zB ?_);rw[zD ∅];refine zA (Tuple_ (thn (W _ u s t H _ I h) ?_));rintro us c ⟨vs,G,M,r1,k⟩;obtain⟨v,w,e1,k⟩:=k;subst e1;obtain⟨d,f,rfl,U,N⟩:∃d f,us=[d,f]/\RelV v d/\RelV w f:=by
  cases r1 with
  | cons p q =>
   cases q with
   |cons Y K =>
    cases K;exact⟨_,_,rfl,p,Y⟩
 refine xL ?_ (by show 2<=sizeLine;decide);have R:Inv X u t G {c with heap:=c.heap.push {cls:=.type "tuple",data:=.seq [d,f].toArray}}:=M.kept (t':=c.toks) λb o e=>zC _ e;rw[S];refine zA (zB ?_);show wpAny (model X.prog X.w) X.A (do rule "assign.swapped-stores";let items ←unpackItems (.ref c.heap.objs.size) 2 none;assignInOrder [λv=>bindName X.env y v,λv=>bindName X.env x v] items.reverse;pure Flow.next) _ _ _;refine zA (wU (zA (unpackItems_tuple (items:=#[d,f]) (I.ok.hd P) (IsTup.new c.heap _) λh' L=>?_)));have T:=R.kept (h':=h') (t':=c.toks) λb o e=>L b o (zY (zL e)) e;show wpAny _ _ (assignInOrder [λv=>bindName X.env y v,λv=>bindName X.env x v] [f,d] >>= λ_=>pure Flow.next) _ _ _;refine zA (qD (wpAny_bindName (dE T C V (.inl r) N (λa1 Z=>?_) (.inr r))));refine qD (wpAny_bindName (dE Z C hi (.inl z) U (λa2 F=>assignInOrder_nil (zB ?_)) (.inr z)));rw[List.set_comm _ _ (yA O)]at F;exact⟨_,G,F,k⟩
def tAug(i:Nat)(te:TE)(ti:TIp):TS:=λD σ H=>∃x,σ[i]?=some (some x)/\te σ H λy H1=>ti x y H1 λz H2=>D.nx (σ.set i (some z)) H2
theorem Fy{i:Nat}{x:Str}{e:Expr}{te:TE}{op:Operator}{g:TIp}{P:Pos}(J:X.N.Nodup)(hi:X.N[i]?=some x)(d:Loc X.env.scope x)(p:PE X e te)(n:PIp X op g)(o:X.fn x=true\/X.env.scope.names.lookup x=some .local:=by first|exact .inl rfl|exact .inr rfl|assumption):
  PS X (.AugAssign (.Name x P) op e pos) (tAug i te g):=by
 intro b s f H D I h;obtain⟨v,e1,h⟩:=h;obtain⟨m,j,hl⟩:=I.loc;have C:Vis X.env.scope x:=by rcases d with k|k;exact .inl k;exact .inr (.inl k)
 obtain⟨u,r,l⟩:=hl i x v hi e1 C;refine wpAny_AugAssign_Name ?_;have go:wpAny (model X.prog X.w) X.A (eval e X.env) (λw U=>wpAny (model X.prog X.w) X.A (inplaceOp op u w) (λr R=>wpAny (model X.prog X.w) X.A (storeName X.env x r) (λ_=>SP X b D .next) X.xe R) X.xe U) X.xe s:=by
  refine thn (p b s f H _ I h) ?_;rintro w G ⟨y,S,t,r1,q⟩;refine thn (n b G f S v y u w _ t r r1 q) ?_;rintro z W ⟨V,L,M,r2,N⟩;exact dE M J hi d r2 (λY O=>⟨_,L,O,N⟩) o
 rcases l with⟨a,T⟩|⟨a,c,K,F⟩
 ·exact wpAny_loadName_local I.ok.kind a j T go
 ·rcases a with a|a
  ·exact wpAny_loadName_cell I.ok.kind a K F go
  ·rcases d with k|k
   ·have:X.env.scope.names.lookup x=some .free:=a;rw[k]at this;cases this
   ·have:X.env.scope.names.lookup x=some .free:=a;rw[k]at this;cases this
def ipI(f:Int->Int->Int):TIp:=λx y H Q=>∃i j,x=.int i/\y=.int j/\Q (.int (f i j)) H
theorem Fx:PIp X .Add (ipI λi j=>i+j):=by
 intro d s c H x y v u Q I r1 r2 h;obtain⟨i,j,e1,a,q⟩:=h;subst e1;subst a;obtain⟨b,rfl⟩:=r1;obtain⟨t',rfl⟩:=r2;exact iadd_int ⟨.int _,H,I.tok _,⟨_,rfl⟩,q⟩
def Fw(c:TT)(tb:TS):TS:=λD σ H=>∃W:Nat->St->Hp->Prop,(∃m,W m σ H)/\∀m σ H,W m σ H ->
 c σ H λb H1=>if b=true then∃N:St->Hp->Prop,(∀σ' H',N σ' H'->∃m',m'<m/\W m' σ' H')/\tb {D with nx:=N,ct:=N,bk:=D.nx} σ H1 else D.nx σ H1
theorem cY{c:Expr}{body:List Stmt}{q:TT}{tb:TS}(r:PassesOwn (model X.prog X.w) X.A X.env X.xe)(L:PT X c q)(C:PSs X body tb):PS X (.While c body [] pos) (Fw q tb):=by
 intro j s z H D I h;obtain⟨W,⟨P,F⟩,G⟩:=h;refine wpAny_While (codeAny_whileLoop (λn M=>∃u H',Inv X j u H' M/\W n u H') ?_ P ⟨z,H,I,F⟩);rintro n K ⟨g,y,J,O⟩;refine vO r (thn (L j K g y _ J (G n g y O)) ?_);rintro b R ⟨w,x,i⟩;cases b with
 | true =>
  obtain⟨N,t,i⟩:=i;rw[zF rfl];refine vO r (thn (C j R g w _ x i) λf S e=>?_);cases f with
  |next =>
   obtain⟨d,a,m,k⟩:=e;obtain⟨o,p,l⟩:=t d a k;exact⟨o,p,d,a,m,l⟩
  |cont =>
   obtain⟨d,a,m,k⟩:=e;obtain⟨o,p,l⟩:=t d a k;exact⟨o,p,d,a,m,l⟩
  |brk=>exact e
  |ret v=>exact e
 |false =>
  rw[zD zX];exact tQ ⟨g,w,x,i⟩
end
structure It where
 go:Nat->Hp->Prop
 yld:Nat->Hp->V->Hp->Prop
 stop:Nat->Hp->Prop
def FpOk(X:Cx)(pins:PN)(H:Hp)(b:Addr):Prop:=
 H b=none/\b≠X.env.locals/\b∉X.fs/\(b∈X.ex\/X.s₀.heap.objs.size<=b)/\(∀x c,X.env.cells.lookup x=some c->c≠b)/\∀p∈X.pn++pins,p.1≠b
theorem Inv.fpOk{X:Cx}{d:PN}{f:St}{H H':Hp}{s:Shared}{b:Addr}(I:Inv X d f H s)(a:s.heap.objs.size<=b)(g:H' b=none):FpOk X d H' b:=by
 refine⟨g,rM (zJ I.lt a),I.nofs a,.inr (yG I.sz a),λx c e z=>?_,λp i z=>?_⟩
 ·obtain⟨v,q⟩:=I.cell x c e;exact absurd (zJ q.lt (by rw[z];exact a)) (xC _)
 ·exact absurd (zJ (zL (I.pin p i).1) (by rw[z];exact a)) (xC _)
structure Turn(P:Program)(w:World)(K:Frag)(tg:Expr)(J:It)(fp:LA)(it:Addr)(tn:Nat->Heap->Prop):Prop where
 mem:it∈fp
 obj:∀i h,tn i h->∀b∈fp,∃o,h.get? b=some o/\∀v,o.data≠.cell v
 keep:∀i h h',tn i h->(∀b∈fp,∀o,h.get? b=some o->h'.get? b=some o)->tn i h'
 item:∀(X:Cx),X.prog=P->X.w=w->X.K=K->X.calm=true->∀(i:Nat)(pins:PN)(s:Shared)(σ:St)(H:Hp)(E:VP),Inv X pins σ H s->(∀b∈fp,FpOk X pins H b)->tn i s.heap->J.go i H ->
  wpAny (model P w) X.A (pyNext (.ref it)) (λr s1=>∃u,r=some u /\
   wpAny (model P w) X.A (letOwnedTupleGo tg (.ref it) u) (λ_ s2=>∃x H',Inv X pins σ H' s2/\RelV x u/\J.yld i H x H'/\tn (i+1) s2.heap/\∀b∈fp,H' b=none) E s1) E s
 done:∀(X:Cx),X.prog=P->X.w=w->X.K=K->X.calm=true->∀(i:Nat)(pins:PN)(s:Shared)(σ:St)(H:Hp)(E:VP),Inv X pins σ H s->(∀b∈fp,FpOk X pins H b)->tn i s.heap->J.stop i H ->
  wpAny (model P w) X.A (pyNext (.ref it)) (λr s1=>r=none/\Inv X pins σ H s1) E s
 self:∀(A:Around)(i:Nat)(s:Shared)(Q:VP)(E:VP),tn i s.heap->Q (.ref it) s->wpAny (model P w) A (pyIter (.ref it)) Q E s
abbrev TI:=St->Hp->(It->Hp->Prop)->Prop
def PIE(X:Cx)(pins:PN)(σ:St)(tg:Expr)(R:It->Hp->Prop)(itv:Value)(s2:Shared):Prop:=
 ∃(it:Addr)(fp:LA)(tn:Nat->Heap->Prop)(J:It)(H':Hp),itv=.ref it/\Inv X pins σ H' s2/\Turn X.prog X.w X.K tg J fp it tn/\tn 0 s2.heap/\(∀b∈fp,FpOk X pins H' b)/\R J H'
def PI(X:Cx)(tg iter:Expr)(wi:TI):Prop:=
 ∀(pins:PN)(s:Shared)(σ:St)(H:Hp)(R:It->Hp->Prop),Inv X pins σ H s->wi σ H R ->
  wpAny (model X.prog X.w) X.A (eval iter X.env) (λv s1=>wpAny (model X.prog X.w) X.A (pyIter v) (PIE X pins σ tg R) X.xe s1) X.xe s
theorem Am {M:Model}{A:Around}{E:VP}{s:Shared}{b:Expr}{c:Addr}{u:Value}{o:Obj}{n:String}{vs:Array Value}{Q:Unit->Shared->Prop}(e:s.heap.get? c=some o)(f:o.cls=.type n)(g:o.data=.fields vs)
    (d:["enumerate","zip","dict_itemiterator","dict_reverseitemiterator","odict_iterator","itertools.zip_longest","itertools.pairwise"].contains n=false)(a:Q () s):wpAny M A (letOwnedTupleGo b (.ref c) u) Q E s:=by
  unfold letOwnedTupleGo;cases b <;> first
    |exact zB a
    |(cases u <;> first
        |exact zB a
        | (refine zA (wpAny_load e ?_)
           rw[f,g];show wpAny M A (if(["enumerate","zip","dict_itemiterator","dict_reverseitemiterator","odict_iterator","itertools.zip_longest","itertools.pairwise"].contains n && vs[0]? == some (rawInt _))=true then _ else _) Q E s;rw[zD (by intro h;rw[d,Bool.false_and]at h;cases h)];exact zB a))
def Itl(K:Frag)(a:Addr):It:=
 ⟨λi H=>∃xs x,SqL K H a xs/\xs[i]?=some x,λi H x H'=>H'=H/\∀xs,SqL K H a xs->xs[i]?=some x,λi H=>∃xs,SqL K H a xs/\xs.length<=i⟩
def Itt(K:Frag)(a:Addr):It:=
 ⟨λi H=>∃xs x,SqT K H a xs/\xs[i]?=some x,λi H x H'=>H'=H/\∀xs,SqT K H a xs->xs[i]?=some x,λi H=>∃xs,SqT K H a xs/\xs.length<=i⟩
def Itr(lo:Int)(n:Nat):It:=⟨λi _=>i<n,λi H x H'=>H'=H/\x=.int (lo+i),λi _=>n<=i⟩
theorem Nv{P:Program}{w:World}{K:Frag}{W:Expr}(a g:Addr):Turn P w K W (Itl K a) [g] g (λi h=>h.IsListIter g a i) where
 mem:=by simp
 obj:=λi h st b f=>by
  have e:b=g:=by simpa using f
  subst e;obtain⟨o,e,c,d⟩:=st;exact⟨o,e,λv z=>by rw[d]at z;cases z⟩
 keep:=λi h h' st k=>st.at λo e=>k g (by simp) o e
 item:=by
  intro X D t F O i M s L H E I j st n;subst D t F;obtain⟨xs,x,l,r⟩:=n;obtain⟨its,C,p,Y⟩:=I.list l;obtain⟨u,Z,U⟩:=C.get r;obtain⟨J,q,V,y,G,m⟩:=j g (by simp);refine wpAny_pyNext_list_item st p.isList (x:=u) (by simpa using Z) λh' N a0=>?_;have S:Inv X M L H {s with heap:=h'}:=I.turned (t':=s.toks) (λb o f e=>(a0.2 b f).trans e) J q y G m;obtain⟨o,e,c,d⟩:=id N;exact⟨u,rfl,Am (s:={s with heap:=h'}) e c d ∅ ⟨x,H,S,U,⟨rfl,λys R=>by rw[I.list_inj R l];exact r⟩,N,λb f=>(j b f).1⟩⟩
 done:=by
  intro X D t F O i M s L H E I j st n;subst D t F;obtain⟨xs,l,r⟩:=n;obtain⟨its,C,p,Y⟩:=I.list l;obtain⟨J,q,V,y,G,m⟩:=j g (by simp);have hl:=C.length;exact wpAny_pyNext_list_end (I.ok.hd O) st p.isList (by simp;omega) λh' T=>⟨rfl,I.turned (t':=s.toks) (λb o f e=>T b o f e) J q y G m⟩
 self:=λ_ _ _ _ _ st h=>wpAny_pyIter_listiter st h
theorem Nu{P:Program}{w:World}{K:Frag}{W:Expr}(a g:Addr):Turn P w K W (Itt K a) [g] g (λi h=>h.IsTupleIter g a i) where
 mem:=by simp
 obj:=λi h st b f=>by
  have e:b=g:=by simpa using f
  subst e;obtain⟨o,e,c,d⟩:=st;exact⟨o,e,λv z=>by rw[d]at z;cases z⟩
 keep:=λi h h' st k=>st.at λo e=>k g (by simp) o e
 item:=by
  intro X D t F O i M s L H E I j st n;subst D t F;obtain⟨xs,x,l,r⟩:=n;obtain⟨its,C,p,Y⟩:=I.tuple l;obtain⟨u,Z,U⟩:=C.get r;obtain⟨J,q,V,y,G,m⟩:=j g (by simp);refine wpAny_pyNext_tuple_item st (show s.heap.IsTuple a its.toArray from p) (x:=u) (by simpa using Z) λh' N a0=>?_;have S:Inv X M L H {s with heap:=h'}:=I.turned (t':=s.toks) (λb o f e=>(a0.2 b f).trans e) J q y G m;obtain⟨o,e,c,d⟩:=id N;exact⟨u,rfl,Am (s:={s with heap:=h'}) e c d ∅ ⟨x,H,S,U,⟨rfl,λys R=>by rw[I.tuple_inj R l];exact r⟩,N,λb f=>(j b f).1⟩⟩
 done:=by
  intro X D t F O i M s L H E I j st n;subst D t F;obtain⟨xs,l,r⟩:=n;obtain⟨its,C,p,Y⟩:=I.tuple l;obtain⟨J,q,V,y,G,m⟩:=j g (by simp);have hl:=C.length;exact wpAny_pyNext_tuple_end (I.ok.hd O) st (show s.heap.IsTuple a its.toArray from p) (by simp;omega) λh' T=>⟨rfl,I.turned (t':=s.toks) (λb o f e=>T b o f e) J q y G m⟩
 self:=λ_ _ _ _ _ st h=>wpAny_pyIter_tupleiter st h
theorem Nt{P:Program}{w:World}{K:Frag}{O:Expr}(a:Addr)(lo:Int)(n:Nat):Turn P w K O (Itr lo n) [a] a (λi h=>IsRangeIter h a (lo+(i:Nat)*1) ((n:Int)-(i:Nat)) 1) where
 mem:=by simp
 obj:=λi h st b c=>by
  have e:b=a:=by simpa using c
  subst e;exact⟨_,st,λv z=>by
   have M:Data.fields _=Data.cell v:=z;cases M⟩
 keep:=λi h h' st k=>k a (by simp) _ st
 item:=by
  intro X q m r l i y s x H E I d st g;subst q m r;obtain⟨u,j,L,p,t,f⟩:=d a (by simp);have W:=Walks.range (prog:=X.prog) (w:=X.w) (I.ok.hd l) a lo 1 n;refine W.item i s _ _ g st λv h' tk N C G=>?_;obtain⟨D,rfl⟩:=N;have F:Inv X y x H {s with heap:=h',toks:=tk}:=I.turned (λb o c e=>G b o (by simpa using c) e) u j p t f;refine⟨_,rfl,Am (s:={s with heap:=h',toks:=tk}) (n:= "range_iterator") C rfl rfl ∅ ⟨.int (lo+i),H,F,⟨D,?_⟩,⟨rfl,rfl⟩,C,λb c=>(d b c).1⟩⟩;rw[rT]
 done:=by
  intro X q m r l i y s x H E I d st g;subst q m r;obtain⟨u,j,L,p,t,f⟩:=d a (by simp);exact wpAny_pyNext_range_end (I.ok.hd l) st (by have:n<=i:=g;omega) λh' J=>⟨rfl,I.turned (t':=s.toks) (λb o c e=>J b o c e) u j p t f⟩
 self:=λ_ _ _ _ _ st h=>wpAny_pyIter_rangeiter st h
section
variable {X:Cx} {tg:Expr}
theorem Fv{d:PN}{c:St}{H:Hp}{s:Shared}{R:It->Hp->Prop}{E:VP}{lo hi:Int}{a u v:Tok}{tk:Nat}(I:Inv X d c H s)(k:-(2^62)<=lo)(l:lo<2^62)(j:-(2^62)<=hi)(m:hi<2^62)
  (q:R (Itr lo (hi-lo).toNat) H):wpAny (model X.prog X.w) X.A (pyIter (.ref s.heap.objs.size)) (PIE X d c tg R) E {s with heap:=s.heap.push {cls:=.type "range",data:=.fields #[.int lo a,.int hi u,.int 1 v]},toks:=tk}:=by
 refine wpAny_pyIter_range (IsRange.new ..) (small_one k l j m) ?_;have f:Inv X d c H {s with heap:=s.heap.push {cls:=.type "range",data:=.fields #[.int lo a,.int hi u,.int 1 v]},toks:=tk}:=I.kept λb o e=>zC _ e;refine⟨(s.heap.push {cls:=.type "range",data:=.fields #[.int lo a,.int hi u,.int 1 v]}).objs.size,[(s.heap.push {cls:=.type "range",data:=.fields #[.int lo a,.int hi u,.int 1 v]}).objs.size],_,_,H,rfl,
  f.kept (t':=tk) λb o e=>zC _ e,Nt _ lo (hi-lo).toNat,?_,λb g=>?_,q⟩
 ·have e1:lo+((0:Nat):Int)*1=lo:=by simp
  have i:(((hi-lo).toNat:Nat):Int)-((0:Nat):Int)=Builtin.Range.rangeSize lo hi 1:=by rw[rangeSize_one];split <;> omega
  show IsRangeIter _ _ (lo+((0:Nat):Int)*1) ((((hi-lo).toNat:Nat):Int)-((0:Nat):Int)) 1;rw[e1,i];exact zS _ rfl
 ·have e:b=(s.heap.push {cls:=.type "range",data:=.fields #[.int lo a,.int hi u,.int 1 v]}).objs.size:=by simpa using g
  subst e;exact f.fpOk (zE _) (f.hok.fresh (zE _))
def nU(ta:TA):TI:=λσ H R=>ta σ H λvs H1=>∃j:Int,vs=[.int j]/\-(2^62)<=j/\j<2^62/\R (Itr 0 j.toNat) H1
def Fu(ta:TA):TI:=λσ H R=>ta σ H λvs H1=>∃i j:Int,vs=[.int i,.int j]/\(-(2^62)<=i/\i<2^62/\-(2^62)<=j/\j<2^62)/\R (Itr i (j-i).toNat) H1
theorem mF{a:Expr}{c:TA}{p d:Pos}(f:Gl X "range")(m:X.mg "range"=none)(k:PA X [a] c)(t:starEach [a] X.env=[(false,eval a X.env)]:=by rfl):PI X tg (.Call (.Name "range" p) [a] [] d) (nU c):=by
 intro i s g H R I h;refine Call_ (iD I f m boot_range (xP (thn (k d i s g H _ I h) ?_) t rfl));rintro us u ⟨vs,v,n,r1,b⟩;obtain⟨j,e,b,o,q⟩:=b;subst e;cases r1 with
 |cons r l =>
  cases l;obtain⟨w,rfl⟩:=r;exact call_range_1 (Fv n ⋯ ⋯ b o (by simpa using q))
theorem Nr{a b:Expr}{k:TA}{p g:Pos}(u:Gl X "range")(y:X.mg "range"=none)(x:PA X [a,b] k)(z:starEach [a,b] X.env=[(false,eval a X.env),(false,eval b X.env)]:=by rfl)(f:starEach [b] X.env=[(false,eval b X.env)]:=by rfl):
  PI X tg (.Call (.Name "range" p) [a,b] [] g) (Fu k):=by
 intro o s l H R I h;refine Call_ (iD I u y boot_range (xP (thn (x g o s l H _ I h) ?_) (by rw[z,f]) (by rw[f];rfl)));rintro us D ⟨vs,F,t,r1,c⟩;obtain⟨i,j,e,⟨c,v,m,w⟩,q⟩:=c;subst e;cases r1 with
 | cons r d =>
  cases d with
  |cons n d =>
   cases d;obtain⟨C,rfl⟩:=r;obtain⟨t',rfl⟩:=n;exact call_range_2 (Fv t c v m w q)
def tFor(wi:TI)(g:TG)(tb:TS):TS:=λD σ H=>wi σ H λJ H1=>∃W:Nat->Nat->St->Hp->Prop,(∃m,W 0 m σ H1)/\∀i m σ H,W i m σ H ->
 (J.stop i H/\D.nx σ H)\/(J.go i H/\∃N:St->Hp->Prop,(∀σ' H',N σ' H'->∃m',m'<m/\W (i+1) m' σ' H')/\∀x H',J.yld i H x H'->g x σ H' λσ2 H2=>tb {D with nx:=N,ct:=N,bk:=D.nx} σ2 H2)
def dH(fp:LA)(h:Heap):PN:=fp.filterMap λb=>(h.get? b).map λo=>(b,o)
theorem cZ{a:LA}{h:Heap}{b:Addr}{o:Obj}(c:b∈a)(e:h.get? b=some o):(b,o)∈dH a h:=oE.mpr ⟨b,c,by rw[e];rfl⟩
theorem Nq{a:LA}{h:Heap}{p:Addr×Obj}(c:p∈dH a h):p.1∈a/\h.get? p.1=some p.2:=by
 obtain⟨b,f,e⟩:=oE.mp c;cases q:h.get? b with
 |none=>rw[q]at e;cases e
 |some o =>
  rw[q]at e;have d:(b,o)=p:=zW e;subst d;exact⟨f,q⟩
theorem Inv.pinned{a:PN}{f:St}{H:Hp}{s:Shared}{c:LA}(I:Inv X a f H s)(m:∀b∈c,FpOk X a H b)(k:∀b∈c,∃o,s.heap.get? b=some o/\∀v,o.data≠.cell v):Inv X (a++dH c s.heap) f H s:=
 I.pins_of λp n=>(oA.mp n).elim (λz=>I.pin p (yO _ z)) λz=>by
  obtain⟨g,e⟩:=Nq z;obtain⟨l,j,q,_⟩:=m p.1 g;obtain⟨o,i,d⟩:=k p.1 g;rw[e]at i;cases i;exact⟨e,l,j,q,d⟩
theorem Inv.unpinned{b pl:PN}{a:St}{H:Hp}{s:Shared}(I:Inv X (b++pl) a H s):Inv X b a H s:=I.pins_of λp c=>I.pin p (yO _ (xU _ c))
theorem mQ{J:Expr}{body:List Stmt}{S:TI}{g:TG}{tb:TS}{c7:Pos}(q:PassesOwn (model X.prog X.w) X.A X.env X.xe)(P:X.calm=true)(hi:PI X tg J S)(a9:PG X tg g)(a:PSs X body tb)
  (d5:∀x,foldedSetIterable J X.env x=pure x:=by intro _;rfl):PS X (.For tg J body [] c7) (tFor S g tb):=by
 intro p s L H D I h;refine wpAny_For (thn (hi p s L H _ I h) λv d8 b7=>thn b7 λd6 e0 d4=>?_) d5;obtain⟨d7,z,R,d9,b8,e,c1,T,b1,Y,W,⟨c4,a5⟩,a6⟩:=d4;subst e
 -- what stays true of the iterator's objects through the loop
 have G:∀{H':Hp},(∀b∈z,H' b=none)->∀b∈z,FpOk X p H' b:=λa4 b a=>⟨a4 b a,(Y b a).2⟩;refine codeAny_forLoop_any (λn U=>∃i t H',Inv X p t H' U/\R i U.heap/\(∀b∈z,H' b=none)/\W i n t H') ?_ c4 ⟨0,L,b8,c1,b1,λb a=>(Y b a).1,a5⟩;rintro n a2 ⟨i,w,C,Z,M,O,c0⟩;rcases a6 i n w C c0 with⟨stop,c8⟩|⟨go,N,b3,step⟩
 ·refine vO q (thn (T.done X rfl rfl rfl P i p a2 w C X.xe Z (G O) M stop) ?_);rintro r a8 ⟨hr,c3⟩;subst hr;exact tQ ⟨w,C,c3,c8⟩
 ·refine vO q (thn (T.item X rfl rfl rfl P i p a2 w C X.xe Z (G O) M go) ?_);rintro r a8 ⟨u,hr,b2⟩;subst hr;refine vO q (thn b2 ?_);rintro _ a1 ⟨x,V,b9,b5,b4,F,b0⟩;have d0:=b9.pinned (G b0) (T.obj _ _ F);refine vO q (thn (a9 _ a1 w V x u _ d0 b5 (step x V b4)) ?_);rintro _ a3 ⟨b6,a7,c6,d3⟩;refine vO q (thn (a _ a3 b6 a7 _ c6 d3) λf K l=>?_);have a0:∀{j:St}{k:Hp},Inv X (p++dH z a1.heap) j k K->N j k->∃m,m<n/\∃i t H',Inv X p t H' K/\R i K.heap/\(∀b∈z,H' b=none)/\W i m t H':=λ{j k}c y=>by
   obtain⟨c5,d1,c2⟩:=b3 j k y;refine⟨c5,d1,i+1,j,k,c.unpinned,T.keep _ _ _ F λb a o e=>(c.pin (b,o) (yO _ (yO _ (cZ a e)))).1,λb a=>?_,c2⟩;obtain⟨o,e,d⟩:=T.obj _ _ F b a;exact(c.pin (b,o) (yO _ (yO _ (cZ a e)))).2.1
  cases f with
  |next=>obtain⟨j,k,c,y⟩:=l;exact a0 c y
  |cont=>obtain⟨j,k,c,y⟩:=l;exact a0 c y
  |brk=>obtain⟨j,k,c,l⟩:=l;exact⟨j,k,c.unpinned,l⟩
  |ret v=>obtain⟨d2,j,k,c,c9,l⟩:=l;exact⟨d2,j,k,c.unpinned,c9,l⟩
end
theorem Np{K:Frag}{a:Addr}{xs:List V}{g:TG}{tb:TS}{D:Ends}{b:St}{H:Hp}(c:Nat->St->Hp->Prop)(o:c 0 b H)(hl:∀i b H,i<=xs.length->c i b H->SqL K H a xs)
  (t:∀i x b H,xs[i]?=some x->c i b H->g x b H λj f=>tb {D with nx:=c (i+1),ct:=c (i+1),bk:=D.nx} j f)(r:∀b H,c xs.length b H->D.nx b H):
  ∃W:Nat->Nat->St->Hp->Prop,(∃m,W 0 m b H)/\∀i m b H,W i m b H ->
   ((Itl K a).stop i H/\D.nx b H)\/((Itl K a).go i H/\∃N:St->Hp->Prop,(∀d H',N d H'->∃l,l<m/\W (i+1) l d H')/\∀x H',(Itl K a).yld i H x H'->g x b H' λj f=>tb {D with nx:=N,ct:=N,bk:=D.nx} j f):=by
 refine⟨λi m b H=>m=xs.length-i/\i<=xs.length/\c i b H,⟨xs.length,by simp,yB _,o⟩,?_⟩;rintro i m b H ⟨rfl,hi,p⟩;have q:=hl i b H hi p
 by_cases k:i<xs.length
 ·refine .inr ⟨⟨xs,xs[i],q,by simp[k]⟩,c (i+1),λd H' n=>⟨xs.length-(i+1),⋯,rfl,k,n⟩,λx H' y=>?_⟩;obtain⟨e,y⟩:=y;subst e;exact t i x b _ (y xs q) p
 ·have e:i=xs.length:=⋯
  subst e;exact .inl ⟨⟨xs,q,zE _⟩,r b H p⟩
theorem No{K:Frag}{a:Addr}{xs:List V}{g:TG}{tb:TS}{D:Ends}{b:St}{H:Hp}(c:Nat->St->Hp->Prop)(o:c 0 b H)(hl:∀i b H,i<=xs.length->c i b H->SqT K H a xs)
  (t:∀i x b H,xs[i]?=some x->c i b H->g x b H λj f=>tb {D with nx:=c (i+1),ct:=c (i+1),bk:=D.nx} j f)(r:∀b H,c xs.length b H->D.nx b H):
  ∃W:Nat->Nat->St->Hp->Prop,(∃m,W 0 m b H)/\∀i m b H,W i m b H ->
   ((Itt K a).stop i H/\D.nx b H)\/((Itt K a).go i H/\∃N:St->Hp->Prop,(∀d H',N d H'->∃l,l<m/\W (i+1) l d H')/\∀x H',(Itt K a).yld i H x H'->g x b H' λj f=>tb {D with nx:=N,ct:=N,bk:=D.nx} j f):=by
 refine⟨λi m b H=>m=xs.length-i/\i<=xs.length/\c i b H,⟨xs.length,by simp,yB _,o⟩,?_⟩;rintro i m b H ⟨rfl,hi,p⟩;have q:=hl i b H hi p
 by_cases k:i<xs.length
 ·refine .inr ⟨⟨xs,xs[i],q,by simp[k]⟩,c (i+1),λd H' n=>⟨xs.length-(i+1),⋯,rfl,k,n⟩,λx H' y=>?_⟩;obtain⟨e,y⟩:=y;subst e;exact t i x b _ (y xs q) p
 ·have e:i=xs.length:=⋯
  subst e;exact .inl ⟨⟨xs,q,zE _⟩,r b H p⟩
theorem Nn{lo:Int}{n:Nat}{g:TG}{tb:TS}{D:Ends}{a:St}{H:Hp}(b:Nat->St->Hp->Prop)(o:b 0 a H)
  (r:∀i a H,i<n->b i a H->g (.int (lo+i)) a H λj f=>tb {D with nx:=b (i+1),ct:=b (i+1),bk:=D.nx} j f)(q:∀a H,b n a H->D.nx a H):
  ∃W:Nat->Nat->St->Hp->Prop,(∃m,W 0 m a H)/\∀i m a H,W i m a H ->
   ((Itr lo n).stop i H/\D.nx a H)\/((Itr lo n).go i H/\∃N:St->Hp->Prop,(∀c H',N c H'->∃k,k<m/\W (i+1) k c H')/\∀x H',(Itr lo n).yld i H x H'->g x a H' λj f=>tb {D with nx:=N,ct:=N,bk:=D.nx} j f):=by
 refine⟨λi m a H=>m=n-i/\i<=n/\b i a H,⟨n,by simp,yB _,o⟩,?_⟩;rintro i m a H ⟨rfl,hi,p⟩
 by_cases d:i<n
 ·refine .inr ⟨d,b (i+1),λc H' l=>⟨n-(i+1),⋯,rfl,d,l⟩,λx H' y=>?_⟩;obtain⟨e,y⟩:=y;subst e y;exact r i a _ d p
 ·have e:i=n:=⋯
  subst e;exact .inl ⟨zE _,q a H p⟩
abbrev R2:=V->V->Hp->VK->Prop
def OpR(X:Cx)(f:Value->Value->Sem Value)(r:R2):Prop:=
 ∀(pins:PN)(s:Shared)(σ:St)(H:Hp)(x y:V)(v u:Value)(Q:VK),Inv X pins σ H s->RelV x v->RelV y u->r x y H Q ->
  wpAny (model X.prog X.w) X.A (f v u) (EP X pins σ Q) X.xe s
def UnR(X:Cx)(f:Value->Sem Value)(r:V->Hp->VK->Prop):Prop:=
 ∀(pins:PN)(s:Shared)(σ:St)(H:Hp)(x:V)(v:Value)(Q:VK),Inv X pins σ H s->RelV x v->r x H Q ->
  wpAny (model X.prog X.w) X.A (f v) (EP X pins σ Q) X.xe s
def lK(X:Cx)(f:Value)(r:List V->Hp->VK->Prop):Prop:=
 ∀(pins:PN)(s:Shared)(σ:St)(H:Hp)(xs:List V)(us:LW)(Q:VK),Inv X pins σ H s->Vals xs us->r xs H Q ->
  wpAny (model X.prog X.w) X.A (call f us) (EP X pins σ Q) X.xe s
def tOp(r:R2)(ta tb:TE):TE:=λσ H Q=>ta σ H λx H1=>tb σ H1 λy H2=>r x y H2 Q
def tUn(r:V->Hp->VK->Prop)(ta:TE):TE:=λσ H Q=>ta σ H λx H1=>r x H1 Q
def rI(C:Int->Int->Prop)(g:Int->Int->V):R2:=λx y H Q=>∃i j,x=.int i/\y=.int j/\C i j/\Q (g i j) H
def rI0(g:Int->Int->V):R2:=λx y H Q=>∃i j,x=.int i/\y=.int j/\Q (g i j) H
def rU(g:Int->V):V->Hp->VK->Prop:=λx H Q=>∃i,x=.int i/\Q (g i) H
section
variable {X:Cx} {a b c:Expr} {ta tb tc:TE} {pos:Pos}
theorem binT(m:PE X a ta)(k:PE X b tb){g:PN}{s:Shared}{d:St}{H:Hp}{R:V->V->Hp->Prop}(I:Inv X g d H s)
  (h:ta d H λx j=>tb d j λy e=>R x y e){Q:VP}{f:Value->Value->Sem Value}
  (o:∀v u i x y e,Inv X g d e i->RelV x v->RelV y u->R x y e->wpAny (model X.prog X.w) X.A (f v u) Q X.xe i):
  wpAny (model X.prog X.w) X.A (eval a X.env) (λv n=>wpAny (model X.prog X.w) X.A (eval b X.env) (λu t=>wpAny (model X.prog X.w) X.A (f v u) Q X.xe t) X.xe n) X.xe s:=by
 refine thn (m g s d H _ I h) ?_;rintro v l ⟨x,j,r,r1,q⟩;refine thn (k g l d j _ r q) ?_;rintro u i ⟨y,e,p,r2,w⟩;exact o v u i x y e p r1 r2 w
theorem oS{op:Operator}{r:R2}(i:OpR X (binaryOp op) r)(j:PE X a ta)(e:PE X b tb):PE X (.BinOp a op b pos) (tOp r ta tb):=by
 intro g s d H Q I h;exact wpAny_BinOp (binT j e I h λv u k x y m n f l q=>i g k d m x y v u Q n f l q)
theorem gO{op:UnaryOp}{r:V->Hp->VK->Prop}(g:UnR X (unaryOp op) r)(i:PE X a ta):PE X (.UnaryOp op a pos) (tUn r ta):=by
 intro e s d H Q I h;exact UnaryOp_ (thn (i e s d H _ I h) λv f⟨x,j,l,r1,k⟩=>g e f d j x v Q l r1 k)
theorem opI{f:Value->Value->Sem Value}{C:Int->Int->Prop}{g:Int->Int->Int}
  (m:∀(i j:Int)(d u:Tok)(s:Shared)(Q:VP)(E:VP),C i j->Q (.int (g i j) s.toks) {s with toks:=s.toks+1}->wpAny (model X.prog X.w) X.A (f (.int i d) (.int j u)) Q E s):
  OpR X f (rI C λi j=>.int (g i j)):=by
 intro o s n H x y v u Q I e k h;obtain⟨i,j,rfl,rfl,l,q⟩:=h;obtain⟨d,rfl⟩:=e;obtain⟨t',rfl⟩:=k;exact m i j d t' s _ _ l ⟨.int (g i j),H,I.tok _,⟨_,rfl⟩,q⟩
theorem opI0{f:Value->Value->Sem Value}{g:Int->Int->Int}
  (l:∀(i j:Int)(d u:Tok)(s:Shared)(Q:VP)(E:VP),Q (.int (g i j) s.toks) {s with toks:=s.toks+1}->wpAny (model X.prog X.w) X.A (f (.int i d) (.int j u)) Q E s):
  OpR X f (rI0 λi j=>.int (g i j)):=by
 intro n s m H x y v u Q I e k h;obtain⟨i,j,rfl,rfl,q⟩:=h;obtain⟨d,rfl⟩:=e;obtain⟨t',rfl⟩:=k;exact l i j d t' s _ _ ⟨.int (g i j),H,I.tok _,⟨_,rfl⟩,q⟩
theorem opB0{f:Value->Value->Sem Value}{g:Int->Int->Bool}
  (l:∀(i j:Int)(d u:Tok)(s:Shared)(Q:VP)(E:VP),Q (.bool (g i j)) s->wpAny (model X.prog X.w) X.A (f (.int i d) (.int j u)) Q E s):
  OpR X f (rI0 λi j=>.bl (g i j)):=by
 intro n s m H x y v u Q I e k h;obtain⟨i,j,rfl,rfl,q⟩:=h;obtain⟨d,rfl⟩:=e;obtain⟨t',rfl⟩:=k;exact l i j d t' s _ _ ⟨.bl (g i j),H,I,rfl,q⟩
def CPow(i j:Int):Prop:=0<=j/\j<=1000000/\i.natAbs<2^64
def CMul(i j:Int):Prop:=(-(2^64)<i/\i<2^64)\/(-(2^64)<j/\j<2^64)
theorem CMul.ok{i j:Int}(h:CMul i j):IntMulOk i j:=by
 rcases h with⟨d,e⟩|⟨d,e⟩
 ·exact .of_left (intBits_le_64 d e)
 ·exact .of_right (intBits_le_64 d e)
theorem mJ:OpR X (binaryOp .Add) (rI0 λi j=>.int (i+j)):=opI0 λ_ _ _ _ _ _ _ q=>add_int q
theorem kO:OpR X (binaryOp .Sub) (rI0 λi j=>.int (i-j)):=opI0 λ_ _ _ _ _ _ _ q=>sub_int q
theorem kG:OpR X (binaryOp .Mod) (rI (λ_ j=>j≠0) λi j=>.int (i.fmod j)):=opI λ_ _ _ _ _ _ _ d q=>mod_int' d q
theorem gP:OpR X (binaryOp .Pow) (rI CPow λi j=>.int (i^j.toNat)):=opI λ_ _ _ _ _ _ _ d q=>pow_int_small d.1 d.2.1 d.2.2 q
theorem unI{f:Value->Sem Value}{g:Int->Int}
  (j:∀(i:Int)(d:Tok)(s:Shared)(Q:VP)(E:VP),Q (.int (g i) s.toks) {s with toks:=s.toks+1}->wpAny (model X.prog X.w) X.A (f (.int i d)) Q E s):
  UnR X f (rU λi=>.int (g i)):=by
 intro l s k H x v Q I e h;obtain⟨i,rfl,q⟩:=h;obtain⟨d,rfl⟩:=e;exact j i d s _ _ ⟨.int (g i),H,I.tok _,⟨_,rfl⟩,q⟩
theorem gQ:UnR X (unaryOp .USub) (rU λi=>.int (-i)):=unI λ_ _ _ _ _ q=>neg_int q
end
def scal:V->V->Bool
 |.non,.non=>true|.non,.int _=>true|.int _,.non=>true|.non,.bl _=>true|.bl _,.non=>true|.non,.str _=>true|.str _,.non=>true
 |.int _,.int _=>true|.bl _,.bl _=>true|.str _,.str _=>true|.byt _,.byt _=>true
 |.int _,.str _=>true|.str _,.int _=>true|.bl _,.str _=>true|.str _,.bl _=>true
 |_,_=>false
def rEq:R2:=λx y H Q=>scal x y=true/\Q (.bl (decide (x=y))) H
theorem Nm{i j:Int}:decide (V.int i=V.int j)=(i == j):=by
 rw[rN];simp
theorem Nl{i j:Bool}:decide (V.bl i=V.bl j)=(i == j):=by
 rw[rN];simp
theorem Nk{i j:Str}:decide (V.str i=V.str j)=(i == j):=by
 rw[rN];simp
theorem Nj{i j:Array UInt8}:decide (V.byt i=V.byt j)=(i.toList == j.toList):=by
 rw[rN];cases i;cases j;simp
section
variable {X:Cx} {a b c:Expr} {ta tb tc:TE} {pos:Pos}
theorem lE{g:PN}{d:St}{H:Hp}{s:Shared}{Q:VK}{k f:Bool}(I:Inv X g d H s)(q:Q (.bl k) H)(e:k=f):EP X g d Q (.bool f) s:=by
 subst e;exact⟨.bl k,H,I,rfl,q⟩
theorem Ni:OpR X (compareOp .Eq) rEq:=by
 intro l s k H x y v u Q I f d h;obtain⟨e,q⟩:=h;cases x with
 |non =>
  cases f;cases y with
  |non=>cases d;exact PySem.EqNone.eq_none_none (lE I q (by simp))
  |bl j=>cases d;exact PySem.EqNone.eq_none_bool (lE I q (by simp))
  |int j=>obtain⟨t',rfl⟩:=d;exact PySem.EqNone.eq_none_int (lE I q (by simp))
  |str j=>obtain⟨t',rfl⟩:=d;exact PySem.EqNone.eq_none_str (lE I q (by simp))
  |_=>exact absurd (show false=true from e) zX
 |bl i =>
  cases f;cases y with
  |non=>cases d;exact PySem.EqNone.eq_bool_none (lE I q (by simp))
  |bl j=>cases d;exact eq_bool (lE I q Nl)
  |str j=>obtain⟨t',rfl⟩:=d;exact PySem.EqMixed.eq_bool_str (lE I q (by simp))
  |_=>exact absurd (show false=true from e) zX
 |int i =>
  obtain⟨g,rfl⟩:=f;cases y with
  |non=>cases d;exact PySem.EqNone.eq_int_none (lE I q (by simp))
  |int j=>obtain⟨t',rfl⟩:=d;exact eq_int (lE I q Nm)
  |str j=>obtain⟨t',rfl⟩:=d;exact PySem.EqMixed.eq_int_str (lE I q (by simp))
  |_=>exact absurd (show false=true from e) zX
 |str i =>
  obtain⟨g,rfl⟩:=f;cases y with
  |non=>cases d;exact PySem.EqNone.eq_str_none (lE I q (by simp))
  |bl j=>cases d;exact PySem.EqMixed.eq_str_bool (lE I q (by simp))
  |int j=>obtain⟨t',rfl⟩:=d;exact PySem.EqMixed.eq_str_int (lE I q (by simp))
  |str j=>obtain⟨t',rfl⟩:=d;exact eq_str (lE I q Nk)
  |_=>exact absurd (show false=true from e) zX
 |byt i =>
  obtain⟨g,rfl⟩:=f;cases y with
  |byt j=>obtain⟨t',rfl⟩:=d;exact PySem.W.eq_bytes (lE I q Nj)
  |_=>exact absurd (show false=true from e) zX
 |_=>cases y <;> exact absurd (show false=true from e) zX
theorem bA:OpR X (compareOp .Lt) (rI0 λi j=>.bl (decide (i<j))):=opB0 λ_ _ _ _ _ _ _ q=>lt_int q
theorem bB:OpR X (compareOp .Gt) (rI0 λi j=>.bl (decide (j<i))):=opB0 λ_ _ _ _ _ _ _ q=>gt_int q
theorem Nh:OpR X (compareOp .GtE) (rI0 λi j=>.bl (decide (j<=i))):=opB0 λ_ _ _ _ _ _ _ q=>ge_int q
theorem bD:OpR X (compareOp .Is) (λx y H Q=>y=.non/\Q (.bl (decide (x=.non))) H):=by
 intro g s f H x y v u Q I d e h;obtain⟨rfl,q⟩:=h;cases e;refine is_none_gen (lE I q ?_);cases x <;> first
  |(cases d;rfl)
  |(obtain⟨i,rfl⟩:=d;rfl)
theorem Ft:OpR X (compareOp .IsNot) (λx y H Q=>y=.non/\Q (.bl (!decide (x=.non))) H):=by
 intro g s f H x y v u Q I d e h;obtain⟨rfl,q⟩:=h;cases e;refine isnot_none_gen (lE I q ?_);cases x <;> first
  |(cases d;rfl)
  |(obtain⟨i,rfl⟩:=d;rfl)
theorem nD(b:Expr){op:CmpOp}(h:op≠.In:=by decide)(e:op≠.NotIn:=by decide):behindInMarks op b=false:=by
 have e1:(op == CmpOp.In)=false:=by cases op <;> first|rfl|exact absurd rfl h
 have d:(op == CmpOp.NotIn)=false:=by cases op <;> first|rfl|exact absurd rfl e
 cases b <;> simp[behindInMarks,e1,d]
theorem jD{op:CmpOp}{r:R2}(i:OpR X (compareOp op) r)(j:PE X a ta)(e:PE X b tb)(m:behindInMarks op b=false):PE X (.Compare a [op] [b] pos) (tOp r ta tb):=by
 intro g s d H Q I h;exact wpAny_Compare1 (binT j e I h λv u k x y n o f l q=>i g k d n x y v u Q o f l q) m
def bE(t:TE):TT:=λσ H Q=>t σ H λx H'=>∃k,x=.bl k/\Q k H'
theorem nH{op:CmpOp}{r:R2}(j:OpR X (compareOp op) r)(D:PE X a ta)(i:PE X b tb)(G:behindInMarks op b=false):PT X (.Compare a [op] [b] pos) (bE (tOp r ta tb)):=by
 intro f s d H Q I h;refine wpAny_isTrue_Compare1 (thn (D f s d H _ I h) λv n⟨x,J,m,r1,l⟩=>thn (i f n d J _ m l) λu F⟨y,q,t,r2,w⟩ =>
  thn (j f F d q x y v u _ t r1 r2 w) λc K⟨z,p,C,o,k,e,g⟩=>?_) G
 subst e;cases o;exact uO ⟨p,C,g⟩
theorem bF:(sizeLine:Nat)<2^63:=by rw[sizeLine_eq];decide
theorem jE{x:V}{us:LW}(r:Vals [x] us):∃u,us=[u]/\RelV x u:=by
 cases r with
 |cons r1 r2=>cases r2;exact⟨_,rfl,r1⟩
theorem dI:lK X (.builtin "abs") (λxs H Q=>∃i,xs=[.int i]/\Q (.int (if i<0 then -i else i)) H):=by
 intro f s e H xs us Q I r h;obtain⟨i,rfl,q⟩:=h;obtain⟨u,rfl,d,rfl⟩:=jE r;exact call_abs_int λu tk=>⟨.int (if i<0 then -i else i),H,I.tok _,⟨_,rfl⟩,q⟩
theorem Fs:lK X (.type "int") (λxs H Q=>(∃i,xs=[.int i]/\Q (.int i) H)\/∃k,xs=[.bl k]/\Q (.int (if k then 1 else 0)) H):=by
 intro f s e H xs us Q I r h;rcases h with⟨i,rfl,q⟩|⟨k,rfl,q⟩
 ·obtain⟨u,rfl,d,rfl⟩:=jE r;exact call_int_int ⟨.int i,H,I,⟨_,rfl⟩,q⟩
 ·obtain⟨u,rfl,r1⟩:=jE r;cases r1;exact call_int_bool ⟨.int (if k then 1 else 0),H,I.tok _,⟨_,rfl⟩,q⟩
end
structure ObjM(h:Heap)(x dx C:Addr)(mA:MT):Prop where
 obj:h.get? x=some (PySem.W.instObj C dx)
 ns:h.Ns1 dx mA
 ne:dx≠x
theorem Ng{h:Heap}{d:Addr}{c:MT}(n:h.Ns1 d c):∃b,h.get? d=some b/\∀name,PySem.W.lookIn name b=some (c name):=by
 obtain⟨o,es,ep,g,m,i,_,j⟩:=n;refine⟨o,g,λname=>?_⟩;have e:=j name;unfold nsFind findBy at e;rw[←Array.find?_toList]at e;unfold PySem.W.lookIn;rw[m];dsimp only;split
 ·rename_i y q;rw[q]at e;exact wH some e
 ·rename_i q;rw[q]at e;have a:es.toList.any (·.refKey)=false:=by
   rw[List.any_eq_false];intro y f;obtain⟨z,p,l⟩:=i y (Array.mem_toList_iff.mp f);simp[DictEntry.refKey,l]
  have k:¬ es.toList.any (·.refKey)=true:=by rw[a];exact zX
  rw[zD k];exact wH some e
theorem ObjM.look{h:Heap}{x c C:Addr}{b:MT}(I:ObjM h x c C b):∃a,PySem.W.InstAt h x (PySem.W.instObj C c) C (some a)/\∀name,PySem.W.lookIn name a=some (b name):=
 let ⟨a,d,hl⟩:=Ng I.ns
 ⟨a,⟨I.obj,rfl,rfl,d⟩,hl⟩
section
variable {prog:Program} {w:World} {A:Around} {E:VP} {s:Shared} {K:Frag} {x dx C f:Addr} {mA:MT} {name:Str} {v:Value}
theorem Nf{e:Bool}{Q:VP}(X:K.In s.heap)(I:ObjM s.heap x dx C mA)(a:PySem.W.plainGet K C name=true)(hh:PySem.W.hasDictIn K C=true)
  (c:PySem.W.findIn K (.ref C) name=some none)(b:mA name=some v)(g:PySem.W.handedIn v=true)(h:Q v {s with toks:=s.toks+1}):
  wpAny (model prog w) A (getAttr (.ref x) name e) Q E s:=by
 obtain⟨i,d,hl⟩:=I.look;exact PySem.W.get_value X d (rR a).1 (PySem.W.findObj_own hh c rfl (by rw[hl,b])) g h
theorem Nd{pl:Sem Bool}{Q:Value×LW->Shared->Prop}(X:K.In s.heap)(I:ObjM s.heap x dx C mA)(a:PySem.W.plainGet K C name=true)
  (d:PySem.W.findIn K (.ref C) name=some (some (.ref f)))(e:PySem.W.isFn K (.ref f)=true)(b:mA name=none)(h:Q (.ref f,[.ref x]) s):
  wpAny (model prog w) A (getMethod (.ref x) name pl) Q E s:=by
 obtain⟨g,c,hl⟩:=I.look;exact PySem.W.method_fn X c (rR a).1 (rR a).2 d (pW.mp e) (by show(PySem.W.lookIn name g).map (·.isSome)=some false;rw[hl,b];rfl) h
theorem Nc{ns:List Str}{Q:Unit->Shared->Prop}(X:K.In s.heap)(I:ObjM s.heap x dx C mA)
  (p:PySem.W.findIn K (.ref C) "__setattr__"=some (some (.builtin "object.__setattr__")))(o:PySem.W.plainOver K C=true)(m:PySem.W.takerIn K C name=some none)(hh:PySem.W.hasDictIn K C=true)
  (n:PySem.Within mA ns)(hsz:ns.length<=sizeLine)
  (h:∀h',ObjM h' x dx C (λy=>if y=name then some v else mA y)->Heap.SameBut dx s.heap h'->Q () {s with heap:=h',toks:=s.toks+2}):
  wpAny (model prog w) A (setAttr (.ref x) name v) Q E s:=by
 obtain⟨z,a,hl⟩:=I.look;refine PySem.W.set_plain X a p (PySem.W.osa_open (s:={s with toks:=s.toks+1}) (r:=none) X a o m λb=>?_);obtain⟨r,l,i⟩:=sV hh;have j:s.heap.get? x=some ⟨.ref C,some dx,.plain,#[]⟩:=I.obj;refine zA (zB (zA (zA (pN j (zA (wW (s:={s with toks:=s.toks+1}) (rO X l) ?_))))));rw[i];refine zB (a:=some dx) (zA (zB (zA ?_)));refine wpAny_nsSet1 (s:={s with toks:=s.toks+1}) I.ns λh' d c=>?_;obtain⟨t,u,q,e,g,k⟩:=d.count (PySem.Within.cons name v n);refine zA (wpAny_lookBehind e (by rw[g];exact pastItsLine_dict (yG k (by rw[zU];omega))) ?_);exact zB (h _ ⟨(c.2 _ (yA I.ne)).trans I.obj,d,I.ne⟩ c)
theorem Fr{R:Result->Shared->Prop}{vs:LW}{a:List (Str×Value)}(X:K.In s.heap)(b:PySem.W.makesIn K C=true)
  (hi:PySem.W.findIn K (.ref C) "__init__"=some (some (.ref f)))(c:PySem.W.typeIn K (.ref f)=some (.type "function"))
  (h:codeAny (model prog w) (A.under (.builtin "type.__call__" ⟨.ref C:: vs,a⟩)) (.call (.ref f) ⟨.ref (s.heap.objs.size+1):: vs,a⟩) (PySem.W.InitBack (s.heap.objs.size+1) R)
   {s with heap:=(s.heap.push PySem.W.emptyDict).push (PySem.W.instObj C s.heap.objs.size)}):
  codeAny (model prog w) A (.call (.ref C) ⟨vs,a⟩) R s:=by
 obtain⟨hh,g,d,j,i⟩:=s;exact PySem.W.make_core (PySem.W.makes_of X b) (vS X hi) (λe=>PySem.W.bind_fn X e c) (.inl rfl) h
end
def putF(f:Str)(v:V):List (Str×V)->List (Str×V)
 |[]=>[(f,v)]
 |(g,x):: r=>if g=f then(g,v):: r else(g,x):: putF f v r
theorem Fq(f g:Str)(v:V):∀fs:List (Str×V),(putF f v fs).lookup g=if g=f then some v else fs.lookup g
 |[]=>by
  show List.lookup g [(f,v)]=_
  by_cases h:g=f
  ·have a:(g == f)=true:=pW.mpr h;simp only[List.lookup,a,if_pos h]
  ·have a:(g == f)=false:=pY.mpr h;simp only[List.lookup,a,if_neg h]
 | (k,x):: r=>by
  have c:=Fq f g v r;rw[show putF f v ((k,x):: r)=(if k=f then(k,v):: r else(k,x):: putF f v r) from rfl]
  by_cases b:k=f
  ·rw[zF b]
   by_cases h:g=k
   ·have a:(g == k)=true:=pW.mpr h;simp only[List.lookup,a,if_pos (h.trans b)]
   ·have a:(g == k)=false:=pY.mpr h;simp only[List.lookup,a,if_neg (λe:g=f=>h (e.trans b.symm))]
  ·rw[zD b]
   by_cases h:g=k
   ·have a:(g == k)=true:=pW.mpr h;simp only[List.lookup,a,if_neg (λe:g=f=>b (h.symm.trans e))]
   ·have a:(g == k)=false:=pY.mpr h;simp only[List.lookup,a];exact c
theorem Al(f:Str)(v:V):∀fs:List (Str×V),f∈(putF f v fs).map (·.1)/\∀g,g∈fs.map (·.1)->g∈(putF f v fs).map (·.1)
 |[]=>⟨by simp[putF],λg h=>by simp at h⟩
 | (k,x):: r=>by
  obtain⟨c,b⟩:=Al f v r;rw[show putF f v ((k,x):: r)=(if k=f then(k,v):: r else(k,x):: putF f v r) from rfl]
  by_cases a:k=f
  ·rw[zF a];subst a;exact⟨by simp,λg h=>by simpa using h⟩
  ·rw[zD a];refine⟨?_,λg h=>?_⟩
   ·rw[zK];exact zO _ c
   ·rw[zK]at h ⊢;rcases xI.mp h with e|e
    ·exact xI.mpr (.inl e)
    ·exact zO _ (b g e)
theorem Fp(f:Str)(v:V):∀fs:List (Str×V),(putF f v fs).length<=fs.length+1
 |[]=>by simp[putF]
 |(k,x):: r=>by
  have b:=Fp f v r;rw[show putF f v ((k,x):: r)=(if k=f then(k,v):: r else(k,x):: putF f v r) from rfl]
  by_cases a:k=f
  ·rw[zF a,zU,zU];omega
  ·rw[zD a,zU,zU];omega
theorem RelO.some_of{v:V}{o:Option Value}(r:RelO (some v) o):∃u,o=some u/\RelV v u:=by
 cases o with
 |none=>exact(show False from r).elim
 |some u=>exact⟨u,rfl,r⟩
theorem RelO.none_of{o:Option Value}(r:RelO none o):o=none:=by
 cases o with
 |none=>rfl
 |some u=>exact(show False from r).elim
theorem Nb{v:V}{u:Value}(r:RelV v u):PySem.W.handedIn u=true:=by
 cases v with
 |non=>cases(show u=Value.none from r);rfl
 |bl b=>cases(show u=Value.bool b from r);rfl
 |int i=>obtain⟨t,e⟩:=(show∃t,u=Value.int i t from r);cases e;rfl
 |str x=>obtain⟨t,e⟩:=(show∃t,u=Value.str x t from r);cases e;rfl
 |byt b=>obtain⟨t,e⟩:=(show∃t,u=Value.bytes b t from r);cases e;rfl
 |flt b=>obtain⟨t,e⟩:=(show∃t,u=Value.float b t from r);cases e;rfl
 |ref a=>cases(show u=Value.ref a from r);rfl
 |ty n=>cases(show u=Value.type n from r);rfl
section
variable {P:Program} {w:World} {H H':Hp} {h h':Heap} {a C dx:Addr} {fs fs':List (Str×V)}
theorem bG(g:HOk P w H h)(e:H a=some (.ins C dx fs)):∃b,ObjM h a dx C b/\(∀f,RelO (fs.lookup f) (b f))/\PySem.Within b (fs.map (·.1))/\fs.length<=1000/\H dx=some (.own a):=by
 obtain⟨d,z,i,c,b,n,r,q⟩:=(show nO P w H h a (.ins C dx fs) from g a _ e);exact⟨b,⟨c,n,i⟩,r,q,z,d⟩
end
structure Cls(K:Frag)(C:Addr):Prop where
 pg:PySem.W.plainGet K C Str.empty=true
 hd:PySem.W.hasDictIn K C=true
 po:PySem.W.plainOver K C=true
 sa:PySem.W.findIn K (.ref C) "__setattr__"=some (some (.builtin "object.__setattr__"))
theorem Cls.get{K:Frag}{C:Addr}(c:Cls K C)(f:Str):PySem.W.plainGet K C f=true:=c.pg
def gR(K:Frag)(C:Addr)(f:Str):Prop:=PySem.W.findIn K (.ref C) f=some none
theorem gR.taker{K:Frag}{C:Addr}{f:Str}(n:gR K C f):PySem.W.takerIn K C f=some none:=by
 unfold PySem.W.takerIn;rw[show PySem.W.findIn K (.ref C) f=some none from n];rfl
structure Meth(K:Frag)(C:Addr)(m:Str)(f:Addr):Prop where
 at_:PySem.W.findIn K (.ref C) m=some (some (.ref f))
 fn:PySem.W.isFn K (.ref f)=true
 kp:PySem.W.keepIn K (.ref f)=true
section
variable {X:Cx} {pins:PN} {σ:St} {H:Hp} {s:Shared} {a C dx:Addr} {fs:List (Str×V)} {f:Str} {v:V} {A:Around} {E:VP}
theorem Na{b:Bool}{Q:VP}(I:Inv X pins σ H s)(e:H a=some (.ins C dx fs))(c:Cls X.K C)(n:gR X.K C f)(l:fs.lookup f=some v)
  (h:∀u g,Inv X pins σ H g->RelV v u->Q u g):wpAny (model X.prog X.w) A (getAttr (.ref a) f b) Q E s:=by
 obtain⟨i,O,r,_,_,_⟩:=bG I.hok e;obtain⟨u,j,d⟩:=RelO.some_of (v:=v) (o:=i f) (by rw[←l];exact r f);exact Nf I.kIn O (c.get f) c.hd n j (Nb d) (h u _ (I.tok _) d)
theorem Fo{m:Str}{g:Addr}{pl:Sem Bool}{Q:Value×LW->Shared->Prop}(I:Inv X pins σ H s)(e:H a=some (.ins C dx fs))(c:Cls X.K C)(k:Meth X.K C m g)(l:fs.lookup m=none)
  (h:Q (.ref g,[.ref a]) s):wpAny (model X.prog X.w) A (getMethod (.ref a) m pl) Q E s:=by
 obtain⟨b,O,r,_,_,_⟩:=bG I.hok e;have d:b m=none:=RelO.none_of (by rw[←l];exact r m);exact Nd I.kIn O (c.get m) k.at_ k.fn d h
theorem Oz{y:V}{u:Value}{Q:Unit->Shared->Prop}(I:Inv X pins σ H s)(e:H a=some (.ins C dx fs))(c:Cls X.K C)(n:gR X.K C f)(hl:fs.length<1000)(x:RelV y u)
  (h:∀l,Inv X pins σ (upd H a (.ins C dx (putF f y fs))) l->Q () l):wpAny (model X.prog X.w) A (setAttr (.ref a) f u) Q E s:=by
 obtain⟨j,O,r,k,_,i⟩:=bG I.hok e;have w:(fs.map (·.1)).length<=sizeLine:=by rw[yS,sizeLine_eq];omega
 refine Nc I.kIn O c.sa c.po n.taker c.hd k w λh' d D=>h _ ?_;have F:∃o,h'.get? dx=some o:=let ⟨o,_,_,p,_⟩:=d.ns;⟨o,p⟩
 refine I.write (x:=a) (e:=dx) (by rw[e];exact True.intro) (.inr i) (λb q t z=>(D.2 b t).trans z) F ?_;refine⟨by rw[oT O.ne];exact i,?_,O.ne,d.obj,_,d.ns,λg=>?_,λg m=>?_⟩
 ·have:=Fp f y fs;omega
 ·show RelO ((putF f y fs).lookup g) (if g=f then some u else j g);rw[Fq]
  by_cases q:g=f
  ·rw[zF q,zF q];exact x
  ·rw[zD q,zD q];exact r g
 ·by_cases q:g=f
  ·rw[q];exact(Al f y fs).1
  ·refine(Al f y fs).2 g (k g λz=>m ?_);show(if g=f then some u else j g)=none;rw[zD q];exact z
theorem Inv.made(I:Inv X pins σ H s):Inv X pins σ (upd (upd H s.heap.objs.size (.own (s.heap.objs.size+1))) (s.heap.objs.size+1) (.ins C s.heap.objs.size []))
  {s with heap:=(s.heap.push PySem.W.emptyDict).push (PySem.W.instObj C s.heap.objs.size)}:=by
 have e1:(s.heap.push PySem.W.emptyDict).get? s.heap.objs.size=some PySem.W.emptyDict:=zS s.heap rfl;have g:((s.heap.push PySem.W.emptyDict).push (PySem.W.instObj C s.heap.objs.size)).get? (s.heap.objs.size+1)=some (PySem.W.instObj C s.heap.objs.size):=by
  have:=zS (s.heap.push PySem.W.emptyDict) (o:=PySem.W.instObj C s.heap.objs.size) rfl
  rwa[xR]at this
 have j:(s.heap.push PySem.W.emptyDict).Ns s.heap.objs.size (λ_=>none):=⟨PySem.W.emptyDict,#[],_,e1,rfl,(λe i=>absurd i (by simp)),λ_=>rfl⟩;have k:=I.laid (a:=s.heap.objs.size) (o:=.own (s.heap.objs.size+1)) (h':=s.heap.push PySem.W.emptyDict) (t':=s.toks) (λb u q=>zC _ q) (zE _) ⟨_,e1⟩;refine k.laid (a:=s.heap.objs.size+1) (o:=.ins C s.heap.objs.size []) (t':=s.toks) (λb u q=>zC _ q) (tZ (xR _ _)) ?_;have c:s.heap.objs.size≠s.heap.objs.size+1:=zY (vX _);refine⟨by rw[oT c,oP],yB _,c,g,λ_=>none,(Heap.Ns1.of_empty j).at λo q=>zC _ q,λ_=>True.intro,λy d=>absurd rfl d⟩
theorem Oy{prog:Program}{w:World}{env:Env}{e:Expr}{f:Str}{d:Pos}{s:Shared}{Q:VP}(c:attributeBase e f env (eval e env)=eval e env)
  (h:wpAny (model prog w) A (eval e env) (λo b=>wpAny (model prog w) A (getAttr o f true) Q E b) E s):wpAny (model prog w) A (eval (.Attribute e f d) env) Q E s:=
 Attribute_any_ h (by rw[arm_eval_Attribute,c])
end
def tFld(K:Frag)(ta:TE)(f:Str):TE:=λσ H Q=>ta σ H λx H1=>∃a C dx fs v,x=.ref a/\H1 a=some (.ins C dx fs)/\Cls K C/\gR K C f/\fs.lookup f=some v/\Q v H1
def sFld(K:Frag)(ta tv:TE)(f:Str):TS:=λD σ H=>tv σ H λy H1=>ta σ H1 λx H2=>∃a C dx fs,x=.ref a/\H2 a=some (.ins C dx fs)/\Cls K C/\gR K C f/\fs.length<1000 /\
 D.nx σ (upd H2 a (.ins C dx (putF f y fs)))
section
variable {X:Cx} {o e value:Expr} {f:Str} {pos pos' tpos:Pos} {ta tv:TE}
theorem iE(r:PE X e ta)(i:attributeBase e f X.env (eval e X.env)=eval e X.env):PE X (.Attribute e f pos) (tFld X.K ta f):=by
 intro k s b H Q I h;refine Oy i (thn (r k s b H _ I h) ?_);rintro u y ⟨x,m,w,j,a,C,F,fs,v,p,d,c,n,l,q⟩;subst p;obtain rfl:u=Value.ref a:=j;exact Na w d c n l λD z t g=>⟨v,m,t,g,q⟩
theorem dJ(F:PE X o ta)(v:PE X value tv)(J:swapsWith value (some (.Attribute o f pos')) pos.line X.env=pure false):PS X (.Assign [.Attribute o f pos'] value pos) (sFld X.K ta tv f):=by
 intro d s b H D I h;refine plainObj_wpAny_Assign_Attribute (thn (v d s b H _ I h) λu j⟨y,G,g,m,q⟩=>thn (F d j b G _ g q) ?_) J;rintro k M ⟨x,L,p,w,a,C,K,fs,z,i,c,n,l,r⟩;subst z;obtain rfl:k=Value.ref a:=w;exact Oz p i c n l m λN t=>⟨b,_,t,r⟩
end
section
variable {X:Cx} {pins:PN} {σ:St} {H:Hp} {s:Shared} {A:Around} {E:VP} {Q:VP} {c:Value} {b:Bool}
inductive TyOf(K:Frag)(H:Hp):V->Value->Prop where
 |non:TyOf K H .non (.type "NoneType")
 |bl (x:Bool):TyOf K H (.bl x) (.type "bool")
 |int (i:Int):TyOf K H (.int i) (.type "int")
 |str (x:Str):TyOf K H (.str x) (.type "str")
 |flt (x:UInt64):TyOf K H (.flt x) (.type "float")
 |lst {a:Addr} {xs:List V} (e:H a=some (.lst xs)):TyOf K H (.ref a) (.type "list")
 |frz {a:Addr} {o:Obj} {xs:List V} (e:H a=some (.frz o (.lst xs))):TyOf K H (.ref a) (.type "list")
 |tup {a:Addr} {xs:List V} (e:H a=some (.tup xs)):TyOf K H (.ref a) (.type "tuple")
 |dK {a:Addr} {kvs:List (Key×V)} (e:H a=some (.dK kvs)):TyOf K H (.ref a) (.type "dict")
 |dT {a:Addr} {kvs:List (List Key×V)} (e:H a=some (.dT kvs)):TyOf K H (.ref a) (.type "dict")
 | ins {a C dx:Addr} {fs:List (Str×V)} (e:H a=some (.ins C dx fs)) (cl:Cls K C) (ha:PySem.W.findIn K (.ref C) "__class__"=some (some (.builtin "object.__class__")))
   (hn:PySem.W.specialIn K (.builtin "object.__class__") "__get__"=some (some (.builtin "getset_descriptor.__get__"))) (htk:PySem.W.takesIn K (.builtin "object.__class__")=some true)
   (hm:PySem.W.mroIn K C (.type "object")=some true):TyOf K H (.ref a) (.ref C)
theorem Ox{x:V}{u g:Value}(I:Inv X pins σ H s)(f:RelV x u)(ty:TyOf X.K H x g)(e:PySem.W.kitOne X.K g c=some b)(h:∀tk,Q (.bool b) {s with toks:=tk}):
  wpAny (model X.prog X.w) A (call (.builtin "isinstance") [u,c]) Q E s:=by
 cases ty with
 |non=>cases(show u=Value.none from f);exact xM PySem.W.kitx_none I.kIn True.intro e (λz=>nomatch z) h
 |bl y=>cases(show u=Value.bool y from f);exact xM PySem.W.kitx_bool I.kIn True.intro e (λz=>nomatch z) h
 |int i=>obtain⟨g,q⟩:=(show∃g,u=Value.int i g from f);cases q;exact xM PySem.W.kitx_int I.kIn True.intro e (λz=>nomatch z) h
 |str y=>obtain⟨g,q⟩:=(show∃g,u=Value.str y g from f);cases q;exact xM PySem.W.kitx_str I.kIn True.intro e (λz=>nomatch z) h
 |flt y=>obtain⟨g,q⟩:=(show∃g,u=Value.float y g from f);cases q;exact xM PySem.W.kitx_float I.kIn True.intro e (λz=>nomatch z) h
 |@lst a xs d =>
  cases(show u=Value.ref a from f);obtain⟨_,_,n,_,j⟩:=(show nO X.prog X.w H s.heap a (.lst xs) from I.hok a _ d);exact xM qN I.kIn ⟨_,j,rfl⟩ e (λz=>nomatch z) h
 |@frz a t xs d =>
  cases(show u=Value.ref a from f);obtain⟨_,_,_,n,_,j⟩:=(show nO X.prog X.w H s.heap a (.frz t (.lst xs)) from I.hok a _ d);exact xM qN I.kIn ⟨_,j,rfl⟩ e (λz=>nomatch z) h
 |@tup a xs d =>
  cases(show u=Value.ref a from f);obtain⟨_,_,_,p⟩:=(show nO X.prog X.w H s.heap a (.tup xs) from I.hok a _ d);obtain⟨o,j,k,_⟩:=p;exact xM PySem.W.kitx_tuple I.kIn ⟨o,j,k⟩ e (λz=>nomatch z) h
 |@dK a kvs d =>
  cases(show u=Value.ref a from f);obtain⟨_,_,vs,_,p⟩:=(show nO X.prog X.w H s.heap a (.dK kvs) from I.hok a _ d);obtain⟨o,es,ep,j,k,_⟩:=p;exact xM PySem.W.kitx_dict I.kIn ⟨o,j,k.1⟩ e (λz=>nomatch z) h
 |@dT a kvs d =>
  cases(show u=Value.ref a from f);obtain⟨_,_,xs,_,o,es,ep,j,k,_⟩:=(show nO X.prog X.w H s.heap a (.dT kvs) from I.hok a _ d);exact xM PySem.W.kitx_dict I.kIn ⟨o,j,k.1⟩ e (λz=>nomatch z) h
 |@ins a C J fs d l v m r D =>
  cases(show u=Value.ref a from f);obtain⟨G,O,_⟩:=bG I.hok d;obtain⟨F,w,_⟩:=O.look;exact xM (PySem.W.kitx_own (l.get _) l.hd v m r D) I.kIn w e (λz=>nomatch z) h
end
structure Room(k:Nat)(A:Around):Prop where
 hd:A.handled=none
 dp:A.depth+3*k+5<recursionLimit
 un:A.units+16*k+200<cLine
theorem Room.mono{j k:Nat}{A:Around}(r:Room k A)(h:j<=k):Room j A:=⟨r.hd,by have:=r.dp;omega,by have:=r.un;omega⟩
theorem Room.mo{j k:Nat}{A:Around}(r:Room k A)(h:j<=k:=by first|decide|omega):Room j A:=r.mono h
theorem Room.deeper{k:Nat}{A:Around}(r:Room (k+1) A)(env:Env):Room k (A.deeper env):=
 ⟨r.hd,by have:=r.dp;show A.depth+1+3*k+5<_;omega,by have:=r.un;show A.units+3+16*k+200<_;omega⟩
theorem Ow{A:Around}{C:Addr}{us:LW}{a:List (Str×Value)}:(A.under (.builtin "type.__call__" ⟨.ref C:: us,a⟩)).depth=A.depth+1:=by
 first|rfl|simp[Around.under,Code.weight,Code.isCreation,Code.isGuard,Code.isCaller,Code.frames,Code.isFrame,guardIds]
theorem Ov{A:Around}{C:Addr}{us:LW}{a:List (Str×Value)}:(A.under (.builtin "type.__call__" ⟨.ref C:: us,a⟩)).units=A.units+1:=by
 first|rfl|simp[Around.under,Code.cUnits,Code.frames,Code.isFrame]
theorem Room.make{k:Nat}{A:Around}(r:Room (k+1) A)(C:Addr)(us:LW)(a:List (Str×Value)):Room k (A.under (.builtin "type.__call__" ⟨.ref C:: us,a⟩)):=
 ⟨r.hd,by have:=r.dp;rw[Ow];omega,by have:=r.un;rw[Ov];omega⟩
theorem Room.depth{k:Nat}{A:Around}(r:Room k A):A.depth<recursionLimit:=by have:=r.dp;omega
theorem Room.units{k:Nat}{A:Around}(r:Room k A):A.units+64<cLine:=by have:=r.un;omega
def tNil:TA:=λ_ H Q=>Q [] H
def nF(ta:TE)(tr:TA):TA:=λσ H Q=>ta σ H λx H1=>tr σ H1 λxs H2=>Q (x:: xs) H2
section
variable {X:Cx} {e:Expr} {es:List Expr} {te:TE} {t:TA} {pos:Pos}
theorem oK:PA X [] tNil:=λ_ _ _ _ H Q I h=>Calls.spliced_nil ⟨[],H,I,.nil,h⟩
theorem oJ(d:PE X e te)(hr:PA X es t)(m:starEach (e:: es) X.env=(false,eval e X.env):: starEach es X.env:=by rfl):PA X (e:: es) (nF te t):=by
 intro pos b s a H Q I h;rw[m];show wpAny _ _ (spliced ((false,eval e X.env):: backTo pos (starEach es X.env))) _ _ s;refine Calls.spliced_cons (thn (d b s a H _ I h) ?_);rintro u c ⟨x,f,k,r1,j⟩;exact thn (hr pos b c a f _ k j) λus n⟨xs,g,i,r2,l⟩=>⟨x:: xs,g,i,.cons r1 r2,l⟩
def tTup(t:TA):TE:=λσ H Q=>t σ H λxs H1=>xs.length<=sizeLine/\∀p,H1 p=none->Q (.ref p) (upd H1 p (.tup xs))
def tLst(t:TA):TE:=λσ H Q=>t σ H λxs H1=>xs.length<=sizeLine/\∀p,H1 p=none->Q (.ref p) (upd H1 p (.lst xs))
theorem lV{g}(h:PA X es t):PE X (.Tuple es g pos) (tTup t):=by
 intro i s f H Q I j;refine wpAny_Tuple_spliced (thn (h pos i s f H _ I j) λus a⟨xs,c,d,r,z,q⟩=>⟨by rw[←r.length];exact z,?_⟩);have k:c a.heap.objs.size=none:=d.hok.fresh (zE _);refine⟨.ref a.heap.objs.size,upd c a.heap.objs.size (.tup xs),d.laid (t':=a.toks) (λb u e=>zC _ e) (zE _) ?_,rfl,q _ k⟩;exact⟨z,us,r,⟨_,zS _ rfl,rfl,_,rfl⟩⟩
theorem nI(h:PA X es t):PE X (.List es pos) (tLst t):=by
 intro g s f H Q I i;refine wpAny_List_spliced (thn (h pos g s f H _ I i) λus a⟨xs,c,d,r,z,q⟩=>⟨by rw[←r.length];exact z,?_⟩);have j:c a.heap.objs.size=none:=d.hok.fresh (zE _);refine⟨.ref a.heap.objs.size,upd c a.heap.objs.size (.lst xs),d.laid (t':=a.toks) (λb u e=>zC _ e) (zE _) ?_,rfl,q _ j⟩;exact⟨z,us,0,r,zS _ rfl⟩
end
abbrev Sp:=List V->Hp->VK->XK->Prop
abbrev CXT:=List Env->Hp->Shared->XK->VP
structure Env0(P:Program)(w:World)(K:Frag)(mg:MT)(base:Heap)(A:Around)(outer:List Env)(s:Shared)(H:Hp):Prop where
 frames:A.frames=some outer
 mod:Mod K mg base
 bs:∀b o,base.get? b=some o->s.heap.get? b=some o/\H b=none
 bsz:base.objs.size<=s.heap.objs.size
 funs:s.heap.FunFrames base outer
 frf:∀b∈frs outer,H b=none
 hok:HOk P w H s.heap
 bare:AllBare s.gens
def CE(outer:List Env)(P:Program)(w:World)(H:Hp)(s:Shared)(Q:VK)(u:Value)(s':Shared):Prop:=
 ∃v H',s'.os=s.os/\AllBare s'.gens/\Un (frs outer) [] H H' s.heap s'.heap/\HOk P w H' s'.heap/\RelV v u/\Q v H'
def CR(CX:CXT)(outer:List Env)(P:Program)(w:World)(H:Hp)(s:Shared)(Q:VK)(E:XK)(r:Result)(s':Shared):Prop:=
 match r with
 |.ok (.ret u)=>CE outer P w H s Q u s'
 |.ok _=>False
 |.error e=>CX outer H s E e s'
structure FnOk(P:Program)(w:World)(K:Frag)(mg:MT)(base:Heap)(CX:CXT)(k:Nat)(f:Addr)(fd:FuncData)(ps:List Str)(sp:Sp):Prop where
 len:∀vs H Q E,sp vs H Q E->vs.length=ps.length
 run:∀(A:Around)(outer:List Env)(s:Shared)(H:Hp)(args:Args)(us:LW)(vs:List V)(Q:VK)(E:XK),Room k A->Env0 P w K mg base A outer s H->BindsTo s fd args (ps.zip us)->Vals vs us->sp vs H Q E ->
  codeAny (model P w) A (.call (.ref f) args) (CR CX outer P w H s Q E) s
theorem Env0.make{P:Program}{w:World}{K:Frag}{a:MT}{base:Heap}{A:Around}{outer:List Env}{s:Shared}{H:Hp}(e:Env0 P w K a base A outer s H)(C:Addr)(us:LW)(b:List (Str×Value)):
  Env0 P w K a base (A.under (.builtin "type.__call__" ⟨.ref C:: us,b⟩)) outer s H:=⟨by first|exact e.frames|(simpa [Around.under,Code.envs,Code.isFrame,pushEnvs]using e.frames),e.mod,e.bs,e.bsz,e.funs,e.frf,e.hok,e.bare⟩
section
variable {X:Cx} {pins:PN} {σ:St} {H:Hp} {s s':Shared}
theorem Inv.env0(I:Inv X pins σ H s):Env0 X.prog X.w X.K X.mg X.base X.A X.stack s H:=
 ⟨I.ok.frames,I.ok.mod,I.bs,yG I.ok.bsz I.sz,I.stack,I.stkFree,I.hok,I.bare⟩
theorem Inv.after{Q:VK}{u:Value}(I:Inv X pins σ H s)(h:CE X.stack X.prog X.w H s Q u s'):EP X pins σ Q u s':=by
 obtain⟨v,H',e,c,un,f,r,q⟩:=h;obtain⟨hh,g,d,i,a⟩:=s';obtain rfl:a=s.os:=e;exact⟨v,H',I.call (h':=hh) (g':=g) (d':=d) (t':=i) (ch:=[]) un f c (λb z=>absurd z (by simp)),r,q⟩
end
def mS(sp:Sp)(dvs:List V)(E:XK)(t:TA):TE:=λσ H Q=>t σ H λvs H1=>sp (vs++dvs) H1 Q E
def lF(C:Addr)(m:Str)(sp:Sp)(dvs:List V)(E:XK)(ta:TE)(t:TA):TE:=λσ H Q=>ta σ H λx H1=>∃a dx fs,x=.ref a/\H1 a=some (.ins C dx fs)/\fs.lookup m=none /\
 t σ H1 λvs H2=>sp (x:: (vs++dvs)) H2 Q E
def Ak(C:Addr)(sp:Sp)(dvs:List V)(E:XK)(t:TA):TE:=λσ H Q=>t σ H λvs H1=>∀x dx,H1 x=none->H1 dx=none->dx≠x ->
 sp (.ref x:: (vs++dvs)) (upd (upd H1 dx (.own x)) x (.ins C dx [])) (λv H2=>v=.non/\Q (.ref x) H2) E
def nZ(K:Frag)(fd:FuncData)(ps:List Str)(ds:LW):Prop:=
 ∀(s:Shared)(us:LW),K.In s.heap->(us++ds).length=ps.length->BindsTo s fd ⟨us,[]⟩ (ps.zip (us++ds))
theorem nZ.all{K:Frag}{a:FuncData}{ps:List Str}(h:∀us:LW,us.length=ps.length->bindArgs a ⟨us,[]⟩=pure (ps.zip us)):nZ K a ps []:=λs us _ hl=>by
 rw[wM]at hl ⊢;exact .of_eq (h us hl)
def iF(CX:CXT)(X:Cx)(E:XK):Prop:=∀(pins:PN)(σ:St)(H:Hp)(s:Shared)(e:Value)(s':Shared),Inv X pins σ H s->CX X.stack H s E e s'->X.xe e s'
section
variable {X:Cx} {CX:CXT} {k:Nat} {f C:Addr} {fd:FuncData} {ps:List Str} {sp:Sp} {dvs:List V} {ds:LW} {E:XK} {x m:Str} {p pos apos:Pos} {e o:Expr} {es:List Expr} {ta:TE} {t:TA}
theorem Aj{c:PN}{b:St}{H:Hp}{s:Shared}{Q:VK}{us:LW}{vs:List V}(F:FnOk X.prog X.w X.K X.mg X.base CX k f fd ps sp)(hr:Room k X.A)(d:nZ X.K fd ps ds)(j:Vals dvs ds)(g:iF CX X E)
  (I:Inv X c b H s)(r:Vals vs us)(h:sp (vs++dvs) H Q E):wpAny (model X.prog X.w) X.A (call (.ref f) us) (EP X c b Q) X.xe s:=by
 have r2:Vals (vs++dvs) (us++ds):=r.append j;have hl:(us++ds).length=ps.length:=by rw[←r2.length];exact F.len _ _ _ _ h
 refine tI (uV (F.run X.A X.stack s H ⟨us,[]⟩ (us++ds) (vs++dvs) Q E hr I.env0 (d s us I.kIn hl) r2 h) λr i a=>?_);cases r with
 |error e=>exact g c b H s e i I a
 |ok fl =>
  cases fl with
  |ret u=>exact I.after a
  |next=>exact False.elim a
  |brk=>exact False.elim a
  |cont=>exact False.elim a
theorem dL(F:FnOk X.prog X.w X.K X.mg X.base CX k f fd ps sp)(hr:Room k X.A)(b:Gl X x)(u:X.mg x=some (.ref f))(l:PySem.W.keepIn X.K (.ref f)=true)(d:nZ X.K fd ps ds)(w:Vals dvs ds)(i:iF CX X E)
  (n:PA X (e:: es) t)(j:(x == ("__debug__" :Str))=false:=by decide)(v:starEach (e:: es) X.env=(false,eval e X.env):: starEach es X.env:=by rfl)(y:(backTo pos (starEach es X.env)).any (·.1)=false:=by rfl):
  PE X (.Call (.Name x p) (e:: es) [] pos) (mS sp dvs E t):=by
 intro g s c H Q I h;refine wI (iC I b u ?_ j);refine uH (h₀:=X.base) I.ok.mod.kin l (thn (n pos g s c H _ I h) λus z⟨vs,D,a,r,q⟩=>⟨a.kIn,?_⟩) v y;exact Aj F hr d w i a r q
theorem iG{pl:Sem Bool}(w:PE X o ta)(c:Cls X.K C)(n:Meth X.K C m f)(F:FnOk X.prog X.w X.K X.mg X.base CX k f fd ps sp)(hr:Room k X.A)(v:nZ X.K fd ps ds)(y:Vals dvs ds)(J:iF CX X E)(P:PA X (e:: es) t)
  (K:starEach (e:: es) X.env=(false,eval e X.env):: starEach es X.env:=by rfl)(z:(backTo pos (starEach es X.env)).any (·.1)=false:=by rfl)
  (O:eval (.Call (.Attribute o m apos) (e:: es) [] pos) X.env=(do
   let i ←eval o X.env
   standAt apos.atName
   let (f,first) ←holding [i] (getMethod i m pl)
   callWith pos f first (backTo pos (starEach (e:: es) X.env)) (backToKw pos (keywordEach [] X.env))):=by rfl):
  PE X (.Call (.Attribute o m apos) (e:: es) [] pos) (lF C m sp dvs E ta t):=by
 intro d s b H Q I h;refine rC (pl:=pl) (thn (w d s b H _ I h) ?_) O;rintro u G ⟨x,R,g,M,a,S,fs,N,D,l,q⟩;subst N;obtain rfl:u=Value.ref a:=M;refine Fo g D c n l ?_;refine uH (first:=[.ref a]) (h₀:=X.base) I.ok.mod.kin n.kp (thn (P pos d G b R _ g q) λus U⟨vs,T,j,r,L⟩=>⟨j.kIn,?_⟩) K z;exact Aj (us:=.ref a:: us) (vs:=.ref a:: vs) F hr v y J j (.cons rfl r) L
theorem kB{pl:Sem Bool}(z:PE X o ta)(c:Cls X.K C)(g:Meth X.K C m f)(F:FnOk X.prog X.w X.K X.mg X.base CX k f fd ps sp)(hr:Room k X.A)(n:nZ X.K fd ps ds)(G:Vals dvs ds)(w:iF CX X E)
  (D:eval (.Call (.Attribute o m apos) [] [] pos) X.env=(do
   let d ←eval o X.env
   standAt apos.atName
   let (f,first) ←holding [d] (getMethod d m pl)
   callWith pos f first (backTo pos (starEach [] X.env)) (backToKw pos (keywordEach [] X.env))):=by rfl):
  PE X (.Call (.Attribute o m apos) [] [] pos) (lF C m sp dvs E ta tNil):=by
 intro v s i H Q I h;refine rC (pl:=pl) (thn (z v s i H _ I h) ?_) D;rintro u J ⟨x,K,b,r,a,L,fs,y,j,l,q⟩;subst y;obtain rfl:u=Value.ref a:=r;refine Fo b j c g l ?_;exact PySem.W.callWith_K0 (first:=[.ref a]) b.kIn g.kp (Aj (us:=[.ref a]) (vs:=[.ref a]) F hr n G w b (.cons rfl .nil) q)
structure Mk(K:Frag)(C f:Addr):Prop where
 makes:PySem.W.makesIn K C=true
 init:PySem.W.findIn K (.ref C) "__init__"=some (some (.ref f))
 fn:PySem.W.isFn K (.ref f)=true
 kp:PySem.W.keepIn K (.ref C)=true
theorem Ou{g:PN}{d:St}{H:Hp}{s:Shared}{Q:VK}{us:LW}{vs:List V}(M:Mk X.K C f)(F:FnOk X.prog X.w X.K X.mg X.base CX k f fd ps sp)(hr:Room (k+1) X.A)(n:nZ X.K fd ps ds)(G:Vals dvs ds)
  (w:iF CX X E)(I:Inv X g d H s)(r:Vals vs us)
  (h:∀x c,H x=none->H c=none->c≠x->sp (.ref x:: (vs++dvs)) (upd (upd H c (.own x)) x (.ins C c [])) (λv z=>v=.non/\Q (.ref x) z) E):
  wpAny (model X.prog X.w) X.A (call (.ref C) us) (EP X g d Q) X.xe s:=by
 have i:=h (s.heap.objs.size+1) s.heap.objs.size (I.hok.fresh (uN _)) (I.hok.fresh (zE _)) (zY (vX _));have b:=Inv.made (C:=C) I;have r2:Vals (V.ref (s.heap.objs.size+1):: (vs++dvs)) (Value.ref (s.heap.objs.size+1):: (us++ds)):=.cons rfl (r.append G);have hl:(Value.ref (s.heap.objs.size+1):: us++ds).length=ps.length:=by
  have e:=r2.length;rw[F.len _ _ _ _ i]at e;exact e.symm
 refine tI (Fr (f:=f) I.kIn M.makes M.init (pW.mp M.fn) (uV (F.run _ X.stack _ _ ⟨Value.ref (s.heap.objs.size+1):: us,[]⟩ (Value.ref (s.heap.objs.size+1):: (us++ds)) _ _ E (hr.make C us [])
  (b.env0.make C us []) (n _ (Value.ref (s.heap.objs.size+1):: us) b.kIn hl) r2 i) λr D a=>?_))
 cases r with
 |error e=>exact w g d _ _ e D b a
 | ok fl =>
  cases fl with
  |ret u =>
   obtain⟨v,H',j,q,y,l⟩:=b.after a;subst y;exact⟨q,⟨V.ref (s.heap.objs.size+1),H',j,rfl,l⟩⟩
  |next=>exact False.elim a
  |brk=>exact False.elim a
  |cont=>exact False.elim a
theorem Fn(M:Mk X.K C f)(F:FnOk X.prog X.w X.K X.mg X.base CX k f fd ps sp)(hr:Room (k+1) X.A)(b:Gl X x)(n:X.mg x=some (.ref C))(d:nZ X.K fd ps ds)(v:Vals dvs ds)(i:iF CX X E)
  (l:PA X (e:: es) t)(j:(x == ("__debug__" :Str))=false:=by decide)(u:starEach (e:: es) X.env=(false,eval e X.env):: starEach es X.env:=by rfl)(w:(backTo pos (starEach es X.env)).any (·.1)=false:=by rfl):
  PE X (.Call (.Name x p) (e:: es) [] pos) (Ak C sp dvs E t):=by
 intro g s c H Q I h;refine wI (iC I b n ?_ j);refine uH (h₀:=X.base) I.ok.mod.kin M.kp (thn (l pos g s c H _ I h) λus y⟨vs,z,a,r,q⟩=>⟨a.kIn,?_⟩) u w;exact Ou M F hr d v i a r q
end
section
variable {X:Cx} {CX:CXT} {k:Nat} {f C:Addr} {fd:FuncData} {ps ks:List Str} {sp:Sp} {E:XK} {x m:Str} {p pos apos kpos:Pos} {e o:Expr} {es:List Expr} {kws:List Keyword} {te ta:TE} {t tk:TA} {nm:Option Str}
variable {g:LW->LW->LW} {gV:List V->List V->List V}
end
structure nA(N P:List Str)(sc:Scope):Prop where
 kind:sc.kind=.function
 co:sc.isCoroutine=false
 gen:sc.isGenerator=false
 nd:N.Nodup
 pre:N.take P.length=P
 par:∀x∈P,sc.names.lookup x=some .local\/sc.names.lookup x=some .cell
 nofree:∀y∈sc.names,y.2≠.free
theorem Fm{b:Str->Option NameKind}{x:Str}:∀{binds:List (Str×Value)}{m:MT},(∀v,(x,v)∉binds)->bindL b binds m x=m x
 |[],_,_=>rfl
 | (n,v):: r,m,h=>by
  unfold bindL;rw[Fm λw a=>h w (zO _ a)];split
  ·have:x≠n:=by rintro rfl;exact h v zZ
   simp[this]
  ·rfl
theorem Fl{b:Str->Option NameKind}{x:Str}:∀{binds:List (Str×Value)}{m:MT},(∀v,(x,v)∉binds)->bindC b binds m x=m x
 |[],_,_=>rfl
 | (n,v):: r,m,h=>by
  unfold bindC;rw[Fl λw a=>h w (zO _ a)];split
  ·rfl
  ·have:x≠n:=by rintro rfl;exact h v zZ
   simp[this]
theorem Fk{b:Str->Option NameKind}{x:Str}{v:Value}:∀{P:List Str}{vs:LW}{i:Nat}{m:MT},P.Nodup->P[i]?=some x->vs[i]?=some v->b x=some .local ->
  bindL b (P.zip vs) m x=some v
 |[],_,_,_,_,h,_,_=>by simp at h
 |_:: _,[],_,_,_,_,h,_=>by simp at h
 |p:: P,w:: vs,0,m,nd,a,c,d=>by
  simp at a c;subst a;subst c;show bindL b ((p,w):: P.zip vs) m p=_;unfold bindL;rw[Fm λv e=>(tS.mp nd).1 (rK e).1,zF d];simp
 |p:: P,w:: vs,i+1,m,nd,a,c,d=>by
  show bindL b ((p,w):: P.zip vs) m x=_;unfold bindL;exact Fk (i:=i) (tS.mp nd).2 (by simpa using a) (by simpa using c) d
theorem Fj{b:Str->Option NameKind}{x:Str}{v:Value}:∀{P:List Str}{vs:LW}{i:Nat}{m:MT},P.Nodup->P[i]?=some x->vs[i]?=some v->b x≠some .local ->
  bindC b (P.zip vs) m x=some v
 |[],_,_,_,_,h,_,_=>by simp at h
 |_:: _,[],_,_,_,_,h,_=>by simp at h
 |p:: P,w:: vs,0,m,nd,a,c,d=>by
  simp at a c;subst a;subst c;show bindC b ((p,w):: P.zip vs) m p=_;unfold bindC;rw[Fl λv e=>(tS.mp nd).1 (rK e).1,zD d];simp
 |p:: P,w:: vs,i+1,m,nd,a,c,d=>by
  show bindC b ((p,w):: P.zip vs) m x=_;unfold bindC;exact Fj (i:=i) (tS.mp nd).2 (by simpa using a) (by simpa using c) d
def jQ(N:List Str)(vs:List V):St:=vs.map some++List.replicate (N.length-vs.length) none
def cxOf(CX:CXT)(P:Program)(w:World)(K:Frag)(mg:MT)(base:Heap)(N:List Str)(qual:Str)(scope:Scope)(f:Addr)(cd:Value)(A:Around)(outer:List Env)(s:Shared)(H:Hp)(E:XK):Cx where
 prog:=P
 w:=w
 K:=K
 mg:=mg
 base:=base
 A:=A.deeper (envOfC qual scope s.heap.objs.size f cd)
 N:=N
 s₀:=s
 H₀:=H
 env:=envOfC qual scope s.heap.objs.size f cd
 outer:=outer
 stack:=envOfC qual scope s.heap.objs.size f cd:: outer
 ex:=[]
 calm:=true
 fn:=λ_=>true
 pn:=[]
 xe:=λe s'=>wpAny (model P w) (A.deeper (envOfC qual scope s.heap.objs.size f cd)) (leaving (envOfC qual scope s.heap.objs.size f cd) e) (λ_ s''=>CX outer H s E e s'') (λe' s''=>CX outer H s E e' s'') s'
theorem Fi{sc:Scope}{n:Nat}{x:Str}(h:sc.names.lookup x=some .cell):∃c,(cellsFrom n sc.names []).lookup x=some c:=by
 have q:=PySem.W.cellsFrom_some sc.names n [] (.inl h);exact Option.isSome_iff_exists.mp q
theorem Ot{F:CXT}{P:Program}{w:World}{K:Frag}{C:MT}{base:Heap}{N ps:List Str}{t:Str}{j:Scope}{f:Addr}{n:Value}{A:Around}{outer:List Env}{s G:Shared}{H:Hp}{E:XK}{us:LW}{vs:List V}
  (S:nA N ps j)(M:A.handled=none)(g:Env0 P w K C base A outer s H)(hl:vs.length=ps.length)(r:Vals vs us)
  (x:InCallC s s.heap.objs.size (bindL (envOfC t j s.heap.objs.size f n).kindOf (ps.zip us) λ_=>none) (cellsFrom (s.heap.objs.size+1) j.names []) (bindC (envOfC t j s.heap.objs.size f n).kindOf (ps.zip us) λ_=>none) G):
  Inv (cxOf F P w K C base N t j f n A outer s H E) [] (jQ N vs) H G:=by
 have T:ps.length<=N.length:=by have:=wH List.length S.pre;rw[yK]at this;omega
 obtain⟨o,tk,rfl,J⟩:=x.done;have D:∀b:Addr,b∉(cxOf F P w K C base N t j f n A outer s H E).ex:=λb z=>absurd (show b∈([]:LA) from z) (by simp);refine⟨⟨g.mod,S.kind,rfl,rfl,zE _,λy z c o d=>?_,λy l=>?_,λy c _ h=>?_,λ_=>M,Around.frames_deeper g.frames,.inr ⟨rfl,rfl⟩,λb z=>absurd z (D b),g.bs,g.bsz,λb _ _=>D b,λb z=>absurd z (D b),g.funs,g.frf⟩,
  rfl,g.bare,Un.kept J,⟨_,x.toInCall.ns,λi y v o d U=>?_⟩,λy c h=>⟨_,x.cell y c h⟩,g.hok.fresh (zE _),λy c h=>?_,λp m=>absurd (show p∈([]:PN) from m) (by simp),g.hok.kept J,?_⟩
 ·exact name_of_addr x.apart (vD o) (vD d)
 ·have l:j.names.lookup y=some .cell\/j.names.lookup y=some .free:=l;rcases l with l|l
  ·exact Fi l
  ·exact absurd rfl (S.nofree _ (vD l))
 ·exact vY (x.above y c (vD h))
 ·have hi:i<vs.length:=by
   unfold jQ at d
   by_cases hi:i<vs.length
   ·exact hi
   ·rw[zV (by simpa using hi)]at d;rw[List.getElem?_replicate]at d;split at d <;> cases d
  have R:vs[i]?=some v:=by
   unfold jQ at d;rw[yD (by simpa using hi),zI]at d;cases e:vs[i]? with
   |none=>rw[e]at d;cases d
   |some a=>rw[e]at d;cases d;rfl
  obtain⟨u,L,O⟩:=r.get R;have m:ps[i]?=some y:=by
   rw[←S.pre,uA ⋯];exact o
  have I:ps.Nodup:=by rw[←S.pre];exact S.nd.sublist (List.take_sublist _ _)
  refine⟨u,O,?_⟩;rcases S.par y (yF m) with k|k
  ·exact .inl ⟨k,Fk I m L k⟩
  ·obtain⟨c,e⟩:=Fi (n:=s.heap.objs.size+1) k;refine .inr ⟨.inl k,c,e,?_⟩;have q:=x.cell y c e;rw[Fj I m L (by show j.names.lookup y≠_;rw[k];decide)]at q;exact q
 ·exact g.hok.fresh (vY (x.above y c (vD h)))
 ·unfold jQ;show _=N.length;rw[yE,yS,sZ];omega
theorem Ai{j:CXT}{P:Program}{w:World}{K:Frag}{l:MT}{base:Heap}{k:Nat}{f:Addr}{name d:Str}{O:Arguments}{body:List Stmt}{a:Scope}{T kV J F cdv L Y:Value}{M a7:Option Addr}
  {a5:Array (Option Value)}{N ps:List Str}{z:Sp}(a4:K.lookup f=some ⟨Y,a7,.func (PySem.W.fnOf name d O body a T kV J F M cdv L),a5⟩)(a2:PySem.W.codeIn K cdv d=true)(S:nA N ps a)
  (len:∀vs H Q E,z vs H Q E->vs.length=ps.length)
  (a6:∀(A:Around)(outer:List Env)(s:Shared)(H:Hp)(vs:List V)(Q:VK)(E:XK),Room k (A.deeper (envOfC d a s.heap.objs.size f cdv))->z vs H Q E ->
   ∃p,PSs (cxOf j P w K l base N d a f cdv A outer s H E) body p/\p {nx:=λ_ H'=>Q .non H',rt:=Q} (jQ N vs) H):
  FnOk P w K l base j (k+1) f (PySem.W.fnOf name d O body a T kV J F M cdv L) ps z:=by
 refine⟨len,λA outer s H a8 us vs Q E hr i W r R=>?_⟩;have hl:=len _ _ _ _ R;have KX:K.In s.heap:=i.mod.kin.keeps λb o e=>(i.bs b o e).1;have a1:s.heap.NoLimit:=i.mod.nolimit.keeps λb o e=>(i.bs b o e).1;have a0:∀y∈ps.zip us,a.names.lookup y.1=some .local\/(a.names.lookup y.1=some .cell/\((cellsFrom (s.heap.objs.size+1) a.names []).lookup y.1).isSome=true):=λ⟨n,v⟩U=>by
  rcases S.par n (rK U).1 with q|q
  ·exact .inl q
  ·exact .inr ⟨q,PySem.W.cellsFrom_some _ _ _ (.inl q)⟩
 refine codeAny_call_function hr.depth (KX _ _ a4) rfl S.co S.gen rfl (PySem.W.codeRec_of KX a2) (W _ _ _ _ ?_);refine wpAny_newFunctionEnv_cells S.kind a0 λenv X G x=>?_;subst X;refine⟨a1.keeps x.toInCall.keep,codeAny_func ?_⟩;obtain⟨p,a3,Z⟩:=a6 A outer s H vs Q E (hr.deeper _) R;have I:Inv (cxOf j P w K l base N d a f cdv A outer s H E) [] (jQ N vs) H G:=Ot S hr.hd i hl r x;refine yU (a3 [] G (jQ N vs) H _ I Z) (λfl t g=>?_) λe t g=>g;have D:∀{m:St}{H':Hp}{v:V}{u:Value},Inv (cxOf j P w K l base N d a f cdv A outer s H E) [] m H' t->RelV v u->Q v H'->CE outer P w H s Q u t:=
  λ{m H' v u}c C q=>⟨v,H',c.os,c.bare,c.base,c.hok,C,q⟩
 cases fl with
 |ret u =>
  obtain⟨v,m,H',c,C,q⟩:=g;exact D c C q
 |next =>
  obtain⟨m,H',c,q⟩:=g;exact D (v:=V.non) (u:=Value.none) c rfl q
 |brk =>
  obtain⟨_,_,_,q⟩:=g;exact False.elim q
 |cont =>
  obtain⟨_,_,_,q⟩:=g;exact False.elim q
section
variable {X:Cx} {x:Str} {p pos:Pos} {e:Expr} {es:List Expr} {t:TA} {id T:String} {r:List V->Hp->VK->Prop}
def tCB(r:List V->Hp->VK->Prop)(t:TA):TE:=λσ H Q=>t σ H λvs H1=>r vs H1 Q
theorem lN(m:lK X (.builtin id) r)(c:Gl X x)(k:X.mg x=none)(f:bootBuiltins x=some (.builtin id))(i:PA X (e:: es) t)(d:x≠"__name__" := by decide)(j:(x == ("__debug__" :Str))=false:=by decide)
  (n:starEach (e:: es) X.env=(false,eval e X.env):: starEach es X.env:=by rfl)(u:(backTo pos (starEach es X.env)).any (·.1)=false:=by rfl):PE X (.Call (.Name x p) (e:: es) [] pos) (tCB r t):=by
 intro b s a H Q I h;refine wI (iD I c k f ?_ d j);exact PyProof.Rows.callWith_builtin1 (thn (i pos b s a H _ I h) λus g⟨vs,l,q,r1,o⟩=>m b g a l vs us Q q r1 o) n u
theorem mB(m:lK X (.type T) r)(c:Gl X x)(k:X.mg x=none)(f:bootBuiltins x=some (.type T))(i:PA X (e:: es) t)(d:x≠"__name__" := by decide)(j:(x == ("__debug__" :Str))=false:=by decide)
  (n:starEach (e:: es) X.env=(false,eval e X.env):: starEach es X.env:=by rfl)(u:(backTo pos (starEach es X.env)).any (·.1)=false:=by rfl):PE X (.Call (.Name x p) (e:: es) [] pos) (tCB r t):=by
 intro b s a H Q I h;refine wI (iD I c k f ?_ d j);exact xP (thn (i pos b s a H _ I h) λus g⟨vs,l,q,r1,o⟩=>m b g a l vs us Q q r1 o) n u
end
end L2
namespace HT
open PySem PyProof.Rows
section
open PySem.SeqAt
open PySem.AutoSeq1 (wpAny_loadPart')
open PySem.MeetsSeq PySem.MeetsSeq2 PySem.MeetsSeq3
end
section
variable {prog:Program} {w:World} {A:Around} {E:VP} {s:Shared}
def sIx(n d:Nat):Option Int->Nat
 |none=>d
 |some v=>if v<0 then(v+(n:Int)).toNat else min v.toNat n
theorem sIx_none(n d:Nat):sIx n d none=d:=rfl
theorem sIx_nat(n d k:Nat):sIx n d (some (k:Int))=min k n:=by
 show(if(k:Int)<0 then((k:Int)+(n:Int)).toNat else min (k:Int).toNat n)=min k n;rw[zD ⋯,zQ]
theorem Os(n d:Nat)(b:d<=n)(o:Option Int):sIx n d o<=n:=by
 cases o with
 |none=>exact b
 |some v =>
  show(if v<0 then(v+(n:Int)).toNat else min v.toNat n)<=n
  by_cases a:v<0
  ·rw[zF a];omega
  ·rw[zD a];exact Nat.min_le_right _ _
theorem Fh(v:Int)(n d:Nat):(if v<0 then max (v+(n:Int)) 0 else min v (n:Int))=((sIx n d (some v):Nat):Int):=by
 show(if v<0 then max (v+(n:Int)) 0 else min v (n:Int))=(((if v<0 then(v+(n:Int)).toNat else min v.toNat n):Nat):Int)
 by_cases a:v<0
 ·simp only[if_pos a];omega
 ·simp only[if_neg a];omega
theorem Oq(lo hi:Option Int)(n:Nat):Builtin.Slice.sliceAdjust lo hi 1 (n:Int)=(((sIx n 0 lo:Nat):Int),((sIx n n hi:Nat):Int)):=by
 have a:¬ ((1:Int)<0):=⋯
 unfold Builtin.Slice.sliceAdjust;simp only[a,if_false];refine Prod.ext ?_ ?_
 ·cases lo with
  |none=>rfl
  |some v=>exact Fh v n 0
 ·cases hi with
  |none=>rfl
  |some v=>exact Fh v n n
theorem Op(i j:Nat):Builtin.Slice.slicePlaces (i:Int) (j:Int) 1=j-i:=by
 unfold Builtin.Slice.slicePlaces;have a:(1:Int) > 0:=⋯
 simp only[a,if_true,Int.ediv_one];split <;> omega
theorem Fg{v:Value}{o:Option Int}{Q:Option Int->Shared->Prop}(p:IsPart v o)(h:Q o s):wpAny (model prog w) A (Builtin.Slice.slicePartIndex v) Q E s:=by
 cases p with
 |none=>exact slicePart_none h
 |int i t=>exact slicePart_int h
theorem Oo{e:Addr}{b c:Value}{lo hi:Option Int}{n:Nat}{Q:Int×Int×Nat->Shared->Prop}(g:s.heap.IsSliceOf e b c .none)(pl:IsPart b lo)(f:IsPart c hi)
  (h:Q (((sIx n 0 lo:Nat):Int),1,sIx n n hi-sIx n 0 lo) s):wpAny (model prog w) A (Builtin.Slice.sliceApplied (.ref e) (pure (n:Int))) Q E s:=by
 obtain⟨i,a,j,d⟩:=id g;unfold Builtin.Slice.sliceApplied Builtin.Slice.sliceFields;refine zA (zA (xW a d (x:=b) rfl (zA (xW a d (x:=c) rfl (zA (xW a d (x:=.none) rfl (zB ?_)))))));refine zA (slicePart_none ?_);show wpAny _ _ (if((1:Int) == 0)=true then _ else _) _ _ s;rw[zD ∅];refine zA (Fg pl (zA (Fg f (zA (zB ?_)))));show wpAny _ _ (match Builtin.Slice.sliceAdjust lo hi 1 (n:Int) with|(lo,hi)=>pure (lo,(1:Int),Builtin.Slice.slicePlaces lo hi 1)) _ _ s;rw[Oq lo hi n];show wpAny _ _ (pure (((sIx n 0 lo:Nat):Int),(1:Int),Builtin.Slice.slicePlaces ((sIx n 0 lo:Nat):Int) ((sIx n n hi:Nat):Int) 1)) _ _ s;rw[Op];exact zB h
theorem On(xs:Array Value)(i k:Nat):((List.range k).filterMap λ(m:Nat)=>xs[((i:Int)+(m:Int)*1).toNat]?).toArray=((xs.toList.drop i).take k).toArray:=by
 have e:(λ(m:Nat)=>xs[((i:Int)+(m:Int)*1).toNat]?)=λm=>xs[i+m]?:=by
  funext m
  have:((i:Int)+(m:Int)*1).toNat=i+m:=⋯
  rw[this]
 rw[e];have:=pick_run xs i k;rw[List.filterMap_map]at this;have a:((λx=>xs[x]?)∘ λx=>i+x)=λm=>xs[i+m]?:=rfl;rw[a]at this;rw[this]
theorem getItem_tuple_cut{c d:Addr}{items:Array Value}{e f:Value}{lo hi:Option Int}{Q:VP}(a:IsTup s.heap c items)(g:s.heap.IsSliceOf d e f .none)(pl:IsPart e lo)(k:IsPart f hi)
  (i:¬ (sIx items.size 0 lo=0/\sIx items.size items.size hi=items.size))
  (h:Q (.ref s.heap.objs.size) {s with heap:=s.heap.push {cls:=.type "tuple",data:=.seq ((items.toList.drop (sIx items.size 0 lo)).take (sIx items.size items.size hi-sIx items.size 0 lo)).toArray}})
  (hsz:items.size<=sizeLine):wpAny (model prog w) A (getItem (.ref c) (.ref d)) Q E s:=by
 have b:sizeOk (.seq ((items.toList.drop (sIx items.size 0 lo)).take (sIx items.size items.size hi-sIx items.size 0 lo)).toArray):=by
  show((items.toList.drop (sIx items.size 0 lo)).take (sIx items.size items.size hi-sIx items.size 0 lo)).toArray.size<=sizeLine;rw[zT,yK,tF,zM];omega
 have t:sIx items.size items.size hi<=items.size:=Os _ _ (zE _) hi;obtain⟨m,j,o,r⟩:=id g;have n:s.TypeIs (.ref d) "slice" := ⟨m,j,o⟩;unfold getItem
 try with_reducible refine xB ?_
 first|refine zA (zB ?_)|skip
 refine zA (wpAny_sequenceKey a.typeIs ∅ ?_);refine zA (wB (name:=Str.ofString "__getitem__") a.typeIs PyProof.Rows.slot_tuple_getitem
  (xV PyProof.Rows.slot_tuple_getitem a.typeIs entry_tuple_getitem ?_ (args_tuple_getitem _ _)))
 show wpAny _ _ (Builtin.Tuple.tupleItemsOf (.ref c) >>= _) _ _ s;refine zA (tupleItemsOf_ a ?_);refine zA (uX n ?_);rw[zF ∅];refine zA (Oo g pl k ?_);have l:¬ ((((sIx items.size 0 lo:Nat):Int) == 0 && (1:Int) == 1 && (sIx items.size items.size hi-sIx items.size 0 lo) == items.size)=true):=by
  intro q;rw[zR,zR]at q;have u:((sIx items.size 0 lo:Nat):Int)=0:=yN q.1.1;have p:sIx items.size items.size hi-sIx items.size 0 lo=items.size:=yN q.2;exact i ⟨⋯,⋯⟩
 show wpAny _ _ (if(((sIx items.size 0 lo:Nat):Int) == 0 && (1:Int) == 1 && (sIx items.size items.size hi-sIx items.size 0 lo) == items.size)=true then _ else _) _ _ s;rw[zD l,On]
 first
  |exact zA (m:=Builtin.Tuple.tupleExact _) (xL (zB ⟨_,rfl,zB h⟩) b)
  |exact zA (m:=Builtin.Tuple.tupleExact _) (xL (zA (zB (zB ⟨_,rfl,zB h⟩))) b)
  |exact zA (zA (m:=Builtin.Tuple.tupleExact _) (xL (zB (zB ⟨_,rfl,zB h⟩)) b))
  |exact zA (zA (m:=Builtin.Tuple.tupleExact _) (xL (zB ⟨_,rfl,zB h⟩) b))
end
end HT
namespace L2
open PySem PySem.Spec PyProof.Rows
open PySem.W (Frag)
abbrev TO:=St->Hp->(Option Int->Hp->Prop)->Prop
def PO(X:Cx)(e:Option Expr)(t:TO):Prop:=
 ∀(pins:PN)(s:Shared)(σ:St)(H:Hp)(Q:Option Int->Hp->Prop),Inv X pins σ H s->t σ H Q ->
  wpAny (model X.prog X.w) X.A (evalPart e X.env) (λu s'=>∃o H',Inv X pins σ H' s'/\IsPart u o/\Q o H') X.xe s
def Ah:TO:=λ_ H Q=>Q none H
def Ag(t:TE):TO:=λσ H Q=>t σ H λx H1=>∃i,x=.int i/\Q (some i) H1
section
variable {X:Cx} {e:Expr} {te:TE} {lo hi:Option Expr} {tl th:TO} {pos p2:Pos}
theorem Af:PO X none Ah:=by
 intro b s a H Q I h;rw[evalPart_none];exact zB ⟨none,H,I,.none,h⟩
theorem dM(h:PE X e te):PO X (some e) (Ag te):=by
 intro b s a H Q I j;rw[evalPart_some];refine thn (h b s a H _ I j) ?_;rintro u k ⟨x,c,g,r1,d⟩;obtain⟨i,rfl,q⟩:=d;obtain⟨f,rfl⟩:=r1;exact⟨some i,c,g,.int i f,q⟩
def SlR(X:Cx)(r:V->Option Int->Option Int->Hp->VK->Prop):Prop:=
 ∀(pins:PN)(s:Shared)(σ:St)(H:Hp)(x:V)(v vl vu:Value)(lo hi:Option Int)(sl:Addr)(Q:VK),Inv X pins σ H s->RelV x v->s.heap.IsSliceOf sl vl vu .none->IsPart vl lo->IsPart vu hi->r x lo hi H Q ->
  ∃T id,typeLookup (.type T) "__getitem__"=pure (some (.builtin id))/\s.TypeIs v T/\wpAny (model X.prog X.w) X.A (getItem v (.ref sl)) (EP X pins σ Q) X.xe s
def tSl(r:V->Option Int->Option Int->Hp->VK->Prop)(te:TE)(tl th:TO):TE:=λσ H Q=>te σ H λx H1=>tl σ H1 λl H2=>th σ H2 λu H3=>r x l u H3 Q
theorem bH{r:V->Option Int->Option Int->Hp->VK->Prop}(hr:SlR X r)(k:PE X e te)(hl:PO X lo tl)(K:PO X hi th):PE X (.Subscript e (.Slice lo hi none p2) pos) (tSl r te tl th):=by
 intro d s c H Q I h;refine Subscript_ (thn (k d s c H _ I h) ?_);rintro v p ⟨x,G,n,r1,m⟩;refine wpAny_Slice (thn (hl d p c G _ n m) λf F⟨l,t,w,pl,y⟩=>thn (K d F c t _ w y) ?_);rintro g a ⟨u,i,z,C,j⟩;rw[evalPart_none];refine zB ?_;have L:Inv X d c i {a with heap:=a.heap.push {cls:=.type "slice",data:=.fields #[f,g,.none]}}:=z.kept (t':=a.toks) λb M q=>zC _ q;obtain⟨T,id,J,D,o⟩:=hr d {a with heap:=a.heap.push {cls:=.type "slice",data:=.fields #[f,g,.none]}} c i x v f g l u a.heap.objs.size Q L r1 (Heap.IsSliceOf.new ..) pl C j;show wpAny (model X.prog X.w) X.A (subscriptTail e (.Slice lo hi none p2) v (.ref a.heap.objs.size)) (EP X d c Q) X.xe {a with heap:=a.heap.push {cls:=.type "slice",data:=.fields #[f,g,.none]}};exact tail_any (ops:=[.ref a.heap.objs.size,v]) D J o (by with_unfolding_all rfl)
def cutV(xs:List V)(lo hi:Option Int):List V:=(xs.drop (HT.sIx xs.length 0 lo)).take (HT.sIx xs.length xs.length hi-HT.sIx xs.length 0 lo)
theorem Ff(xs:List V)(lo hi:Option Int):(cutV xs lo hi).length<=xs.length:=by
 unfold cutV;rw[yK,tF];omega
def rSlT(K:Frag):V->Option Int->Option Int->Hp->VK->Prop:=λx lo hi H Q=>∃a xs,x=.ref a/\SqT K H a xs /\
 ¬ (HT.sIx xs.length 0 lo=0/\HT.sIx xs.length xs.length hi=xs.length)/\∀p,H p=none->Q (.ref p) (upd H p (.tup (cutV xs lo hi)))
theorem Om:SlR X (rSlT X.K):=by
 intro p s m H x v o t lo hi u Q I i g pl k h;obtain⟨a,xs,rfl,j,l,q⟩:=h;cases i;obtain⟨its,r,f,d⟩:=I.tuple j;have c:its.toArray.size=xs.length:=by rw[zT];exact r.length.symm
 refine⟨"tuple",_,PyProof.Rows.slot_tuple_getitem.lookup,f.typeIs,?_⟩;refine HT.getItem_tuple_cut f g pl k (by rw[c];exact l) ?_ (by rw[c];exact d);rw[c];refine⟨.ref s.heap.objs.size,_,I.laid (t':=s.toks) (o:=.tup (cutV xs lo hi)) (λb n q=>zC _ q) (zE _) ?_,rfl,q _ (I.hok.fresh (zE _))⟩;exact⟨yG (Ff xs lo hi) d,_,(r.drop (HT.sIx xs.length 0 lo)).take (HT.sIx xs.length xs.length hi-HT.sIx xs.length 0 lo),IsTup.new _ _⟩
end
def ixN(n:Nat)(i:Int):Option Nat:=if 0<=i then(if i<n then some i.toNat else none) else if -(n:Int)<=i then some (i+n).toNat else none
def atI{α:Type}(xs:List α)(i:Int):Option α:=(ixN xs.length i).bind λj=>xs[j]?
theorem Fe{n:Nat}{i:Int}{j:Nat}(h:ixN n i=some j):seqIndex? i n=some j/\j<n/\-(n:Int)<=i/\i<n:=by
 unfold ixN at h
 by_cases b:0<=i
 ·rw[zF b]at h
  by_cases a:i<n
  ·rw[zF a]at h;have e:i.toNat=j:=zW h;exact⟨by rw[pI b a,e],⋯,⋯,a⟩
  ·rw[zD a]at h;cases h
 ·rw[zD b]at h
  by_cases a:-(n:Int)<=i
  ·rw[zF a]at h;have e:(i+n).toNat=j:=zW h;exact⟨by rw[pQ ⋯ a,e],⋯,a,⋯⟩
  ·rw[zD a]at h;cases h
theorem Fd{a:Type}{xs:List a}{i:Int}{v:a}(h:atI xs i=some v):∃j,seqIndex? i xs.length=some j/\xs[j]?=some v/\j<xs.length/\-(xs.length:Int)<=i/\i<xs.length:=by
 unfold atI at h;cases e:ixN xs.length i with
 |none=>rw[e]at h;cases h
 |some j =>
  rw[e]at h;obtain⟨c,f,b,d⟩:=Fe e;exact⟨j,c,h,f,b,d⟩
theorem Ol{a:Type}{xs:List a}{j:Nat}{v:a}(h:xs[j]?=some v):atI xs (j:Int)=some v:=by
 have b:j<xs.length:=(oG.mp h).1;have e:ixN xs.length (j:Int)=some j:=by
  unfold ixN;rw[zF ⋯,zF ⋯];simp
 unfold atI;rw[e];exact h
theorem Oj{a:Type}(xs:List a)(v:a):atI (xs++[v]) (-1)=some v:=by
 have hl:(xs++[v]).length=xs.length+1:=by simp
 have e:ixN (xs++[v]).length (-1)=some xs.length:=by
  unfold ixN;rw[hl,zD ∅,zF ⋯];congr 1;omega
 unfold atI;rw[e];show(xs++[v])[xs.length]?=some v;simp
def Oi(b:Expr):Prop:=∀o i,subscripted b false o i=operate [o,i] (getItem o i)
def IxR(X:Cx)(r:R2):Prop:=
 ∀(value slice:Expr)(pins:PN)(s:Shared)(σ:St)(H:Hp)(x y:V)(v u:Value)(Q:VK),Inv X pins σ H s->RelV x v->RelV y u->r x y H Q ->
  subscripted slice false v u=operate [v,u] (getItem v u)->wpAny (model X.prog X.w) X.A (subscriptTail value slice v u) (EP X pins σ Q) X.xe s
def MtR(X:Cx)(id:String)(r:V->List V->Hp->VK->Prop):Prop:=
 ∀(pins:PN)(s:Shared)(σ:St)(H:Hp)(x:V)(xs:List V)(v:Value)(us:LW)(Q:VK),Inv X pins σ H s->RelV x v->Vals xs us->r x xs H Q ->
  wpAny (model X.prog X.w) X.A (call (.builtin id) (v:: us)) (EP X pins σ Q) X.xe s
section
variable {X:Cx} {a b:Expr} {ta tb:TE} {pos:Pos}
theorem nQ{r:R2}(hr:IxR X r)(g:PE X a ta)(d:PE X b tb)(m:Oi b):PE X (.Subscript a b pos) (tOp r ta tb):=by
 intro f s c H Q I h;exact Subscript_ (binT g d I h λv u i x y k l e j q=>hr a b f i c k x y v u Q l e j q (m _ _))
def rIxL(K:Frag):R2:=λx y H Q=>∃p xs i v,x=.ref p/\y=.int i/\SqL K H p xs/\atI xs i=some v/\Q v H
def rIxT(K:Frag):R2:=λx y H Q=>∃p xs i v,x=.ref p/\y=.int i/\SqT K H p xs/\atI xs i=some v/\Q v H
theorem Oh:IxR X (rIxL X.K):=by
 intro P N f s e H x y v u Q I G D h m;obtain⟨p,xs,i,z,rfl,rfl,C,n,q⟩:=h;cases G;obtain⟨M,rfl⟩:=D;obtain⟨its,r,pl,R⟩:=I.list C;obtain⟨j,c,K,O,o,J⟩:=Fd n;obtain⟨w,k,t⟩:=r.get K;have hl:=r.length;have L:=bF;have g:EP X f e Q w s:=⟨z,H,I,t,q⟩
 by_cases l:0<=i
 ·have d:i.toNat=j:=by
   rw[pI l J]at c;exact zW c
  exact item_listR pl.isList l ⋯ (by rw[d];simpa using k) g m
 ·have d:(i+(its.toArray.size:Int)).toNat=j:=by
   rw[pQ ⋯ o]at c;rw[zT,←hl];exact zW c
  exact sQ (x:=w) pl.isList.typeIs slot_list_getitem.lookup
   (wpAny_getItem_list_neg (Q:=λr F=>r=w/\EP X f e Q r F) pl.isList ⋯ (by rw[zT] <;> omega) ⋯ (by rw[d];simpa using k) ⟨rfl,g⟩) m
theorem Og:IxR X (rIxT X.K):=by
 intro M K d s c H x y v u Q I t l h D;obtain⟨p,xs,i,z,rfl,rfl,k,f,q⟩:=h;cases t;obtain⟨G,rfl⟩:=l;obtain⟨its,r,pl,N⟩:=I.tuple k;obtain⟨j,m,C,L,J,O⟩:=Fd f;obtain⟨w,n,g⟩:=r.get C;have hl:=r.length;have F:=bF;have e:EP X d c Q w s:=⟨z,H,I,g,q⟩;exact sQ (x:=w) pl.typeIs slot_tuple_getitem.lookup
  (getItem_tuple (j:=j) (Q:=λr o=>r=w/\EP X d c Q r o) pl ⋯ ⋯ (by rw[zT,←hl];exact m) (by simpa using n) ⟨rfl,e⟩) D
theorem Of(its:LW)(n j:Nat)(u:Value):Obj.mapSeq (·.setIfInBounds j u) {cls:=.type "list",data:=.seq its.toArray n}={cls:=.type "list",data:=.seq (its.set j u).toArray n}:=by
 simp[Obj.mapSeq]
theorem Inv.lst{d:PN}{c:St}{H:Hp}{s:Shared}{p:Addr}{xs:List V}(I:Inv X d c H s)(h:H p=some (.lst xs)):
  ∃(its:LW)(n:Nat),Vals xs its/\s.heap.get? p=some {cls:=.type "list",data:=.seq its.toArray n}/\xs.length<=sizeLine:=by
 obtain⟨z,its,n,r,e⟩:=I.hok p _ h;exact⟨its,n,r,e,z⟩
theorem Inv.lstUpd{g:PN}{d:St}{H:Hp}{s:Shared}{p:Addr}{xs ys:List V}{its its':LW}{n c:Nat}{f:Obj->Obj}(I:Inv X g d H s)(h:H p=some (.lst xs))
  (k:s.heap.get? p=some {cls:=.type "list",data:=.seq its.toArray n})(i:f {cls:=.type "list",data:=.seq its.toArray n}={cls:=.type "list",data:=.seq its'.toArray c})(r:Vals ys its')(l:ys.length<=sizeLine)(m:Nat):
  Inv X g d (upd H p (.lst ys)) {s with heap:=s.heap.update p f,toks:=m}:=by
 have e:(s.heap.update p f).get? p=some {cls:=.type "list",data:=.seq its'.toArray c}:=by
  rw[wG f k (by rw[i] <;> rfl),i]
 refine I.write (x:=p) (e:=p) (by rw[h];trivial) (.inl rfl) (λb u j q=>(vH _ _ (yA j)).trans q) ⟨_,e⟩ ?_;exact⟨l,its',c,r,e⟩
def dN:V->V->V->Hp->(Hp->Prop)->Prop:=λo i v H Q=>∃p xs k j,o=.ref p/\i=.int k/\H p=some (.lst xs)/\ixN xs.length k=some j/\Q (upd H p (.lst (xs.set j v)))
theorem bI:PSet X dN:=by
 intro x s w H o i v K L u Q I y z C h;obtain⟨p,xs,k,j,rfl,rfl,f,F,q⟩:=h;cases y;obtain⟨J,rfl⟩:=z;obtain⟨its,n,r,d,D⟩:=I.lst f;obtain⟨c,M,m,g⟩:=Fe F;have hl:=r.length;have G:=bF;have l:Inv X x w (upd H p (.lst (xs.set j v))) {s with heap:=s.heap.update p (Obj.mapSeq (·.setIfInBounds j u))}:=
  I.lstUpd f d (Of its n j u) (r.set C j) (by rw[List.length_set];exact D) s.toks
 by_cases t:0<=k
 ·have e:k.toNat=j:=by
   rw[pI t g]at c;exact zW c
  exact PySem.W.ki_setAt d t ⋯ (by rw[zT,←hl];exact g) (by rw[e];exact⟨_,l,q⟩)
 ·have e:(k+(its.toArray.size:Int)).toNat=j:=by
   rw[pQ ⋯ m]at c;rw[zT,←hl];exact zW c
  exact PySem.W.ki_setBack d ⋯ (by rw[zT,←hl];exact m) ⋯ (by rw[e];exact⟨_,l,q⟩)
theorem Oe(lo hi:Option Int)(n:Nat):(sliceBounds lo hi none n).1=((HT.sIx n 0 lo:Nat):Int)/\(sliceBounds lo hi none n).2.1=((HT.sIx n n hi:Nat):Int)/\(sliceBounds lo hi none n).2.2=1:=by
 refine⟨?_,?_,rfl⟩
 ·cases lo with
  |none=>simp[sliceBounds,HT.sIx]
  |some i =>
   simp only[sliceBounds,HT.sIx,Option.getD_none,show(1:Int) > 0 by decide,if_true]
   by_cases h:i<0
   ·simp only[h,if_true] <;> omega
   ·simp only[h,if_false] <;> omega
 ·cases hi with
  |none=>simp[sliceBounds,HT.sIx]
  |some i =>
   simp only[sliceBounds,HT.sIx,Option.getD_none,show(1:Int) > 0 by decide,if_true]
   by_cases h:i<0
   ·simp only[h,if_true] <;> omega
   ·simp only[h,if_false] <;> omega
theorem Od(its:LW)(lo hi:Option Int):slicePick its.toArray lo hi none=((its.drop (HT.sIx its.length 0 lo)).take (HT.sIx its.length its.length hi-HT.sIx its.length 0 lo)).toArray:=by
 obtain⟨c,d,e⟩:=Oe lo hi its.toArray.size;unfold slicePick;rw[c,d,e];simp only[sliceRange_one,pick_run,List.size_toArray] <;> rfl
def rSlL(K:Frag):V->Option Int->Option Int->Hp->VK->Prop:=λx lo hi H Q=>∃a xs,x=.ref a/\SqL K H a xs/\∀p,H p=none->Q (.ref p) (upd H p (.lst (cutV xs lo hi)))
theorem Oc:SlR X (rSlL X.K):=by
 intro n s k H x v m o lo hi p Q I e d pl i h;obtain⟨a,xs,rfl,f,q⟩:=h;cases e;obtain⟨its,r,c,g⟩:=I.list f;have j:=r.length;refine⟨"list",_,slot_list_getitem.lookup,c.isList.typeIs,?_⟩;refine wpAny_getItem_list_slice c.isList d pl i .none (by simp) ?_ (by rw[List.size_toArray] <;> omega);rw[Od,←j];refine⟨.ref s.heap.objs.size,_,I.laid (t':=s.toks) (o:=.lst (cutV xs lo hi)) (λb l q=>zC _ q) (zE _) ?_,rfl,q _ (I.hok.fresh (zE _))⟩;exact⟨yG (Ff xs lo hi) g,_,0,(r.drop (HT.sIx xs.length 0 lo)).take (HT.sIx xs.length xs.length hi-HT.sIx xs.length 0 lo),zS _ rfl⟩
def iW:V->Bool
 |.non=>true
 |.bl _=>true
 |.int _=>true
 |.str _=>true
 |_=>false
def eqV:V->V->Bool
 |.non,.non=>true
 |.bl a,.bl b=>a == b
 |.bl a,.int b=>(if a then 1 else 0) == b
 |.int a,.bl b=>a == (if b then 1 else 0)
 |.int a,.int b=>a == b
 |.str a,.str b=>a == b
 |_,_=>false
theorem Ob{A:Around}{s:Shared}{y x:V}{u v:Value}(f:RelV y u)(c:RelV x v)(g:iW y=true)(e:iW x=true):SeqAt.EqAt A s u v (eqV y x):=by
 cases y with
 |non =>
  cases f;cases x with
  |non=>cases c;exact SeqAt.EqAt.same _
  |bl b=>cases c;exact SeqAt.EqAt.none_bool b
  |int b=>obtain⟨d,rfl⟩:=c;exact SeqAt.EqAt.none_int b d
  |str b=>obtain⟨d,rfl⟩:=c;exact SeqAt.EqAt.none_str b d
  |_=>exact absurd (show false=true from e) zX
 |bl a =>
  cases f;cases x with
  |non=>cases c;exact SeqAt.EqAt.bool_none a
  |bl b=>cases c;exact SeqAt.EqAt.bool_bool a b
  |int b=>obtain⟨d,rfl⟩:=c;exact SeqAt.EqAt.bool_int a b d
  |str b=>obtain⟨d,rfl⟩:=c;exact SeqAt.EqAt.bool_str a b d
  |_=>exact absurd (show false=true from e) zX
 |int a =>
  obtain⟨t',rfl⟩:=f;cases x with
  |non=>cases c;exact SeqAt.EqAt.int_none a t'
  |bl b=>cases c;exact SeqAt.EqAt.int_bool a t' b
  |int b=>obtain⟨d,rfl⟩:=c;exact SeqAt.EqAt.int_int a t' b d
  |str b=>obtain⟨d,rfl⟩:=c;exact SeqAt.EqAt.int_str a t' b d
  |_=>exact absurd (show false=true from e) zX
 |str a =>
  obtain⟨t',rfl⟩:=f;cases x with
  |non=>cases c;exact SeqAt.EqAt.str_none a t'
  |bl b=>cases c;exact SeqAt.EqAt.str_bool a t' b
  |int b=>obtain⟨d,rfl⟩:=c;exact SeqAt.EqAt.str_int a t' b d
  |str b=>obtain⟨d,rfl⟩:=c;exact SeqAt.EqAt.str_str a t' b d
  |_=>exact absurd (show false=true from e) zX
 |_=>exact absurd (show false=true from g) zX
def eqU(x:V)(u:Value):Bool:=match u with
 |.none=>eqV .non x
 |.bool b=>eqV (.bl b) x
 |.int i _=>eqV (.int i) x
 |.str z _=>eqV (.str z) x
 |_=>false
theorem Fc{x y:V}{u:Value}(r:RelV y u)(f:iW y=true):eqU x u=eqV y x:=by
 cases y with
 |non=>cases r;rfl
 |bl b=>cases r;rfl
 |int i=>obtain⟨t,rfl⟩:=r;rfl
 |str z=>obtain⟨t,rfl⟩:=r;rfl
 |_=>exact absurd (show false=true from f) zX
theorem Ae{x:V}:∀{xs:List V}{us:LW},Vals xs us->xs.all iW=true->us.any (eqU x)=xs.any λy=>eqV y x
 |_,_,.nil,_=>rfl
 |y:: xs,u:: us,.cons r t,f=>by
  rw[xH,zR]at f;rw[qE,qE,Fc r f.1,Ae t f.2]
theorem Ad{A:Around}{s:Shared}{x:V}{v:Value}(e:RelV x v)(d:iW x=true):∀{xs:List V}{us:LW},Vals xs us->xs.all iW=true->∀u∈us,SeqAt.EqAt A s u v (eqU x u)
 |_,_,.nil,_=>λu c=>by cases c
 |y:: xs,u:: us,.cons r i,f=>λg c=>by
  rw[xH,zR]at f;rcases xI.mp c with rfl|c
  ·rw[Fc r f.1];exact Ob r e f.1 d
  ·exact Ad e d i f.2 g c
def inV(x:V)(xs:List V):Bool:=xs.any λy=>eqV y x
def rIn(K:Frag)(neg:Bool):R2:=λx y H Q=>∃p xs,y=.ref p/\(SqL K H p xs\/SqT K H p xs)/\iW x=true/\xs.all iW=true/\Q (.bl (if neg then !inV x xs else inV x xs)) H
theorem Ac:OpR X (compareOp .NotIn) (rIn X.K true):=by
 intro k s j H x y v u Q I f i h;obtain⟨p,xs,rfl,c,e,fs,q⟩:=h;cases i;rcases c with c|c
 ·obtain⟨its,r,pl,g⟩:=I.list c;refine SeqAt.notIn_listAt (eqU x) pl.isList (λw d=>Ad f e r fs w (by simpa using d)) ⟨.bl _,H,I,rfl,?_⟩;rw[show its.toArray.any (eqU x)=its.any (eqU x) by simp,Ae r fs];exact q
 ·obtain⟨its,r,pl,g⟩:=I.tuple c;refine SeqAt.notIn_tupleAt (eqU x) pl (λw d=>Ad f e r fs w (by simpa using d)) ⟨.bl _,H,I,rfl,?_⟩;rw[show its.toArray.any (eqU x)=its.any (eqU x) by simp,Ae r fs];exact q
theorem Oa:lK X (.builtin "len") (λxs H Q=>∃p ys,xs=[.ref p]/\(SqL X.K H p ys\/SqT X.K H p ys)/\Q (.int ys.length) H):=by
 intro k s i H xs us Q I r h;obtain⟨p,ys,rfl,c,q⟩:=h;obtain⟨u,rfl,f⟩:=jE r;cases f;have j:=bF;rcases c with c|c
 ·obtain⟨its,d,pl,g⟩:=I.list c;have e:=d.length;exact Calls.call_len_list pl.isList (by simp only[List.size_toArray] <;> omega) ⟨.int ys.length,H,I.tok _,⟨s.toks+1,by rw[zT,e]⟩,q⟩
 ·obtain⟨its,d,pl,g⟩:=I.tuple c;have e:=d.length;exact len_tuple pl (by simp only[List.size_toArray] <;> omega) ⟨.int ys.length,H,I.tok _,⟨s.toks+1,by rw[zT,e]⟩,q⟩
theorem Pz:lK X (.type "list") (λxs H Q=>∃p ys,xs=[.ref p]/\(SqL X.K H p ys\/SqT X.K H p ys)/\∀l,H l=none->Q (.ref l) (upd H l (.lst ys))):=by
 intro y s w H xs us Q I r h;obtain⟨p,ys,rfl,f,q⟩:=h;obtain⟨u,rfl,x⟩:=jE r;cases x;have t:∀(its:LW),Vals ys its->ys.length<=sizeLine->∀(h':Heap)(d:Nat),(∀b v,s.heap.get? b=some v->h'.get? b=some v) ->
   h'.get? s.heap.objs.size=some {cls:=.type "list",dict:=none,data:=.seq its.toArray d,slots:=#[]}->EP X y w Q (.ref s.heap.objs.size) {s with heap:=h'}:=λits c g h' d i e =>
  ⟨.ref s.heap.objs.size,_,I.laid (t':=s.toks) i (zE _) (show nO X.prog X.w _ h' _ (.lst ys) from⟨g,its,d,c,e⟩),rfl,q _ (I.hok.fresh (zE _))⟩
 rcases f with f|f
 ·obtain⟨its,c,pl,g⟩:=I.list f;have z:=c.length;obtain⟨o,j,k,n,m⟩:=pl.isList;exact call_list_seq p (.inl rfl) j k m (λh' d i e=>t its c g h' d i e) (by simp only[List.size_toArray] <;> omega)
 ·obtain⟨its,c,pl,g⟩:=I.tuple f;have z:=c.length;obtain⟨o,j,k,n,m⟩:=pl;exact call_list_seq p (.inr rfl) j k m (λh' d i e=>t its c g h' d i e) (by simp only[List.size_toArray] <;> omega)
theorem Py:lK X (.type "tuple") (λxs H Q=>∃p ys,xs=[.ref p]/\((SqL X.K H p ys/\∀l,H l=none->Q (.ref l) (upd H l (.tup ys)))\/(SqT X.K H p ys/\Q (.ref p) H))):=by
 intro g s f H xs us Q I r h;obtain⟨p,ys,rfl,h⟩:=h;obtain⟨u,rfl,k⟩:=jE r;cases k;rcases h with⟨d,q⟩|⟨d,q⟩
 ·obtain⟨its,c,pl,i⟩:=I.list d;have t:=c.length;refine call_tuple_list pl.isList (λh' m=>?_) (by simp only[List.size_toArray] <;> omega);have j:Inv X g f H {s with heap:=h'}:=I.kept (t':=s.toks) m;have n:Inv X g f (upd H h'.objs.size (.tup ys)) {s with heap:=h'.push {cls:=.type "tuple",data:=.seq its.toArray}}:=
   j.laid (t':=s.toks) (λb o e=>zC _ e) (zE _) (show nO X.prog X.w _ _ _ (.tup ys) from⟨i,its,c,IsTup.new _ _⟩)
  exact⟨.ref h'.objs.size,_,n,rfl,q _ (j.hok.fresh (zE _))⟩
 ·obtain⟨its,c,pl,i⟩:=I.tuple d;exact call_tuple_same pl ⟨.ref p,H,I,rfl,q⟩
def tyV(K:Frag)(T:String)(x:V)(H:Hp):Prop:=match x with
 |.str _=>T="str"
 |.int _=>T="int"
 | .ref p=>(T="list" /\ ∃xs,SqL K H p xs)\/(T="tuple" /\ ∃o,K.lookup p=some o/\o.cls=.type "tuple" /\ o.dict=none) \/
   (T="dict" /\ ((∃kvs,H p=some (.dK kvs))\/∃kvs,H p=some (.dT kvs)))\/(T="set" /\ ∃S n,H p=some (.set S n))
 |_=>False
theorem Fb{q:PN}{m:St}{H:Hp}{s:Shared}{T:String}{x:V}{v:Value}(I:Inv X q m H s)(r:RelV x v)(ty:tyV X.K T x H):
  s.TypeIs v T/\∀a,v=.ref a->∃l,s.heap.get? a=some l/\l.dict=none:=by
 cases x with
 |str z =>
  obtain⟨j,rfl⟩:=r;cases(show T="str" from ty);exact⟨typeIs_str s z j,λ_ e=>nomatch e⟩
 |int i =>
  obtain⟨j,rfl⟩:=r;cases(show T="int" from ty);exact⟨typeIs_int s i j,λ_ e=>nomatch e⟩
 | ref p =>
  cases r;rcases ty with⟨rfl,xs,t⟩|⟨rfl,o,d,u,k⟩|⟨rfl,d⟩|⟨rfl,S,n,d⟩
  ·obtain⟨its,_,pl,_⟩:=I.list t;refine⟨pl.isList.typeIs,λa e=>?_⟩;cases e;obtain⟨o,n,e,c,k,_⟩:=pl;exact⟨o,e,k⟩
  ·refine⟨⟨o,I.kIn p o d,u⟩,λa e=>?_⟩;cases e;exact⟨o,I.kIn _ o d,k⟩
  ·have z:∃o,s.heap.get? p=some o/\o.ExactDict:=by
    rcases d with⟨kvs,d⟩|⟨kvs,d⟩
    ·obtain⟨_,_,_,_,o,_,_,e,f,_⟩:=I.hok p _ d;exact⟨o,e,f⟩
    ·obtain⟨_,_,_,_,o,_,_,e,f,_⟩:=I.hok p _ d;exact⟨o,e,f⟩
   obtain⟨o,e,f⟩:=z;refine⟨⟨o,e,f.1⟩,λa g=>?_⟩;cases g;exact⟨o,e,f.2.1⟩
  ·obtain⟨o,_,_,_,e,f,_⟩:=I.hok p _ d;refine⟨⟨o,e,f.1⟩,λa g=>?_⟩;cases g;exact⟨o,e,f.2.1⟩
 |_=>exact False.elim ty
def tBM0(K:Frag)(T:String)(r:V->List V->Hp->VK->Prop)(to:TE):TE:=λσ H Q=>to σ H λx H1=>tyV K T x H1/\r x [] H1 Q
def tBM(K:Frag)(T:String)(r:V->List V->Hp->VK->Prop)(to:TE)(t:TA):TE:=λσ H Q=>to σ H λx H1=>tyV K T x H1/\t σ H1 λxs H2=>r x xs H2 Q
variable {o e:Expr} {es:List Expr} {to:TE} {t:TA} {name:Str} {apos cpos:Pos} {T id:String} {r:V->List V->Hp->VK->Prop}
theorem Fa(m:PlainAttrs T)(n:Slot T name id)(g:typeOf (.builtin id)=pure (.type "method_descriptor"))(l:MtR X id r)(j:PE X o to)
  (p:attributeBase o name X.env (eval o X.env)=eval o X.env:=by rfl)(k:(apos.endLine == cpos.line)=true:=by rfl):PE X (.Call (.Attribute o name apos) [] [] cpos) (tBM0 X.K T r to):=by
 intro d s c H Q I h;refine wpAny_Call_method0_late p k (thn (j d s c H _ I h) ?_);rintro v i ⟨x,q,f,r1,ty,w⟩;obtain⟨u,y⟩:=Fb f r1 ty;exact⟨T,id,m,n,g,u,y,uM rfl (PySem.evalArgs_none (l d i c q x [] v [] Q f r1 .nil w))⟩
theorem jF(J:PlainAttrs T)(q:Slot T name id)(k:typeOf (.builtin id)=pure (.type "method_descriptor"))(G:MtR X id r)(i:PE X o to)(D:PA X (e:: es) t)
  (C:attributeBase o name X.env (eval o X.env)=eval o X.env:=by rfl)
  (m:((backTo cpos (starEach (e:: es) X.env)).all (λx=>!x.1) && (backToKw cpos (keywordEach [] X.env)).all (λx=>x.1.isSome)
   && decide ((e:: es).length+([]:List Keyword).length+(if([]:List Keyword).isEmpty then 0 else 1)<30))=true:=by rfl)
  (n:(apos.endLine == cpos.line)=true:=by rfl)(M:starEach (e:: es) X.env=(false,eval e X.env):: starEach es X.env:=by rfl)(p:(backTo cpos (starEach es X.env)).any (·.1)=false:=by rfl):
  PE X (.Call (.Attribute o name apos) (e:: es) [] cpos) (tBM X.K T r to t):=by
 intro d s c H Q I h;refine wpAny_Call_method_late C m n rfl (thn (i d s c H _ I h) ?_);rintro v l ⟨x,K,f,r1,ty,j⟩;obtain⟨u,L⟩:=Fb f r1 ty;refine⟨T,id,J,q,k,u,L,?_⟩;have g:=D cpos d l c K _ f j;rw[M]at g ⊢;refine uM (by show(false || (backTo cpos (starEach es X.env)).any (·.1))=false;rw[p] <;> rfl) (vU ?_);exact thn g λus F⟨vs,w,y,r2,z⟩=>G d F c w x vs v us Q y r1 r2 z
end
def MtM(X:Cx)(id:String)(r:V->List V->Hp->VK->Prop):Prop:=
 ∀(pins:PN)(s:Shared)(σ:St)(H:Hp)(x:V)(xs:List V)(v:Value)(us:LW)(Q:VK),Inv X pins σ H s->RelV x v->Vals xs us->r x xs H Q ->
  wpAny (model X.prog X.w) X.A (call (.builtin id) (v:: us)) (EP X pins σ Q) X.xe s
theorem Vals.one{x:V}{us:LW}(h:Vals [x] us):∃u,us=[u]/\RelV x u:=by
 cases h with|cons r h=>cases h;exact⟨_,rfl,r⟩
theorem Vals.two{x y:V}{us:LW}(h:Vals [x,y] us):∃u v,us=[u,v]/\RelV x u/\RelV y v:=by
 cases h with|cons r h=>obtain⟨v,rfl,q⟩:=Vals.one h;exact⟨_,_,rfl,r,q⟩
theorem Vals.zero:∀{us:LW},Vals [] us->us=[]
 |_,.nil=>rfl
theorem Vals.dropLast{xs:List V}{us:LW}(h:Vals xs us):Vals xs.dropLast us.dropLast:=by
 induction h with
 |nil=>exact .nil
 |cons r a b =>
  cases a with
  |nil=>exact .nil
  |cons q t'=>exact .cons r b
theorem Vals.eraseIdx:∀{xs:List V}{us:LW}(i:Nat),Vals xs us->Vals (xs.eraseIdx i) (us.eraseIdx i)
 |_,_,_,.nil=>.nil
 |_,_,0,.cons _ t=>t
 |_,_,i+1,.cons r t=>.cons r (Vals.eraseIdx i t)
theorem Vals.rep{xs:List V}{us:LW}(h:Vals xs us):∀k:Nat,Vals (List.replicate k xs).flatten (List.replicate k us).flatten
 |0=>.nil
 |k+1=>by
  rw[wP,wP,sK,sK];exact Vals.append h (Vals.rep h k)
theorem Px{c:Type}(l:List c):l.eraseIdx (l.length-1)=l.dropLast:=by
 induction l with
 |nil=>rfl
 | cons a r d =>
  cases r with
  |nil=>rfl
  | cons b r =>
   have e:(a:: b:: r).length-1=((b:: r).length-1)+1:=by
    have f:(a:: b:: r).length=r.length+2:=rfl;have g:(b:: r).length=r.length+1:=rfl;omega
   rw[e,List.eraseIdx_cons_succ,d]
   all_goals rfl
theorem Gz{a:Type}:∀(l:List a)(i:Nat),(l.eraseIdx i).length<=l.length
 |[],_=>zE _
 |_:: _,0=>uN _
 |_:: r,i+1=>qT (Gz r i)
theorem Gy(its:LW):∀(k:Nat)(acc:LW),
  List.foldl (λb c=>b++c) acc.toArray (List.replicate k its.toArray)=(acc++(List.replicate k its).flatten).toArray
 |0,acc=>by simp
 | k+1,acc=>by
  have e:acc.toArray++its.toArray=(acc++its).toArray:=by simp
  have a:(acc++its)++(List.replicate k its).flatten=acc++(List.replicate (k+1) its).flatten:=by
   rw[wP,sK,yI]
  rw[←a,←Gy its k (acc++its),←e,wP,wN]
section
variable {X:Cx} {pins:PN} {σ:St} {H:Hp} {s:Shared} {l b:Addr} {xs ys zs:List V}
theorem Inv.lset{its its':LW}{n:Nat}{f:Array Value->Array Value}{t':Nat}(I:Inv X pins σ H s)(d:H l=some (.lst xs))
  (e:s.heap.get? l=some {cls:=.type "list",data:=.seq its.toArray n})(i:f its.toArray=its'.toArray)(a:Vals ys its')(g:ys.length<=sizeLine):
  Inv X pins σ (upd H l (.lst ys)) {s with heap:=s.heap.update l (Obj.mapSeq f),toks:=t'}:=by
 have q:=PySem.IsL.update e f;rw[i]at q;refine I.write (x:=l) (e:=l) (by rw[d];exact trivial) (.inl rfl) (λk u c j=>(vH s.heap (Obj.mapSeq f) (yA c)).trans j) ⟨_,q⟩ ?_;exact⟨g,its',_,a,q⟩
theorem Inv.lnew{its:LW}{t':Nat}(I:Inv X pins σ H s)(c:Vals ys its)(a:ys.length<=sizeLine):
  Inv X pins σ (upd H s.heap.objs.size (.lst ys)) {s with heap:=s.heap.push {cls:=.type "list",data:=.seq its.toArray},toks:=t'}:=
 I.laid (λ_ _ q=>zC _ q) (zE _) ⟨a,its,0,c,zS _ rfl⟩
theorem Inv.fresh(I:Inv X pins σ H s):H s.heap.objs.size=none:=I.hok.fresh (zE _)
theorem Inv.lstM(I:Inv X pins σ H s)(a:H l=some (.lst xs)):xs.length<=sizeLine/\∃(its:LW)(n:Nat),Vals xs its/\xs.length=its.length/\s.heap.get? l=some {cls:=.type "list",data:=.seq its.toArray n}:=by
 obtain⟨z,its,n,r,e⟩:=I.hok l _ a;exact⟨z,its,n,r,r.length,e⟩
theorem Pw{n:Nat}(h:n<=sizeLine):Builtin.List.listTooLong n=false:=by
 unfold Builtin.List.listTooLong;exact zN ⋯
end
section
variable {X:Cx}
def Pu:V->List V->Hp->VK->Prop:=λx vs H Q=>∃l xs y,x=.ref l/\vs=[y]/\H l=some (.lst xs)/\xs.length<sizeLine/\Q .non (upd H l (.lst (xs++[y])))
theorem jG:MtM X "list.append" Pu:=by
 intro g s f H x vs v us Q I b c h;obtain⟨l,xs,y,rfl,rfl,a,i,q⟩:=h;cases b;obtain⟨u,rfl,d⟩:=c.one;obtain⟨z,its,n,r,hl,e⟩:=I.lstM a;refine rH F.slot_list_append ⟨_,e,rfl⟩ F.entry_list_append (F.args_list_append_2 _ _) (PySem.list_append l its.toArray n u (by rw[zT];omega)) ⟨e,?_⟩;refine⟨.non,_,I.lset (its':=its++[u]) a e (by simp) (r.append (.cons d .nil)) ?_,rfl,q⟩;rw[yE,List.length_singleton];omega
def rPop:V->List V->Hp->VK->Prop:=λx vs H Q=>∃l xs y,x=.ref l/\vs=[]/\H l=some (.lst xs)/\xs[xs.length-1]?=some y/\Q y (upd H l (.lst xs.dropLast))
theorem Pt:MtM X "list.pop" rPop:=by
 intro m s k H x vs v us Q I d f h;obtain⟨l,xs,y,rfl,rfl,a,b,q⟩:=h;cases d;have c:=f.zero;subst c;obtain⟨z,its,n,r,hl,e⟩:=I.lstM a;obtain⟨u,i,j⟩:=r.get b;have g:its.toArray[its.toArray.size-1]?=some u:=by
  show its.toArray[its.length-1]?=some u;rw[←yH,←hl];exact i
 refine rH F.slot_list_pop ⟨_,e,rfl⟩ F.entry_list_pop (F.args_list_pop_1 _) (MeetsSeq.list_pop_last l its.toArray n u g (by rw[zT];omega)) ⟨e,?_⟩;refine⟨y,_,I.lset (its':=its.dropLast) a e ?_ r.dropLast ?_,j,q⟩
 ·show its.toArray.eraseIdxIfInBounds (its.toArray.size-1)=its.dropLast.toArray;rw[zT,List.eraseIdxIfInBounds_toArray,Px]
 ·rw[List.length_dropLast];omega
def Ps:V->List V->Hp->VK->Prop:=λx vs H Q=>∃l xs i k y,x=.ref l/\vs=[.int i]/\H l=some (.lst xs)/\-(2^63)<=i/\i<2^63/\seqIndex? i xs.length=some k/\xs[k]?=some y/\Q y (upd H l (.lst (xs.eraseIdx k)))
theorem Pq:MtM X "list.pop" Ps:=by
 intro D s C H x vs v us Q I c f h;obtain⟨l,xs,i,k,y,rfl,rfl,a,j,t,g,b,q⟩:=h;cases c;obtain⟨u,rfl,o⟩:=f.one;obtain⟨m,rfl⟩:=o;obtain⟨z,its,n,r,hl,e⟩:=I.lstM a;obtain⟨w,p,d⟩:=r.get b;refine rH F.slot_list_pop ⟨_,e,rfl⟩ F.entry_list_pop (F.args_list_pop_2 _ _)
  (MeetsSeq.list_pop_at l its.toArray n i m k w (fitsIndex_both j t) (by rw[zT,←hl];exact g) (by rw[←yH];exact p) (by rw[zT];omega)) ⟨e,?_⟩
 refine⟨y,_,I.lset (its':=its.eraseIdx k) a e ?_ (r.eraseIdx k) ?_,d,q⟩
 ·show its.toArray.eraseIdxIfInBounds k=(its.eraseIdx k).toArray;rw[List.eraseIdxIfInBounds_toArray]
 ·have:=Gz xs k;omega
def Pp:V->List V->Hp->VK->Prop:=λx vs H Q=>∃l xs,x=.ref l/\vs=[]/\H l=some (.lst xs)/\Q .non (upd H l (.lst []))
theorem Po:MtM X "list.clear" Pp:=by
 intro g s f H x vs v us Q I c d h;obtain⟨l,xs,rfl,rfl,a,q⟩:=h;cases c;have b:=d.zero;subst b;obtain⟨z,its,n,r,hl,e⟩:=I.lstM a;refine rH F.slot_list_clear ⟨_,e,rfl⟩ F.entry_list_clear (F.args_list_clear_1 _) (AutoSeq1.list_clear_list_0 l its.toArray n (by rw[zT];omega)) ⟨e,?_⟩;exact⟨.non,_,I.lset (its':=[]) (ys:=[]) a e rfl .nil (yB _),rfl,q⟩
def rCat:R2:=λx y H Q=>∃l b xs zs,x=.ref l/\y=.ref b/\H l=some (.lst xs)/\H b=some (.lst zs)/\xs.length+zs.length<=sizeLine/\∀p,H p=none->Q (.ref p) (upd H p (.lst (xs++zs)))
theorem dO:OpR X (binaryOp .Add) rCat:=by
 intro m s k H x y v u Q I d j h;obtain⟨l,b,xs,zs,rfl,rfl,f,g,o,q⟩:=h;cases d;cases j;obtain⟨z,its,n,r,hl,e⟩:=I.lstM f;obtain⟨w,a,p,r2,t,i⟩:=I.lstM g;refine PySem.P.add_list e i ?_ (by rw[zT,zT];omega);have c:its.toArray++a.toArray=(its++a).toArray:=by simp
 rw[c];exact⟨.ref _,_,I.lnew (t':=s.toks) (r.append r2) (by rw[yE];omega),rfl,q _ I.fresh⟩
def rRep:R2:=λx y H Q=>∃l k xs,x=.ref l/\y=.int k/\H l=some (.lst xs)/\-(2^63)<=k/\k<2^63/\xs.length*k.toNat<=sizeLine /\
 ∀p,H p=none->Q (.ref p) (upd H p (.lst (List.replicate k.toNat xs).flatten))
theorem Pn{a:Type}(xs:List a)(k:Nat):(List.replicate k xs).flatten.length=k*xs.length:=by
 induction k with
 |zero=>simp
 |succ k b=>rw[wP,sK,yE,b,qX,Nat.add_comm]
theorem Ab:OpR X (binaryOp .Mult) rRep:=by
 intro N s L H x y v u Q I w i h;obtain⟨l,k,xs,rfl,rfl,C,j,K,f,q⟩:=h;cases w;obtain⟨b,rfl⟩:=i;obtain⟨z,its,n,r,hl,e⟩:=I.lstM C;have t:its.toArray.size*k.toNat<=sizeLine:=by rw[zT,←hl];exact f
 have J:¬ its.toArray.size*k.toNat > (2^63-1)/8:=by
  have:(sizeLine:Nat)<=(2^63-1)/8:=∅
  omega
 have g:¬ (!Builtin.List.listFitsIndex k)=true:=by
  rw[fitsIndex_both j K];exact zX
 have o:¬ Builtin.List.listTooLong (its.toArray.size*k.toNat)=true:=by
  rw[Pw t];exact zX
 have D:List.foldl (λc d=>c++d) #[] (List.replicate (if its.toArray.isEmpty=true then 0 else k.toNat) its.toArray)=(List.replicate k.toNat its).flatten.toArray:=by
  have G:∀m:Nat,List.foldl (λc d=>c++d) #[] (List.replicate m its.toArray)=(List.replicate m its).flatten.toArray:=λm=>by
   have:=Gy its m [];rw[List.nil_append]at this;exact this
  rw[G];cases its with
  |nil=>simp
  |cons a M=>rw[zD (by simp)]
 refine wpAny_binaryOp_repeat_ref (T:= "list") (U:= "int") ∅ ⟨_,e,rfl⟩ (λp=>typeIs_int p k b) noFill_list_mul F.fills_int_mul F.slot_int_rmul repeat_list F.slot_int_index.lookup
  (rH F.slot_int_rmul (typeIs_int s k b) F.entry_int_rmul (F.args_int_rmul_2 _ _) (int___rmul___int_list k b l its.toArray n)
   ⟨e,rfl,⟨_,e,rfl⟩,rH F.slot_list_mul ⟨_,e,rfl⟩ F.entry_list_mul (F.args_list_mul_2 _ _) (AutoListH.list___mul___list_int_3 l its.toArray n k b g J o) ⟨e,?_⟩⟩)
 rw[D];exact⟨.ref _,_,I.lnew (t':=s.toks) (r.rep k.toNat) (by rw[Pn,sE];exact f),rfl,q _ I.fresh⟩
end
section
variable {prog:Program} {w:World} {A:Around} {E:VP} {s:Shared}
set_option maxRecDepth 100000 in
end
end L2
namespace Att
open PySem PySem.W PySem.Calls PyProof.Rows
theorem Pm{P:Params}{h:Heap}:∀(ns:LI')(vs:LW),WellAll P h vs (ns.map WData.int)->IntsAre vs ns:=by
 intro ns
 induction ns with
 |nil =>
  intro vs w;rw[rG]at w;cases w;exact .nil
 | cons n ns c =>
  intro vs w;rw[zK]at w;cases w with
  |cons a b =>
   cases a;exact .cons _ _ (c _ b)
theorem Pl{l:OpenLaw}{n:Nat}(g:l.most=some n){P:Params}{h:Heap}{args:List WData}{vals:LW}
  (e:l.row.toRowW.claim.pre args=true)(w:WellAll P h vals args):
  ∃a vs ns,vals=[Value.ref a]/\args=[WData.list (ns.map WData.int)]/\h.get? a=some {cls:=.type "list",data:=.seq vs.toArray}/\IntsAre vs ns/\ns.length<=n:=by
 have p:WShape.hasAll [] args [.list .int]=true:=(pre_splitW e).1;have f:l.pre.holds [] {args:=args}=true:=(pre_splitW e).2;obtain⟨d,r,rfl,t,u⟩:=hasAllW_cons p;obtain rfl:=hasAllW_nil u;obtain⟨xs,rfl,o⟩:=hasW_list t;obtain⟨ns,rfl⟩:=items_int o;have x:ns.length<=n:=by
  unfold OpenLaw.pre at f;have c:(WTm.not (.lt (.lit (.int (n:Int))) (.len (.arg 0)))).holds [] {args:=[.list (ns.map .int)]}=true:=by
   have c:=(holds_andW f).1;rw[g]at c;exact c
  have b:=condW_of c (w_not (w_lt w_lit (w_len_list (w_arg rfl))));rw[yS]at b;refine Nat.le_of_not_lt λq=>?_;have k:(n:Int)<((ns.length:Nat):Int):=⋯
  first
   |(rw[zP k]at b;exact absurd b ∅)
   |(simp at b;omega)
 cases w with
 |cons m v =>
  cases v;cases m with
  |list j i=>exact⟨_,_,ns,rfl,rfl,j,Pm ns _ i,x⟩
theorem Pk(l:OpenLaw)(args:List WData):l.row.toRowW.claim.post args (.bool true) args=true:=
 postW_of (r:=l.row.toRowW) (X:=(true == true))
  (show WShape.has [] (.bool true) .bool=true by first|rfl|decide|simp[WShape.has,WShape.arms,WShape.armsAll])
  (show(WTm.eq .res (.lit (.bool true))).value [] {args:=args,res:=some (.bool true),after:=args}=some (.bool (true == true)) from w_eq_bool (w_res rfl) w_lit) rfl
section
variable {prog:Program} {w:World} {A:Around} {E:VP} {s:Shared} {K:Frag}
def u_z(h:Heap)(L d:Addr):PN:=(List.range h.objs.size).filterMap λa=>if a=L\/a=d then none else(h.get? a).map λo=>(a,o)
end
end Att
namespace L2
open PySem PySem.Spec PyProof.Rows
open PySem.W (Frag)
theorem Gx:∀{vs:LW}{ns:LI'},IntsAre vs ns->Vals (ns.map V.int) vs
 |_,_,.nil=>.nil
 |_,_,.cons n t h=>.cons ⟨t,rfl⟩ (Gx h)
def Only(H:Hp):Prop:=∀b,H b=none\/∃o xs,H b=some (.frz o (.lst xs))
theorem Pj{P:Program}{w:World}{K:Frag}{i y:MT}{G:CXT}{k:Nat}{t a:Addr}{J:FuncData}{x:Str}{O:Sp}{c:Shared}{vs:LW}{ns:LI'}
  (KX:K.In c.heap)(M:c.heap.Ns mainGlobals i)(f:c.heap.Ns builtinsNs y)(a3:∀x:Str,x≠"__name__" -> y x=bootBuiltins x)(b1:c.heap.NoLimit)(Z:c.gens=#[])
  (p:c.heap.get? a=some {cls:=.type "list",data:=.seq vs.toArray})(hi:IntsAre vs ns)(hl:ns.length<=sizeLine)(hr:Room k callerA)
  (F:∀base:Heap,K.In base->base.Ns mainGlobals i->FnOk P w K i base G k t J [x] O)(a6:∀(s:Shared)(u:Value),BindsTo s J ⟨[u],[]⟩ [(x,u)])
  (b3:∀H:Hp,Only H->SqL K H a (ns.map V.int)->O [.ref a] H (λv _=>v=.bl true) λ_ _ _=>False)
  (b5:∀H e g,G [] H c (λ_ _ _=>False) e g->False):
  codeAny (model P w) callerA (.call (.ref t) ⟨[.ref a],[]⟩) (λr g=>r=.ok (.ret (.bool true))/\OldK c.heap g.heap/\g.os=c.os/\AllBare g.gens) c:=by
 have R:=Gx hi;have a1:=hi.length
 -- from an abstract heap in which nothing but the script may be tracked
 have L:∀H:Hp,Only H->SqL K H a (ns.map V.int)->HOk P w H c.heap->(∀b,H b≠none->b=a)->(H a≠none->K.lookup a=none) ->
   codeAny (model P w) callerA (.call (.ref t) ⟨[.ref a],[]⟩) (λr g=>r=.ok (.ret (.bool true))/\OldK c.heap g.heap/\g.os=c.os/\AllBare g.gens) c:=by
  intro H I a5 N S a8;have D:∀{b:Addr}{o:Obj},c.heap.get? b=some o->H b=none->(hidT c.heap H).get? b=some o:=λe n=>Mi e n;have a9:∀{b:Addr}{o:Obj}{es:Array DictEntry}{ep:Nat},c.heap.get? b=some o->o.data=.dict es ep->H b=none:=λ{b o es ep}e d=>by
   cases q:H b with
   |none=>rfl
   |some u =>
    have C:b=a:=S b (by rw[q];simp);subst C;rw[p]at e;cases e;have d':Data.seq vs.toArray _=Data.dict es ep:=d;cases d'
  have l:∀{b:Addr}{m:MT},c.heap.Ns b m->(hidT c.heap H).Ns b m:=λ{b m}⟨o,es,ep,e,d,r⟩=>⟨o,es,ep,D e (a9 e d),d,r⟩;have T:K.In (hidT c.heap H):=λb o e=>D (KX b o e) (by
   cases q:H b with
   |none=>rfl
   |some u =>
    have C:b=a:=S b (by rw[q];simp);subst C;rw[a8 (by rw[q];simp)]at e;cases e)
  have b0:Mod K i (hidT c.heap H):=⟨T,l M,⟨y,l f,a3⟩,let ⟨W,a2,b6⟩:=b1;⟨W,l a2,b6⟩⟩;have a4:Env0 P w K i (hidT c.heap H) callerA [] c H:=⟨rfl,b0,λb o e=>Mh e,tZ (Mj _ _),trivial,λb f=>absurd (show b∈([]:LA) from f) (by simp),N,.of_eq Z⟩;refine uV ((F _ T (l M)).run callerA [] c H ⟨[.ref a],[]⟩ [.ref a] [.ref a] _ _ hr a4 (a6 c (.ref a)) (.cons rfl .nil) (b3 H I a5)) λr g h=>?_;cases r with
  |error e=>exact(b5 H e g h).elim
  | ok fl =>
   cases fl with
   |next=>exact False.elim h
   |brk=>exact False.elim h
   |cont=>exact False.elim h
   | ret u =>
    obtain⟨v,H',a7,a0,un,Y,U,q⟩:=h;have X:v=.bl true:=q;subst X;obtain rfl:u=Value.bool true:=U;refine⟨rfl,OldK.of_keep λb o e=>?_,a7,a0⟩;cases q:H b with
    |none=>exact un.keep b o e q (by intro z;exact absurd (show b∈([]:LA) from z) (by simp)) (by simp)
    |some u =>
     rcases I b with z|⟨b2,xs,z⟩
     ·rw[q]at z;cases z
     ·have b7:=un.frzs b b2 _ z;obtain⟨e1,_⟩:=N b _ z;obtain⟨b4,_⟩:=Y b _ b7;rw[e]at e1;cases e1;exact b4
 cases hk:K.lookup a with
 |some o =>
  -- the script is one of the module's own objects
  have e:=KX a o hk;rw[p]at e;cases e;refine L (λ_=>none) (λ_=>.inl rfl) (.inr ⟨_,vs.toArray,_,hk,rfl,rfl,rfl,by rw[zT,a1];exact hl,by simpa using R⟩) (λb u z=>by have j:(none:Option HO)=some u:=z;cases j) (λb z=>absurd rfl z) λz=>absurd rfl z
 | none =>
  refine L (λb=>if b=a then some (.frz {cls:=.type "list",data:=.seq vs.toArray} (.lst (ns.map V.int))) else none) (λb=>?_) (.inl (.inr ⟨{cls:=.type "list",data:=.seq vs.toArray},zF rfl⟩)) (λb u z=>?_) (λb z=>?_) λ_=>hk
  ·by_cases f:b=a
   ·exact .inr ⟨_,_,zF f⟩
   ·exact .inl (zD f)
  ·by_cases f:b=a
   ·have j:=(zF f).symm.trans z;cases j;subst f;exact⟨p,by rw[yS];exact hl,vs,_,R,p⟩
   ·have j:=(zD f).symm.trans z;cases j
  ·by_cases f:b=a
   ·exact f
   ·exact absurd (zD f) z
abbrev KOf{K:Frag}{h:Heap}(_:K.In h):Frag:=K
def iX(s:Stmt)(j:Nat):Stmt:=match s with
 |.ClassDef _ _ _ body _ _ _ _ _ _ _=>body.getD j (.Pass ⟨0,0,0,0⟩)
 |_=>.Pass ⟨0,0,0,0⟩
def jR(s:Stmt):Arguments:=match s with
 |.FunctionDef _ a _ _ _ _ _ _ _ _=>a
 |_=>{posonlyargs:=[],args:=[],vararg:=none,kwonlyargs:=[],kw_defaults:=[],kwarg:=none,defaults:=[]}
def kH(s:Stmt):List Stmt:=match s with
 |.FunctionDef _ _ b _ _ _ _ _ _ _=>b
 |_=>[]
def oR(s:Stmt):Scope:=match s with
 |.FunctionDef _ _ _ _ _ _ sc _ _ _=>sc
 |_=>{kind:=.function,names:=[],isGenerator:=false,isCoroutine:=false}
abbrev CX0:CXT:=λ_ _ _ _ _ _=>False
abbrev E0:XK:=λ_ _ _=>False
theorem mC{X:Cx}:iF CX0 X E0:=λ_ _ _ _ _ _ _ h=>h.elim
structure Fun(K:Frag)(x qual:Str)(st:Stmt)(f:Addr)(fd:FuncData):Prop where
 ex:∃(oc:Value)(od:Option Addr)(kV doc pm:Value)(an:Option Addr)(cdv ct:Value)(osl:Array (Option Value)),
  fd=PySem.W.fnOf x qual (jR st) (kH st) (oR st) .none kV doc pm an cdv ct/\K.lookup f=some ⟨oc,od,.func fd,osl⟩/\PySem.W.codeIn K cdv qual=true
 kp:PySem.W.keepIn K (.ref f)=true
section
variable {P:Program} {w:World} {K:Frag} {mg:MT} {base:Heap}
theorem Fun.ok{x c:Str}{st:Stmt}{f:Addr}{d:FuncData}{N ps:List Str}{k:Nat}{b:Sp}(F:Fun K x c st f d)(S:nA N ps (oR st))(len:∀vs H Q E,b vs H Q E->vs.length=ps.length)
  (e:∀(cdv:Value)(A:Around)(outer:List Env)(s:Shared)(H:Hp)(vs:List V)(Q:VK)(E:XK),Room k (A.deeper (envOfC c (oR st) s.heap.objs.size f cdv))->b vs H Q E ->
   ∃a,PSs (cxOf CX0 P w K mg base N c (oR st) f cdv A outer s H E).nox (kH st) a/\a {nx:=λ_ H'=>Q .non H',rt:=Q} (jQ N vs) H):FnOk P w K mg base CX0 (k+1) f d ps b:=by
 obtain⟨t,r,kV,o,p,n,cdv,m,l,rfl,i,j⟩:=F.ex;refine Ai i j S len λA outer s H vs Q E hr g=>?_;obtain⟨a,h,q⟩:=e cdv A outer s H vs Q E hr g;exact⟨a,h.nox,q⟩
theorem Fun.binds{x e:Str}{st:Stmt}{f:Addr}{g:FuncData}{ps:List Str}(F:Fun K x e st f g)
  (h:∀(kV c d:Value)(b:Option Addr)(cdv a:Value)(us:LW),us.length=ps.length->bindArgs (PySem.W.fnOf x e (jR st) (kH st) (oR st) .none kV c d b cdv a) ⟨us,[]⟩=pure (ps.zip us)):nZ K g ps []:=by
 obtain⟨m,k,kV,c,d,b,cdv,a,i,rfl,j,l⟩:=F.ex;exact .all (h kV c d b cdv a)
theorem fun_mk{x a:Str}{st:Stmt}{f:Addr}{m:Value}{j d:Option Addr}{i:Array (Option Value)}{kV e g cdv b:Value}(l:K.lookup f=some ⟨m,j,.func (PySem.W.fnOf x a (jR st) (kH st) (oR st) .none kV e g d cdv b),i⟩)
  (c:PySem.W.codeIn K cdv a=true)(k:PySem.W.keepIn K (.ref f)=true):Fun K x a st f (PySem.W.fnOf x a (jR st) (kH st) (oR st) .none kV e g d cdv b):=⟨⟨m,j,kV,e,g,d,cdv,b,i,rfl,l,c⟩,k⟩
end
theorem iH{n:Nat}(h:n<=1000):n<sizeLine:=wX h ∅
section
variable {X:Cx}
theorem pv(i:Nat){x:Str}{b:Pos}(c:X.N[i]?=some x:=by rfl)(a:Vis X.env.scope x:=by first|exact Or.inl rfl|exact Or.inr (Or.inl rfl)|exact Or.inr (Or.inr rfl))(d:(x == ("__debug__" :Str))=false:=by decide)
  (e:(x == ("__classdict__" :Str))=false:=by decide):PE X (.Name x b) (tVar i):=Mf c a d e
end
theorem iteF{A B:Prop}(h:B):if false=true then A else B:=by
 rw[zD zX];exact h
theorem iteT{A B:Prop}(h:A):if true=true then A else B:=by
 rw[zF rfl];exact h
theorem ite2{c A B:Prop}[Decidable c](a:c->A)(b:¬ c->B):if c then A else B:=by
 by_cases h:c
 ·rw[zF h];exact a h
 ·rw[zD h];exact b h
def Same(H H':Hp):Prop:=∀b o,H b=some o->H' b=some o
theorem Same.refl(H:Hp):Same H H:=λ_ _ h=>h
theorem Same.trans{H e d:Hp}(a:Same H e)(b:Same e d):Same H d:=λc o h=>b c o (a c o h)
theorem Same.seq{K:Frag}{H H':Hp}{a:Addr}{xs:List V}(e:Same H H')(h:SqL K H a xs):SqL K H' a xs:=by
 rcases h with(h|⟨o,h⟩)|h
 ·exact .inl (.inl (e _ _ h))
 ·exact .inl (.inr ⟨o,e _ _ h⟩)
 ·exact .inr h
end L2
set_option maxHeartbeats 4000000
namespace L2
open PySem PySem.Spec PyProof.Rows
open PySem.W (Frag)
inductive E1{T0:Type}(P:T0->Prop):Prop
 |mk (x0:T0):P x0->E1 P
inductive E2{T0 T1:Type}(P:T0->T1->Prop):Prop
 |mk (x0:T0) (x1:T1):P x0 x1->E2 P
inductive E3{T0 T1 T2:Type}(P:T0->T1->T2->Prop):Prop
 |mk (x0:T0) (x1:T1) (x2:T2):P x0 x1 x2->E3 P
inductive E4{T0 T1 T2 T3:Type}(P:T0->T1->T2->T3->Prop):Prop
 |mk (x0:T0) (x1:T1) (x2:T2) (x3:T3):P x0 x1 x2 x3->E4 P
inductive E5{T0 T1 T2 T3 T4:Type}(P:T0->T1->T2->T3->T4->Prop):Prop
 |mk (x0:T0) (x1:T1) (x2:T2) (x3:T3) (x4:T4):P x0 x1 x2 x3 x4->E5 P
inductive E6{T0 T1 T2 T3 T4 T5:Type}(P:T0->T1->T2->T3->T4->T5->Prop):Prop
 |mk (x0:T0) (x1:T1) (x2:T2) (x3:T3) (x4:T4) (x5:T5):P x0 x1 x2 x3 x4 x5->E6 P
inductive E7{T0 T1 T2 T3 T4 T5 T6:Type}(P:T0->T1->T2->T3->T4->T5->T6->Prop):Prop
 |mk (x0:T0) (x1:T1) (x2:T2) (x3:T3) (x4:T4) (x5:T5) (x6:T6):P x0 x1 x2 x3 x4 x5 x6->E7 P
inductive E8{T0 T1 T2 T3 T4 T5 T6 T7:Type}(P:T0->T1->T2->T3->T4->T5->T6->T7->Prop):Prop
 |mk (x0:T0) (x1:T1) (x2:T2) (x3:T3) (x4:T4) (x5:T5) (x6:T6) (x7:T7):P x0 x1 x2 x3 x4 x5 x6 x7->E8 P
inductive E9{T0 T1 T2 T3 T4 T5 T6 T7 T8:Type}(P:T0->T1->T2->T3->T4->T5->T6->T7->T8->Prop):Prop
 |mk (x0:T0) (x1:T1) (x2:T2) (x3:T3) (x4:T4) (x5:T5) (x6:T6) (x7:T7) (x8:T8):P x0 x1 x2 x3 x4 x5 x6 x7 x8->E9 P
inductive E10{T0 T1 T2 T3 T4 T5 T6 T7 T8 T9:Type}(P:T0->T1->T2->T3->T4->T5->T6->T7->T8->T9->Prop):Prop
 |mk (x0:T0) (x1:T1) (x2:T2) (x3:T3) (x4:T4) (x5:T5) (x6:T6) (x7:T7) (x8:T8) (x9:T9):P x0 x1 x2 x3 x4 x5 x6 x7 x8 x9->E10 P
inductive E11{T0 T1 T2 T3 T4 T5 T6 T7 T8 T9 T10:Type}(P:T0->T1->T2->T3->T4->T5->T6->T7->T8->T9->T10->Prop):Prop
 |mk (x0:T0) (x1:T1) (x2:T2) (x3:T3) (x4:T4) (x5:T5) (x6:T6) (x7:T7) (x8:T8) (x9:T9) (x10:T10):P x0 x1 x2 x3 x4 x5 x6 x7 x8 x9 x10->E11 P
inductive E13{T0 T1 T2 T3 T4 T5 T6 T7 T8 T9 T10 T11 T12:Type}(P:T0->T1->T2->T3->T4->T5->T6->T7->T8->T9->T10->T11->T12->Prop):Prop
 |mk (x0:T0) (x1:T1) (x2:T2) (x3:T3) (x4:T4) (x5:T5) (x6:T6) (x7:T7) (x8:T8) (x9:T9) (x10:T10) (x11:T11) (x12:T12):P x0 x1 x2 x3 x4 x5 x6 x7 x8 x9 x10 x11 x12->E13 P
inductive A3(a b c:Prop):Prop|mk:a->b->c->A3 a b c
inductive A4(a b c d:Prop):Prop|mk:a->b->c->d->A4 a b c d
inductive A5(a b c d e:Prop):Prop|mk:a->b->c->d->e->A5 a b c d e
inductive A6(a b c d e f:Prop):Prop|mk:a->b->c->d->e->f->A6 a b c d e f
inductive A7(a b c d e f g:Prop):Prop|mk:a->b->c->d->e->f->g->A7 a b c d e f g
inductive A8(a b c d e f g h:Prop):Prop|mk:a->b->c->d->e->f->g->h->A8 a b c d e f g h
inductive A9(a b c d e f g h i:Prop):Prop|mk:a->b->c->d->e->f->g->h->i->A9 a b c d e f g h i
inductive A10(a b c d e f g h i j:Prop):Prop|mk:a->b->c->d->e->f->g->h->i->j->A10 a b c d e f g h i j
inductive A11(a b c d e f g h i j k:Prop):Prop|mk:a->b->c->d->e->f->g->h->i->j->k->A11 a b c d e f g h i j k
inductive A12(a b c d e f g h i j k l:Prop):Prop|mk:a->b->c->d->e->f->g->h->i->j->k->l->A12 a b c d e f g h i j k l
inductive A13(a b c d e f g h i j k l m:Prop):Prop|mk:a->b->c->d->e->f->g->h->i->j->k->l->m->A13 a b c d e f g h i j k l m
inductive A14(a b c d e f g h i j k l m n:Prop):Prop|mk:a->b->c->d->e->f->g->h->i->j->k->l->m->n->A14 a b c d e f g h i j k l m n
inductive A17(a b c d e f g h i j k l m n o p q:Prop):Prop|mk:a->b->c->d->e->f->g->h->i->j->k->l->m->n->o->p->q->A17 a b c d e f g h i j k l m n o p q
def clOf(env:Env):List (Str×NameKind)->List (Str×Addr)->List (Str×Addr)
 |[],cs=>cs
 |(n,k):: r,cs=>clOf env r (if k == .free then(n,(env.cells.lookup n).getD 0):: cs else cs)
theorem Gw{env:Env}{n:Str}{c:Addr}:∀{l:List (Str×NameKind)}{cs:List (Str×Addr)},(∀y∈l,y.2=.free->∃c,env.cells.lookup y.1=some c) ->
  (clOf env l cs).lookup n=some c->cs.lookup n=some c\/env.cells.lookup n=some c
 |[],_,_,h=>.inl h
 | (m,k):: r,cs,hl,h=>by
  have hr:∀y∈r,y.2=.free->∃c,env.cells.lookup y.1=some c:=λy d=>hl y (zO _ d);rcases Gw hr h with q|q
  ·by_cases a:(k == NameKind.free)=true
   ·rw[zF a]at q;obtain⟨f,e⟩:=hl (m,k) zZ (by simpa using a);rw[xG]at q;cases hm:n == m with
    |true =>
     rw[hm]at q;have b:(env.cells.lookup m).getD 0=c:=zW q;have g:n=m:=by simpa using hm
     rw[e]at b;have i:f=c:=b;rw[g,e,i];exact .inr rfl
    |false =>
     rw[hm]at q;exact .inl q
   ·rw[zD a]at q;exact .inl q
  ·exact .inr q
theorem Aa{env:Env}{n:Str}:∀{l:List (Str×NameKind)}{cs:List (Str×Addr)},((n,NameKind.free)∈l\/∃c,cs.lookup n=some c)->∃c,(clOf env l cs).lookup n=some c
 |[],_,h=>by
  rcases h with h|h
  ·simp at h
  ·exact h
 | (m,k):: r,cs,h=>by
  refine Aa (l:=r) ?_
  by_cases a:(n,NameKind.free)∈r
  ·exact .inl a
  ·refine .inr ?_;rcases h with h|⟨c,h⟩
   ·rcases xI.mp h with e|e
    ·cases e;rw[zF ∅];exact⟨(env.cells.lookup n).getD 0,by rw[xG];simp⟩
    ·exact absurd e a
   ·by_cases b:(k == NameKind.free)=true
    ·rw[zF b,xG];cases hm:n == m with
     |true=>exact⟨_,rfl⟩
     |false=>exact⟨c,h⟩
    ·rw[zD b];exact⟨c,h⟩
theorem Gv{b:Scope}{env:Env}(h:∀y∈b.names,y.2=.free->∃c,env.cells.lookup y.1=some c):closureFor b env=pure (clOf env b.names []):=by
 have go:∀(l:List (Str×NameKind))(cs:List (Str×Addr)),(∀y∈l,y.2=.free->∃c,env.cells.lookup y.1=some c) ->
   (forIn l cs (λ(x:Str×NameKind)(r:List (Str×Addr))=>if x.2 == NameKind.free then(do let a ←cellOf env x.1;pure (ForInStep.yield ((x.1,a):: r))) else(pure (ForInStep.yield r):Sem _)):Sem _)=pure (clOf env l cs):=by
  intro l
  induction l with
  |nil=>intro cs _;rfl
  | cons y r f =>
   intro cs hl;obtain⟨n,k⟩:=y;have hr:∀y∈r,y.2=.free->∃c,env.cells.lookup y.1=some c:=λy g=>hl y (zO _ g);rw[uJ]
   by_cases d:(k == NameKind.free)=true
   ·obtain⟨c,e⟩:=hl (n,k) zZ (by simpa using d);have e1:cellOf env n=pure c:=by unfold cellOf;rw[show env.cells.lookup n=some c from e]
    dsimp only;rw[zF d,e1];simp only[pure_bind];rw[f _ hr];show _=pure (clOf env r _);rw[zF d,show env.cells.lookup n=some c from e]
    all_goals rfl
   ·dsimp only;rw[zD d];simp only[pure_bind];rw[f _ hr];show _=pure (clOf env r _);rw[zD d]
 have e:closureFor b env=(forIn b.names ([]:List (Str×Addr)) (λ(x:Str×NameKind)(r:List (Str×Addr))=>if x.2 == NameKind.free then(do let a ←cellOf env x.1;pure (ForInStep.yield ((x.1,a):: r))) else(pure (ForInStep.yield r):Sem _)):Sem _):=by
  unfold closureFor
  first
   |rfl
   |(simp only[bind_pure];rfl)
   |(simp;done)
 rw[e];exact go _ _ h
theorem Gu{env:Env}:∀{b:List (Str×NameKind)}{x:Str},b.lookup x=some .free ->
  (b.map λ(n,k)=>if(k == NameKind.free && env.scope.kind == .function && env.kindOf n == some .cell) then(n,NameKind.cell) else(n,k)).lookup x=some .cell \/
  (b.map λ(n,k)=>if(k == NameKind.free && env.scope.kind == .function && env.kindOf n == some .cell) then(n,NameKind.cell) else(n,k)).lookup x=some .free
 |[],_,h=>by simp at h
 | (n,k):: r,x,h=>by
  have c:=@Gu env r x;cases hx:x == n with
  |true =>
   simp only[List.lookup_cons,hx]at h;cases h
   by_cases a:(NameKind.free == NameKind.free && env.scope.kind == .function && env.kindOf n == some .cell)=true
   ·refine .inl ?_;rw[zK];dsimp only;rw[zF a,xG,hx]
   ·refine .inr ?_;rw[zK];dsimp only;rw[zD a,xG,hx]
  |false =>
   simp only[List.lookup_cons,hx]at h;rw[zK];dsimp only
   by_cases a:(k == NameKind.free && env.scope.kind == .function && env.kindOf n == some .cell)=true
   ·rw[zF a,xG,hx];exact c h
   ·rw[zD a,xG,hx];exact c h
structure u_A(X:Cx)(scope:Scope)(x:Str)(fr:List (Str×Nat)):Prop where
 kind:scope.kind=.function
 cell:∀y∈scope.names,y.2≠.cell
 free:∀y∈scope.names,y.2=.free->X.env.kindOf y.1=some .cell\/X.env.kindOf y.1=some .free
 loc:∀y∈scope.names,y.2=.local->scope.names.lookup y.1=some .local
 name:scope.names.lookup x=some .local
 nd:(x:: fr.map (·.1)).Nodup
 fr:∀p∈fr,X.N[p.2]?=some p.1/\scope.names.lookup p.1=some .free
def mI(fr:List (Str×Nat))(σ:St):St:=fr.map λp=>σ.getD p.2 none
section
variable {X:Cx} {scope:Scope} {x:Str} {fr:List (Str×Nat)}
def Gs(i:Nat)(te:TE):TS:=λD σ H=>te σ H λv H1=>D.nx (σ.set i (some v)) H1
end
theorem nO.there{P:Program}{w:World}{H:Hp}{h:Heap}{a:Addr}{o:HO}(x:nO P w H h a o):∃b,h.get? a=some b:=by
 cases o with
 |lst xs=>obtain⟨_,_,_,_,e⟩:=x;exact⟨_,e⟩
 |tup xs=>obtain⟨_,_,_,b,e,_⟩:=x;exact⟨b,e⟩
 |dK kvs=>obtain⟨_,_,_,_,o,_,_,e,_⟩:=x;exact⟨_,e⟩
 |dT kvs=>obtain⟨_,_,_,_,o,_,_,e,_⟩:=x;exact⟨_,e⟩
 |set S n=>obtain⟨o,_,_,_,e,_⟩:=x;exact⟨_,e⟩
 |ins C c fs=>obtain⟨_,_,_,e,_⟩:=x;exact⟨_,e⟩
 |own y=>exact x
 |xd fs=>obtain⟨_,⟨_,_,_,e,_⟩,_⟩:=x;exact⟨_,e⟩
 |rng lo hi=>obtain⟨_,_,_,e⟩:=x;exact⟨_,e⟩
 |frz b u=>exact⟨_,x.1⟩
 |tbl ps=>exact⟨_,x⟩
 |met f y=>exact⟨_,x⟩
 |ext d=>exact x.2.1
abbrev Cov(fs:LA)(h₀:Heap)(H:Hp)(h B:Heap):Prop:=∀b o,h.get? b=some o->b∉fs->((∃o',h₀.get? b=some o')\/∃u,H b=some u)->B.get? b=some o
def FlyX(X:Cx)(pins:PN)(H:Hp)(e:Addr)(C:Value)(h:Heap):Prop:=∃B a0,Heap.FlyingW B X.stack e C a0 h/\Cov (frs X.stack) X.s₀.heap H h B/\∀p∈X.pn++pins,B.get? p.1=some p.2
def CX1(P:Program)(w:World):CXT:=λouter H s E ev s'=>∃e C H' B a0,ev=.ref e/\s'.os=s.os/\AllBare s'.gens/\Un (frs outer) [] H H' s.heap s'.heap/\HOk P w H' s'.heap /\
 Heap.FlyingW B outer e C a0 s'.heap/\Cov (frs outer) s.heap H' s'.heap B/\E C none H'
abbrev XE:=St->Value->Hp->Prop
def fP(X:Cx)(EX:XE):Prop:=∀(pins:PN)(σ:St)(H:Hp)(s:Shared)(e:Addr)(C:Value),Inv X pins σ H s->FlyX X pins H e C s.heap->EX σ C H->X.xe (.ref e) s
def Gr(X:Cx)(EX:XE):Prop:=∀(pins:PN)(σ:St)(H:Hp)(s:Shared)(h':Heap)(e:Addr)(C:Value)(vs:LW),Inv X pins σ H s->Heap.MadeExcOf s.heap h' e C vs->EX σ C H->X.xe (.ref e) {s with heap:=h'}
theorem bJ{X:Cx}{D:PN}{C:St}{H:Hp}{s:Shared}{g B:Heap}(I:Inv X D C H s)(J:X.stack=X.env:: X.outer)(K:X.env.frame=some X.env.locals)(F:X.ex=[])
  (stay:B.StaysIn g)(sm:s.heap.UpToSlots g)(t:Cov (frs X.stack) X.s₀.heap H s.heap B):
  Un X.fs [] X.H₀ H X.s₀.heap g/\HOk X.prog X.w H g/\Cov X.fs X.s₀.heap H g B:=by
 have u:=I.base;rw[F]at u;have G:frs X.stack=X.env.locals:: X.fs:=by
  rw[J];unfold frs;rw[tP,K];rfl
 have l:∀b o,X.s₀.heap.get? b=some o->b∉X.fs->b∉frs X.stack:=λb o e c m=>by
  rw[G]at m;rcases xI.mp m with z|z
  ·exact absurd (zJ (zL e) I.ok.above) (by rw[z];exact xC _)
  ·exact c z
 have trk:∀b v,H b=some v->b∉frs X.stack:=λb v e m=>by
  have:=I.stkFree b m;rw[e]at this;cases this
 have j:∀b o,s.heap.get? b=some o->b∉frs X.stack->((∃f,X.s₀.heap.get? b=some f)\/∃v,H b=some v)->g.get? b=some o:=λb o e c r=>stay b o (t b o e c r);have y:∀b,b∈X.fs->∀o,s.heap.get? b=some o->∃p,g.get? b=some {o with slots:=p}:=λb c o e=>by
  obtain⟨_,f,d,L⟩:=I.funs.mem c;rw[e]at d;cases d;exact sm b o e L
 refine⟨⟨λb o e n c k=>?_,λb o e n c k=>?_,u.free,λb o e k=>?_,u.tups,u.frzs,u.tbls⟩,λa o w=>?_,λb o e c r=>?_⟩
 ·exact j b o (u.keep b o e n c k) (l b o e c) (.inl ⟨o,e⟩)
 ·obtain⟨p,e1⟩:=u.slot b o e n c k;obtain⟨M,x⟩:=y b c _ e1;exact⟨M,x⟩
 ·obtain⟨i,e1⟩:=u.there b o e k
  by_cases c:b∈X.fs
  ·obtain⟨p,x⟩:=y b c _ e1;exact⟨_,x⟩
  ·exact⟨i,j b i e1 (l b o e c) (.inl ⟨o,e⟩)⟩
 ·refine(I.hok a o w).stay (λb v c q=>?_) (λ_ q=>q) λ_ _ q=>q;rcases c with c|c
  ·subst c;exact j b v q (trk b o w) (.inr ⟨o,w⟩)
  ·exact j b v q (trk b _ c) (.inr ⟨_,c⟩)
 ·rcases r with⟨f,d⟩|⟨v,d⟩
  ·obtain⟨i,e1⟩:=u.there b f d (by simp);have q:=j b i e1 (l b f d c) (.inl ⟨f,d⟩);rw[e]at q;cases q;exact t b o e1 (l b f d c) (.inl ⟨f,d⟩)
  ·obtain⟨i,e1⟩:=(I.hok b v d).there;have q:=j b i e1 (trk b v d) (.inr ⟨v,d⟩);rw[e]at q;cases q;exact t b o e1 (trk b v d) (.inr ⟨v,d⟩)
section
variable {P:Program} {w:World} {K:Frag} {mg:MT} {base:Heap} {N:List Str} {qual:Str} {scope:Scope} {f:Addr} {cd:Value} {A:Around} {outer:List Env} {s₀:Shared} {H₀:Hp} {E:XK}
theorem Pi:fP (cxOf (CX1 P w) P w K mg base N qual scope f cd A outer s₀ H₀ E) (λ_ C H=>E C none H):=by
 intro i g H s e C I F c;obtain⟨B,a0,fl,b,_⟩:=F;refine wpAny_leaves_onW I.ok.frames rfl fl λj a sm=>?_;obtain⟨un,ok,d⟩:=bJ I rfl rfl rfl a.1 sm b;exact⟨e,C,H,B,a0,rfl,I.os,I.bare,un,ok,a,d,c⟩
theorem fQ:Gr (cxOf (CX1 P w) P w K mg base N qual scope f cd A outer s₀ H₀ E) (λ_ C H=>E C none H):=by
 intro p n H s h' e C vs I M j;have d:=I.stack;have l:=PySem.W.funFrames_hide (as:=frs (cxOf (CX1 P w) P w K mg base N qual scope f cd A outer s₀ H₀ E).stack) d (λenv k a i=>oE.mpr ⟨env,k,i⟩);refine wpAny_leaves_madeW (s:={s with heap:=h'}) (h:=s.heap) I.ok.frames rfl (λb o q=>rZ _ q) l M λr t c _ _ sm=>?_;obtain⟨un,ok,m⟩:=bJ I rfl rfl rfl c.1 ((Heap.UpToSlots.of_keeps M.keeps).trans sm) λb o q g _=>rQ _ q g;exact⟨e,C,H,_,_,rfl,I.os,I.bare,un,ok,c,m,j⟩
end
section
variable {X:Cx} {EX:XE} {k:Nat} {f:Addr} {fd:FuncData} {ps:List Str} {sp:Sp} {dvs:List V} {ds:LW} {x:Str} {p pos:Pos} {e:Expr} {es:List Expr} {t:TA}
def Ph(sp:Sp)(dvs:List V)(EX:XE)(t:TA):TE:=λσ H Q=>t σ H λvs H1=>sp (vs++dvs) H1 Q λC _ H'=>EX σ C H'
theorem Pg{d:PN}{a:St}{H:Hp}{s:Shared}{Q:VK}{us:LW}{vs:List V}(F:FnOk X.prog X.w X.K X.mg X.base (CX1 X.prog X.w) k f fd ps sp)(hr:Room k X.A)(g:nZ X.K fd ps ds)(y:Vals dvs ds)(G:fP X EX)
  (w:X.ex=[])(I:Inv X d a H s)(r:Vals vs us)(h:sp (vs++dvs) H Q λC _ H'=>EX a C H'):wpAny (model X.prog X.w) X.A (call (.ref f) us) (EP X d a Q) X.xe s:=by
 have r2:Vals (vs++dvs) (us++ds):=r.append y;have hl:(us++ds).length=ps.length:=by rw[←r2.length];exact F.len _ _ _ _ h
 refine tI (uV (F.run X.A X.stack s H ⟨us,[]⟩ (us++ds) (vs++dvs) Q _ hr I.env0 (g s us I.kIn hl) r2 h) λr l c=>?_);cases r with
 | error S =>
  obtain⟨e,C,H',B,a0,rfl,K,D,un,ok,fl,n,q⟩:=c;have m:Inv X d a H' l:=I.call' K un ok D λb z=>absurd z (by simp);refine G d a H' l e C m ⟨B,a0,fl,λb o e1 g i=>n b o e1 g ?_,λp j=>?_⟩ q
  ·rcases i with⟨v,J⟩|i
   ·obtain⟨M,N⟩:=I.base.there b v J (by rw[w];simp);exact .inl ⟨M,N⟩
   ·exact .inr i
  ·obtain⟨e1,R,P,L,_⟩:=m.pin p j;refine n p.1 p.2 e1 (λO=>?_) (.inl ⟨_,(I.pin p j).1⟩);rcases xI.mp (I.stkSub p.1 O) with z|z
   ·exact P z
   ·exact L z
 |ok fl =>
  cases fl with
  |ret u=>exact I.after c
  |next=>exact False.elim c
  |brk=>exact False.elim c
  |cont=>exact False.elim c
theorem Pf(F:FnOk X.prog X.w X.K X.mg X.base (CX1 X.prog X.w) k f fd ps sp)(hr:Room k X.A)(b:Gl X x)(n:X.mg x=some (.ref f))(l:PySem.W.keepIn X.K (.ref f)=true)(d:nZ X.K fd ps ds)(v:Vals dvs ds)(i:fP X EX)
  (m:PA X (e:: es) t)(u:X.ex=[]:=by rfl)(j:(x == ("__debug__" :Str))=false:=by decide)(o:starEach (e:: es) X.env=(false,eval e X.env):: starEach es X.env:=by rfl)(w:(backTo pos (starEach es X.env)).any (·.1)=false:=by rfl):
  PE X (.Call (.Name x p) (e:: es) [] pos) (Ph sp dvs EX t):=by
 intro g s c H Q I h;refine wI (iC I b n ?_ j);refine uH (h₀:=X.base) I.ok.mod.kin l (thn (m pos g s c H _ I h) λus y⟨vs,z,a,r,q⟩=>⟨a.kIn,?_⟩) o w;exact Pg F hr d v i u a r q
theorem fR{P:Program}{w:World}{Y:Cx}:iF (CX1 P w) Y E0:=λ_ _ _ _ _ _ _ h=>by
 obtain⟨_,_,_,_,_,_,_,_,_,_,_,_,q⟩:=h;exact q.elim
end
theorem Pe{K:Frag}{h:Heap}{C:Addr}{f:LW}{newId:String}(KX:K.In h)(a:PySem.W.excIn K C f newId=true):
  ∃bm N nm c bs b sn sub ab col dd k0 k1 k2 k3 k5 mN,h.get? C=some (excClassObj nm c C N bs bm b sn sub ab col dd k0 k1 k2 k3 k5 newId)/\h.Ns N mN/\mN "__init__"=none/\OwnTail h f bm:=by
 revert a
 unfold PySem.W.excIn;split
 ·next dd j e t =>
  split
  ·next q bm k0 k1 k2 k3 i k5 o es =>
   intro a;simp only[Bool.and_eq_true,beq_iff_eq,Bool.not_eq_true']at a;obtain⟨⟨⟨⟨⟨e1,v⟩,r⟩,g⟩,d⟩,u⟩:=a;subst e1 v;cases j with
   | mk nm bs w ns c b sn sub ab col n =>
    have p:w=Value.ref q:: bm:=o;have k:n=false:=r;subst p k;have m:e=#[k0,k1,k2,k3,some (Value.builtin i),k5]:=by
     cases e with
     |mk l=>exact wH Array.mk es
    subst m;exact⟨bm,ns,nm,c,bs,b,sn,sub,ab,col,dd,k0,k1,k2,k3,k5,_,KX _ _ t,pF (qB KX d),PySem.W.nsMap_none_of_in KX d u,PySem.W.tail_of_in KX g⟩
  ·intro z;cases z
 ·intro z;cases z
section
variable {X:Cx} {EX:XE} {C:Addr} {x:Str} {np cpos pos:Pos} {e₀:Expr} {rest:List Expr} {t:TA} {bmB:LW} {B newId initId:String}
def iI(C:Addr)(EX:XE)(t:TA):TS:=λ_ σ H=>t σ H λvs H1=>vs.length<=sizeLine/\EX σ (.ref C) H1
theorem fS(p:X.calm=true)(o:Gr X EX)(m:Gl X x)(K:X.mg x=some (.ref C))(n:PySem.W.excIn X.K C bmB newId=true)(c:ExcBaseFacts B newId initId bmB)(F:PA X (e₀:: rest) t)
  (i:(x == ("__debug__" :Str))=false:=by decide)(f:starEach (e₀:: rest) X.env=(false,eval e₀ X.env):: starEach rest X.env:=by rfl)(l:(backTo cpos (starEach rest X.env)).any (·.1)=false:=by rfl):
  PS X (.Raise (some (.Call (.Name x np) (e₀:: rest) [] cpos)) none pos) (iI C EX t):=by
 intro d s b H D I h;obtain⟨bm,N,nm,q,bs,k,sn,sub,ab,col,dd,k0,k1,k2,k3,k5,mN,G,v,j,T⟩:=Pe I.mod.kin n;have y:(backTo cpos (starEach (e₀:: rest) X.env)).any (·.1)=false:=by
  rw[f];show(false || (backTo cpos (starEach rest X.env)).any (·.1))=false;rw[l];rfl
 refine wpAny_Raise_call_subT (C:=C) (nm:=nm) (q:=q) (N:=N) (bs:=bs) (bm:=bm) (hdct:=k) (sn:=sn) (sub:=sub) (ab:=ab) (col:=col) (dd:=dd) (k0:=k0) (k1:=k1) (k2:=k2) (k3:=k3) (k5:=k5) c (mN:=mN) (T.hasType c.hasBase) (I.ok.hd p) y j
  (iC I m K ⟨rfl,?_⟩ i)
 have g:=F cpos d s b H _ I h;rw[f]at g ⊢;refine vU (thn g λus J⟨vs,u,a,r,z,w⟩=>⟨rfl,?_,a.bk _ _ G,v.keeps a.bk,T.keeps a.bk,λh' e M=>o d b u J h' e _ us a M w⟩);show us.length<=sizeLine;rw[←r.length];exact z
end
section
variable {X:Cx} {pins:PN} {σ:St} {H:Hp} {s:Shared}
theorem Inv.flown{h' B:Heap}(I:Inv X pins σ H s)(t:X.stack=X.env:: X.outer)(y:X.env.frame=some X.env.locals)(f:X.ex=[])(stay:B.StaysIn h')(sm:s.heap.UpToSlots h')(n:Cov (frs X.stack) X.s₀.heap H s.heap B)
  (C:∀p∈X.pn++pins,B.get? p.1=some p.2):Inv X pins σ H {s with heap:=h'}:=by
 obtain⟨un,ok,_⟩:=bJ I t y f stay sm n;have a:∀c v,s.heap.IsCell c v->h'.IsCell c v:=λc v⟨o,e,d⟩=>by
  obtain⟨D,j⟩:=sm c o e λvs z=>by rw[d]at z;cases z
  exact⟨_,j,d⟩
 refine⟨I.ok,I.os,I.bare,by rw[f];exact un,?_,λx c e=>?_,I.free,I.freeC,λp b=>?_,ok,I.len⟩
 ·obtain⟨m,g,hl⟩:=I.loc;refine⟨m,sm.ns g,λi x v e1 q w=>?_⟩;obtain⟨u,r,l⟩:=hl i x v e1 q w;refine⟨u,r,?_⟩;rcases l with l|⟨k,c,e,z⟩
  ·exact .inl l
  ·exact .inr ⟨k,c,e,a c _ z⟩
 ·obtain⟨v,z⟩:=I.cell x c e;exact⟨v,a c v z⟩
 ·obtain⟨_,r⟩:=I.pin p b;exact⟨stay _ _ (C p b),r⟩
def Gq(e:Addr)(C:Value):HO:=.ext λh=>∃o,h.get? e=some o/\o.cls=C
end
abbrev Cx.body(X:Cx)(pn:PN)(E:VP):Cx:={X with pn:=pn,xe:=E}
abbrev Cx.suite(X:Cx)(e:Addr):Cx:={X with A:=X.A.mark (some (.ref e)),calm:=false,xe:=λ_ _=>False}
section
variable {X:Cx} {pins pins':PN} {σ:St} {H:Hp} {s:Shared} {E:VP} {e:Addr}
theorem Inv.intry(I:Inv X pins σ H s):Inv (X.body (X.pn++pins) E) [] σ H s:=
 ⟨⟨I.ok.mod,I.ok.kind,I.ok.glob,I.ok.blt,I.ok.above,I.ok.inj,I.ok.has,I.ok.cab,I.ok.hd,I.ok.frames,I.ok.stk,I.ok.exf,I.ok.bs,I.ok.bsz,I.ok.noex,I.ok.exfs,I.ok.funs,I.ok.frf⟩,
  I.os,I.bare,I.base,I.loc,I.cell,I.free,I.freeC,λp a=>I.pin p (by simpa using a),I.hok,I.len⟩
theorem Inv.offtry(I:Inv (X.body (X.pn++pins) E) pins' σ H s):Inv X pins σ H s:=
 ⟨⟨I.ok.mod,I.ok.kind,I.ok.glob,I.ok.blt,I.ok.above,I.ok.inj,I.ok.has,I.ok.cab,I.ok.hd,I.ok.frames,I.ok.stk,I.ok.exf,I.ok.bs,I.ok.bsz,I.ok.noex,I.ok.exfs,I.ok.funs,I.ok.frf⟩,
  I.os,I.bare,I.base,I.loc,I.cell,I.free,I.freeC,λp a=>I.pin p (xU _ a),I.hok,I.len⟩
theorem Inv.insuite(I:Inv X pins σ H s):Inv (X.suite e) pins σ H s:=
 ⟨⟨I.ok.mod,I.ok.kind,I.ok.glob,I.ok.blt,I.ok.above,I.ok.inj,I.ok.has,I.ok.cab,(λz=>by cases z),I.ok.frames,I.ok.stk,I.ok.exf,I.ok.bs,I.ok.bsz,I.ok.noex,I.ok.exfs,I.ok.funs,I.ok.frf⟩,
  I.os,I.bare,I.base,I.loc,I.cell,I.free,I.freeC,I.pin,I.hok,I.len⟩
theorem Inv.offsuite(I:Inv (X.suite e) pins σ H s)(ok:X.Ok):Inv X pins σ H s:=
 ⟨ok,I.os,I.bare,I.base,I.loc,I.cell,I.free,I.freeC,I.pin,I.hok,I.len⟩
theorem SP.offtry{D:Ends}{f:Flow}(h:SP (X.body (X.pn++pins) E) [] D f s):SP X pins D f s:=by
 cases f with
 |next=>obtain⟨a,H',b,q⟩:=h;exact⟨a,H',b.offtry,q⟩
 |brk=>obtain⟨a,H',b,q⟩:=h;exact⟨a,H',b.offtry,q⟩
 |cont=>obtain⟨a,H',b,q⟩:=h;exact⟨a,H',b.offtry,q⟩
 |ret u=>obtain⟨v,a,H',b,r,q⟩:=h;exact⟨v,a,H',b.offtry,r,q⟩
end
section
variable {X:Cx}
theorem nR:OpR X (binaryOp .Mult) (rI (λi j=>IntMulOk i j) λi j=>.int (i*j)):=opI λ_ _ _ _ _ _ _ a q=>mul_int q a
def iY(_ j:Int):Prop:=j≠0/\j.natAbs.log2<9000
theorem iZ:OpR X (binaryOp .FloorDiv) (rI iY λi j=>.int (i.fdiv j)):=opI λ_ _ _ _ _ _ _ a q=>floordiv_int a.1 q (.inl (PyProof.noPylong_of_log2 a.2))
end
mutual
inductive Dt(K:Frag)(H:Hp):V->PyData->Prop
 |non:Dt K H .non .none
 |bl (b):Dt K H (.bl b) (.bool b)
 |int (i):Dt K H (.int i) (.int i)
 |str (x):Dt K H (.str x) (.str x)
 |lst {a xs ds}:SqL K H a xs->Dts K H xs ds->Dt K H (.ref a) (.list ds)
 |tup {a xs ds}:SqT K H a xs->Dts K H xs ds->Dt K H (.ref a) (.tuple ds)
inductive Dts(K:Frag)(H:Hp):List V->List PyData->Prop
 |nil:Dts K H [] []
 |cons {x xs d ds}:Dt K H x d->Dts K H xs ds->Dts K H (x:: xs) (d:: ds)
end
theorem Dts.ints{K:Frag}{H:Hp}:∀(ns:LI'),Dts K H (ns.map V.int) (ns.map PyData.int)
 |[]=>.nil
 |n:: r=>.cons (.int n) (Dts.ints r)
section
variable {X:Cx} {pins:PN} {σ:St} {H:Hp} {s:Shared}
mutual
theorem Dt.reads(I:Inv X pins σ H s):∀{x:V}{d:PyData}{u:Value},Dt X.K H x d->RelV x u->∃as,Reads s.heap u d as
 |_,_,_,.non,r=>by cases(show _=Value.none from r);exact⟨_,.none⟩
 |_,_,_,.bl b,r=>by cases(show _=Value.bool b from r);exact⟨_,.bool b⟩
 |_,_,_,.int i,r=>by obtain⟨f,e⟩:=(show∃f,_=Value.int i f from r);cases e;exact⟨_,.int i f⟩
 |_,_,_,.str x,r=>by obtain⟨f,e⟩:=(show∃f,_=Value.str x f from r);cases e;exact⟨_,.str x f⟩
 |_,_,_,.lst (a:=a) h g,r=>by
  cases(show _=Value.ref a from r);obtain⟨its,j,⟨o,n,e,c,_,dd⟩,_⟩:=I.list h;obtain⟨as,q⟩:=Dts.reads I g j;exact⟨_,.list e c dd (by simpa using q)⟩
 |_,_,_,.tup (a:=a) h g,r=>by
  cases(show _=Value.ref a from r);obtain⟨its,j,⟨o,e,c,n,dd⟩,_⟩:=I.tuple h;obtain⟨as,q⟩:=Dts.reads I g j;exact⟨_,.tuple e c dd (by simpa using q)⟩
theorem Dts.reads(I:Inv X pins σ H s):∀{xs:List V}{ds:List PyData}{us:LW},Dts X.K H xs ds->Vals xs us->∃as,ReadsAll s.heap us ds as
 |_,_,_,.nil,r=>by cases r;exact⟨_,.nil⟩
 | _,_,_,.cons h a,r=>by
  cases r with
  |cons r1 r2 =>
   obtain⟨as,c⟩:=Dt.reads I h r1;obtain⟨bs,b⟩:=Dts.reads I a r2;exact⟨_,.cons c b⟩
end
end
section
variable {X:Cx}
def rEqD(K:Frag):R2:=λx y H Q=>∃d d',Dt K H x d/\Dt K H y d'/\SeqAt.shaped d=true/\SeqAt.shaped d'=true/\SeqAt.noMix d d'=true/\Q (.bl (same d d')) H
def rNeD(K:Frag):R2:=λx y H Q=>∃d d',Dt K H x d/\Dt K H y d'/\SeqAt.shaped d=true/\SeqAt.shaped d'=true/\SeqAt.noMix d d'=true/\Q (.bl (!same d d')) H
theorem dP(i:X.A.units+64<cLine):OpR X (compareOp .Eq) (rEqD X.K):=by
 intro l s k H x y v u Q I a e h;obtain⟨d,d',g,j,b,f,c,q⟩:=h;obtain⟨as,r1⟩:=g.reads I a;obtain⟨bs,r2⟩:=j.reads I e;exact eq_dataH_same r1 r2 b f i c ⟨.bl (same d d'),H,I,rfl,q⟩
theorem gS(i:X.A.units+64<cLine):OpR X (compareOp .NotEq) (rNeD X.K):=by
 intro l s k H x y v u Q I a e h;obtain⟨d,d',g,j,b,f,c,q⟩:=h;obtain⟨as,r1⟩:=g.reads I a;obtain⟨bs,r2⟩:=j.reads I e;exact ne_dataH_same r1 r2 b f i c ⟨.bl (!same d d'),H,I,rfl,q⟩
end
structure Bz(K:Frag)(C:Addr):Prop where
 ga:PySem.W.findIn K (.ref C) "__getattribute__"=some (some (.builtin "BaseException.__getattribute__"))
 gt:PySem.W.findIn K (.ref C) "__getattr__"=some none
 ca:PySem.W.findIn K (.ref C) "__class__"=some (some (.builtin "object.__class__"))
 cg:PySem.W.specialIn K (.builtin "object.__class__") "__get__"=some (some (.builtin "getset_descriptor.__get__"))
 tk:PySem.W.takesIn K (.builtin "object.__class__")=some true
 ob:PySem.W.mroIn K C (.type "object")=some true
 bx:PySem.W.mroIn K C (.type "BaseException")=some true
 cl:(PySem.W.clsIn K C).isSome=true
theorem Pd{prog:Program}{w:World}{A:Around}{E:VP}{s:Shared}{K:Frag}{x C:Addr}{Q:Option Value->Shared->Prop}(F:Bz K C)(KX:K.In s.heap)(a:∃o,s.heap.get? x=some o/\o.cls=.ref C)
  (h:Q (some (.ref C)) {s with toks:=s.toks+1}):wpAny (model prog w) A (getAttr? (.ref x) "__class__") Q E s:=by
 obtain⟨hh,g,d,e,y⟩:=s;obtain⟨o,a,c⟩:=a;have b:PySem.W.Looks (model prog w) hh (typeOf (.ref x)) (.ref C):=c ▸ (qR a).andThen .now;have n:=vS (M:=model prog w) KX F.ga;have u:=vS (M:=model prog w) KX F.gt;have i:=vS (M:=model prog w) KX F.ca;have m:=PySem.W.looks_specialIn (M:=model prog w) KX F.cg;have t:=PySem.W.looks_takesIn (M:=model prog w) KX F.tk;have p:=rP (M:=model prog w) KX F.ob;have r:=rP (M:=model prog w) KX F.bx;unfold getAttr? getAttrBy? getAttrBy;refine zA (wpAny_mkText (zA (vP (xB (zA (b.at (zA (n.at ?_))))))));show wpAny _ _ (getAttrByItsOwn _ _ _ _ _ _) _ _ _;unfold getAttrByItsOwn;refine zA (show wpAny _ _ (hookBefore (.ref C)) _ _ _ from u.at ?_);refine zA (vP (xB ?_));show wpAny _ _ (boundAndCalled _ _ _) _ _ _;unfold boundAndCalled;rw[PySem.F.attr_ValueError.ga.bind (.ref x)];refine zA (zB (tI ?_));refine tJ PySem.F.attr_ValueError.ga.plain PySem.F.entry_bexc_ga ?_;have l:builtinKind "BaseException.__getattribute__"=some .slot:=nofun
 have f:splitId "BaseException.__getattribute__"=some ("BaseException","__getattribute__"):=nofun
 have v:=PySem.F.args_bexc_ga (.ref x) (.str "__class__" e);have k:PySem.W.Looks (model prog w) hh (isInstance (.ref x) (.type "BaseException")) true:=b.andThen r;show wpAny _ _ (checkBuiltinCall "BaseException.__getattribute__" ⟨[.ref x,.str "__class__" e],[]⟩) _ _ _;simp only[checkBuiltinCall,l,f];refine zA (k.at ?_)
 repeat wp_step
 rw[c];refine i.at ?_;refine zA (show wpAny _ _ (Builtin.ObjectAttr.getOf (some (.builtin "object.__class__"))) _ _ _ from m.at ?_);have j:PySem.W.Looks (model prog w) hh (Builtin.ObjectAttr.dataDescriptor? (some (.builtin "object.__class__")) (some (.builtin "getset_descriptor.__get__"))) (some (.builtin "getset_descriptor.__get__",.builtin "object.__class__")):=t.andThen .now;refine zA (j.at ?_)
 repeat wp_step
 have q:PySem.W.Looks (model prog w) hh (isInstance (.ref x) (.type "object")) true:=b.andThen p;refine tJ PySem.W.KF.slot_gs.plain PySem.W.KF.entry_gs (PySem.W.KF.slot_gs.check _ _ _ _ _ _ _ _ PySem.W.KF.type_class (PySem.W.KF.args_gs _ _ _) ?_)
 (unfold Builtin.«getset_descriptor.__get__» Builtin.Getset_descriptor.descrGet;rw[PySem.W.dga_obj];refine zA (zB ?_))
 (unfold Builtin.Getset_descriptor.descrGetter Builtin.Getset_descriptor.descrCheckInstance Builtin.Getset_descriptor.descrNameAndClass;simp only[PySem.W.KF.owner_class])
 refine zA (zA (zB (zA (q.at (zB ?_)))))
 repeat wp_step
 refine⟨rX _ (nofun),tV PySem.W.KF.entry_class ?_⟩
 (unfold Builtin.«object.__class__» shownTypeOf;repeat wp_step)
 rw[c];exact zB (zB h)
theorem Pc{K:Frag}{x C:Addr}(F:Bz K C):PySem.W.KitX K (.ref x) (.ref C) (λh=>∃o,h.get? x=some o/\o.cls=.ref C) where
 ty:=λM h _⟨o,d,f⟩=>f ▸ (qR d).andThen .now
 it:=λM h KX _=>by
  have q:=F.cl;unfold PySem.W.clsIn at q;split at q
  ·next a =>
   intro i j l r k z
   (unfold isType loadHead;exact zA (pN (k _ _ (KX _ _ a)) (zB z)))
  ·cases q
 ne:=λh c dd its n m KX b=>by
  have q:=F.cl;refine oF.mpr λz=>?_;have e:C=c:=Value.ref.inj (pW.mp z);subst e;unfold PySem.W.clsIn at q;split at q
  ·next a=>exact absurd ((KX _ _ a).symm.trans b) (by intro g;cases g)
  ·cases q
 ca:=λKX p k=>Pd F KX p k
inductive TyX(K:Frag)(H:Hp):V->Value->Prop where
 |ty {x:V} {t:Value} (h:TyOf K H x t):TyX K H x t
 |exc {e C:Addr} (h:H e=some (Gq e (.ref C))) (F:Bz K C):TyX K H (.ref e) (.ref C)
 |tupS {a:Addr} {xs:List V} (h:SqT K H a xs):TyX K H (.ref a) (.type "tuple")
def clsV:V->Value
 |.ty n=>.type n
 |.ref a=>.ref a
 |_=>.none
def Pb:V->Bool
 |.ty _=>true
 |.ref _=>true
 |_=>false
def rIsi(K:Frag):List V->Hp->VK->Prop:=λvs H Q=>∃x c t b,vs=[x,c]/\TyX K H x t/\Pb c=true/\PySem.W.kitOne K t (clsV c)=some b/\Q (.bl b) H
theorem Gp{X:Cx}:lK X (.builtin "isinstance") (rIsi X.K):=by
 intro g s d H xs us Q I i h;obtain⟨x,c,n,b,rfl,ty,f,e,q⟩:=h;obtain⟨u,w,rfl,r1,r2⟩:=i.two;have l:w=clsV c:=by
  cases c <;> first|exact r2|cases f
 subst l;have a:∀tk,EP X g d Q (.bool b) {s with toks:=tk}:=λtk=>⟨.bl b,H,I.tok tk,rfl,q⟩;cases ty with
 |ty h=>exact Ox I r1 h e a
 |exc h F =>
  obtain rfl:u=_:=r1;obtain⟨j,_,_⟩:=(show nO X.prog X.w H s.heap _ (Gq _ _) from I.hok _ _ h);exact xM (Pc F) I.kIn j e (λz=>nomatch z) a
 |tupS h =>
  obtain rfl:u=_:=r1;obtain⟨its,_,⟨o,k,m,_⟩,_⟩:=I.tuple h;exact xM PySem.W.kitx_tuple I.kIn ⟨o,k,m⟩ e (λz=>nomatch z) a
structure Pa(k:Nat)(A:Around):Prop where
 dp:A.depth+3*k+5<recursionLimit
 un:A.units+16*k+200<cLine
structure u_B(P:Program)(w:World)(K:Frag)(mg:MT)(base:Heap)(k:Nat)(f:Addr)(fd:FuncData)(ps:List Str)(sp:Sp):Prop where
 len:∀vs H Q E,sp vs H Q E->vs.length=ps.length
 run:∀(A:Around)(outer:List Env)(s:Shared)(H:Hp)(args:Args)(us:LW)(vs:List V)(Q:VK)(E:XK),Pa k A->Env0 P w K mg base A outer s H->BindsTo s fd args (ps.zip us)->Vals vs us->sp vs H Q E ->
  codeAny (model P w) A (.call (.ref f) args) (CR CX0 outer P w H s Q E) s
section
variable {X:Cx}
theorem lG:OpR X (compareOp .Eq) (rI0 λi j=>.bl (decide (i=j))):=opB0 λi j _ _ _ _ _ q=>eq_int (by rw[Bool.beq_eq_decide_eq];exact q)
theorem hJ:OpR X (compareOp .NotEq) (rI0 λi j=>.bl (!decide (i=j))):=opB0 λi j _ _ _ _ _ q=>ne_int (by rw[bne,Bool.beq_eq_decide_eq];exact q)
theorem PS.nox{st:Stmt}{a:TS}(h:PS X.nox st a):PS X st a:=λd s c H D I b =>
 yU (h d s c H D (I.wish _) b) (λ_ _ q=>q.unwish) λ_ _ z=>z.elim
end
section
variable {P:Program} {w:World} {K:Frag} {mg:MT} {base:Heap}
theorem Fun.okX{x b:Str}{st:Stmt}{f:Addr}{c:FuncData}{N ps:List Str}{k:Nat}{a:Sp}(F:Fun K x b st f c)(S:nA N ps (oR st))(len:∀vs H Q E,a vs H Q E->vs.length=ps.length)
  (e:∀(cdv:Value)(A:Around)(outer:List Env)(s:Shared)(H:Hp)(vs:List V)(Q:VK)(E:XK),Room k (A.deeper (envOfC b (oR st) s.heap.objs.size f cdv))->a vs H Q E ->
   ∃d,PSs (cxOf (CX1 P w) P w K mg base N b (oR st) f cdv A outer s H E) (kH st) d/\d {nx:=λ_ H'=>Q .non H',rt:=Q} (jQ N vs) H):FnOk P w K mg base (CX1 P w) (k+1) f c ps a:=by
 obtain⟨r,q,kV,o,p,n,cdv,m,l,rfl,i,j⟩:=F.ex;exact Ai i j S len λA outer s H vs Q E hr g=>e cdv A outer s H vs Q E hr g
end
end L2
namespace Att
open PySem PySem.W PySem.Calls PyProof.Rows
theorem Go:∀ns:LI',ofPys (ns.map PyData.int)=ns.map WData.int
 |[]=>rfl
 |n:: r=>by
  show ofPy (.int n):: ofPys (r.map PyData.int)=_;rw[Go r];rfl
theorem Qz{ns:LI'}(h:(WData.list (ns.map WData.int)).layable=true):∀n∈ns,Builtin.Int.intBits n<=1048576:=λn a=>by
 have e:ofPy (.list (ns.map PyData.int))=WData.list (ns.map WData.int):=by
  show WData.list (ofPys (ns.map PyData.int))=_;rw[Go]
 have b:PySem.Spec.Shape.has (.list .int) (.list (ns.map PyData.int))=true:=by
  simp[PySem.Spec.Shape.has]
 exact intBits_le_of_item a (layable0_of_all (lay0_ofPy (s:=.list .int) rfl b (by rw[e];exact h)))
theorem attach_callB{l:OpenLaw}{n:Nat}{q:Program}{u:List Str}{p:(MT)->Heap->Prop}{t:World->Heap->Prop}{d:DefRec}(v:l.most=some n)(N:d.params.defaults=[])
  (call:∀(w:World)(i b:Shared)(c j:MT)(e:Addr)(a:Addr)(vs:LW)(ns:LI'),Ground q u [] p w i c j b.heap->t w b.heap->c d.name=some (.ref e) ->
   b.heap.get? a=some {cls:=.type "list",data:=.seq vs.toArray}->IntsAre vs ns->ns.length<=n->(∀m∈ns,Builtin.Int.intBits m<=1048576)->b.gens=#[] ->
   codeAny (model l.prog w) callerA (.call (.ref e) ⟨[.ref a],[]⟩) (λr g=>r=.ok (.ret (.bool true))/\OldK b.heap g.heap/\g.os=b.os/\AllBare g.gens) b):
  WalkO q u p t l.row.toRowW d [] (λf vs=>PySem.call f vs):=by
 intro w i b c j K I e o X V a0 L kV W Y Z k M C U vals as P G a1 T a2;obtain rfl:L=.none:=Dflts.none k N;obtain rfl:kV=.none:=Dflts.noKw k;obtain⟨a,vs,ns,rfl,rfl,O,y,J⟩:=Pl v P T;have x:=Qz (layableW_arg G _ zZ);refine enter_call (uV (call w i b c j e a vs ns K I M O y J x C) λr g D=>?_);obtain⟨rfl,S,F,z⟩:=D;exact⟨.inl ⟨.bool true,.bool true,[],rfl,λ_=>rfl,.bool true,Pk l _,λ_=>⟨List.Pairwise.nil,λ_ R=>(nomatch R)⟩⟩,S,F,z⟩
end Att
namespace L2
open PySem PySem.Spec PyProof.Rows
open PySem.W (Frag)
def Gn(K:Frag):Sp:=λvs H Q _=>∃(a:Addr)(ns:LI'),vs=[.ref a]/\SqL K H a (ns.map V.int)/\ns.length<=63/\(∀m∈ns,Builtin.Int.intBits m<=1048576)/\∀H',Q (.bl true) H'
theorem walkB{l:PySem.W.OpenLaw}{k:Nat}{q:Program}{M:List Str}{v:(MT)->Heap->Prop}{m:World->Heap->Prop}{d:DefRec}{K:Params->Frag}{x:Str}
  (n:l.most=some 63)(J:d.params.defaults=[])(hr:Room k callerA)(t:∀(w:World)(h:Heap),m w h->(K w.params).In h)
  (F:∀(w:World)(b:MT)(g:Addr)(h:Heap),(K w.params).In h->h.Ns mainGlobals b->b d.name=some (.ref g) ->
   ∃i:FuncData,(∀(s:Shared)(u:Value),BindsTo s i ⟨[u],[]⟩ [(x,u)])/\∀base:Heap,(K w.params).In base->base.Ns mainGlobals b->FnOk l.prog w (K w.params) b base CX0 k g i [x] (Gn (K w.params))):
  PySem.W.WalkO q M v m l.row.toRowW d [] (λf vs=>PySem.call f vs):=by
 refine Att.attach_callB n J λw N P b O g a vs ns c y I L p j o r=>?_;have KX:=t w _ y;obtain⟨i,D,C⟩:=F w b g _ KX c.T.g I;exact Pj KX c.T.g c.T.b c.T.builtins c.T.nolimit r L p (yG j ∅) hr C D (λH _ G=>⟨a,ns,rfl,G,j,o,λ_=>rfl⟩) λH e R z=>z
theorem mT{e:TI}{g:TG}{tb:TS}{D:Ends}{a:St}{H:Hp}(h:∀B:TS,B=tb->e a H λb f=>∃W:Nat->Nat->St->Hp->Prop,(∃m,W 0 m a f)/\∀i m a H,W i m a H ->
  (b.stop i H/\D.nx a H)\/(b.go i H/\∃N:St->Hp->Prop,(∀c H',N c H'->∃d,d<m/\W (i+1) d c H')/\∀x H',b.yld i H x H'->g x a H' λk j=>B {D with nx:=N,ct:=N,bk:=D.nx} k j)):tFor e g tb D a H:=h _ rfl
theorem Gm{c:TT}{tb:TS}{D:Ends}{a:St}{H:Hp}(h:∀B:TS,B=tb->∃W:Nat->St->Hp->Prop,(∃m,W m a H)/\∀m a H,W m a H ->
  c a H λb e=>if b=true then∃N:St->Hp->Prop,(∀f H',N f H'->∃d,d<m/\W d f H')/\B {D with nx:=N,ct:=N,bk:=D.nx} a e else D.nx a e):Fw c tb D a H:=h _ rfl
theorem st{a u:TS}{D:Ends}{b:St}{H:Hp}(h:∀c:St->Hp->Prop,c=u D->a {D with nx:=c} b H):tSeq a u D b H:=h _ rfl
section
variable {g:Int->Int->V} {C:Int->Int->Prop} {f:Int->V} {i j:Int} {H:Hp} {Q:VK}
theorem t_t:rI0 g (.int i) (.int j) H Q=Q (g i j) H:=propext ⟨λ⟨_,_,e1,a,q⟩=>by cases e1;cases a;exact q,λq=>⟨_,_,rfl,rfl,q⟩⟩
theorem u_j:rI C g (.int i) (.int j) H Q=(C i j/\Q (g i j) H):=propext ⟨λ⟨_,_,e1,a,q⟩=>by cases e1;cases a;exact q,λq=>⟨_,_,rfl,rfl,q⟩⟩
theorem u_k:rU f (.int i) H Q=Q (f i) H:=propext ⟨λ⟨_,e1,q⟩=>by cases e1;exact q,λq=>⟨_,rfl,q⟩⟩
end
theorem Same.new{H:Hp}{a:Addr}{o:HO}(h:H a=none):Same H (upd H a o):=λb u e=>by rw[oT (nY e h)];exact e
theorem Same.over{H c:Hp}{a:Addr}{o:HO}(h:H a=none)(s:Same H c):Same H (upd c a o):=λb u e=>by rw[oT (nY e h)];exact s b u e
theorem Same.tup{K:Frag}{H H':Hp}{a:Addr}{xs:List V}(e:Same H H')(h:SqT K H a xs):SqT K H' a xs:=by
 rcases h with(h|⟨o,h⟩)|h
 ·exact .inl (.inl (e _ _ h))
 ·exact .inl (.inr ⟨o,e _ _ h⟩)
 ·exact .inr h
section
variable {K:Frag} {a b:Addr} {xs:List V} {te:TE} {fr:List (Str×Nat)} {σ:St} {H:Hp} {Q:VK}
def u_C(H:Hp)(a:Addr)(R:Nat->V->Prop)(i:Nat)(H1:Hp):Prop:=Same H H1/\∃ys:List V,H1 a=some (.lst ys)/\ys.length=i/\∀j y,ys[j]?=some y->R j y
end
theorem mK{b a:Type}{ys:List a}{xs:List b}{f:b->a}(hl:ys.length=xs.length)(h:∀(j:Nat)(y:a),ys[j]?=some y->∃x,xs[j]?=some x/\y=f x):ys=xs.map f:=by
 refine uB (by simpa using hl) λi d k=>?_;obtain⟨x,e1,c⟩:=h i ys[i] (by simp[d]);obtain⟨g,e⟩:=oG.mp e1;rw[uE,c,e]
def kP(sc scope:Scope):Scope:={scope with names:=scope.names.map λ(n,k)=>if(k == .free && sc.kind == .function && sc.names.lookup n == some .cell) then(n,.cell) else(n,k)}
theorem Qy{a sc:Scope}{env:Env}(h:env.scope=sc):relabel a env=kP sc a:=by subst h;rfl
theorem dQ:∀(a:List (Str×NameKind))(n:Nat)(acc:List (Str×Addr)),cellsFrom n a acc=cellsFrom n a []++acc
 |[],_,_=>rfl
 |(x,k):: r,n,acc=>by
  unfold cellsFrom;split
  ·rw[dQ r (n+1) ((x,n):: acc),dQ r (n+1) [(x,n)],yI];rfl
  ·exact dQ r n acc
theorem By{y:Str}{b:Addr}:∀{a:List (Str×NameKind)}{n:Nat}{acc:List (Str×Addr)},(y,b)∈cellsFrom n a acc->(y,b)∈acc\/(y,NameKind.cell)∈a
 |[],_,_,h=>.inl h
 | (x,k):: r,n,acc,h=>by
  unfold cellsFrom at h;split at h
  ·rename_i d;rcases By h with q|q
   ·rcases xI.mp q with e|e
    ·have c:k=.cell:=by simpa using d
     cases e;exact .inr (by rw[c];exact zZ)
    ·exact .inl e
   ·exact .inr (zO _ q)
  ·rcases By h with q|q
   ·exact .inl q
   ·exact .inr (zO _ q)
theorem dR{y:Str}:∀{a:List (Str×NameKind)}{n:Nat}{acc:List (Str×Addr)},((y,NameKind.cell)∈a\/∃b,acc.lookup y=some b)->∃b,(cellsFrom n a acc).lookup y=some b
 |[],_,_,h=>by
  rcases h with h|h
  ·simp at h
  ·exact h
 | (x,k):: r,n,acc,h=>by
  unfold cellsFrom;split
  ·rename_i c;refine dR ?_;rcases h with h|⟨b,h⟩
   ·rcases xI.mp h with e|e
    ·cases e;exact .inr ⟨n,by rw[xG];simp⟩
    ·exact .inl e
   ·rw[xG];cases hx:y == x with
    |true=>exact .inr ⟨n,rfl⟩
    |false=>exact .inr ⟨b,h⟩
  ·rename_i c;refine dR ?_;rcases h with h|h
   ·rcases xI.mp h with e|e
    ·cases e;simp at c
    ·exact .inl e
   ·exact .inr h
theorem Bx{env:Env}{q:NameKind}:∀{d:List (Str×NameKind)}{x:Str},
  (d.map λ(n,k)=>if(k == NameKind.free && env.scope.kind == .function && env.kindOf n == some .cell) then(n,NameKind.cell) else(n,k)).lookup x=some q ->
  (q=.cell\/q=.free)->(x,NameKind.free)∈d\/(x,NameKind.cell)∈d
 |[],_,h,_=>by simp at h
 | (n,k):: r,x,h,c=>by
  have g:=@Bx env q r x;rw[zK]at h;dsimp only at h
  by_cases f:(k == NameKind.free && env.scope.kind == .function && env.kindOf n == some .cell)=true
  ·rw[zF f,xG]at h;cases hx:x == n with
   | true =>
    have a:x=n:=by simpa using hx
    have b:k=.free:=by
     have:=(zR _ _ ▸ ((zR _ _ ▸ f).1)).1;simpa using this
    rw[a,b];exact .inl zZ
   |false =>
    rw[hx]at h;exact(g h c).imp (zO _) (zO _)
  ·rw[zD f,xG]at h;cases hx:x == n with
   |true =>
    rw[hx]at h;have a:x=n:=by simpa using hx
    have b:k=q:=zW h;rcases c with e|e
    ·rw[a,b,e];exact .inr zZ
    ·rw[a,b,e];exact .inl zZ
   |false =>
    rw[hx]at h;exact(g h c).imp (zO _) (zO _)
theorem Gk{b:Type}{x:Str}{k d:b}:∀{l:List (Str×b)},(l.map (·.1)).Nodup->(x,k)∈l->(x,d)∈l->k=d
 |(n,q):: r,nd,h,h'=>by
  obtain⟨c,f⟩:=tS.mp nd;rcases xI.mp h with e|e <;> rcases xI.mp h' with a|a
  ·cases e;cases a;rfl
  ·cases e;exact absurd (pZ.mpr ⟨_,a,rfl⟩) c
  ·cases a;exact absurd (pZ.mpr ⟨_,e,rfl⟩) c
  ·exact Gk f e a
theorem Qx{M:Model}{A:Around}{E:VP}{s:Shared}{a:Scope}{d:Addr}{b:List (Str×Addr)}{f:Str}{c:Option Addr}{e:Value}{env:Env}{bl:Addr}{Q:Env->Shared->Prop}
  (h:Q (newEnv a s.heap.objs.size d (cellsFrom (s.heap.objs.size+1) a.names b) f c e (some env) bl) {s with heap:=pushCells (s.heap.push {cls:=.type "dict",data:=.dict #[]}) a.names}):
  wpAny M A (newFunctionEnv a d b [] f c e (some env) bl) Q E s:=by
 simp only[newFunctionEnv,Option.isSome_some,if_true];refine zA (wpAny_alloc ?_);refine zA (wpAny_layCells _ (λname g cells=>by cases hkc:g == NameKind.cell <;> simp[hkc]) _ _ _ _ ?_);rw[show({s with heap:=s.heap.push {cls:=.type "dict",data:=.dict #[]}}:Shared).heap.objs.size=s.heap.objs.size+1 from xR ..];exact zB h
def mD(X:Cx)(scope:Scope)(N:List Str)(s:Shared)(H:Hp)(fp:LA):Cx:=
 {X with N:=N,s₀:=s,H₀:=H,env:=compEnvC scope (cellsFrom (s.heap.objs.size+1) scope.names (clOf X.env scope.names [])) s.heap.objs.size X.env,outer:=X.stack,ex:=fp,fn:=λy=>scope.names.lookup y == some .cell,pn:=[],xe:=λ_ _=>False}
structure jH(X:Cx)(sc scope:Scope)(xs:List Str)(fr:List (Str×Nat)):Prop where
 hsc:X.env.scope=sc
 kind:scope.kind=.function
 nn:(scope.names.map (·.1)).Nodup
 free:∀y∈scope.names,y.2=.free->sc.names.lookup y.1=some .cell\/sc.names.lookup y.1=some .free
 loc:∀y∈scope.names,y.2=.local->scope.names.lookup y.1=some .local
 fr:∀p∈fr,X.N[p.2]?=some p.1/\scope.names.lookup p.1=some .free
section
variable {X:Cx} {sc scope:Scope} {xs:List Str} {fr:List (Str×Nat)}
theorem jH.free'(c:jH X sc scope xs fr):∀y∈scope.names,y.2=.free->X.env.kindOf y.1=some .cell\/X.env.kindOf y.1=some .free:=λy a b=>by
 unfold Env.kindOf;rw[c.hsc];exact c.free y a b
theorem jH.cells{e:PN}{b:St}{H:Hp}{s:Shared}(c:jH X sc scope xs fr)(I:Inv X e b H s):∀y∈scope.names,y.2=.free->∃c,X.env.cells.lookup y.1=some c:=
 λy a d=>I.ok.has y.1 (c.free' y a d)
theorem jH.was{d:PN}{a:St}{H:Hp}{s:Shared}(c:jH X sc scope xs fr)(I:Inv X d a H s){y:Str}{b:Addr}(h:(clOf X.env scope.names []).lookup y=some b):X.env.cells.lookup y=some b:=by
 rcases Gw (c.cells I) h with q|q
 ·simp at q
 ·exact q
theorem fT{a:List (Str×NameKind)}{n:Nat}{d:List (Str×Addr)}{y:Str}{b:Addr}(h:(cellsFrom n a d).lookup y=some b):(cellsFrom n a []).lookup y=some b\/((cellsFrom n a []).lookup y=none/\d.lookup y=some b):=by
 rw[dQ,List.lookup_append]at h;cases q:(cellsFrom n a []).lookup y with
 |none=>rw[q]at h;exact .inr ⟨rfl,h⟩
 |some c=>rw[q]at h;exact .inl h
theorem Qw{x:PN}{l:St}{H:Hp}{s:Shared}{M:LA}(c:jH X sc scope xs fr)(I:Inv X x l H s)
  (C:∀b∈M,FpOk X x H b/\∃o,s.heap.get? b=some o):
  Inv (mD X scope (xs++fr.map (·.1)) s H M) [] (xs.map (λ_=>none)++mI fr l) H {s with heap:=pushCells (s.heap.push {cls:=.type "dict",data:=.dict #[]}) scope.names}:=by
 have k:∀b o,s.heap.get? b=some o->(pushCells (s.heap.push {cls:=.type "dict",data:=.dict #[]}) scope.names).get? b=some o:=λb o e=>pE _ _ b o (zC _ e);have F:(pushCells (s.heap.push {cls:=.type "dict",data:=.dict #[]}) scope.names).Ns s.heap.objs.size (λ_=>none):=(Heap.Ns.new s.heap (.type "dict")).keeps (pE _ _);have ok:=cellsFrom_ok scope.names (s.heap.push {cls:=.type "dict",data:=.dict #[]}) (s.heap.objs.size+1) [] ⟨λ_ _ f=>(nomatch f),List.Pairwise.nil⟩ (by rw[xR];exact zE _);rw[xR]at ok;have t:Inv X x l H {s with heap:=pushCells (s.heap.push {cls:=.type "dict",data:=.dict #[]}) scope.names}:=I.kept (t':=s.toks) k;generalize hh:pushCells (s.heap.push {cls:=.type "dict",data:=.dict #[]}) scope.names=U at k F ok t;have L:∀{y:Str}{b:Nat},(clOf X.env scope.names []).lookup y=some b->b<s.heap.objs.size:=λ{y b}e=>by
  obtain⟨v,z⟩:=I.cell y b (c.was I e);exact z.lt
 have own:∀{y:Str}{b:Nat},(cellsFrom (s.heap.objs.size+1) scope.names []).lookup y=some b->U.IsCell b none/\s.heap.objs.size+1<=b:=λ{y b}e=>ok.empty y b (mem_of_lookup e);refine⟨⟨I.ok.mod,c.kind,I.ok.glob,I.ok.blt,zE _,λy z b r a=>?_,λy g=>?_,λy b R r=>?_,I.ok.hd,I.ok.frames,.inl rfl,λb m=>?_,λb o e=>?_,?_,λb o e m=>?_,λb m a2=>?_,?_,λb m=>?_⟩,
  rfl,I.bare,Un.kept k,⟨_,F,λi y v r a a3=>?_⟩,λy b h=>?_,?_,λy b h=>?_,λp O=>absurd (show p∈([]:PN) from O) (by simp),t.hok,?_⟩
 ·rcases fT r with e1|⟨_,e1⟩ <;> rcases fT a with d|⟨_,d⟩
  ·exact name_of_addr ok.apart (mem_of_lookup e1) (mem_of_lookup d)
  ·exact absurd (zJ (L d) (qK (own e1).2)) (xC _)
  ·exact absurd (zJ (L e1) (qK (own d).2)) (xC _)
  ·exact I.ok.inj y z b (c.was I e1) (c.was I d)
 ·show∃b,(cellsFrom (s.heap.objs.size+1) scope.names (clOf X.env scope.names [])).lookup y=some b;have f:(y,NameKind.free)∈scope.names\/(y,NameKind.cell)∈scope.names:=by
   rcases g with g|g
   ·exact Bx g (.inl rfl)
   ·exact Bx g (.inr rfl)
  rcases f with f|f
  ·exact dR (.inr (Aa (.inl f)))
  ·exact dR (.inl f)
 ·have g:scope.names.lookup y=some .cell:=by
   have V:(scope.names.lookup y == some NameKind.cell)=true:=R;simpa using V
  rcases fT r with e1|⟨e1,_⟩
  ·have:=(own e1).2;show s.heap.objs.size<=b;omega
  ·obtain⟨D,e⟩:=dR (n:=s.heap.objs.size+1) (acc:=[]) (.inl (mem_of_lookup g));rw[e1]at e;cases e
 ·obtain⟨⟨_,_,_,_,N,_⟩,o,e⟩:=C b m;refine⟨zY (zL e),λy D h=>?_⟩;rcases fT h with e1|⟨_,e1⟩
  ·exactλz=>absurd (zJ (zL e) (qK (z ▸ (own e1).2))) (xC _)
  ·exact N y D (c.was I e1)
 ·exact I.bs b o e
 ·exact yG I.ok.bsz I.sz
 ·obtain⟨⟨_,_,_,a0,_,_⟩,_⟩:=C b m;rcases a0 with z|z
  ·exact I.ok.noex b o e z
  ·exact absurd (zJ (zL e) (yG I.ok.bsz z)) (xC _)
 ·obtain⟨⟨_,S,T,_,_,_⟩,_⟩:=C b m;rcases xI.mp (I.stkSub b a2) with z|z
  ·exact S z
  ·exact T z
 ·exact I.stack
 ·exact I.stkFree b m
 ·have n:(xs++fr.map (·.1))[i]?=some y:=r
  by_cases hi:i<xs.length
  ·rw[yD (by simpa using hi),zI]at a;cases q:xs[i]? with
   |none=>rw[q]at a;cases a
   |some z=>rw[q]at a;cases zW a
  ·rw [zV ⋯]at n;rw[zV (by simpa using hi),yS]at a;generalize i-xs.length=j at n a;rw[zI]at n;unfold mI at a;rw[zI]at a;cases e:fr[j]? with
   |none=>rw[e]at n;cases n
   | some p =>
    rw[e]at n a;have e1:p.1=y:=zW n;have d:l.getD p.2 none=some v:=zW a;obtain⟨a1,K⟩:=c.fr p (yF e);have Y:l[p.2]?=some (some v):=by
     rw[tN]at d;cases q:l[p.2]? with
     |none=>rw[q]at d;cases d
     |some o=>rw[q]at d;have W:o=some v:=d;rw[W]
    subst e1;have f:(p.1,NameKind.free)∈scope.names:=vD K;have kd:=c.free' _ f rfl;obtain⟨a4,_,hl⟩:=t.loc;obtain⟨u,P,Z⟩:=hl p.2 p.1 v a1 Y (.inr kd);refine⟨u,P,.inr ⟨Gu K,?_⟩⟩;rcases Z with⟨k1,_⟩|⟨_,b,q,z⟩
    ·rcases kd with kd|kd <;> (rw[kd]at k1;cases k1)
    ·obtain⟨D,J⟩:=Aa (env:=X.env) (l:=scope.names) (cs:=[]) (.inl f);have G:=c.was I J;rw[q]at G;cases G;refine⟨b,?_,z⟩;show(cellsFrom (s.heap.objs.size+1) scope.names (clOf X.env scope.names [])).lookup p.1=some b;rw[dQ,List.lookup_append];cases w:(cellsFrom (s.heap.objs.size+1) scope.names []).lookup p.1 with
     |none=>exact J
     |some b2 =>
      rcases By (mem_of_lookup w) with w|w
      ·simp at w
      ·cases Gk c.nn f w
 ·rcases fT h with e1|⟨_,e1⟩
  ·exact⟨none,(own e1).1⟩
  ·exact t.cell y b (c.was I e1)
 ·exact I.hok.fresh (zE _)
 ·rcases fT h with e1|⟨_,e1⟩
  ·exact I.hok.fresh (by have:=(own e1).2;omega)
  ·exact t.freeC y b (c.was I e1)
 ·show(xs.map (λ_=>none)++mI fr l).length=(xs++fr.map (·.1)).length;simp[mI]
end
abbrev TOx:=St->Hp->(Option V->Hp->Prop)->Prop
def tEl(te:TE):TOx:=λσ H Q=>te σ H λy H'=>Q (some y) H'
def fU(tc:TT)(te:TE):TOx:=λσ H Q=>tc σ H λb H1=>if b=true then te σ H1 (λy H'=>Q (some y) H') else Q none H1
def dS(elt:Expr)(ifs:List Expr)(env:Env)(M:Model)(A:Around)(Q:Option Value->Shared->Prop)(E:VP)(s:Shared):Prop:=
 match ifs with
 |[]=>wpAny M A (eval elt env) (λx s1=>Q (some x) s1) E s
 |[c]=>wpAny M A (isTrue c env (eval c env)) (λb s1=>if b=true then wpAny M A (eval elt env) (λx s2=>Q (some x) s2) E s1 else Q none s1) E s
 |_=>False
def POx(X:Cx)(elt:Expr)(ifs:List Expr)(t:TOx):Prop:=∀(pins:PN)(s:Shared)(σ:St)(H:Hp)(Q:Option V->Hp->Prop),Inv X pins σ H s->t σ H Q ->
 dS elt ifs X.env (model X.prog X.w) X.A (λo s'=>∃v H',Inv X pins σ H' s'/\(match o,v with|some u,some y=>RelV y u|none,none=>True|_,_=>False)/\Q v H') X.xe s
theorem jI{X:Cx}{a:Expr}{te:TE}(h:PE X a te):POx X a [] (tEl te):=λc s b H Q I f =>
 thn (h c s b H _ I f) λu i⟨y,d,g,r1,e⟩=>⟨some y,d,g,r1,e⟩
theorem Qv{X:Cx}{e c:Expr}{f:TT}{te:TE}(l:PT X c f)(h:PE X e te):POx X e [c] (fU f te):=λg s d H Q I o=>by
 refine thn (l g s d H _ I o) ?_;rintro b k ⟨i,j,a⟩;cases b with
 |true =>
  rw[zF rfl]at a ⊢;exact thn (h g k d i _ j a) λu q⟨y,m,n,r2,p⟩=>⟨some y,m,n,r2,p⟩
 |false =>
  rw[zD zX]at a ⊢;exact⟨none,i,j,trivial,a⟩
theorem Qu{prog:Program}{w:World}{A:Around}{R:Result->Shared->Prop}{s:Shared}{e d g:Expr}{i:List Expr}{k:Scope}{l:Pos}{a acc:Value}{env:Env}(I:Nat->Shared->Prop)
  (G:∀n s,I n s->wpAny (model prog w) A (pyNext a) (λr p=>match r with
   |none=>R (.ok .next) p
   | some v=>wpAny (model prog w) A (letOwnedTupleGo d a v) (λ_ z=>wpAny (model prog w) A (assign d env v) (λ_ C=>dS e i env (model prog w) A (λo q=>match o with
     |some x=>wpAny (model prog w) A (call (.builtin "list.append") [acc,x]) (λ_ y=>∃m,m<n/\I m y) (λ_ _=>False) q
     |none=>∃m,m<n/\I m q)
     (λ_ _=>False) C) (λ_ _=>False) z) (λ_ _=>False) p) (λ_ _=>False) s)
  (n:Nat)(h:I n s)(t:i.length<=1):
  codeAny (model prog w) A (.compLoop (.ListComp e [⟨d,g,i,0⟩] k l) 0 a acc env) R s:=by
 refine codeAny_loop rfl I (λn s J=>?_) n h;show wpAny _ _ ((compTurn (.ListComp e [⟨d,g,i,0⟩] k l) 0 a acc env).onRaise (λx=>do noteFrame x env;theTreesLotGoes x)) _ _ s;refine wpAny_noted ?_;have T:=G n s J
 match i,t,T with
 | [],_,T =>
  rw[compTurn_list1];refine zA (wS (zA (yU T (λr p j=>?_) λ_ _ h'=>h'.elim)));cases r with
  |none=>exact zB j
  | some v =>
   refine zA (yU j (λ_ z D=>?_) λ_ _ h'=>h'.elim);exact zA (yU D (λ_ C F=>zA (zA (yU (show wpAny _ _ _ _ _ _ from F) (λx q f=>zA (yU f
    (λ_ y u=>zB (zB ⟨rfl,u⟩)) λ_ _ h'=>h'.elim)) λ_ _ h'=>h'.elim))) λ_ _ h'=>h'.elim)
 | [c],_,T =>
  have e1:compTurn (.ListComp e [⟨d,g,[c],0⟩] k l) 0 a acc env=(standAt g.pos >>= λ_=>pyNext a >>= λr=>match r with
   |none=>pure (.done .next)
   | some v=>letOwnedTupleGo d a v >>= λ_=>assign d env v >>= λ_=>isTrue c env (eval c env) >>= λok =>
    (if ok=true then(eval e env >>= λx=>call (.builtin "list.append") [acc,x] >>= λ_=>pure ()) >>= λ_=>again (.compLoop (.ListComp e [⟨d,g,[c],0⟩] k l) 0 a acc env)
     else again (.compLoop (.ListComp e [⟨d,g,[c],0⟩] k l) 0 a acc env))):=by
   unfold compTurn;simp only[List.forIn_cons,List.forIn_nil,if_true,bind_assoc,pure_bind,List.getElem?_cons_zero];rfl
  rw[e1];refine zA (wS (zA (yU T (λr p j=>?_) λ_ _ h'=>h'.elim)));cases r with
  |none=>exact zB j
  | some v =>
   refine zA (yU j (λ_ z D=>?_) λ_ _ h'=>h'.elim);refine zA (yU D (λ_ C F=>zA (yU (show wpAny _ _ _ _ _ _ from F) (λb q f=>?_) λ_ _ h'=>h'.elim)) λ_ _ h'=>h'.elim);cases b with
   |true =>
    rw[zF rfl]at f ⊢;exact zA (zA (yU f (λx y u=>zA (yU u (λ_ L K=>zB (zB ⟨rfl,K⟩)) λ_ _ h'=>h'.elim)) λ_ _ h'=>h'.elim))
   |false =>
    rw[zD zX]at f ⊢;exact zB ⟨rfl,f⟩
 |_:: _:: _,t,T =>
  exact absurd t (by simp)
def Qt(a:Addr)(N:Hp->Prop):Option V->Hp->Prop
 |some y,H=>∃zs,H a=some (.lst zs)/\zs.length<sizeLine/\N (upd H a (.lst (zs++[y])))
 |none,H=>N H
abbrev lO(J:It)(g:TG)(tt:TOx)(n:Nat)(fr:List (Str×Nat))(σ:St)(a:Addr)(H:Hp)(Q:VK):Prop:=
 ∃ W:Nat->Nat->Hp->Prop,(∃m,W 0 m (upd H a (.lst [])))/\∀i m H2,W i m H2->(J.stop i H2/\Q (.ref a) H2) \/
  (J.go i H2/\∃N:Hp->Prop,(∀H',N H'->∃m',m'<m/\W (i+1) m' H')/\∀(ys:St) x H3,ys.length=n->J.yld i H2 x H3 ->
   g x (ys++mI fr σ) H3 λσ4 H4=>(∃ys':St,ys'.length=n/\σ4=ys'++mI fr σ)/\tt σ4 H4 (Qt a N))
def mP(wi:TI)(g:TG)(tt:TOx)(n:Nat)(fr:List (Str×Nat)):TE:=λσ H Q=>wi σ H λJ H1=>∀a,H1 a=none->lO J g tt n fr σ a H1 Q
section
variable {X:Cx} {sc scope:Scope} {xs:List Str} {fr:List (Str×Nat)} {elt tg iter:Expr} {ifs:List Expr} {g:TG} {tt:TOx}
theorem Gj{F:PN}{D:St}{H:Hp}{s:Shared}{d1:Pos}{b5:It}{k:LA}{a4:Addr}{M:Nat->Heap->Prop}{Q:VK}{RR:Value->Addr->Result->Shared->Prop}{E:VP}
  (c:jH X sc scope xs fr)(b3:X.calm=true)(V:ifs.length<=1)(I:Inv X F D H s)(T:Turn X.prog X.w X.K tg b5 k a4 M)(b6:M 0 s.heap)(a3:∀b∈k,FpOk X F H b)
  (e2:∀(w:Shared)(G:Hp)(k:LA),(mD X scope (xs++fr.map (·.1)) w G k).env.scope=kP sc scope->PG (mD X scope (xs++fr.map (·.1)) w G k) tg g)
  (g1:∀(w:Shared)(G:Hp)(k:LA),(mD X scope (xs++fr.map (·.1)) w G k).env.scope=kP sc scope->POx (mD X scope (xs++fr.map (·.1)) w G k) elt ifs tt)
  (d5:∀a,H a=none->lO b5 g tt xs.length fr D a H Q)
  (g9:∀a C H' t m,t.heap.Ns C m->Inv X F D H' t->FpOk X F H' C->Q (.ref a) H'->RR (.ref a) C (.ok .next) t):
  wpAny (model X.prog X.w) X.A (newList []) (λacc w=>wpAny (model X.prog X.w) X.A (newFunctionEnv scope X.env.globals (clOf X.env scope.names []) [] X.env.qual none .none (some X.env)) (λb2 f4 =>
   codeAny (model X.prog X.w) X.A (.compStart (.ListComp elt [⟨tg,iter,ifs,0⟩] scope d1) 0 (.ref a4) acc {b2 with scope:=relabel scope X.env}) (RR acc b2.locals) f4) E w) E s:=by
 obtain⟨W,⟨e6,d3⟩,g2⟩:=d5 s.heap.objs.size I.fresh;refine xL (Qx ?_);have b4:Inv X F D (upd H s.heap.objs.size (.lst [])) {s with heap:=s.heap.push {cls:=.type "list",dict:=none,data:=.seq ([]:LW).toArray}}:=I.lnew (ys:=[]) (its:=[]) (t':=s.toks) .nil (yB _);have S:∀b o,s.heap.get? b=some o->(s.heap.push {cls:=.type "list",dict:=none,data:=.seq ([]:LW).toArray}).get? b=some o:=λb o e=>zC _ e;have b0:Un (frs X.stack) k H (upd H s.heap.objs.size (.lst [])) s.heap (s.heap.push {cls:=.type "list",dict:=none,data:=.seq ([]:LW).toArray}):=Un.laid S (zE _) I.fresh;dsimp only;generalize hH2:s.heap.push {cls:=.type "list",dict:=none,data:=.seq ([]:LW).toArray}=l at b4 S b0 ⊢;have hsz:s.heap.objs.size<=l.objs.size:=by rw[←hH2,xR];exact uN _
 have b7:∀b∈k,∃o,s.heap.get? b=some o:=λb j=>let ⟨o,e,_⟩:=T.obj _ _ b6 b j;⟨o,e⟩
 have g8:∀b∈k,b≠s.heap.objs.size:=λb j=>let ⟨_,e⟩:=b7 b j;zY (zL e)
 have d0:∀b∈k,FpOk X F (upd H s.heap.objs.size (.lst [])) b/\∃o,l.get? b=some o:=λb j=>by
  obtain⟨o,e⟩:=b7 b j;exact⟨⟨by rw[oT (g8 b j)];exact(a3 b j).1,(a3 b j).2⟩,o,S b o e⟩
 have a6:=Qw c b4 d0;have e8:∀b o,l.get? b=some o->(pushCells (l.push {cls:=.type "dict",data:=.dict #[]}) scope.names).get? b=some o:=λb o e=>pE _ _ b o (zC _ e);have a9:M 0 (pushCells (l.push {cls:=.type "dict",data:=.dict #[]}) scope.names):=T.keep 0 _ _ b6 λb j o e=>e8 b o (S b o e);have c0:∀(w:Shared)(G:Hp)(k:LA),(mD X scope (xs++fr.map (·.1)) w G k).env.scope=kP sc scope:=λ_ _ _=>Qy c.hsc;have a2:∀{H':Hp},(∀b∈k,H' b=none)->∀b∈k,FpOk (mD X scope (xs++fr.map (·.1)) {s with heap:=l} (upd H s.heap.objs.size (.lst [])) k) [] H' b:=λg0 b j=>by
  obtain⟨e1,d8⟩:=a6.ok.exf b j;exact⟨g0 b j,e1,a6.ok.exfs b j,.inl j,d8,λp f1=>absurd (show p∈([]:PN) from f1) (by simp)⟩
 have c1:codeAny (model X.prog X.w) X.A (.compLoop (.ListComp elt [⟨tg,iter,ifs,0⟩] scope d1) 0 (.ref a4) (.ref s.heap.objs.size) (compEnvC scope (cellsFrom (l.objs.size+1) scope.names (clOf X.env scope.names [])) l.objs.size X.env))
   (RR (.ref s.heap.objs.size) l.objs.size) {s with heap:=pushCells (l.push {cls:=.type "dict",data:=.dict #[]}) scope.names}:=by
  refine Qu (λn t=>∃i,∃ys:St,∃H',ys.length=xs.length/\Inv (mD X scope (xs++fr.map (·.1)) {s with heap:=l} (upd H s.heap.objs.size (.lst [])) k) [] (ys++mI fr D) H' t/\M i t.heap/\(∀b∈k,H' b=none)/\W i n H')
   ?_ e6 ⟨0,xs.map λ_=>none,_,by simp,a6,a9,λb j=>(d0 b j).1.1,d3⟩ V
  rintro n d2 ⟨i,ys,R,e5,c2,c5,b1,f5⟩;rcases g2 i n R f5 with⟨stop,h0⟩|⟨go,N,e3,step⟩
  ·refine thn (T.done (mD X scope (xs++fr.map (·.1)) {s with heap:=l} (upd H s.heap.objs.size (.lst [])) k) rfl rfl rfl b3 i [] d2 _ R (λ_ _=>False) c2 (a2 b1) c5 stop) ?_;rintro r Y ⟨hr,K⟩;subst hr;obtain⟨d4,g5,_⟩:=K.loc;have a5:Inv X F D R Y:=I.call' K.os (b0.trans K.base) K.hok K.bare λb j=>let f:=a3 b j;⟨f.2.2.2.1,f.2.1,f.2.2.2.2.1,f.2.2.2.2.2⟩
   exact g9 _ _ R Y d4 g5 a5 (I.fpOk hsz K.free) h0
  ·refine thn (T.item (mD X scope (xs++fr.map (·.1)) {s with heap:=l} (upd H s.heap.objs.size (.lst [])) k) rfl rfl rfl b3 i [] d2 _ R (λ_ _=>False) c2 (a2 b1) c5 go) ?_;rintro r Y ⟨u,hr,g6⟩;subst hr;refine thn g6 ?_;rintro _ c8 ⟨y,c6,a5,g7,f3,a0,f2⟩;have g3:=a5.pinned (a2 f2) (T.obj _ _ a0);refine thn (e2 _ _ _ (c0 _ _ _) _ c8 _ c6 y u _ g3 g7 (step ys y c6 e5 f3)) ?_;rintro _ f0 ⟨h1,e0,d9,⟨c7,f7,e9⟩,f9⟩;subst e9;have b8:∀(J:Shared)(v:Hp),Inv (mD X scope (xs++fr.map (·.1)) {s with heap:=l} (upd H s.heap.objs.size (.lst [])) k) ([]++dH k c8.heap) (c7++mI fr D) v J->N v ->
     ∃m,m<n/\∃i,∃ys:St,∃H',ys.length=xs.length/\Inv (mD X scope (xs++fr.map (·.1)) {s with heap:=l} (upd H s.heap.objs.size (.lst [])) k) [] (ys++mI fr D) H' J/\M i J.heap/\(∀b∈k,H' b=none)/\W i m H':=by
    intro J v O a8;obtain⟨e7,f8,g4⟩:=e3 v a8;refine⟨e7,f8,i+1,c7,v,f7,O.unpinned,T.keep _ _ _ a0 λb j o e=>(O.pin (b,o) (yO _ (yO _ (cZ j e)))).1,λb j=>?_,g4⟩;obtain⟨o,e,d⟩:=T.obj _ _ a0 b j;exact(O.pin (b,o) (yO _ (yO _ (cZ j e)))).2.1
   have f6:=g1 _ _ _ (c0 _ _ _) _ f0 _ e0 _ d9 f9;have mono:∀{Q a1:Option Value->Shared->Prop}{E:VP}{t:Shared}{env:Env},(∀o U,Q o U->a1 o U)->dS elt ifs env (model X.prog X.w) X.A Q E t->dS elt ifs env (model X.prog X.w) X.A a1 E t:=by
    intro Q a1 E t env Z L;unfold dS at L ⊢
    match ifs,V,L with
    |[],_,L=>exact yU L (λx U q=>Z _ _ q) λ_ _ e=>e
    |[c],_,L =>
     refine yU L (λb U q=>?_) λ_ _ e=>e;split at q
     ·rename_i j;rw[zF j];exact yU q (λx h2 q=>Z _ _ q) λ_ _ e=>e
     ·rename_i j;rw[zD j];exact Z _ _ q
    |_:: _:: _,V,_=>exact absurd V (by simp)
   refine mono (?_) f6;rintro o c4 ⟨P,c3,b9,a7,c9⟩;cases o with
   |none =>
    cases P with
    |none=>exact b8 c4 c3 b9 c9
    |some z=>exact a7.elim
   | some d7 =>
    cases P with
    |none=>exact a7.elim
    |some P =>
     obtain⟨zs,d6,hl,e4⟩:=c9;exact thn (jG _ c4 _ c3 (.ref s.heap.objs.size) [P] (.ref s.heap.objs.size) [d7] (λ_ v=>N v) b9 rfl (.cons a7 .nil) ⟨_,zs,P,rfl,rfl,d6,hl,e4⟩) λ_ J⟨_,v,O,_,a8⟩=>b8 J v O a8
 exact codeAny_compStart_list c1 (T.self _ 0 _ _ _ a9 c1)
variable {wi:TI}
theorem iJ{M:Pos}(c:jH X sc scope xs fr)(y:X.calm=true)(hi:PI X tg iter wi)
  (w:∀(j:Shared)(i:Hp)(d:LA),(mD X scope (xs++fr.map (·.1)) j i d).env.scope=kP sc scope->PG (mD X scope (xs++fr.map (·.1)) j i d) tg g)
  (t:∀(j:Shared)(i:Hp)(d:LA),(mD X scope (xs++fr.map (·.1)) j i d).env.scope=kP sc scope->POx (mD X scope (xs++fr.map (·.1)) j i d) elt ifs tt)
  (r:ifs.length<=1:=by exact Nat.le_of_ble_eq_true rfl)(O:∀x,foldedSetIterable iter X.env x=pure x:=by intro _;rfl):PE X (.ListComp elt [⟨tg,iter,ifs,0⟩] scope M) (mP wi g tt xs.length fr):=by
 intro l s k H Q I h;rw[eval_ListComp];refine wpAny_comprehension_free (use:=none) rfl O (Gv (c.cells I)) c.kind c.loc (thn (hi l s k H _ I h) λv S z=>thn z λP Y N=>?_);obtain⟨R,d,V,W,U,e,D,T,u,J,F⟩:=N;subst e;refine Gj (RR:=λacc C=>compPost (model X.prog X.w) X.A X.xe none (EP X l k Q) acc C) c y r D T u J w t F ?_;intro a C H' G m n K f q;exact⟨m,n,λh' L=>⟨.ref a,H',K.turned (t':=G.toks) (λb o p e=>(L.2 b p).trans e) f.1 f.2.1 f.2.2.2.1 f.2.2.2.2.1 f.2.2.2.2.2,rfl,q⟩⟩
theorem Bw{t w d:Pos}{y:Str}{i:Nat}(c:jH X sc scope xs fr)(R:X.calm=true)(O:X.N.Nodup)(z:X.N[i]?=some y)(hl:X.env.scope.names.lookup y=some .local)(hi:PI X tg iter wi)
  (N:∀(n:Shared)(l:Hp)(j:LA),(mD X scope (xs++fr.map (·.1)) n l j).env.scope=kP sc scope->PG (mD X scope (xs++fr.map (·.1)) n l j) tg g)
  (J:∀(n:Shared)(l:Hp)(j:LA),(mD X scope (xs++fr.map (·.1)) n l j).env.scope=kP sc scope->POx (mD X scope (xs++fr.map (·.1)) n l j) elt ifs tt)
  (Z:swapsWith (.ListComp elt [⟨tg,iter,ifs,0⟩] scope t) (some (.Name y d)) w.line X.env=pure true:=by rfl)
  (G:ifs.length<=1:=by exact Nat.le_of_ble_eq_true rfl)(a5:∀x,foldedSetIterable iter X.env x=pure x:=by intro _;rfl):PS X (.Assign [.Name y d] (.ListComp elt [⟨tg,iter,ifs,0⟩] scope t) w) (Gs i (mP wi g tt xs.length fr)):=by
 intro r s u H D I h;rw[exec_Assign_Name_used _ _ _ _ Z];refine zA (wS (zA ?_));show wpAny _ _ (do let _ ←comprehension (.ListComp elt [⟨tg,iter,ifs,0⟩] scope t) scope X.env _ (newList []) false (eval iter X.env) (some (assign (.Name y d) X.env))) _ _ s;refine zA (yU (wpAny_comprehension_free (use:=some (assign (.Name y d) X.env)) (Q:=λ_ k=>SP X r D .next k) rfl a5 (Gv (c.cells I)) c.kind c.loc
  (thn (hi r s u H _ I h) λv a8 S=>thn S λa6 b2 a4=>?_)) (λ_ k P=>zB (zB P)) λ_ _ e=>e)
 obtain⟨a7,j,b0,b1,a9,e,U,T,M,W,V⟩:=a4;subst e;refine Gj (RR:=λacc C=>compPost (model X.prog X.w) X.A X.xe (some (assign (.Name y d) X.env)) (λ_ k=>SP X r D .next k) acc C) (Q:=λv a2=>D.nx (u.set i (some v)) a2) c R G U T M W N J V ?_;intro a C H' k m F K f q;show wpAny _ _ (assign (.Name y d) X.env (.ref a)) _ _ _;refine wpAny_assign_Name (Ed K O z (.inl hl) (show RelV (.ref a) (.ref a) from rfl) (λa0 a1⟨b,a3,p⟩=>?_) (.inr hl));have L:C≠b:=by
  rcases p with e|e
  ·rw[e];exact f.2.1
  ·exact yA (f.2.2.2.2.1 y b e)
 refine⟨m,F.sameBut a3 L,λh' Y=>?_⟩;exact⟨_,H',a1.turned (t':=a0.toks) (λb o p e=>(Y.2 b p).trans e) f.1 f.2.1 f.2.2.2.1 f.2.2.2.2.1 f.2.2.2.2.2,q⟩
end
def bK(sc:Scope)(N:List Str)(scope:Scope)(fr:List (Str×Nat)):Bool:=
 decide (scope.kind=.function) && decide ((scope.names.map (·.1)).Nodup) && decide (∀y∈scope.names,y.2=.free->sc.names.lookup y.1=some .cell\/sc.names.lookup y.1=some .free) &&
 decide (∀y∈scope.names,y.2=.local->scope.names.lookup y.1=some .local) && decide (∀p∈fr,N[p.2]?=some p.1/\scope.names.lookup p.1=some .free)
theorem kQ{X:Cx}{sc a:Scope}{N xs:List Str}{fr:List (Str×Nat)}(d:X.env.scope=sc)(g:X.N=N)(h:bK sc N a fr=true):jH X sc a xs fr:=by
 unfold bK at h;simp only[Bool.and_eq_true,decide_eq_true_eq]at h;obtain⟨⟨⟨⟨e1,c⟩,f⟩,b⟩,e⟩:=h;subst g;exact⟨d,e1,c,f,b,e⟩
def bL(sc:Scope)(N:List Str)(i:Nat)(x:Str):Bool:=decide (N.Nodup) && decide (N[i]?=some x) && (decide (sc.names.lookup x=some .local))
theorem jS{X:Cx}{sc:Scope}{N:List Str}{i:Nat}{x:Str}{b:Pos}(a:X.env.scope=sc)(c:X.N=N)(h:bL sc N i x=true):PG X (.Name x b) (nB i):=by
 unfold bL at h;simp only[Bool.and_eq_true,decide_eq_true_eq]at h;subst a c;exact nX h.1.1 h.1.2 (.inl h.2) (.inr h.2)
theorem fV{X:Cx}{sc:Scope}{N:List Str}{i:Nat}{x:Str}{c:Pos}(a:X.env.scope=sc)(d:X.N=N)(h:(decide (N.Nodup) && decide (N[i]?=some x) && (decide (sc.names.lookup x=some .cell)))=true)(b:X.fn x=true):PG X (.Name x c) (nB i):=by
 simp only[Bool.and_eq_true,decide_eq_true_eq]at h;subst a d;exact nX h.1.1 h.1.2 (.inr h.2) (.inl b)
def SqB(b:Bool)(K:Frag)(H:Hp)(a:Addr)(xs:List V):Prop:=match b with|false=>SqL K H a xs|true=>SqT K H a xs
def ItB(b:Bool)(h:Heap)(it a:Addr)(i:Nat):Prop:=match b with|false=>h.IsListIter it a i|true=>h.IsTupleIter it a i
def seqB(b:Bool)(h:Heap)(a:Addr)(its:Array Value):Prop:=match b with|false=>h.IsList a its|true=>h.IsTuple a its
def nmB(b:Bool):String:=match b with|false => "list_iterator" |true => "tuple_iterator"
theorem ItB.at{b:Bool}{h h':Heap}{c a:Addr}{i:Nat}(x:ItB b h c a i)(e:∀o,h.get? c=some o->h'.get? c=some o):ItB b h' c a i:=by
 cases b
 ·exact Heap.IsListIter.at x e
 ·exact Heap.IsTupleIter.at x e
theorem seqB.at{b:Bool}{h h':Heap}{a:Addr}{its:Array Value}(x:seqB b h a its)(e:∀o,h.get? a=some o->h'.get? a=some o):seqB b h' a its:=by
 cases b
 ·exact Heap.IsList.at x e
 ·obtain⟨o,c,r⟩:=x;exact⟨o,e o c,r⟩
theorem ItB.lt{b:Bool}{h:Heap}{f a:Addr}{i:Nat}(x:ItB b h f a i):∃o,h.get? f=some o/\∀v,o.data≠.cell v:=by
 cases b
 ·obtain⟨o,e,c,d⟩:=x;exact⟨o,e,λv z=>by rw[d]at z;cases z⟩
 ·obtain⟨o,e,c,d⟩:=x;exact⟨o,e,λv z=>by rw[d]at z;cases z⟩
section
variable {prog:Program} {w:World} {A:Around} {E:VP} {s:Shared}
theorem Qs{b a:Addr}{i:Nat}{items}{x:Value}{Q:VP}(e:s.heap.IsTupleIter b a i)(l:s.heap.IsTuple a items)(j:items[i]?=some x)
  (f:∀h',h'.IsTupleIter b a (i+1)->Heap.SameBut b s.heap h'->Q x {s with heap:=h'}):wpAny (model prog w) A (Builtin.SmallTypes.nextOf (.ref b)) Q E s:=by
 obtain⟨o,d,k,c⟩:=id e;obtain⟨p,g,_,n,m⟩:=l;unfold Builtin.SmallTypes.nextOf;refine zA (wB (name:=Str.ofString "__next__") e.typeIs vQ
  (xV vQ e.typeIs F.entry_tuple_iterator_next ?_ (F.args_tuple_iterator_next_1 _)))
 show wpAny _ _ (field (.ref b) 0 >>= _) _ _ s;refine zA (xW d c (x:=.ref a) rfl ?_);show wpAny _ _ (if(Value.ref a == Value.none)=true then _ else _) _ _ s;rw[zD (show¬ ((Value.ref a == Value.none)=true) from zX)];show wpAny _ _ (field (.ref b) 1 >>= _) _ _ s;refine zA (xW d c (x:=.int i 0) rfl ?_);show wpAny _ _ (seqItems? (.ref a) >>= _) _ _ s;refine zA (wJ g m ?_);simp only[Int.toNat_natCast,j];refine zA (sH d c (by simp) (zB ⟨x,rfl,zB (f _ ?_ (vC ..))⟩));exact⟨_,wG _ d (Obj.isFreed_of_fields (sD c _)),(Obj.cls_mapFields ..).trans k,by
  rw[sD c];simp[rawInt]⟩
theorem Qr{b a:Addr}{i:Nat}{items}{Q:VP}(hh:A.handled=none)(c:s.heap.IsTupleIter b a i)(l:s.heap.IsTuple a items)(j:items[i]?=none)
  (k:∀h' e,Heap.ExtBut b s.heap h'->(∃o,h'.get? e=some o/\o.cls=.type "StopIteration")->E (.ref e) {s with heap:=h'}):wpAny (model prog w) A (Builtin.SmallTypes.nextOf (.ref b)) Q E s:=by
 obtain⟨o,d,p,f⟩:=id c;obtain⟨q,g,_,n,m⟩:=l;unfold Builtin.SmallTypes.nextOf;refine zA (wB (name:=Str.ofString "__next__") c.typeIs vQ
  (xV vQ c.typeIs F.entry_tuple_iterator_next ?_ (F.args_tuple_iterator_next_1 _)))
 show wpAny _ _ (field (.ref b) 0 >>= _) _ _ s;refine zA (xW d f (x:=.ref a) rfl ?_);show wpAny _ _ (if(Value.ref a == Value.none)=true then _ else _) _ _ s;rw[zD (show¬ ((Value.ref a == Value.none)=true) from zX)];show wpAny _ _ (field (.ref b) 1 >>= _) _ _ s;refine zA (xW d f (x:=.int i 0) rfl ?_);show wpAny _ _ (seqItems? (.ref a) >>= _) _ _ s;refine zA (wJ g m ?_);simp only[Int.toNat_natCast,j];refine zA (wU (zA (sH d f (by simp) ?_)));show wpAny _ _ (newExc (.type "StopIteration") [] >>= _) _ _ _;refine zA ?_;simp only[newExc,newTuple];refine zA (xL ?_ (by size_fits));refine zA (m:=firstArgMember _ _) (wpAny_of_eq (a:=Value.none) (by first|rfl|(simp only[firstArgMember];rfl)) ?_);refine xL ?_ (by size_fits);simp only[raiseNew];refine zA (wpAny_handled ?_)
 first|rw[show A.in1.handled=none from hh]|rw[hh]
 refine zA (zB (wpAny_throw ?_));exact k _ _ (((vC ..).extBut.push _).push _) ⟨_,zS _ rfl,rfl⟩
theorem bN{b:Bool}{a l:Addr}{i:Nat}{items:Array Value}{x:Value}{Q:VP}(c:ItB b s.heap a l i)(hl:seqB b s.heap l items)(e:items[i]?=some x)
  (d:∀h',ItB b h' a l (i+1)->Heap.SameBut a s.heap h'->Q x {s with heap:=h'}):wpAny (model prog w) A (Builtin.SmallTypes.nextOf (.ref a)) Q E s:=by
 cases b
 ·exact wpAny_nextOf_list_item c hl e d
 ·exact Qs c hl e d
theorem Bv{b:Bool}{a l:Addr}{i:Nat}{items:Array Value}{Q:VP}(hh:A.handled=none)(c:ItB b s.heap a l i)(hl:seqB b s.heap l items)(f:items[i]?=none)
  (d:∀h' e,Heap.ExtBut a s.heap h'->(∃o,h'.get? e=some o/\o.cls=.type "StopIteration")->E (.ref e) {s with heap:=h'}):wpAny (model prog w) A (Builtin.SmallTypes.nextOf (.ref a)) Q E s:=by
 cases b
 ·exact wpAny_nextOf_list_end hh c hl f d
 ·exact Qr hh c hl f d
theorem Gi{b:Bool}{l:Addr}{items:Array Value}{Q:VP}(hl:seqB b s.heap l items)
  (a:Q (.ref s.heap.objs.size) {s with heap:=s.heap.push {cls:=.type (nmB b),data:=.fields #[.ref l,.int 0 0]}}):wpAny (model prog w) A (pyIter (.ref l)) Q E s:=by
 cases b
 ·exact sJ hl a
 ·exact uK hl a
theorem Gh{b:Bool}{h:Heap}{l:Addr}:ItB b (h.push {cls:=.type (nmB b),data:=.fields #[.ref l,.int 0 0]}) h.objs.size l 0:=by
 cases b
 ·exact⟨_,zS _ rfl,rfl,rfl⟩
 ·exact⟨_,zS _ rfl,rfl,rfl⟩
theorem Gg(b:Bool)(hh:A.handled=none)(a l:Addr)(m:l≠a)(items:Array Value):
  Draws prog w A a [a,l] items.size (λi v=>items[i]?=some v) (λi h=>ItB b h a l i/\seqB b h l items) where
 live:=λ_ _ st=>let ⟨o,g,_⟩:=st.1.lt;⟨o,g⟩
 frame:=λ_ _ _ st c=>⟨st.1.at λo e=>c a (by simp) o e,st.2.at λo e=>c l (by simp) o e⟩
 item:=λi s Q E hi st f=>by
  refine bN st.1 st.2 (x:=items[i]) (by simp[hi]) λh' k d=>?_;exact f _ h' s.toks (by simp[hi]) ⟨k,st.2.at λo e=>(d.2 l m).trans e⟩ d
 done:=λs Q E st j=>Bv hh st.1 st.2 (by simp) j
theorem Qq{b1 b2:Bool}{z TI TO g f l1 l2:Addr}{k1 k2:Nat}{xs ys:Array Value}{x y a b:Value}{Q:Option Value->Shared->Prop}(D:ZipApart z TI TO g f l1 l2)
  (m:IsZip s.heap z TI TO .none)(a7:IsPair s.heap TI (.ref g) (.ref f))(W:IsPair s.heap TO a b)
  (a1:ItB b1 s.heap g l1 k1)(b4:ItB b2 s.heap f l2 k2)(a0:seqB b1 s.heap l1 xs)(a4:seqB b2 s.heap l2 ys)(Z:xs[k1]?=some x)(U:ys[k2]?=some y)
  (X:∀h',IsZip h' z TI TO (rawInt s.heap.objs.size)->IsPair h' TO x y->ItB b1 h' g l1 (k1+1)->ItB b2 h' f l2 (k2+1)->IsPair h' s.heap.objs.size x y->h'.objs.size=s.heap.objs.size+1 ->
   (∀c o,c≠z->c≠TO->c≠g->c≠f->s.heap.get? c=some o->h'.get? c=some o)->Q (some (.ref s.heap.objs.size)) {s with heap:=h'}):
  wpAny (model prog w) A (pyNext (.ref z)) Q E s:=by
 have T:s.TypeIs (.ref z) "zip" := ⟨_,m,rfl⟩;unfold pyNext;refine zA (vP (wB (name:=Str.ofString "__next__") T rL (xV rL T F.entry_zip_next ?_ (F.args_zip_next_1 _))));show wpAny _ _ (field (.ref z) 2 >>= _) _ _ _;refine zA (xW m rfl (x:=.bool false) rfl ?_);show wpAny _ _ (field (.ref z) 3 >>= _) _ _ _;refine zA (xW m rfl (x:=.ref TI) rfl ?_);refine zA (wJ a7 rfl ?_);show wpAny _ _ (Builtin.SmallTypes.ownedTupleIsFree (.ref z) >>= _) _ _ _;refine zA ?_;unfold Builtin.SmallTypes.ownedTupleIsFree;refine zA (xW m rfl (x:=.none) rfl (zB ?_));simp only[if_true];refine zA (wU ?_);refine zA (xW m rfl (x:=.ref TO) rfl ?_);refine zA (vL m (by simp) λa5 G j=>?_);replace G:IsZip a5 z TI TO .ellipsis:=G;refine zA ?_;simp only[List.zipIdx_cons,List.zipIdx_nil,List.forIn_cons,List.forIn_nil];refine zA (zA (qH ?_));show wpAny _ _ (Builtin.SmallTypes.nextOf (.ref g) >>= _) _ _ _;refine zA (bN (a1.at λo e=>j.extBut _ _ D.i1z e) (a0.at λo e=>j.extBut _ _ D.l1z e) Z λb0 V l=>zB ?_);have P:IsPair b0 TO a b:=l.extBut _ _ D.TOi1 (j.extBut _ _ D.TOz W);refine zA (wJ P rfl ?_);refine zA (rJ P λa8 I k=>?_);replace I:IsPair a8 TO x b:=I;refine zA (pH (zB ?_));refine zA (zA (qH ?_));show wpAny _ _ (Builtin.SmallTypes.nextOf (.ref f) >>= _) _ _ _;refine zA (bN (b4.at λo e=>k.extBut _ _ D.TOi2.symm (l.extBut _ _ D.i12.symm (j.extBut _ _ D.i2z e)))
  (a4.at λo e=>k.extBut _ _ D.l2TO (l.extBut _ _ D.l2i1 (j.extBut _ _ D.l2z e))) U λY a3 p=>zB ?_)
 have N:IsPair Y TO x b:=p.extBut _ _ D.TOi2 I;refine zA (wJ N rfl ?_);refine zA (rJ N λd r n=>?_);replace r:IsPair d TO x y:=r;refine zA (pH (zB (zB ?_)));refine zA (wJ r rfl ?_);refine zA (pJ ?_);have hsz:d.objs.size=s.heap.objs.size:=by rw[n.1,p.1,k.1,l.1,j.1]
 have S:IsZip d z TI TO .ellipsis:=n.extBut _ _ D.TOz.symm (p.extBut _ _ D.i2z.symm (k.extBut _ _ D.TOz.symm (l.extBut _ _ D.i1z.symm G)));have b5:∀c o,c≠z->c≠TO->c≠g->c≠f->s.heap.get? c=some o->d.get? c=some o:=λc o i u K v e =>
  n.extBut _ _ u (p.extBut _ _ v (k.extBut _ _ u (l.extBut _ _ K (j.extBut _ _ i e))))
 have a9:ItB b1 d g l1 (k1+1):=V.at λo e=>n.extBut _ _ D.TOi1.symm (p.extBut _ _ D.i12 (k.extBut _ _ D.TOi1.symm e));have b3:ItB b2 d f l2 (k2+1):=a3.at λo e=>n.extBut _ _ D.TOi2.symm e;have M:z<d.objs.size:=zL S;show wpAny _ _ (Builtin.SmallTypes.ownedTupleHandOut (.ref z) (.ref d.objs.size) >>= _) _ _ _;refine zA ?_;unfold Builtin.SmallTypes.ownedTupleHandOut;have a6:IsZip (d.push {cls:=.type "tuple",data:=.seq #[x,y]}) z TI TO .ellipsis:=zC _ S;refine zA (vL a6 (by simp) λa2 J L=>?_);replace J:IsZip a2 z TI TO (rawInt d.objs.size):=J;refine vL J (by simp) λq t C=>?_;replace t:IsZip q z TI TO (rawInt d.objs.size):=t;have up:∀c o,c≠z->d.get? c=some o->q.get? c=some o:=λc o i e=>C.extBut _ _ i (L.extBut _ _ i (zC _ e));have O:IsPair q d.objs.size x y:=C.extBut _ _ (rM M) (L.extBut _ _ (rM M) (zS _ rfl));have R:q.objs.size=d.objs.size+1:=by rw[C.1,L.1,xR]
 rw[hsz]at t O R;refine zB ⟨_,rfl,zB ?_⟩;show Q (some (.ref d.objs.size)) _;rw[hsz];exact X q t (up _ _ D.TOz r) (a9.at λo e=>up _ o D.i1z e) (b3.at λo e=>up _ o D.i2z e) O R λc o i u K v e=>up c o i (b5 c o i u K v e)
theorem Qp{b1 b2:Bool}{z TI TO n l l1 l2:Addr}{k1 k2:Nat}{xs ys:Array Value}{a b:Value}{Q:Option Value->Shared->Prop}(hh:A.handled=none)(D:ZipApart z TI TO n l l1 l2)
  (j:IsZip s.heap z TI TO .none)(X:IsPair s.heap TI (.ref n) (.ref l))(S:IsPair s.heap TO a b)
  (K:ItB b1 s.heap n l1 k1)(a0:ItB b2 s.heap l l2 k2)(J:seqB b1 s.heap l1 xs)(U:seqB b2 s.heap l2 ys)(V:xs[k1]?=none\/ys[k2]?=none)
  (I:∀h',(∀c o,c≠z->c≠TO->c≠n->c≠l->s.heap.get? c=some o->h'.get? c=some o)->Q none {s with heap:=h'}):wpAny (model prog w) A (pyNext (.ref z)) Q E s:=by
 have O:s.TypeIs (.ref z) "zip" := ⟨_,j,rfl⟩;unfold pyNext;refine zA (vP (wB (name:=Str.ofString "__next__") O rL (xV rL O F.entry_zip_next (Q:=_) ?_ (F.args_zip_next_1 _))));show wpAny _ _ (field (.ref z) 2 >>= _) _ _ _;refine zA (xW j rfl (x:=.bool false) rfl ?_);show wpAny _ _ (field (.ref z) 3 >>= _) _ _ _;refine zA (xW j rfl (x:=.ref TI) rfl ?_);refine zA (wJ X rfl ?_);show wpAny _ _ (Builtin.SmallTypes.ownedTupleIsFree (.ref z) >>= _) _ _ _;refine zA ?_;unfold Builtin.SmallTypes.ownedTupleIsFree;refine zA (xW j rfl (x:=.none) rfl (zB ?_));simp only[if_true];refine zA (wU ?_);refine zA (xW j rfl (x:=.ref TO) rfl ?_);refine zA (vL j (by simp) λW p d=>?_);replace p:IsZip W z TI TO .ellipsis:=p;refine zA ?_;simp only[List.zipIdx_cons,List.zipIdx_nil,List.forIn_cons,List.forIn_nil];refine zA (zA (qH ?_));show wpAny _ _ (Builtin.SmallTypes.nextOf (.ref n) >>= _) _ _ _;cases hx:xs[k1]? with
 |none =>
  refine zA (Bv hh (K.at λo e=>d.extBut _ _ D.i1z e) (J.at λo e=>d.extBut _ _ D.l1z e) hx λv e f q=>?_);obtain⟨u,g,k⟩:=q;have L:IsZip v z TI TO .ellipsis:=f _ _ D.i1z.symm p;have t:e≠z:=λx=>by subst x;rw[L]at g;cases g;simp at k
  refine vL L (by simp) λM _ i=>?_;refine zA (vZ (T:= "StopIteration") (b:=true) ⟨u,i.extBut _ _ t g,k⟩ pK ?_);exact zB (I M λc o m _ r _ x=>i.extBut _ _ m (f _ _ r (d.extBut _ _ m x)))
 | some x =>
  have P:ys[k2]?=none:=by rcases V with h|h;rw[hx]at h;cases h;exact h
  refine zA (bN (K.at λo e=>d.extBut _ _ D.i1z e) (J.at λo e=>d.extBut _ _ D.l1z e) hx λv a1 f=>zB ?_);have G:IsPair v TO a b:=f.extBut _ _ D.TOi1 (d.extBut _ _ D.TOz S);refine zA (wJ G rfl ?_);refine zA (rJ G λM a2 i=>?_);refine zA (pH (zB ?_));refine zA (zA (qH ?_));show wpAny _ _ (Builtin.SmallTypes.nextOf (.ref l) >>= _) _ _ _;refine zA (Bv hh (a0.at λo e=>i.extBut _ _ D.TOi2.symm (f.extBut _ _ D.i12.symm (d.extBut _ _ D.i2z e)))
   (U.at λo e=>i.extBut _ _ D.l2TO (f.extBut _ _ D.l2i1 (d.extBut _ _ D.l2z e))) P λT e C q=>?_)
  obtain⟨u,g,k⟩:=q;have N:IsZip T z TI TO .ellipsis:=C _ _ D.i2z.symm (i.extBut _ _ D.TOz.symm (f.extBut _ _ D.i1z.symm p));have t:e≠z:=λx=>by subst x;rw[N]at g;cases g;simp at k
  refine vL N (by simp) λY _ y=>?_;refine zA (vZ (T:= "StopIteration") (b:=true) ⟨u,y.extBut _ _ t g,k⟩ pK ?_);exact zB (I Y λc o m Z r R x=>y.extBut _ _ m (C _ _ R (i.extBut _ _ Z (f.extBut _ _ r (d.extBut _ _ m x)))))
end
abbrev zB1(b1:Bool)(h:Heap)(l1:Addr):Heap:=h.push {cls:=.type (nmB b1),data:=.fields #[.ref l1,.int 0 0]}
abbrev zB2(b1 b2:Bool)(h:Heap)(l1 l2:Addr):Heap:=(zB1 b1 h l1).push {cls:=.type (nmB b2),data:=.fields #[.ref l2,.int 0 0]}
abbrev zB3(b1 b2:Bool)(h:Heap)(l1 l2:Addr):Heap:=(zB2 b1 b2 h l1 l2).push {cls:=.type "tuple",data:=.seq #[.ref h.objs.size,.ref (zB1 b1 h l1).objs.size]}
abbrev zB4(b1 b2:Bool)(h:Heap)(l1 l2:Addr):Heap:=(zB3 b1 b2 h l1 l2).push {cls:=.type "tuple",data:=.seq #[.none,.none]}
abbrev zB5(b1 b2:Bool)(h:Heap)(l1 l2:Addr):Heap:=(zB4 b1 b2 h l1 l2).push {cls:=.type "zip",data:=.fields #[.none,.bool false,.bool false,.ref (zB2 b1 b2 h l1 l2).objs.size,.ref (zB3 b1 b2 h l1 l2).objs.size]}
theorem Qo(b1 b2:Bool)(l1 l2:Addr)(xs ys:Array Value):
  Meets (Builtin.«zip.__new__» ⟨[.type "zip",.ref l1,.ref l2],[]⟩) (λ_ R s=>seqB b1 s.heap l1 xs/\seqB b2 s.heap l2 ys /\
   R (.ok (.ret (.ref (zB4 b1 b2 s.heap l1 l2).objs.size))) {s with heap:=zB5 b1 b2 s.heap l1 l2}):=
 .of_wp λprog w A R s h=>by
  obtain⟨b,g,d,tk,a⟩:=s;obtain⟨f,i,h⟩:=h;have k:=sub_zip;have j:seqB b1 (Shared.heap ⟨b,g,d,tk,a⟩) l1 xs:=f;have c:seqB b2 (Shared.heap ⟨b.push {cls:=.type (nmB b1),data:=.fields #[.ref l1,.int 0 0]},g,d,tk,a⟩) l2 ys:=i.at λo e=>zC _ e
  wp_walk using Gi j,Gi c
  exact⟨_,rfl,h⟩
theorem Qn{prog:Program}{w:World}{A:Around}{E:VP}{s:Shared}{b1 b2:Bool}{l1 l2:Addr}{xs ys:Array Value}{Q:VP}(n:seqB b1 s.heap l1 xs)(q:seqB b2 s.heap l2 ys)
  (h:∀h',IsZip h' (s.heap.objs.size+4) (s.heap.objs.size+2) (s.heap.objs.size+3) .none->IsPair h' (s.heap.objs.size+2) (.ref s.heap.objs.size) (.ref (s.heap.objs.size+1)) ->
   IsPair h' (s.heap.objs.size+3) .none .none->ItB b1 h' s.heap.objs.size l1 0->ItB b2 h' (s.heap.objs.size+1) l2 0 ->
   (∀c o,s.heap.get? c=some o->h'.get? c=some o)->Q (.ref (s.heap.objs.size+4)) {s with heap:=h'}):
  wpAny (model prog w) A (call (.type "zip") [.ref l1,.ref l2]) Q E s:=by
 refine callType_new F.called_zip ∅ (F.typeCall_zip_2 _ _) (F.newCall_zip_2 _ _) (λm=>F.args_object_init_3 m _ _) F.entry_zip_new
  (Qo b1 b2 l1 l2 xs ys) ⟨n,q,?_⟩
 have f:(zB1 b1 s.heap l1).objs.size=s.heap.objs.size+1:=xR ..;have g:(zB2 b1 b2 s.heap l1 l2).objs.size=s.heap.objs.size+2:=by rw[xR,f]
 have a:(zB3 b1 b2 s.heap l1 l2).objs.size=s.heap.objs.size+3:=by rw[xR,g]
 have i:(zB4 b1 b2 s.heap l1 l2).objs.size=s.heap.objs.size+4:=by rw[xR,a]
 have b:(zB5 b1 b2 s.heap l1 l2).get? (zB4 b1 b2 s.heap l1 l2).objs.size=some _:=zS _ rfl;have l:(zB5 b1 b2 s.heap l1 l2).get? (zB3 b1 b2 s.heap l1 l2).objs.size=some _:=zC _ (zS _ rfl);have k:(zB5 b1 b2 s.heap l1 l2).get? (zB2 b1 b2 s.heap l1 l2).objs.size=some _:=zC _ (zC _ (zS _ rfl));have d:∀c o,(zB2 b1 b2 s.heap l1 l2).get? c=some o->(zB5 b1 b2 s.heap l1 l2).get? c=some o:=λc o e=>zC _ (zC _ (zC _ e));have j:ItB b2 (zB5 b1 b2 s.heap l1 l2) (zB1 b1 s.heap l1).objs.size l2 0:=Gh.at λo e=>d _ o e;have p:ItB b1 (zB5 b1 b2 s.heap l1 l2) s.heap.objs.size l1 0:=Gh.at λo e=>d _ o (zC _ e);show _/\_;rw[g,a,i]at b;rw[f,g]at k;rw[a]at l;rw[f]at j;rw[i];exact⟨⟨_,b,rfl⟩,h _ b k l p j λc o x=>d c o (zC _ (zC _ x))⟩
section
variable {X:Cx} {pins:PN} {σ:St} {H:Hp} {s:Shared} {h':Heap}
theorem Inv.seqB{b:Bool}{a:Addr}{xs:List V}(I:Inv X pins σ H s)(h:SqB b X.K H a xs):∃its:LW,Vals xs its/\L2.seqB b s.heap a its.toArray:=by
 cases b
 ·obtain⟨its,c,p,_⟩:=I.list h;exact⟨its,c,p.isList⟩
 ·obtain⟨its,c,p,_⟩:=I.tuple h;exact⟨its,c,p⟩
theorem Inv.seqB_inj{b:Bool}{a:Addr}{xs ys:List V}(I:Inv X pins σ H s)(h:SqB b X.K H a xs)(c:SqB b X.K H a ys):xs=ys:=by
 cases b
 ·exact I.list_inj h c
 ·exact I.tuple_inj h c
theorem Inv.seq_ne{b:Bool}{a f:Addr}{xs:List V}(I:Inv X pins σ H s)(h:SqB b X.K H a xs)(g:FpOk X pins H f):a≠f:=by
 have i:∀u,Rd H a u->a≠f:=λu r z=>by
  subst z;rcases r with r|⟨o,r⟩ <;> (rw[g.1]at r;cases r)
 have d:∀o,X.K.lookup a=some o->a≠f:=λo e z=>by
  subst z;have q:=I.mod.kin a o e;rcases g.2.2.2.1 with w|w
  ·exact I.ok.noex _ _ q w
  ·exact absurd (zJ (zL q) (yG I.ok.bsz w)) (xC _)
 cases b
 ·rcases h with h|⟨o,its,n,c,_⟩
  ·exact i _ h
  ·exact d _ c
 ·rcases h with h|⟨o,its,n,c,_⟩
  ·exact i _ h
  ·exact d _ c
theorem Inv.turnedNew{f:LA}{n:Addr}{u:HO}{t':Nat}(I:Inv X pins σ H s)(i:∀b∈f,FpOk X pins H b)(k:∀b o,b∉f->s.heap.get? b=some o->h'.get? b=some o)(j:s.heap.objs.size<=n)
  (new:nO X.prog X.w (upd H n u) h' n u):Inv X pins σ (upd H n u) {s with heap:=h',toks:=t'}:=by
 have d:=I.hok.fresh j;have l:∀b v,H b=some v->b∉f:=λb v e z=>by rw[(i b z).1]at e;cases e
 have y:X.env.locals∉f:=λz=>(i _ z).2.1 rfl;refine I.step (g':=s.gens) (d':=s.drawn) (ch:=f) (λb g=>?_) (λb o _ _ a e _=>k b o a e) (λb o _ _ a e _=>⟨o.slots,k b o a e⟩) (λb o _ e z=>?_)
  (λb o a e=>⟨o,k b o a e⟩) (λb xs e=>?_) (λb o v e=>?_) (λb ps e=>⟨#[],?_⟩) (λm C=>?_) (λb v e=>?_) I.bare
 ·obtain⟨G,p,J,F,w,D⟩:=i b g;exact⟨F,p,w,D⟩
 ·rw[oT (zY (zJ (zL e) j))];exact z
 ·rw[oT (nY e d)];exact e
 ·rw[oT (nY e d)];exact e
 ·rw[oT (nY e d),e];simp
 ·obtain⟨o,es,ep,t,r⟩:=C;exact⟨o,es,ep,k _ o y t,r⟩
 ·by_cases g:b=n
  ·subst g;rw[oP]at e;cases e;exact new
  ·rw[oT g]at e;refine(I.hok b v e).stay (λc x a q=>k c x ?_ q) (λc q=>by rw[oT (nY q d)];exact q) λc xs q=>by rw[oT (nY q d)];exact q
   rcases a with z|z
   ·rw[z];exact l b v e
   ·exact l c _ z
theorem Inv.turnedL{d:LA}{t':Nat}(I:Inv X pins σ H s)(f:∀b∈d,FpOk X pins H b)(k:∀b o,b∉d->s.heap.get? b=some o->h'.get? b=some o):Inv X pins σ H {s with heap:=h',toks:=t'}:=by
 have g:∀b v,H b=some v->b∉d:=λb v e z=>by rw[(f b z).1]at e;cases e
 have p:X.env.locals∉d:=λz=>(f _ z).2.1 rfl;refine I.step (g':=s.gens) (d':=s.drawn) (ch:=d) (λb j=>?_) (λb o _ _ a e _=>k b o a e) (λb o _ _ a e _=>⟨o.slots,k b o a e⟩) (λb o _ e z=>z)
  (λb o a e=>⟨o,k b o a e⟩) (λb xs e=>e) (λb o v e=>e) (λb ps e=>⟨#[],by rw[e];simp⟩) (λm t=>?_) (λb v e=>?_) I.bare
 ·obtain⟨y,i,C,l,w,u⟩:=f b j;exact⟨l,i,w,u⟩
 ·obtain⟨o,es,ep,n,r⟩:=t;exact⟨o,es,ep,k _ o p n,r⟩
 ·refine(I.hok b v e).stay (λc x a q=>k c x ?_ q) (λc q=>q) λc xs q=>q;rcases a with z|z
  ·rw[z];exact g b v e
  ·exact g c _ z
end
def Itz(K:Frag)(b1:Bool)(l1:Addr)(b2:Bool)(l2:Addr):It:=
  ⟨λi H=>∃xs ys x y,SqB b1 K H l1 xs/\SqB b2 K H l2 ys/\xs[i]?=some x/\ys[i]?=some y,
   λi H v H'=>∃p x y,v=.ref p/\H p=none/\H'=upd H p (.tup [x,y])/\(∀xs,SqB b1 K H l1 xs->xs[i]?=some x)/\∀ys,SqB b2 K H l2 ys->ys[i]?=some y,
   λi H=>∃xs ys,SqB b1 K H l1 xs/\SqB b2 K H l2 ys/\(xs[i]?=none\/ys[i]?=none)⟩
theorem Gf{xs:List V}{its:LW}{i:Nat}(r:Vals xs its):xs[i]?=none->its.toArray[i]?=none:=λh=>by
 have:=r.none_of h;simpa using this
theorem Qm{P:Program}{w:World}{K:Frag}{es:List Expr}{k:Nat}{d6:Pos}{b1 b2:Bool}{z TI TO g d l1 l2:Addr}(S:[z,TI,TO,g,d].Nodup):
  Turn P w K (.Tuple es k d6) (Itz K b1 l1 b2 l2) [z,TI,TO,g,d] z (λi h=>IsZip h z TI TO .none/\IsPair h TI (.ref g) (.ref d)/\(∃a b,IsPair h TO a b)/\ItB b1 h g l1 i/\ItB b2 h d l2 i) where
 mem:=by simp
 obj:=λi h⟨u,m,⟨a,b,r⟩,t,C⟩c O=>by
  simp only[List.mem_cons,List.not_mem_nil,or_false]at O;rcases O with e|e|e|e|e <;> subst e
  ·exact⟨_,u,λv q=>by have M:Data.fields _=Data.cell v:=q;cases M⟩
  ·exact⟨_,m,λv q=>by have M:Data.seq _ _=Data.cell v:=q;cases M⟩
  ·exact⟨_,r,λv q=>by have M:Data.seq _ _=Data.cell v:=q;cases M⟩
  ·exact t.lt
  ·exact C.lt
 keep:=λi h h'⟨u,m,⟨a,b,r⟩,t,C⟩N=>⟨N z (by simp) _ u,N TI (by simp) _ m,⟨a,b,N TO (by simp) _ r⟩,t.at λo e=>N g (by simp) o e,C.at λo e=>N d (by simp) o e⟩
 item:=by
  intro X b0 a3 b3 O i b8 s b7 H E I p st a1;subst b0 a3 b3;obtain⟨u,m,⟨a,b,r⟩,t,C⟩:=st;obtain⟨xs,ys,x,y,G,J,e1,c1⟩:=a1;obtain⟨d1,r1,a9⟩:=I.seqB G;obtain⟨d2,r2,a7⟩:=I.seqB J;obtain⟨c0,c5,c6⟩:=r1.get e1;obtain⟨c2,c9,d3⟩:=r2.get c1;have n:∀f∈[z,TI,TO,g,d],l1≠f:=λf F=>I.seq_ne G (p f F);have l:∀f∈[z,TI,TO,g,d],l2≠f:=λf F=>I.seq_ne J (p f F);simp only[List.nodup_cons,List.mem_cons,List.not_mem_nil,or_false,not_or,List.nodup_nil,and_true,not_false_eq_true]at S;obtain⟨⟨a6,V,b6,Z⟩,⟨b5,W,a4⟩,⟨Y,b4⟩,a0⟩:=S;have D:ZipApart z TI TO g d l1 l2:=⟨yA a6,yA V,yA b6,yA Z,b5,W,a4,Y,b4,a0,n z (by simp),n TO (by simp),n g (by simp),n d (by simp),l z (by simp),l TO (by simp),l g (by simp),l d (by simp)⟩;refine Qq D u m r t C a9 a7 (x:=c0) (y:=c2) (by simpa using c5) (by simpa using c9) λh' d4 c3 c7 c4 d7 e0 R=>⟨_,rfl,?_⟩;refine wpAny_letOwnedTupleGo_zip d4 λa2 d5 L=>?_;have up:∀c o,c∉[z,TI,TO,g,d]->s.heap.get? c=some o->a2.get? c=some o:=λc o j e=>by
   simp only[List.mem_cons,List.not_mem_nil,or_false,not_or]at j;obtain⟨T,d8,a8,U,a5⟩:=j;exact L.extBut _ _ T (R c o T a8 U a5 e)
  have b9:s.heap.objs.size≠z:=rM (zL u);have new:nO X.prog X.w (upd H s.heap.objs.size (.tup [x,y])) a2 s.heap.objs.size (.tup [x,y]):=
   ⟨by show 2<=sizeLine;decide,[c0,c2],.cons c6 (.cons d3 .nil),⟨_,L.extBut _ _ b9 d7,rfl,_,rfl⟩⟩
  have c8:Inv X b8 b7 (upd H s.heap.objs.size (.tup [x,y])) {s with heap:=a2}:=I.turnedNew (t':=s.toks) p up (zE _) new;refine⟨.ref s.heap.objs.size,_,c8,rfl,⟨_,x,y,rfl,I.fresh,rfl,λd9 q=>by rw[I.seqB_inj q G];exact e1,λe2 q=>by rw[I.seqB_inj q J];exact c1⟩,⟨d5,L.extBut _ _ D.TIz (R _ _ D.TIz D.TITO D.TIi1 D.TIi2 m),⟨_,_,L.extBut _ _ D.TOz c3⟩,c7.at λo e=>L.extBut _ _ D.i1z e,c4.at λo e=>L.extBut _ _ D.i2z e⟩,λc j=>?_⟩;have d0:=(p c j).1;rw[oT]
  ·exact d0
  ·intro e;subst e;simp only[List.mem_cons,List.not_mem_nil,or_false]at j;rcases j with e|e|e|e|e
   ·exact b9 e
   ·exact absurd (zL m) (by rw[←e];exact xC _)
   ·exact absurd (zL r) (by rw[←e];exact xC _)
   ·obtain⟨o,q,_⟩:=t.lt;exact absurd (zL q) (by rw[←e];exact xC _)
   ·obtain⟨o,q,_⟩:=C.lt;exact absurd (zL q) (by rw[←e];exact xC _)
 done:=by
  intro X b0 a3 b3 O i b8 s b7 H E I p st a1;subst b0 a3 b3;obtain⟨u,m,⟨a,b,r⟩,t,C⟩:=st;obtain⟨xs,ys,G,J,e1⟩:=a1;obtain⟨d1,r1,a9⟩:=I.seqB G;obtain⟨d2,r2,a7⟩:=I.seqB J;have n:∀f∈[z,TI,TO,g,d],l1≠f:=λf F=>I.seq_ne G (p f F);have l:∀f∈[z,TI,TO,g,d],l2≠f:=λf F=>I.seq_ne J (p f F);simp only[List.nodup_cons,List.mem_cons,List.not_mem_nil,or_false,not_or,List.nodup_nil,and_true,not_false_eq_true]at S;obtain⟨⟨a6,V,b6,Z⟩,⟨b5,W,a4⟩,⟨Y,b4⟩,a0⟩:=S;have D:ZipApart z TI TO g d l1 l2:=⟨yA a6,yA V,yA b6,yA Z,b5,W,a4,Y,b4,a0,n z (by simp),n TO (by simp),n g (by simp),n d (by simp),l z (by simp),l TO (by simp),l g (by simp),l d (by simp)⟩;refine Qp (I.ok.hd O) D u m r t C a9 a7 (e1.imp (Gf r1) (Gf r2)) λh' R=>⟨rfl,I.turnedL (t':=s.toks) p λc o j e=>?_⟩;simp only[List.mem_cons,List.not_mem_nil,or_false,not_or]at j;obtain⟨T,d8,a8,U,a5⟩:=j;exact R c o T a8 U a5 e
 self:=λ_ _ _ _ _ st h=>wpAny_pyIter_zip st.1 h
section
variable {X:Cx}
def iZip(K:Frag)(ta:TA):TI:=λσ H R=>ta σ H λvs H1=>∃b1 b2 l1 l2,vs=[.ref l1,.ref l2]/\(∃xs,SqB b1 K H1 l1 xs)/\(∃ys,SqB b2 K H1 l2 ys)/\R (Itz K b1 l1 b2 l2) H1
theorem Ge{a b:Expr}{u:TA}{es:List Expr}{k:Nat}{J p t:Pos}(C:Gl X "zip")(P:X.mg "zip"=none)(O:PA X [a,b] u)(G:bootBuiltins "zip"=some (.type "zip"):=by decide +kernel)
  (T:starEach [a,b] X.env=[(false,eval a X.env),(false,eval b X.env)]:=by rfl)(m:starEach [b] X.env=[(false,eval b X.env)]:=by rfl):
  PI X (.Tuple es k J) (.Call (.Name "zip" p) [a,b] [] t) (iZip X.K u):=by
 intro y s v H R I h;refine Call_ (iD I C P G (xP (thn (O t y s v H _ I h) ?_) (by rw[T,m]) (by rw[m];rfl)));rintro us d ⟨vs,S,f,r1,g⟩;obtain⟨b1,b2,l1,l2,e,⟨xs,g⟩,⟨ys,F⟩,q⟩:=g;subst e;cases r1 with
 | cons r i =>
  cases i with
  | cons x i =>
   cases i;cases r;cases x;obtain⟨W,U,L⟩:=f.seqB g;obtain⟨V,v2,K⟩:=f.seqB F;refine Qn L K λh' o w D z N M=>?_;refine wpAny_pyIter_zip o ?_;have lt:∀j,j<=4->d.heap.objs.size<=d.heap.objs.size+j:=λj _=>qQ _ _;refine⟨d.heap.objs.size+4,[d.heap.objs.size+4,d.heap.objs.size+2,d.heap.objs.size+3,d.heap.objs.size,d.heap.objs.size+1],_,_,S,rfl,f.kept (t':=d.toks) M,Qm (b1:=b1) (b2:=b2) (l1:=l1) (l2:=l2) ?_,⟨o,w,⟨_,_,D⟩,z,N⟩,λc n=>?_,q⟩
   ·simp
   ·have l:d.heap.objs.size<=c:=by
     simp only[List.mem_cons,List.not_mem_nil,or_false]at n;rcases n with e|e|e|e|e <;> subst e <;> first|exact zE _|exact qQ _ _
    exact f.fpOk l (f.hok.fresh l)
end
open AutoSeq1 (wpAny_loadPart')
set_option maxRecDepth 100000 in
theorem Ql(l:Addr)(items:Array Value)(n:Nat)(b:Option Addr)(f:Array (Option Value)):
  Meets (Builtin.«enumerate.__new__» ⟨[.type "enumerate",.ref l],[]⟩) (λ_ R s=>s.heap.get? l=some {cls:=.type "tuple",dict:=b,data:=.seq items n,slots:=f} /\
   R (.ok (.ret (.ref (s.heap.push {cls:=.type "tuple_iterator",data:=.fields #[.ref l,.int 0 0]}).objs.size)))
    {s with heap:=(s.heap.push {cls:=.type "tuple_iterator",data:=.fields #[.ref l,.int 0 0]}).push {cls:=.type "enumerate",data:=.fields #[.none,.bool false,.ref s.heap.objs.size,rawInt 0,.none,.none]}}):=
 .of_wp λprog w A R s h=>by
  obtain⟨i,g,d,tk,e⟩:=s;obtain⟨hl,h⟩:=h;have j:=sub_enumerate;have a:Heap.IsTuple (Shared.heap ⟨i,g,d,tk,e⟩) l items:=⟨_,hl,rfl,n,rfl⟩
  wp_walk using uI hl
  refine wpAny_stack_any λst=>zB ?_;split
  ·rename_i c _ _ _ _ _;cases(c == Value.type "enumerate")
   ·wp_walk using uI hl,uK a
    exact⟨_,rfl,h⟩
   ·wp_walk using uI hl,uK a
    exact⟨_,rfl,h⟩
  ·wp_walk using uI hl,uK a
   exact⟨_,rfl,h⟩
theorem Qk{prog:Program}{w:World}{A:Around}{E:VP}{s:Shared}{b:Bool}{l:Addr}{items:Array Value}{Q:VP}(f:seqB b s.heap l items)
  (h:∀h',IsEnum h' (s.heap.objs.size+1) s.heap.objs.size 0 .none->ItB b h' s.heap.objs.size l 0 ->
   (∀b o,s.heap.get? b=some o->h'.get? b=some o)->Q (.ref (s.heap.objs.size+1)) {s with heap:=h'}):
  wpAny (model prog w) A (call (.type "enumerate") [.ref l]) Q E s:=by
 cases b
 ·exact call_enumerate_list f λh' p i r j=>h h' p i j
 ·obtain⟨⟨c,m,dt,q⟩,hl,a,n,d⟩:=f;replace a:c=.type "tuple" := a;replace d:dt=.seq items n:=d;subst a d;refine callType_new F.called_enumerate ∅ (F.typeCall_enumerate_1 _) (F.newCall_enumerate_1 _) (λk=>F.args_object_init_2 k _) F.entry_enumerate_new
   (Ql l items n m q) ⟨hl,?_⟩
  have e:(s.heap.push {cls:=.type "tuple_iterator",data:=.fields #[.ref l,.int 0 0]}).objs.size=s.heap.objs.size+1:=xR ..;show _/\_;rw[e];have g:IsEnum ((s.heap.push {cls:=.type "tuple_iterator",data:=.fields #[.ref l,.int 0 0]}).push
    {cls:=.type "enumerate",data:=.fields #[.none,.bool false,.ref s.heap.objs.size,rawInt 0,.none,.none]}) (s.heap.objs.size+1) s.heap.objs.size 0 .none:=by
   have:=zS (s.heap.push {cls:=.type "tuple_iterator",data:=.fields #[.ref l,.int 0 0]})
    (o:={cls:=.type "enumerate",data:=.fields #[.none,.bool false,.ref s.heap.objs.size,rawInt 0,.none,.none]}) rfl
   rw[e]at this;exact this
  refine⟨⟨_,g,rfl⟩,h _ g ⟨_,zC _ (zS _ rfl),rfl,rfl⟩ λb o x=>zC _ (zC _ x)⟩
def Ite(K:Frag)(b:Bool)(l:Addr):It:=
  ⟨λi H=>∃xs x,SqB b K H l xs/\xs[i]?=some x,
   λi H v H'=>∃p x,v=.ref p/\H p=none/\H'=upd H p (.tup [.int i,x])/\∀xs,SqB b K H l xs->xs[i]?=some x,
   λi H=>∃xs,SqB b K H l xs/\xs.length=i⟩
theorem Qj{P:Program}{w:World}{K:Frag}{es:List Expr}{k:Nat}{a8:Pos}{b:Bool}{e a l:Addr}(D:e≠a):
  Turn P w K (.Tuple es k a8) (Ite K b l) [e,a] e (λi h=>(∃y,IsEnum h e a i y)/\ItB b h a l i) where
 mem:=by simp
 obj:=λi h⟨⟨y,j⟩,g⟩c p=>by
  simp only[List.mem_cons,List.not_mem_nil,or_false]at p;rcases p with e|e <;> subst e
  ·exact⟨_,j,λv q=>by have Z:Data.fields _=Data.cell v:=q;cases Z⟩
  ·exact g.lt
 keep:=λi h h'⟨⟨y,j⟩,g⟩U=>⟨⟨y,U e (by simp) _ j⟩,g.at λo q=>U a (by simp) o q⟩
 item:=by
  intro X r J O p i S s R H E I m st F;subst r J O;obtain⟨⟨y,j⟩,g⟩:=st;obtain⟨xs,x,n,e1⟩:=F;obtain⟨t,r1,M⟩:=I.seqB n;obtain⟨V,T,a1⟩:=r1.get e1;have C:∀f∈[e,a],l≠f:=λf N=>I.seq_ne n (m f N);have b0:i<t.toArray.size:=by
   have:=(oG.mp T).1;simpa using this
  refine wpAny_pyNext_enum_itemD (Gg b (show X.A.in1.handled=none from I.ok.hd p) a l (C a (by simp)) t.toArray) j ⟨g,M⟩ b0 D (λq=>?_) λu h' tk r a7 Y a3 b2 a9=>⟨_,rfl,?_⟩
  ·simp only[List.mem_cons,List.not_mem_nil,or_false]at q;rcases q with q|q
   ·exact D q
   ·exact C e (by simp) q.symm
  have b1:u=V:=by
   have:t.toArray[i]?=some V:=by simpa using T
   rw[this]at r;exact(zW r).symm
  subst b1;refine wpAny_letOwnedTupleGo_enum a7 λG a6 L=>?_;have W:s.heap.objs.size≠e:=rM (zL j);have up:∀c o,c∉[e,a]->s.heap.get? c=some o->G.get? c=some o:=λc o d q=>by
   simp only[List.mem_cons,List.not_mem_nil,or_false,not_or]at d;exact L.extBut _ _ d.1 (a9 c o d.1 d.2 q)
  have new:nO X.prog X.w (upd H s.heap.objs.size (.tup [.int i,x])) G s.heap.objs.size (.tup [.int i,x]):=
   ⟨by show 2<=sizeLine;decide,[.int i tk,u],.cons ⟨tk,rfl⟩ (.cons a1 .nil),⟨_,L.extBut _ _ W a3,rfl,_,rfl⟩⟩
  have a4:Inv X S R (upd H s.heap.objs.size (.tup [.int i,x])) {s with heap:=G,toks:=tk+1}:=I.turnedNew (t':=tk+1) m up (zE _) new;refine⟨.ref s.heap.objs.size,_,a4,rfl,⟨_,x,rfl,I.fresh,rfl,λb3 q=>by rw[I.seqB_inj q n];exact e1⟩,⟨⟨u,by simpa using a6⟩,Y.1.at λo q=>L.extBut _ _ (yA D) q⟩,λc d=>?_⟩;have a5:=(m c d).1;rw[oT]
  ·exact a5
  ·intro z;subst z;simp only[List.mem_cons,List.not_mem_nil,or_false]at d;rcases d with z|z
   ·exact W z
   ·obtain⟨o,q,_⟩:=g.lt;exact absurd (zL q) (by rw[←z];exact xC _)
 done:=by
  intro X r J O p i S s R H E I m st F;subst r J O;obtain⟨⟨y,j⟩,g⟩:=st;obtain⟨xs,n,e1⟩:=F;obtain⟨t,r1,M⟩:=I.seqB n;have C:∀f∈[e,a],l≠f:=λf N=>I.seq_ne n (m f N);have a0:t.toArray.size=i:=by rw[zT,←r1.length,e1]
  refine wpAny_pyNext_enum_endD (Gg b (show X.A.in1.handled=none from I.ok.hd p) a l (C a (by simp)) t.toArray) j ⟨by rw[a0];exact g,M⟩ λh' a2=>⟨rfl,I.turnedL (t':=s.toks) m λc o d q=>?_⟩;simp only[List.mem_cons,List.not_mem_nil,or_false,not_or]at d;exact a2 c o d.2 q
 self:=λ_ _ _ _ _ st h=>let ⟨⟨_,q⟩,_⟩:=st;wpAny_pyIter_enum q h
section
variable {X:Cx}
def dU(K:Frag)(ta:TA):TI:=λσ H R=>ta σ H λvs H1=>∃b l,vs=[.ref l]/\(∃xs,SqB b K H1 l xs)/\R (Ite K b l) H1
theorem bO{a:Expr}{o:TA}{es:List Expr}{k:Nat}{y p n:Pos}(w:Gl X "enumerate")(G:X.mg "enumerate"=none)(F:PA X [a] o)(x:bootBuiltins "enumerate"=some (.type "enumerate"):=by decide +kernel)
  (K:starEach [a] X.env=[(false,eval a X.env)]:=by rfl):
  PI X (.Tuple es k y) (.Call (.Name "enumerate" p) [a] [] n) (dU X.K o):=by
 intro v s t H R I h;refine Call_ (iD I w G x (xP (thn (F n v s t H _ I h) ?_) K rfl));rintro us d ⟨vs,J,f,r1,g⟩;obtain⟨b,l,e,⟨xs,g⟩,q⟩:=g;subst e;cases r1 with
 | cons r C =>
  cases C;cases r;obtain⟨M,L,z⟩:=f.seqB g;refine Qk z λh' m u D=>?_;refine wpAny_pyIter_enum m ?_;refine⟨d.heap.objs.size+1,[d.heap.objs.size+1,d.heap.objs.size],_,_,J,rfl,f.kept (t':=d.toks) D,Qj (b:=b) (l:=l) (by simp),⟨⟨_,m⟩,u⟩,λc j=>?_,q⟩;have i:d.heap.objs.size<=c:=by
   simp only[List.mem_cons,List.not_mem_nil,or_false]at j;rcases j with e|e <;> subst e <;> first|exact zE _|exact qQ _ _
  exact f.fpOk i (f.hok.fresh i)
theorem Gc:∀{ns:LI'}{its:LW},Vals (ns.map V.int) its->∃xs:List (Int×Tok),its=xs.map (λp=>Value.int p.1 p.2)/\xs.map (·.1)=ns
 |[],_,.nil=>⟨[],rfl,rfl⟩
 |n:: r,_,.cons ⟨a,h⟩ q=>by
  obtain⟨xs,e1,b⟩:=Gc (ns:=r) q;exact⟨(n,a):: xs,by rw[h,e1];rfl,by rw[zK,b]⟩
theorem bP(f:X.calm=true):lK X (.builtin "sum") (λxs H Q=>∃(p:Addr)(ns:LI'),xs=[.ref p]/\SqL X.K H p (ns.map V.int)/\Q (.int ns.sum) H):=by
 intro i s g H xs us Q I r h;obtain⟨p,ns,rfl,c,q⟩:=h;obtain⟨u,rfl,a⟩:=jE r;cases a;obtain⟨its,b,pl,j⟩:=I.list c;obtain⟨ps,e1,e⟩:=Gc b;have hl:s.heap.IsList p (intItems ps.toArray):=by
  have:=pl.isList;rw[e1]at this;simpa [intItems]using this
 refine sum_intListG (I.ok.hd f) hl λh' tk t' d=>⟨.int ns.sum,H,I.kept (t':=tk) d,⟨t',?_⟩,q⟩;rw[preSum_eq,yT (by simp)];simp[e]
end
theorem SqB.or{b:Bool}{K:Frag}{H:Hp}{a:Addr}{xs:List V}(h:SqB b K H a xs):SqL K H a xs\/SqT K H a xs:=by
 cases b
 ·exact .inl h
 ·exact .inr h
theorem SqB.up{b:Bool}{K:Frag}{H H':Hp}{a:Addr}{xs:List V}(h:SqB b K H a xs)(s:Same H H'):SqB b K H' a xs:=by
 cases b
 ·exact s.seq h
 ·exact s.tup h
theorem SqB.lst{K:Frag}{H:Hp}{a:Addr}{xs:List V}(h:H a=some (.lst xs)):SqB false K H a xs:=SqL.of h
theorem SqB.tup{K:Frag}{H:Hp}{a:Addr}{xs:List V}(h:H a=some (.tup xs)):SqB true K H a xs:=SqT.of h
def Its(K:Frag)(b:Bool)(a:Addr):It:=match b with|false=>Itl K a|true=>Itt K a
theorem Its.go{K:Frag}{b:Bool}{a:Addr}{xs:List V}{x:V}{i:Nat}{H:Hp}(h:SqB b K H a xs)(e:xs[i]?=some x):(Its K b a).go i H:=by
 cases b
 ·exact⟨xs,x,h,e⟩
 ·exact⟨xs,x,h,e⟩
theorem Its.stop{K:Frag}{b:Bool}{a:Addr}{xs:List V}{i:Nat}{H:Hp}(h:SqB b K H a xs)(e:xs.length<=i):(Its K b a).stop i H:=by
 cases b
 ·exact⟨xs,h,e⟩
 ·exact⟨xs,h,e⟩
theorem Its.yld{K:Frag}{b:Bool}{a:Addr}{xs:List V}{i:Nat}{H H':Hp}{x:V}(h:SqB b K H a xs)(y:(Its K b a).yld i H x H'):H'=H/\xs[i]?=some x:=by
 cases b
 ·exact⟨y.1,y.2 xs h⟩
 ·exact⟨y.1,y.2 xs h⟩
section
variable {X:Cx}
def iSeq(K:Frag)(tl:TE):TI:=λσ H R=>tl σ H λx H1=>∃b a,x=.ref a/\(∃xs,SqB b K H1 a xs)/\R (Its K b a) H1
theorem nV{m l:Expr}{i:TE}(hl:PE X l i):PI X m l (iSeq X.K i):=by
 intro n s k H R I h;refine thn (hl n s k H _ I h) ?_;rintro v c ⟨x,j,d,r1,u⟩;obtain⟨b,a,e,⟨xs,g⟩,q⟩:=u;subst e;cases r1;cases b
 ·obtain⟨its,r,p,t⟩:=d.list g;refine sJ p.isList ?_;refine⟨c.heap.objs.size,[c.heap.objs.size],_,_,j,rfl,d.kept (t':=c.toks) λb o e=>zC _ e,Nv a _,⟨_,zS _ rfl,rfl,rfl⟩,λb f=>?_,q⟩;have e:b=c.heap.objs.size:=by simpa using f
  subst e;exact d.fpOk (zE _) (d.hok.fresh (zE _))
 ·obtain⟨its,r,p,t⟩:=d.tuple g;refine uK (show c.heap.IsTuple a its.toArray from p) ?_;refine⟨c.heap.objs.size,[c.heap.objs.size],_,_,j,rfl,d.kept (t':=c.toks) λb o e=>zC _ e,Nu a _,⟨_,zS _ rfl,rfl,rfl⟩,λb f=>?_,q⟩;have e:b=c.heap.objs.size:=by simpa using f
  subst e;exact d.fpOk (zE _) (d.hok.fresh (zE _))
def rIxB(K:Frag):R2:=λx y H Q=>E5 λ(b:Bool)(p:Addr)(xs:List V)(i:Int)(v:V)=>A5 (x=.ref p) (y=.int i) (SqB b K H p xs) (atI xs i=some v) (Q v H)
theorem ix_B:IxR X (rIxB X.K):=by
 intro l m d s a H x y v u Q I c j h;obtain⟨b,p,xs,i,k,e1,g,f,e,q⟩:=h;cases b
 ·exact Oh l m d s a H x y v u Q I c j ⟨p,xs,i,k,e1,g,f,e,q⟩
 ·exact Og l m d s a H x y v u Q I c j ⟨p,xs,i,k,e1,g,f,e,q⟩
def dW(K:Frag):List V->Hp->VK->Prop:=λxs H Q=>E3 λ(b:Bool)(p:Addr)(ys:List V)=>A3 (xs=[.ref p]) (SqB b K H p ys) (Q (.int ys.length) H)
theorem Qi:lK X (.builtin "len") (dW X.K):=by
 intro d s c H xs us Q I r h;obtain⟨b,p,ys,e,a,q⟩:=h;exact Oa d s c H xs us Q I r ⟨p,ys,e,a.or,q⟩
def gT(K:Frag):List V->Hp->VK->Prop:=λxs H Q=>∃b p ys,xs=[.ref p]/\SqB b K H p ys/\∀l,H l=none->Q (.ref l) (upd H l (.lst ys))
theorem kR:lK X (.type "list") (gT X.K):=by
 intro d s c H xs us Q I r h;obtain⟨b,p,ys,e,a,q⟩:=h;exact Pz d s c H xs us Q I r ⟨p,ys,e,a.or,q⟩
def fW(K:Frag):List V->Hp->VK->Prop:=λxs H Q=>∃p ys,xs=[.ref p]/\((SqL K H p ys/\∀l,H l=none->Q (.ref l) (upd H l (.tup ys)))\/(SqT K H p ys/\Q (.ref p) H))
theorem jJ:lK X (.type "tuple") (fW X.K):=Py
end
theorem Qh{K:Frag}{b:Bool}{a:Addr}{xs:List V}{g:TG}{tb:TS}{D:Ends}{c:St}{H:Hp}(d:Nat->St->Hp->Prop)(k:d 0 c H)(hl:∀i c H,i<=xs.length->d i c H->SqB b K H a xs)
  (o:∀i x c H,xs[i]?=some x->d i c H->g x c H λf e=>tb {D with nx:=d (i+1),ct:=d (i+1),bk:=D.nx} f e)(n:∀c H,d xs.length c H->D.nx c H):
  ∃W:Nat->Nat->St->Hp->Prop,(∃m,W 0 m c H)/\∀i m c H,W i m c H ->
   ((Its K b a).stop i H/\D.nx c H)\/((Its K b a).go i H/\∃N:St->Hp->Prop,(∀j H',N j H'->∃l,l<m/\W (i+1) l j H')/\∀x H',(Its K b a).yld i H x H'->g x c H' λf e=>tb {D with nx:=N,ct:=N,bk:=D.nx} f e):=by
 cases b
 ·exact Np d k hl o n
 ·exact No d k hl o n
theorem Qg{K:Frag}{b:Bool}{a:Addr}{xs:List V}{g:TG}{tb:TS}{D:Ends}{c:St}{H:Hp}(d:Nat->St->Hp->Prop)(u:d 0 c H)(hl:∀i c H,i<=xs.length->d i c H->SqB b K H a xs)
  (w:∀i x p c H,xs[i]?=some x->d i c H->H p=none->g (.ref p) c (upd H p (.tup [.int i,x])) λk j=>tb {D with nx:=d (i+1),ct:=d (i+1),bk:=D.nx} k j)(v:∀c H,d xs.length c H->D.nx c H):
  ∃W:Nat->Nat->St->Hp->Prop,(∃m,W 0 m c H)/\∀i m c H,W i m c H ->
   ((Ite K b a).stop i H/\D.nx c H)\/((Ite K b a).go i H/\∃N:St->Hp->Prop,(∀f H',N f H'->∃n,n<m/\W (i+1) n f H')/\∀x H',(Ite K b a).yld i H x H'->g x c H' λk j=>tb {D with nx:=N,ct:=N,bk:=D.nx} k j):=by
 refine⟨λi m c H=>m=xs.length-i/\i<=xs.length/\d i c H,⟨xs.length,by simp,yB _,u⟩,?_⟩;rintro i m c H ⟨rfl,hi,p⟩;have q:=hl i c H hi p
 by_cases l:i<xs.length
 ·refine .inr ⟨⟨xs,xs[i],q,by simp[l]⟩,d (i+1),λf H' t=>⟨xs.length-(i+1),⋯,rfl,l,t⟩,λx H' y=>?_⟩;obtain⟨r,x,rfl,hr,rfl,o⟩:=y;exact w i x r c H (o xs q) p hr
 ·have e:i=xs.length:=⋯
  subst e;exact .inl ⟨⟨xs,q,rfl⟩,v c H p⟩
def kS(a:Addr)(H H':Hp):Prop:=∀b o,b≠a->H b=some o->H' b=some o
theorem Same.x{a:Addr}{H H':Hp}(s:Same H H'):kS a H H':=λb o _ e=>s b o e
section
variable {J:It} {g:TG} {tt:TOx} {te:TE} {n:Nat} {fr:List (Str×Nat)} {σ:St} {a:Addr} {H:Hp} {Q:VK} {K:Frag}
theorem Bu(len:Nat)(P:Nat->List V->Hp->Prop)(v:H a=none)(R:len<=1000)(M:P 0 [] (upd H a (.lst [])))
  (hl:∀i zs c,P i zs c->zs.length<=i)(mono:∀i zs c d,P i zs c->kS a c d->P i zs d)
  (N:∀i c,i<len->Same H c->J.go i c)(G:∀c,Same H c->J.stop len c)
  (I:∀i c zs,i<len->Same H c->c a=some (.lst zs)->P i zs c->∀(ys:St) x l,ys.length=n->J.yld i c x l->∀C:Option V->Hp->Prop,
   (∀y d,Same c d->P (i+1) (zs++[y]) d->C (some y) d)->(∀d,Same c d->P (i+1) zs d->C none d) ->
   g x (ys++mI fr σ) l λu F=>(∃w:St,w.length=n/\u=w++mI fr σ)/\tt u F C)
  (L:∀c ys,Same H c->c a=some (.lst ys)->P len ys c->Q (.ref a) c):lO J g tt n fr σ a H Q:=by
 refine⟨λi m c=>m=len-i/\i<=len/\Same H c/\∃zs,c a=some (.lst zs)/\P i zs c,⟨len,by simp,Nat.zero_le _,Same.new v,[],oP,M⟩,?_⟩;rintro i m c ⟨rfl,hi,f,zs,k,p⟩
 by_cases r:i<len
 ·refine .inr ⟨N i c r f,λH'=>i+1<=len/\Same H H'/\∃zs,H' a=some (.lst zs)/\P (i+1) zs H',λH' q=>⟨len-(i+1),⋯,rfl,q⟩,λys x l O z=>?_⟩;refine I i c zs r f k p ys x l O z _ (λy d j t=>?_) λd j t=>?_
  ·refine⟨zs,j _ _ k,iH (by have:=hl i zs c p;omega),r,Same.over v (f.trans j),_,oP,mono _ _ _ _ t λb o D e=>?_⟩;rw[oT D];exact e
  ·exact⟨r,f.trans j,zs,j _ _ k,t⟩
 ·have e:i=len:=⋯
  subst e;exact .inl ⟨G c f,L c zs f k p⟩
theorem bQ(len:Nat)(R:Nat->V->Hp->Prop)(P:H a=none)(L:len<=1000)(mono:∀i y b c,R i y b->kS a b c->R i y c)
  (M:∀i b,i<len->Same H b->J.go i b)(t:∀b,Same H b->J.stop len b)
  (u:∀i b zs,i<len->Same H b->b a=some (.lst zs)->∀(ys:St) x d,ys.length=n->J.yld i b x d->∀k:VK,(∀y c,Same b c->R i y c->k y c) ->
   g x (ys++mI fr σ) d λf q=>(∃m:St,m.length=n/\f=m++mI fr σ)/\te f q k)
  (w:∀b ys,Same H b->b a=some (.lst ys)->ys.length=len->(∀j y,ys[j]?=some y->R j y b)->Q (.ref a) b):lO J g (tEl te) n fr σ a H Q:=by
 refine Bu len (λi zs b=>zs.length=i/\∀j y,zs[j]?=some y->R j y b) P L ⟨rfl,λj y e=>by simp at e⟩ (λi zs b p=>tZ p.1) (λi zs b c p s=>⟨p.1,λj y e=>mono _ _ _ _ (p.2 j y e) s⟩) M t ?_ λb ys s e p=>w b ys s e p.1 p.2;intro i b zs hi F v p ys x d N o C D _;refine u i b zs hi F v ys x d N o _ λy c l r=>D y c l ⟨by simp[p.1],λj z e=>?_⟩
 by_cases O:j<zs.length
 ·rw[yD O]at e;exact mono _ _ _ _ (p.2 j z e) l.x
 ·rw[zV ⋯]at e;have G:j-zs.length=0:=by
   by_cases I:j-zs.length=0
   ·exact I
   ·rw[wF (by simp;omega)]at e;cases e
  rw[G]at e;cases zW e;have:j=i:=by have:=p.1;omega
  rw[this];exact r
theorem mU{b:Bool}{l:Addr}{xs:List V}(R:Nat->V->Hp->Prop)(r:H a=none)(f:SqB b K H l xs)(q:xs.length<=1000)(mono:∀i y c d,R i y c->kS a c d->R i y d)
  (v:∀i x c zs,xs[i]?=some x->Same H c->c a=some (.lst zs)->∀e:VK,(∀y d,Same c d->R i y d->e y d)->te (some x:: mI fr σ) c e)
  (C:∀c ys,Same H c->c a=some (.lst ys)->ys.length=xs.length->(∀j y,ys[j]?=some y->R j y c)->Q (.ref a) c):lO (Its K b l) (nB 0) (tEl te) 1 fr σ a H Q:=by
 refine bQ xs.length R r q mono (λi c hi s=>Its.go (f.up s) (x:=xs[i]) (by simp[hi])) (λc s=>Its.stop (f.up s) (zE _)) ?_ C;intro i c zs hi k z ys x u w m e p;obtain⟨e1,t⟩:=Its.yld (f.up k) m;subst e1
 match ys,w with
 |[o],_=>exact⟨⟨[some x],rfl,rfl⟩,v i x u zs t k z e p⟩
theorem kI{lo:Int}{len:Nat}(R:Nat->V->Hp->Prop)(m:H a=none)(l:len<=1000)(mono:∀i y b c,R i y b->kS a b c->R i y c)
  (r:∀(i:Nat) b zs,i<len->Same H b->b a=some (.lst zs)->∀d:VK,(∀y c,Same b c->R i y c->d y c)->te (some (.int (lo+i)):: mI fr σ) b d)
  (v:∀b ys,Same H b->b a=some (.lst ys)->ys.length=len->(∀j y,ys[j]?=some y->R j y b)->Q (.ref a) b):lO (Itr lo len) (nB 0) (tEl te) 1 fr σ a H Q:=by
 refine bQ len R m l mono (λi b hi s=>hi) (λb s=>zE _) ?_ v;intro i b zs hi f u ys x q t e d k;obtain⟨e1,p⟩:=e;subst e1 p
 match ys,t with
 |[o],_=>exact⟨⟨[_],rfl,rfl⟩,r i q zs hi f u d k⟩
theorem Gb{b1 b2:Bool}{l1 l2:Addr}{xs ys:List V}(R:Nat->V->Hp->Prop)(F:H a=none)(m:SqB b1 K H l1 xs)(f:SqB b2 K H l2 ys)(M:xs.length=ys.length)(z:xs.length<=1000)(mono:∀i y b c,R i y b->kS a b c->R i y c)
  (q:∀i x y b zs,xs[i]?=some x->ys[i]?=some y->Same H b->b a=some (.lst zs)->∀d:VK,(∀y c,Same b c->R i y c->d y c)->te (some x:: some y:: mI fr σ) b d)
  (u:∀b zs,Same H b->b a=some (.lst zs)->zs.length=xs.length->(∀j y,zs[j]?=some y->R j y b)->Q (.ref a) b):
  lO (Itz K b1 l1 b2 l2) (gTup K 2 (lC (nB 0) (lC (nB 1) gNil))) (tEl te) 2 fr σ a H Q:=by
 refine bQ xs.length R F z mono (λi b hi s=>⟨xs,ys,xs[i],ys[i],m.up s,f.up s,by simp[hi],by simp⟩) (λb s=>⟨xs,ys,m.up s,f.up s,.inl (by simp)⟩) ?_ u;intro i b zs hi l t C x L D e d w;obtain⟨p,x,y,rfl,k,rfl,v,e⟩:=e;refine⟨p,[x,y],rfl,SqT.of oP,rfl,x,[y],rfl,y,[],rfl,rfl,?_⟩
 match C,D with
 |[o,I],_ =>
  refine⟨⟨[some x,some y],rfl,rfl⟩,q i x y _ zs (v xs (m.up l)) (e ys (f.up l)) (l.trans (Same.new k)) (Same.new k _ _ t) d λy c G r=>w y c ((Same.new k).trans G) r⟩
theorem Qf{b:Bool}{l:Addr}{xs:List V}(R:Nat->V->Hp->Prop)(G:H a=none)(k:SqB b K H l xs)(C:xs.length<=1000)(mono:∀i y c d,R i y c->kS a c d->R i y d)
  (t:∀i x c zs,xs[i]?=some x->Same H c->c a=some (.lst zs)->∀e:VK,(∀y d,Same c d->R i y d->e y d)->te (some (.int i):: some x:: mI fr σ) c e)
  (v:∀c zs,Same H c->c a=some (.lst zs)->zs.length=xs.length->(∀j y,zs[j]?=some y->R j y c)->Q (.ref a) c):
  lO (Ite K b l) (gTup K 2 (lC (nB 0) (lC (nB 1) gNil))) (tEl te) 2 fr σ a H Q:=by
 refine bQ xs.length R G C mono (λi c hi s=>⟨xs,xs[i],k.up s,by simp[hi]⟩) (λc s=>⟨xs,k.up s,rfl⟩) ?_ v;intro i c zs hi m u D x M F q e z;obtain⟨p,x,rfl,f,rfl,w⟩:=q;refine⟨p,[.int i,x],rfl,SqT.of oP,rfl,_,[x],rfl,x,[],rfl,rfl,?_⟩
 match D,F with
 |[o,L],_ =>
  refine⟨⟨[some (.int i),some x],rfl,rfl⟩,t i x _ zs (w xs (k.up m)) (m.trans (Same.new f)) (Same.new f _ _ u) e λy d I r=>z y d ((Same.new f).trans I) r⟩
end
def MatB(b1 b2:Bool)(K:Frag)(H:Hp)(a:Addr)(rows:List (LI')):Prop:=∃ps:LA,SqB b1 K H a (ps.map V.ref)/\ps.length=rows.length/\∀(i:Nat)(p:Addr)(r:LI'),ps[i]?=some p->rows[i]?=some r->SqB b2 K H p (r.map V.int)
theorem MatB.up{b1 b2:Bool}{K:Frag}{H H':Hp}{a:Addr}{b:List (LI')}(h:MatB b1 b2 K H a b)(s:Same H H'):MatB b1 b2 K H' a b:=let ⟨ps,e,f,d⟩:=h;⟨ps,e.up s,f,λi p r e1 c=>(d i p r e1 c).up s⟩
def RowR(a:Addr)(f:Nat->LI')(j:Nat)(y:V)(H:Hp):Prop:=∃p,y=.ref p/\p≠a/\H p=some (.lst ((f j).map V.int))
theorem RowR.mono{a:Addr}{f:Nat->LI'}(i:Nat)(y:V)(c b:Hp)(h:RowR a f i y c)(s:kS a c b):RowR a f i y b:=let ⟨p,e,n,q⟩:=h;⟨p,e,n,s _ _ n q⟩
def iT:Nat->PyData->Bool
 |_,.int _=>true
 |n+1,.list xs=>xs.all (iT n)
 |n+1,.tuple xs=>xs.all (iT n)
 |_,_=>false
theorem iK:∀(n:Nat)(d:PyData),iT n d=true->d.canLay0=true/\d.depth<=n
 |0,.int _,_=>by simp[PyData.canLay0,PyData.depth]
 |n+1,.int _,_=>by simp[PyData.canLay0,PyData.depth]
 | n+1,.list xs,h=>by
  have all:∀ys:List PyData,ys.all (iT n)=true->PyData.canLayAll0 ys=true/\PyData.depthAll ys<=n:=by
   intro ys
   induction ys with
   |nil=>intro _;simp[PyData.canLayAll0,PyData.depthAll]
   |cons y r c =>
    intro a;rw[xH,zR]at a;have b:=iK n y a.1;have e:=c a.2;simp only[PyData.canLayAll0,PyData.depthAll,Bool.and_eq_true];exact⟨⟨b.1,e.1⟩,⋯⟩
  have:=all xs (by simpa [iT]using h);simp only[PyData.canLay0,PyData.depth];exact⟨this.1,⋯⟩
 | n+1,.tuple xs,h=>by
  have all:∀ys:List PyData,ys.all (iT n)=true->PyData.canLayAll0 ys=true/\PyData.depthAll ys<=n:=by
   intro ys
   induction ys with
   |nil=>intro _;simp[PyData.canLayAll0,PyData.depthAll]
   |cons y r c =>
    intro a;rw[xH,zR]at a;have b:=iK n y a.1;have e:=c a.2;simp only[PyData.canLayAll0,PyData.depthAll,Bool.and_eq_true];exact⟨⟨b.1,e.1⟩,⋯⟩
  have:=all xs (by simpa [iT]using h);simp only[PyData.canLay0,PyData.depth];exact⟨this.1,⋯⟩
theorem bR:∀(n:Nat)(d d':PyData),iT n d=true->iT n d'=true->SeqAt.noMix d d'=true:=by
 intro n
 induction n with
 |zero=>intro d d' h h';cases d <;> simp[iT]at h <;> cases d' <;> simp[iT]at h' <;> simp[SeqAt.noMix]
 | succ n e =>
  have all:∀ys zs:List PyData,ys.all (iT n)=true->zs.all (iT n)=true->SeqAt.noMixAll ys zs=true:=by
   intro ys
   induction ys with
   |nil=>intro zs _ _;cases zs <;> simp[SeqAt.noMixAll]
   | cons y r c =>
    intro zs a b;cases zs with
    |nil=>simp[SeqAt.noMixAll]
    |cons z f =>
     rw[xH,zR]at a b;simp only[SeqAt.noMixAll,Bool.and_eq_true];exact⟨e y z a.1 b.1,c f a.2 b.2⟩
  intro d d' h h';cases d <;> simp only[iT,Bool.false_eq_true]at h <;> cases d' <;> simp only[iT,Bool.false_eq_true]at h' <;> simp only[SeqAt.noMix]
  ·exact all _ _ h h'
  ·exact all _ _ h h'
theorem bT:∀(n:Nat)(d d':PyData),iT n d=true->iT n d'=true->(same d d'=true↔d=d'):=by
 intro n
 induction n with
 |zero=>intro d d' h h';cases d <;> simp[iT]at h <;> cases d' <;> simp[iT]at h' <;> simp[same]
 | succ n e =>
  have all:∀ys zs:List PyData,ys.all (iT n)=true->zs.all (iT n)=true->(sameAll ys zs=true↔ys=zs):=by
   intro ys
   induction ys with
   |nil=>intro zs _ _;cases zs <;> simp[sameAll]
   | cons y r c =>
    intro zs a b;cases zs with
    |nil=>simp[sameAll]
    |cons z f =>
     rw[xH,zR]at a b;simp only[sameAll,Bool.and_eq_true,List.cons.injEq];rw[e y z a.1 b.1,c f a.2 b.2]
  intro d d' h h';cases d <;> simp only[iT,Bool.false_eq_true]at h <;> cases d' <;> simp only[iT,Bool.false_eq_true]at h' <;> simp only[same,beq_iff_eq,PyData.int.injEq,PyData.list.injEq,PyData.tuple.injEq,reduceCtorEq,Bool.false_eq_true]
  ·exact all _ _ h h'
  ·exact all _ _ h h'
theorem bU{n:Nat}{d:PyData}(a:n<=64)(h:iT n d=true):SeqAt.shaped d=true:=by
 have:=iK n d h;unfold SeqAt.shaped;rw[zR];exact⟨this.1,zP ⋯⟩
section
variable {K:Frag} {H:Hp} {x y:V} {d d':PyData} {Q:VK}
theorem dX(n:Nat)(f:n<=64)(g:Dt K H x d)(i:Dt K H y d')(a:iT n d=true)(c:iT n d'=true){b:Bool}(j:b=true↔d=d')(q:Q (.bl b) H):rEqD K x y H Q:=by
 refine⟨d,d',g,i,bU f a,bU f c,bR n d d' a c,?_⟩;have:=bT n d d' a c;have e:same d d'=b:=by
  cases hs:same d d' <;> cases b <;> simp_all
 rw[e];exact q
theorem fX(n:Nat)(f:n<=64)(g:Dt K H x d)(i:Dt K H y d')(a:iT n d=true)(c:iT n d'=true){b:Bool}(j:b=true↔d=d')(q:Q (.bl (!b)) H):rNeD K x y H Q:=by
 refine⟨d,d',g,i,bU f a,bU f c,bR n d d' a c,?_⟩;have:=bT n d d' a c;have e:same d d'=b:=by
  cases hs:same d d' <;> cases b <;> simp_all
 rw[e];exact q
end
def seqD(b:Bool)(ds:List PyData):PyData:=match b with|false=>.list ds|true=>.tuple ds
def fY(b:Bool)(ns:LI'):PyData:=seqD b (ns.map PyData.int)
def matD(b1 b2:Bool)(rows:List (LI')):PyData:=seqD b1 (rows.map (fY b2))
theorem Ga{b:Bool}{xs ys:List PyData}:seqD b xs=seqD b ys↔xs=ys:=by cases b <;> simp[seqD]
theorem Bt{a c:Type}{f:a->c}(b:∀x y,f x=f y->x=y):∀{xs ys:List a},xs.map f=ys.map f↔xs=ys
 |[],[]=>by simp
 |[],_:: _=>by simp
 |_:: _,[]=>by simp
 |x:: r,y:: d=>by
  rw[zK,zK,yR,yR,Bt b];exact⟨λh=>⟨b _ _ h.1,h.2⟩,λh=>⟨by rw[h.1],h.2⟩⟩
theorem Hw{b:Bool}{ns ms:LI'}:fY b ns=fY b ms↔ns=ms:=by
 unfold fY;rw[Ga,Bt λx y h=>by injection h]
theorem Qe{b1 b2:Bool}{A B:List (LI')}:matD b1 b2 A=matD b1 b2 B↔A=B:=by
 unfold matD;rw[Ga,Bt λx y h=>Hw.mp h]
theorem Dt.seqB{b:Bool}{K:Frag}{H:Hp}{a:Addr}{xs:List V}{ds:List PyData}(h:SqB b K H a xs)(c:Dts K H xs ds):Dt K H (.ref a) (seqD b ds):=by
 cases b
 ·exact .lst h c
 ·exact .tup h c
theorem Dt.intsB{b:Bool}{K:Frag}{H:Hp}{a:Addr}{ns:LI'}(h:SqB b K H a (ns.map V.int)):Dt K H (.ref a) (fY b ns):=Dt.seqB h (Dts.ints ns)
theorem Dt.matB{b1 b2:Bool}{K:Frag}{H:Hp}{a:Addr}{b:List (LI')}(h:MatB b1 b2 K H a b):Dt K H (.ref a) (matD b1 b2 b):=by
 obtain⟨ps,e,c,d⟩:=h;refine Dt.seqB e ?_;clear e
 induction ps generalizing b with
 |nil =>
  cases b with
  |nil=>exact .nil
  |cons r j=>simp at c
 | cons p ps g =>
  cases b with
  |nil=>simp at c
  |cons r j =>
   refine .cons (Dt.intsB (d 0 p r rfl rfl)) (g (by simpa using c) λi q z e1 f=>d (i+1) q z (by simpa using e1) (by simpa using f))
section
variable {wi:TI} {g:TG} {tt:TOx} {te:TE} {tc:TT} {n:Nat} {fr:List (Str×Nat)} {σ:St} {H:Hp} {Q:VK}
theorem nN(h:∀B:TE,B=te->wi σ H λc b=>∀a,b a=none->lO c g (tEl B) n fr σ a b Q):mP wi g (tEl te) n fr σ H Q:=h _ rfl
theorem Qd(h:∀(C:TT)(B:TE),C=tc->B=te->wi σ H λc b=>∀a,b a=none->lO c g (fU C B) n fr σ a b Q):mP wi g (fU tc te) n fr σ H Q:=h _ _ rfl rfl
end
def seqO(b:Bool)(xs:List V):HO:=match b with|false=>.lst xs|true=>.tup xs
def rSlB(K:Frag):V->Option Int->Option Int->Hp->VK->Prop:=λx lo hi H Q=>∃b a xs,x=.ref a/\SqB b K H a xs /\
 (b=true->¬ (HT.sIx xs.length 0 lo=0/\HT.sIx xs.length xs.length hi=xs.length))/\∀p,H p=none->Q (.ref p) (upd H p (seqO b (cutV xs lo hi)))
theorem sl_B{X:Cx}:SlR X (rSlB X.K):=by
 intro g s c H x v f k lo hi l Q I d m pl j h;obtain⟨b,a,xs,e,i,n,q⟩:=h;cases b
 ·exact Oc g s c H x v f k lo hi l Q I d m pl j ⟨a,xs,e,i,q⟩
 ·exact Om g s c H x v f k lo hi l Q I d m pl j ⟨a,xs,e,i,n rfl,q⟩
def MatL(H:Hp)(a:Addr)(rows:List (LI')):Prop:=∃ps:LA,H a=some (.lst (ps.map V.ref))/\ps.length=rows.length/\∀(i:Nat)(p:Addr)(r:LI'),ps[i]?=some p->rows[i]?=some r->p≠a/\H p=some (.lst (r.map V.int))
theorem MatL.b{K:Frag}{H:Hp}{a:Addr}{b:List (LI')}(h:MatL H a b):MatB false false K H a b:=let ⟨ps,e,f,d⟩:=h;⟨ps,SqB.lst e,f,λi p r e1 c=>SqB.lst (d i p r e1 c).2⟩
theorem MatL.up{H H':Hp}{a:Addr}{b:List (LI')}(h:MatL H a b)(s:Same H H'):MatL H' a b:=let ⟨ps,e,f,d⟩:=h;⟨ps,s _ _ e,f,λi p r e1 c=>⟨(d i p r e1 c).1,s _ _ (d i p r e1 c).2⟩⟩
theorem MatL.of{H:Hp}{a:Addr}{f:Nat->LI'}{ys:List V}(h:H a=some (.lst ys))(hr:∀(j:Nat) y,ys[j]?=some y->RowR a f j y H):MatL H a ((List.range ys.length).map f):=by
 have g:∃ps:LA,ys=ps.map V.ref:=by
  clear h;have:∀(zs:List V)(k:Nat),(∀(j:Nat) y,zs[j]?=some y->RowR a f (j+k) y H)->∃ps:LA,zs=ps.map V.ref:=by
   intro zs
   induction zs with
   |nil=>intro k _;exact⟨[],rfl⟩
   | cons z r d =>
    intro k c;obtain⟨p,e,_⟩:=c 0 z rfl;obtain⟨ps,b⟩:=d (k+1) λj y q=>by
     have:=c (j+1) y (by simpa using q)
     rwa[sU,Nat.add_comm 1 k]at this
    exact⟨p:: ps,by rw[e,b];rfl⟩
  exact this ys 0 hr
 obtain⟨ps,rfl⟩:=g;refine⟨ps,h,by simp,λi p r e1 b=>?_⟩;obtain⟨l,e,n,q⟩:=hr i (.ref p) (by simp[e1]);cases e;have hi:i<ps.length:=(oG.mp e1).1;have:r=f i:=by
  rw[zI,yS,yW hi]at b;exact(zW b).symm
 rw[this];exact⟨n,q⟩
theorem MatB.row{b1 b2:Bool}{K:Frag}{H:Hp}{a:Addr}{b:List (LI')}(h:MatB b1 b2 K H a b){i:Nat}{r:LI'}(e:b[i]?=some r):∃ps:LA,∃p,SqB b1 K H a (ps.map V.ref)/\(ps.map V.ref)[i]?=some (.ref p)/\(ps.map V.ref).length=b.length/\SqB b2 K H p (r.map V.int):=by
 obtain⟨ps,c,d,f⟩:=h;have hi:i<ps.length:=by have:=(oG.mp e).1;omega
 exact⟨ps,ps[i],c,by simp[hi],by simp[d],f i _ r (by simp[hi]) e⟩
theorem MatB.walk{b1 b2:Bool}{K:Frag}{H:Hp}{a:Addr}{b:List (LI')}(h:MatB b1 b2 K H a b):∃xs:List V,SqB b1 K H a xs/\xs.length=b.length/\∀(i:Nat) x,xs[i]?=some x->∃p r,x=.ref p/\b[i]?=some r/\SqB b2 K H p (r.map V.int):=by
 obtain⟨ps,c,d,f⟩:=h;refine⟨_,c,by simp[d],λi x e=>?_⟩;rw[zI]at e;cases q:ps[i]? with
 |none=>rw[q]at e;cases e
 |some p =>
  rw[q]at e;have hi:i<b.length:=by have:=(oG.mp q).1;omega
  exact⟨p,b[i],(zW e).symm,by simp[hi],f i p _ q (by simp[hi])⟩
theorem kC{a:Type}{xs:List a}{k:Nat}{x:a}{i:Int}(h:xs[k]?=some x)(hi:i=k):atI xs i=some x:=by
 subst hi;exact Ol h
theorem kU{ns:LI'}{i:Nat}{x:V}(h:(ns.map V.int)[i]?=some x):∃n,ns[i]?=some n/\x=.int n:=by
 rw[zI]at h;cases e:ns[i]? with
 |none=>rw[e]at h;cases h
 |some n=>rw[e]at h;exact⟨n,rfl,(zW h).symm⟩
theorem iL{ns:LI'}{i:Nat}{n:Int}(h:ns[i]?=some n):(ns.map V.int)[i]?=some (.int n):=by rw[zI,h];rfl
theorem Qb{ns:LI'}{k:Nat}{n:Int}(h:ns[k]?=some n):ns.getD k 0=n:=by rw[tN,h];rfl
theorem getD_at{ns:LI'}{k:Nat}(h:k<ns.length):ns[k]?=some (ns.getD k 0):=by simp[h]
theorem getD_mem{ns:LI'}{k:Nat}(h:k<ns.length):ns.getD k 0∈ns:=by
 rw[show ns.getD k 0=ns[k] by simp[h]];exact vF h
def colI(k:Nat)(rows:List (LI')):LI':=rows.map λr=>r.getD k 0
def dotI(ms ns:LI'):Int:=(List.zipWith (·*·) ms ns).sum
def bV(w:Nat)(rows:List (LI')):List (LI'):=(List.range w).map λk=>colI k rows
def mulM(w:Nat)(A B:List (LI')):List (LI'):=A.map λr=>(List.range w).map λk=>dotI r (colI k B)
theorem Qa{w:Nat}{A B:List (LI')}{i:Nat}{r:LI'}(h:A[i]?=some r):(mulM w A B)[i]?=some ((List.range w).map λk=>dotI r (colI k B)):=by
 unfold mulM;rw[zI,h];rfl
section
variable {K:Frag} {g:TG} {tb:TS} {σ:St} {H:Hp} {nx:St->Hp->Prop} {rt:VK}
abbrev Bs(J:It)(g:TG)(tb:TS)(nx:St->Hp->Prop)(rt:VK)(σ:St)(H:Hp):Prop:=∃W:Nat->Nat->St->Hp->Prop,(∃m,W 0 m σ H)/\∀i m σ H,W i m σ H ->
 (J.stop i H/\nx σ H)\/(J.go i H/\∃N:St->Hp->Prop,(∀σ' H',N σ' H'->∃m',m'<m/\W (i+1) m' σ' H')/\∀x H',J.yld i H x H'->g x σ H' λσ2 H2=>tb {nx:=N,rt:=rt,bk:=nx,ct:=N} σ2 H2)
theorem iM{lo:Int}{n:Nat}(a:Nat->St->Hp->Prop)(c:a 0 σ H)
  (f:∀i σ H,i<n->a i σ H->g (.int (lo+i)) σ H λd b=>tb {nx:=a (i+1),rt:=rt,bk:=nx,ct:=a (i+1)} d b)(e:∀σ H,a n σ H->nx σ H):Bs (Itr lo n) g tb nx rt σ H:=
 Nn (D:={nx:=nx,rt:=rt,bk:=nx,ct:=nx}) a c f e
theorem gU{b:Bool}{a:Addr}{xs:List V}(c:Nat->St->Hp->Prop)(e:c 0 σ H)(hl:∀i σ H,i<=xs.length->c i σ H->SqB b K H a xs)
  (k:∀i x σ H,xs[i]?=some x->c i σ H->g x σ H λf d=>tb {nx:=c (i+1),rt:=rt,bk:=nx,ct:=c (i+1)} f d)(j:∀σ H,c xs.length σ H->nx σ H):Bs (Its K b a) g tb nx rt σ H:=
 Qh (D:={nx:=nx,rt:=rt,bk:=nx,ct:=nx}) c e hl k j
theorem Hv{b:Bool}{a:Addr}{xs:List V}(c:Nat->St->Hp->Prop)(e:c 0 σ H)(hl:∀i σ H,i<=xs.length->c i σ H->SqB b K H a xs)
  (k:∀i x p σ H,xs[i]?=some x->c i σ H->H p=none->g (.ref p) σ (upd H p (.tup [.int i,x])) λf d=>tb {nx:=c (i+1),rt:=rt,bk:=nx,ct:=c (i+1)} f d)(j:∀σ H,c xs.length σ H->nx σ H):Bs (Ite K b a) g tb nx rt σ H:=
 Qg (D:={nx:=nx,rt:=rt,bk:=nx,ct:=nx}) c e hl k j
end
theorem gW{b1 b2:Bool}{K:Frag}{H:Hp}{a:Addr}{b:List (LI')}{i k:Nat}{r:LI'}{x:Int}{I c:Int}{Q:VK}(h:MatB b1 b2 K H a b)(e:b[i]?=some r)(f:r[k]?=some x)(hi:I=i)(d:c=k)(q:Q (.int x) H):
  rIxB K (.ref a) (.int I) H λv g=>rIxB K v (.int c) g Q:=by
 obtain⟨ps,p,k1,k2,k3,j⟩:=h.row e;exact⟨b1,a,_,_,_,rfl,rfl,k1,kC k2 hi,b2,p,_,_,_,rfl,rfl,j,kC (iL f) d,q⟩
theorem Rz{b1 b2:Bool}{K:Frag}{H:Hp}{a:Addr}{b:List (LI')}{i:Nat}{r:LI'}{I:Int}{Q:VK}(h:MatB b1 b2 K H a b)(e:b[i]?=some r)(hi:I=i)(q:∀p,SqB b2 K H p (r.map V.int)->Q (.ref p) H):
  rIxB K (.ref a) (.int I) H Q:=by
 obtain⟨ps,p,k1,k2,k3,c⟩:=h.row e;exact⟨b1,a,_,_,_,rfl,rfl,k1,kC k2 hi,q p c⟩
theorem hX{b1 b2:Bool}{K:Frag}{H:Hp}{a:Addr}{b:List (LI')}{Q:VK}(h:MatB b1 b2 K H a b)(q:Q (.int b.length) H):dW K [.ref a] H Q:=by
 obtain⟨ps,c,d,e⟩:=h;refine⟨b1,a,_,rfl,c,?_⟩;rw[yS,d];exact q
theorem Br{b:Bool}{K:Frag}{H:Hp}{a:Addr}{ns:LI'}{Q:VK}(h:SqB b K H a (ns.map V.int))(q:Q (.int ns.length) H):dW K [.ref a] H Q:=by
 refine⟨b,a,_,rfl,h,?_⟩;rw[yS];exact q
def Itq(lo st:Int)(n:Nat):It:=⟨λi _=>i<n,λi H x H'=>H'=H/\x=.int (lo+i*st),λi _=>n<=i⟩
def lW(a:Addr)(H:Hp)(zs:List V)(M:List (LI')):Prop:=∃ps:LA,zs=ps.map V.ref/\ps.length=M.length/\∀(j:Nat)(p:Addr)(r:LI'),ps[j]?=some p->M[j]?=some r->p≠a/\H p=some (.lst (r.map V.int))
theorem lW.nil{a:Addr}{H:Hp}:lW a H [] []:=⟨[],rfl,rfl,λj p r e=>by simp at e⟩
theorem lW.len{a:Addr}{H:Hp}{zs:List V}{M:List (LI')}(h:lW a H zs M):zs.length=M.length:=let ⟨ps,e,l,_⟩:=h;by rw[e,yS,l]
theorem lW.mono{a:Addr}{H H':Hp}{zs:List V}{M:List (LI')}(h:lW a H zs M)(s:kS a H H'):lW a H' zs M:=let ⟨ps,e,l,q⟩:=h;⟨ps,e,l,λj p r e1 b=>⟨(q j p r e1 b).1,s _ _ (q j p r e1 b).1 (q j p r e1 b).2⟩⟩
theorem lW.snoc{a p:Addr}{H:Hp}{zs:List V}{M:List (LI')}{r:LI'}(h:lW a H zs M)(g:p≠a)(f:H p=some (.lst (r.map V.int))):lW a H (zs++[.ref p]) (M++[r]):=by
 obtain⟨ps,rfl,c,d⟩:=h;refine⟨ps++[p],by simp,by simp[c],λi q z e1 b=>?_⟩
 by_cases hi:i<ps.length
 ·rw[yD hi]at e1;rw[yD ⋯]at b;exact d i q z e1 b
 ·have e:i=ps.length:=by
   have:=(oG.mp e1).1;simp at this;omega
  subst e;rw[zV (zE _)]at e1;rw[c,zV (zE _)]at b;simp at e1 b;subst e1 b;exact⟨g,f⟩
theorem lW.mat{a:Addr}{H:Hp}{zs:List V}{M:List (LI')}(h:H a=some (.lst zs))(r:lW a H zs M):MatL H a M:=by
 obtain⟨ps,rfl,b,c⟩:=r;exact⟨ps,h,b,c⟩
theorem Bq(ns:LI')(lo hi:Option Int):cutV (ns.map V.int) lo hi=((ns.drop (HT.sIx ns.length 0 lo)).take (HT.sIx ns.length ns.length hi-HT.sIx ns.length 0 lo)).map V.int:=by
 unfold cutV;rw[yS,List.map_take,List.map_drop]
theorem Ry{ns:LI'}{k:Nat}(h:k<=ns.length):cutV (ns.map V.int) none (some (k:Int))=(ns.take k).map V.int:=by
 rw[Bq,HT.sIx_none,HT.sIx_nat,tU h];simp
theorem Rx{ns:LI'}{k:Nat}(h:k<=ns.length):cutV (ns.map V.int) (some (k:Int)) none=(ns.drop k).map V.int:=by
 rw[Bq,HT.sIx_none,HT.sIx_nat,tU h,yT (by simp)]
section
variable {K:Frag} {H:Hp} {a a1:Addr} {M:List (LI')} {σ:St} {Q:VK} {b1 b2:Bool}
def MatT(H:Hp)(a:Addr)(rows:List (LI')):Prop:=∃ps:LA,H a=some (.lst (ps.map V.ref))/\ps.length=rows.length/\∀(i:Nat)(p:Addr)(r:LI'),ps[i]?=some p->rows[i]?=some r->H p=some (.tup (r.map V.int))
theorem Rv(N:MatB b1 false K H a M)(hl:M.length<=1000)(F:H a1=none)(C:∀b,Same H b->MatT b a1 M->Q (.ref a1) b):lO (Its K b1 a) (nB 0) (tEl (tCB (fW K) (nF (tVar 0) tNil))) 1 [] σ a1 H Q:=by
 obtain⟨xs,u,T,L⟩:=N.walk;refine mU (λj y b=>∃p r,y=.ref p/\M[j]?=some r/\p≠a1/\b p=some (.tup (r.map V.int))) F u ⋯ (λi y b S⟨p,r,e1,c,d,f⟩s=>⟨p,r,e1,c,d,s _ _ d f⟩) ?_ ?_
 ·intro i x b zs G g v U D;obtain⟨p,r,rfl,I,w⟩:=L i x G;exact⟨_,rfl,p,_,rfl,.inl ⟨w.up g,λl n=>D _ _ (Same.new n) ⟨l,r,rfl,I,yA (nY v n),oP⟩⟩⟩
 ·intro b ys g e1 o k;have J:∃ps:LA,ys=ps.map V.ref:=by
   clear e1 o;have:∀(zs:List V),(∀(j:Nat) y,zs[j]?=some y->∃p:Addr,y=.ref p)->∃ps:LA,zs=ps.map V.ref:=by
    intro zs
    induction zs with
    |nil=>intro _;exact⟨[],rfl⟩
    |cons z r P =>
     intro t;obtain⟨p,e⟩:=t 0 z rfl;obtain⟨ps,c⟩:=P λj y q=>t (j+1) y (by simpa using q);exact⟨p:: ps,by rw[e,c];rfl⟩
   exact this ys λj y e=>let ⟨p,r,e1,_⟩:=k j y e;⟨p,e1⟩
  obtain⟨ps,rfl⟩:=J;refine C b g ⟨ps,e1,by simp at o;omega,λi p r c d=>?_⟩;obtain⟨W,R,f,m,_,O⟩:=k i (.ref p) (by simp[c]);cases f;rw[d]at m;cases m;exact O
theorem MatT.tuple{l:Addr}(h:MatT H a M)(hl:H l=none):∃zs,H a=some (.lst zs)/\MatB true true K (upd H l (.tup zs)) l M:=by
 obtain⟨ps,b,d,e⟩:=h;exact⟨_,b,ps,SqB.tup oP,d,λi p r e1 c=>SqB.tup (Same.new hl _ _ (e i p r e1 c))⟩
end
theorem Ru{X:Cx}{x:Str}{v:V}{c:Pos}(a:Gl X x)(h:∃u,X.mg x=some u/\RelV v u)(b:(x == ("__debug__" :Str))=false:=by decide):PE X (.Name x c) (tC v):=by
 obtain⟨u,e,r⟩:=h;exact Me a e r b
def MkI(te:TE)(n:Int):Prop:=∀σ H Q,Q (.int n) H->te σ H Q
def MkIs(ta:TA)(ns:LI'):Prop:=∀σ H Q,Q (ns.map V.int) H->ta σ H Q
def MkR(te:TE)(ns:LI'):Prop:=∀σ H Q,(∀p H',Same H H'->H p=none->H' p=some (.lst (ns.map V.int))->Q (.ref p) H')->te σ H Q
def MkRs(ta:TA)(M:List (LI')):Prop:=∀σ H Q,(∀ps H',Same H H'->RefRowsN H H' ps M->Q (ps.map V.ref) H')->ta σ H Q
where RefRowsN (H H':Hp) (ps:LA) (M:List (LI')):Prop:=ps.length=M.length/\∀(j:Nat)(p:Addr)(r:LI'),ps[j]?=some p->M[j]?=some r->H' p=some (.lst (r.map V.int))
def MkM(te:TE)(M:List (LI')):Prop:=∀σ H Q,(∀p H',Same H H'->H p=none->MatL H' p M->Q (.ref p) H')->te σ H Q
def Mats(H:Hp)(p:Addr)(Ms:List (List (LI'))):Prop:=∃ps:LA,H p=some (.lst (ps.map V.ref))/\ps.length=Ms.length/\∀(i:Nat)(q:Addr)(M:List (LI')),ps[i]?=some q->Ms[i]?=some M->MatL H q M
def MkMs(ta:TA)(Ms:List (List (LI'))):Prop:=∀σ H Q,(∀(ps:LA) H',Same H H'->ps.length=Ms.length->(∀(i:Nat)(q:Addr)(M:List (LI')),ps[i]?=some q->Ms[i]?=some M->MatL H' q M)->Q (ps.map V.ref) H')->ta σ H Q
def MatD(H0 H:Hp)(a:Addr)(rows:List (LI')):Prop:=∃ps:LA,H a=some (.lst (ps.map V.ref))/\ps.length=rows.length/\ps.Nodup/\∀(i:Nat)(p:Addr)(r:LI'),ps[i]?=some p->rows[i]?=some r->p≠a/\H0 p=none/\H p=some (.lst (r.map V.int))
theorem MatD.l{H0 H:Hp}{a:Addr}{b:List (LI')}(h:MatD H0 H a b):MatL H a b:=let ⟨ps,e,f,_,d⟩:=h;⟨ps,e,f,λi p r e1 c=>⟨(d i p r e1 c).1,(d i p r e1 c).2.2⟩⟩
theorem MatD.up{H0 H H':Hp}{a:Addr}{d:List (LI')}(h:MatD H0 H a d)(s:Same H H'):MatD H0 H' a d:=let ⟨ps,e,f,n,c⟩:=h;⟨ps,s _ _ e,f,n,λi p r e1 b=>⟨(c i p r e1 b).1,(c i p r e1 b).2.1,s _ _ (c i p r e1 b).2.2⟩⟩
theorem MatD.row{H0 H:Hp}{a:Addr}{c:List (LI')}{i:Nat}{r:LI'}(h:MatD H0 H a c)(e:c[i]?=some r):∃zs p,H a=some (.lst zs)/\zs[i]?=some (.ref p)/\zs.length=c.length/\p≠a/\H0 p=none/\H p=some (.lst (r.map V.int))/\∀f,MatD H0 (upd H p (.lst (f.map V.int))) a (c.set i f):=by
 obtain⟨ps,m,o,k,l⟩:=h;have hi:i<ps.length:=by have:=(oG.mp e).1;omega
 have b:=l i ps[i] r (by simp[hi]) e;refine⟨_,ps[i],m,by simp[hi],by simp[o],b.1,b.2.1,b.2.2,λf=>⟨ps,by rw[oT (yA b.1)];exact m,by simp[o],k,λj q z e1 d=>?_⟩⟩
 by_cases g:j=i
 ·subst g;have v:q=ps[j]:=by simp[hi]at e1;exact e1.symm
  subst v;rw[wQ ⋯]at d;cases d;exact⟨b.1,b.2.1,oP⟩
 ·rw[tG (yA g)]at d;obtain⟨y,t,u⟩:=l j q z e1 d;have:q≠ps[i]:=λw=>by
   have n:=(oG.mp e1);obtain⟨n,x⟩:=n;exact g ((List.getElem_inj k).mp (x.trans w))
  exact⟨y,t,by rw[oT this];exact u⟩
def isList:Expr->Bool
 |.List _ _=>true
 |_=>false
section
variable {X:Cx}
theorem Hu:∀{bs:List Bool}{its:LW},Vals (bs.map V.bl) its->∀(i:Nat)(v:Value),its[i]?=some v->∃b,bs[i]?=some b/\v=.bool b
 |[],_,.nil,i,v,e=>by simp at e
 |b:: r,_,.cons h q,i,v,e=>by
  cases i with
  |zero=>simp at e;subst e;exact⟨b,rfl,h⟩
  |succ i=>simpa using Hu (bs:=r) q i v (by simpa using e)
theorem Ht:∀bs:List Bool,((List.range bs.length).any λi=>(bs[i]?).getD false)=bs.any id
 |[]=>rfl
 |b:: bs=>by
  have a:=Ht bs;rw[zU,List.range_succ_eq_map,qE,qE,List.any_map];show(b || _)=(b || _);congr 1
theorem Rt(l:X.calm=true):lK X (.builtin "any") (λxs H Q=>∃(p:Addr)(bs:List Bool),xs=[.ref p]/\SqL X.K H p (bs.map V.bl)/\Q (.bl (bs.any id)) H):=by
 intro t s o H xs us Q I r h;obtain⟨p,bs,rfl,f,q⟩:=h;obtain⟨u,rfl,d⟩:=jE r;cases d;obtain⟨its,c,pl,w⟩:=I.list f;have hl:s.heap.IsList p its.toArray:=pl.isList;have m:p<s.heap.objs.size:=by obtain⟨_,e,_⟩:=hl;exact zL e
 have n:its.toArray.size=bs.length:=by
  have:=c.length;simpa using this.symm
 refine call_any_walk (sJ hl ?_);refine⟨s.heap.objs.size,[s.heap.objs.size,p],[s.heap.objs.size],its.toArray.size,_,_,λi=>(bs[i]?).getD false,rfl,Walks.list (A:=X.A.in1) (I.ok.hd l) _ p (zY m) its.toArray,
  ⟨⟨_,zS _ rfl,rfl,rfl⟩,hl.push _⟩,λi v C y z k a=>?_,λh' tk g=>?_⟩
 ·obtain⟨b,e,rfl⟩:=Hu c i v (by simpa using k);simp only[e,Option.getD_some]at a;exact uO a
 ·rw[n,Ht bs];refine⟨.bl (bs.any id),H,I.kept (t':=tk) λb x e=>g b x (λj=>by rw[pS.mp j]at e;exact xC _ (zL e)) (zC _ e),rfl,q⟩
end
section
variable {prog:Program} {w:World} {A:Around} {E:VP} {s:Shared}
theorem Rr{env:Env}{a:List Expr}{d}{g:Pos}{b:Addr}{items:Array Value}{Q:Unit->Shared->Prop}(hh:A.handled=none)(f:s.heap.IsList b items)
  (c:(assignEach a env).length=items.size)(e:(assignEach a env).findIdx? (·.1)=none)
  (h:∀h',Heap.ExtBut s.heap.objs.size s.heap h'->wpAny (model prog w) A (assignInOrder ((assignEach a env).map (·.2)) items.toList) Q E {s with heap:=h'}):
  wpAny (model prog w) A (assign (.Tuple a d g) env (.ref b)) Q E s:=by
 rw[assign_Tuple];refine zA (wS ?_);unfold unpack;rw[c,e];exact zA (xB (PySem.W.kun_itemsOf hh f h))
end
section
variable {X:Cx} {pos:Pos}
def Rq(K:Frag)(n:Nat)(t:TGs):TG:=λv σ H Q=>∃b a xs,v=.ref a/\SqB b K H a xs/\xs.length=n/\t xs σ H Q
theorem Hr{es:List Expr}{k:Nat}{m:TGs}{n:Nat}(l:X.calm=true)(h:PGs X es m)
  (g:(assignEach es X.env).length=n:=by rfl)(p:(assignEach es X.env).findIdx? (·.1)=none:=by rfl):PG X (.Tuple es k pos) (Rq X.K n m):=by
 intro f s d H v u Q I r c;obtain⟨b,a,xs,e1,i,hl,c⟩:=c;cases b with
 |true=>exact gN l h g p f s d H v u Q I r ⟨a,xs,e1,i,hl,c⟩
 |false =>
  subst e1;cases r;obtain⟨its,j,pl,w⟩:=I.list i;refine Rr (I.ok.hd l) pl.isList (by simp[g,←hl,j.length]) p λh' q=>?_;have t:Inv X f d H {s with heap:=h'}:=I.kept (t':=s.toks) λb o e=>q b o (zY (zL e)) e;exact h f _ d H xs _ Q t (by simpa using j) c
end
section
variable {prog:Program} {w:World} {A:Around} {E:VP} {s:Shared}
set_option maxRecDepth 100000 in
end
def Hq(K:Frag)(C0:Addr)(tb:XE->TS)(ts:TS):TS:=λD σ H =>
 tb (λσ' C H'=>PySem.W.exmOne K C (.ref C0)=some true/\ts D σ' H') D σ H
section
variable {X:Cx} {C0:Addr} {x:Str} {np hpos pos:Pos} {body suite:List Stmt} {b₀:Stmt} {tb:XE->TS} {ts:TS}
theorem SP.offsuite{c:PN}{D:Ends}{f:Flow}{s:Shared}{e:Addr}(ok:X.Ok)(h:SP (X.suite e) c D f s):SP X c D f s:=by
 cases f with
 |next=>obtain⟨a,H',b,q⟩:=h;exact⟨a,H',b.offsuite ok,q⟩
 |brk=>obtain⟨a,H',b,q⟩:=h;exact⟨a,H',b.offsuite ok,q⟩
 |cont=>obtain⟨a,H',b,q⟩:=h;exact⟨a,H',b.offsuite ok,q⟩
 |ret u=>obtain⟨v,a,H',b,r,q⟩:=h;exact⟨v,a,H',b.offsuite ok,r,q⟩
theorem Rp(d:X.stack=X.env:: X.outer)(j:X.env.frame=some X.env.locals)(m:X.ex=[])
  (O:Gl X x)(a3:X.mg x=some (.ref C0))(G:∀o E w,fP (X.body o E) w->PSs (X.body o E) body (tb w))(a9:∀e,PSs (X.suite e) (b₀:: suite) ts)
  (J:(x == ("__debug__" :Str))=false:=by decide):PS X (.Try body [.ExceptHandler (some (.Name x np)) none (b₀:: suite) hpos] [] [] pos) (Hq X.K C0 tb ts):=by
 intro a s z H D I h;refine wpAny_Try_except (yU (G (X.pn++a) (λi R=>wpAny (model X.prog X.w) X.A (noteFrame i X.env) (λ_ a6=>wpAny (model X.prog X.w) X.A (setFlight i none) (λ_ a4 =>
  wpAny (model X.prog X.w) X.A (handleBy i X.env [.ExceptHandler (some (.Name x np)) none (b₀:: suite) hpos]) (SP X a D) X.xe a4) X.xe a6) X.xe R) _ ?_ [] s z H D I.intry h) (λf b q=>?_) λ_ _ q=>q)
 ·intro b0 c H' b e C W F Y;obtain⟨U,V⟩:=Y;have r:Inv X a c H' b:=W.offtry;obtain⟨B,a0,fl,y,a5⟩:=F;have L:Heap.FlyingW B (X.env:: X.outer) e C a0 b.heap:=d ▸ fl;have P:X.A.frames=some (X.env:: X.outer):=I.ok.frames.trans (by rw[d]);have l:∀p∈X.pn++a,B.get? p.1=some p.2:=λp N=>a5 p (xU _ N);refine wpAny_looks_onW P j L λb2 T t=>?_;refine wpAny_landsW T λk g n=>?_;have v:Inv X a c H' {b with heap:=k}:=r.flown d j m g.1 (t.trans n) y l;have M:Inv (X.suite e) a c H' {b with heap:=k}:=v.insuite;obtain⟨b3,a8,K⟩:=g.there;refine wpAny_handleBy_cons (codeAny_handlers_test (iC (X:=X.suite e) M O a3 ?_ J)) (by intro q;cases q);have a7:PySem.W.Looks (model X.prog X.w) k (typeOf (.ref e)) C:=by
   rw[←K];exact(qR a8).andThen .now
  refine(PySem.W.exm_one v.kIn a7 U).here ?_;show codeAny _ _ _ _ _;refine codeAny_handlers_suite ?_;refine lands_againW g λZ a2 S=>?_;have a1:Inv X a c H' {b with heap:=Z}:=r.flown d j m a2.1 ((t.trans n).trans S) y l;refine yU (a9 e a _ _ _ _ a1.insuite V) (λf b1 q=>?_) λ_ _ q=>q.elim;exact SP.offsuite I.ok q
 ·cases f with
  |next=>exact tQ (SP.offtry q)
  |brk=>exact SP.offtry q
  |cont=>exact SP.offtry q
  |ret u=>exact SP.offtry q
end
open Builtin Builtin.Str
section
variable {X:Cx}
def Ro:List V->Hp->VK->Prop:=λxs H Q=>∃n:Nat,xs=[.int n]/\n<=1000/\∀l,H l=none->Q (.ref l) (upd H l (.lst ((List.range n).map λ(i:Nat)=>V.int (i:Int))))
theorem Rn{a:Expr}{v:TA}{O k S d:Pos}(G:X.calm=true)(J:Gl X "list")(C:X.mg "list"=none)(L:Gl X "range")(Z:X.mg "range"=none)(U:PA X [a] v)
  (K:bootBuiltins "list"=some (.type "list"):=by decide +kernel)(a0:starEach [a] X.env=[(false,eval a X.env)]:=by rfl)
  (r:starEach [.Call (.Name "range" k) [a] [] d] X.env=[(false,eval (.Call (.Name "range" k) [a] [] d) X.env)]:=by rfl):
  PE X (.Call (.Name "list" O) [.Call (.Name "range" k) [a] [] d] [] S) (tCB Ro v):=by
 intro z s y H Q I h;refine wI (iD I J C K ?_);refine xP ?_ (by rw[r];rfl) (by rfl);rw[r];show wpAny _ _ (spliced ((false,eval (.Call (.Name "range" k) [a] [] d) X.env):: [])) _ _ s;refine Calls.spliced_cons ?_;refine wI (iD I L Z boot_range ?_);refine xP (thn (U d z s y H _ I h) ?_) (by rw[a0];rfl) (by rfl);rintro us c ⟨vs,a1,l,r1,D⟩;obtain⟨n,e,m,q⟩:=D;subst e;obtain⟨u,rfl,M⟩:=jE r1;obtain⟨j,rfl⟩:=M;refine call_range_1 ?_;refine Calls.spliced_nil ?_;have k1:∀b o,c.heap.get? b=some o->(c.heap.push {cls:=.type "range",data:=.fields #[.int 0 c.toks,.int n j,.int 1 (c.toks+1)]}).get? b=some o:=λb o e=>zC _ e;refine call_list_range (n:=n) (l.ok.hd G) (IsRange.new ..) (small_one ∅ ∅ ⋯ ⋯) (by rw[rangeSize_one];split <;> omega) (yG m ∅) λh' tk p T N R W=>?_;have k2:∀b o,c.heap.get? b=some o->h'.get? b=some o:=λb o e=>N b o (k1 b o e);have t:c.heap.objs.size<=(c.heap.push {cls:=.type "range",data:=.fields #[.int 0 c.toks,.int n j,.int 1 (c.toks+1)]}).objs.size:=by simp[Heap.push]
 have P:Vals ((List.range n).map λ(i:Nat)=>V.int (i:Int)) p.toList:=by
  obtain⟨w,F⟩:=W;have g:∀(xs:List V)(us:LW),xs.length=us.length->(∀(i:Nat)(x:V)(u:Value),xs[i]?=some x->us[i]?=some u->RelV x u)->Vals xs us:=by
   intro xs
   induction xs with
   |nil=>intro us hl _;cases us with
    |nil=>exact .nil
    |cons _ _=>cases hl
   |cons x xs Y=>intro us hl hr;cases us with
    |nil=>cases hl
    |cons u us=>exact .cons (hr 0 x u rfl rfl) (Y us (qW hl) λi x u e1 f=>hr (i+1) x u e1 f)
  refine g _ _ (by rw[yS,uS,zM,w]) λi x u e1 f=>?_;rw[yH]at f;obtain⟨j,rfl⟩:=F i u f;rw[zI]at e1;have hi:i<n:=by rw[←w];exact(Array.getElem?_eq_some_iff.mp f).1
  rw[yW hi]at e1;cases e1;exact⟨j,by rw[sG,rT]⟩
 exact⟨.ref _,_,l.laid (t':=tk) k2 t (show nO X.prog X.w _ h' _ (.lst _) from⟨by rw[yS,uS];exact yG m ∅,p.toList,T,P,by rw[Array.toArray_toList];exact R⟩),rfl,q _ (l.hok.fresh t)⟩
end
def qVar(i:Nat):TE:=λσ H Q=>match σ[i]? with
 |some (some v)=>Q v H
 |_=>False
theorem Rm{i:Nat}{a:St}{H:Hp}{Q:VK}(h:qVar i a H Q):tVar i a H Q:=by
 unfold qVar at h;split at h
 ·next v e=>exact⟨v,e,h⟩
 ·exact h.elim
theorem pq{X:Cx}(i:Nat){x:Str}{c:Pos}(e:X.N[i]?=some x:=by rfl)(b:Vis X.env.scope x:=by first|exact Or.inl rfl|exact Or.inr (Or.inl rfl)|exact Or.inr (Or.inr rfl))(f:(x == ("__debug__" :Str))=false:=by decide)
  (g:(x == ("__classdict__" :Str))=false:=by decide):PE X (.Name x c) (qVar i):=λd s a H Q I q=>pv i e b f g d s a H Q I (Rm q)
section
variable {X:Cx} {e:Expr} {ta:TE} {pos p p':Pos} {i:Int} {j:Nat}
theorem oX(a:PE X e ta):PE X (e.Subscript (.Constant (.int i) j p') pos) (tOp (rIxB X.K) ta (tC (.int i))):=nQ ix_B a oN (λ_ _=>rfl)
theorem mL(m:X.mg "len"=none)(a:PE X e ta)(g:Gl X "len" := by rfl)(b:starEach [e] X.env=(false,eval e X.env):: starEach [] X.env:=by rfl):PE X (.Call (.Name "len" p) [e] [] pos) (tCB (dW X.K) (nF ta tNil)):=lN Qi g m (nofun) (oJ a oK b) ∅ ∅ b rfl
end
section
variable {X:Cx} {sc scope:Scope} {fr:List (Str×Nat)} {x:Str} {px:Pos} {iter elt:Expr} {wi:TI} {te:TE} {N:List Str}
theorem nT{n:Pos}(k:X.env.scope=sc)(m:X.N=N)(i:bK sc N scope fr=true)(j:X.calm=true)(g:bL (kP sc scope) ([x]++fr.map (·.1)) 0 x=true)(hi:PI X (.Name x px) iter wi)
  (l:∀(f:Shared)(e:Hp)(c:LA),(mD X scope ([x]++fr.map (·.1)) f e c).env.scope=kP sc scope->PE (mD X scope ([x]++fr.map (·.1)) f e c) elt te)(o:∀x,foldedSetIterable iter X.env x=pure x:=by intro _;rfl):PE X (.ListComp elt [⟨.Name x px,iter,[],0⟩] scope n) (mP wi (nB 0) (tEl te) 1 fr):=
 iJ (xs:=[x]) (kQ k m i) j hi (λ_ _ _ h=>jS (i:=0) h rfl g) (λa b d h=>jI (l a b d h)) (yB _) o
theorem Rl{k e c:Pos}{y:Str}{i:Nat}(r:X.env.scope=sc)(u:X.N=N)(o:bK sc N scope fr=true)(q:X.calm=true)(p:X.N.Nodup)(l:X.N[i]?=some y)(hl:X.env.scope.names.lookup y=some .local)(n:bL (kP sc scope) ([x]++fr.map (·.1)) 0 x=true)(hi:PI X (.Name x px) iter wi)
  (t:∀(j:Shared)(f:Hp)(g:LA),(mD X scope ([x]++fr.map (·.1)) j f g).env.scope=kP sc scope->PE (mD X scope ([x]++fr.map (·.1)) j f g) elt te)
  (m:swapsWith (.ListComp elt [⟨.Name x px,iter,[],0⟩] scope k) (some (.Name y c)) e.line X.env=pure true:=by rfl)(v:∀x,foldedSetIterable iter X.env x=pure x:=by intro _;rfl):PS X (.Assign [.Name y c] (.ListComp elt [⟨.Name x px,iter,[],0⟩] scope k) e) (Gs i (mP wi (nB 0) (tEl te) 1 fr)):=
 Bw (xs:=[x]) (kQ r u o) q p l hl hi (λ_ _ _ h=>jS (i:=0) h rfl n) (λa b d h=>jI (t a b d h)) m (yB _) v
end
structure FunT(K:Frag)(mg:MT)(x:Str)(st:Stmt)(f:Addr)(fd:FuncData)(ps:List Str):Prop extends Fun K x x st f fd where
 m:mg x=some (.ref f)
 b:nZ K fd ps []
section
variable {X:Cx} {k:Nat} {f:Addr} {fd:FuncData} {ps:List Str} {sp:Sp} {x:Str} {st:Stmt} {p pos:Pos} {e:Expr} {es:List Expr} {t:TA}
theorem oQ(F:FnOk X.prog X.w X.K X.mg X.base CX0 k f fd ps sp)(hr:Room k X.A)(c:FunT X.K X.mg x st f fd ps)(b:PA X (e:: es) t)(a:Gl X x:=by rfl)(d:(x == ("__debug__" :Str))=false:=by decide)
  (g:starEach (e:: es) X.env=(false,eval e X.env):: starEach es X.env:=by rfl)(i:(backTo pos (starEach es X.env)).any (·.1)=false:=by rfl):PE X (.Call (.Name x p) (e:: es) [] pos) (mS sp [] E0 t):=dL F hr a c.m c.kp c.b .nil mC b d g i
end
instance decPD:DecidableEq PyData:=λ_ _=>Classical.propDecidable _
def tT:Nat->PyData->Bool
 |_,.int _=>true
 |n+1,.tuple xs=>xs.all (tT n)
 |_,_=>false
theorem gX:∀(n:Nat)(d:PyData),tT n d=true->iT n d=true:=by
 intro n
 induction n with
 |zero=>intro d h;cases d <;> simp[tT]at h <;> simp[iT]
 |succ n b =>
  intro d h;cases d <;> simp[tT]at h
  ·simp[iT]
  ·simp only[iT,List.all_eq_true];exactλx a=>b x (h x a)
mutual
def jT:PyData->Int
 |.int i=>hashInt i
 |.tuple xs=>reduceHash (Builtin.Tuple.tupleHashOf (dY xs))
 |_=>0
def dY:List PyData->LI'
 |[]=>[]
 |d:: ds=>jT d:: dY ds
end
mutual
def jU:PyData->Nat
 |.tuple xs=>gY xs+1
 |_=>1
def gY:List PyData->Nat
 |[]=>0
 |d:: ds=>jU d+gY ds
end
section
variable {prog:Program} {w:World} {E:VP}
theorem Rj(n:Nat)(i:∀{A:Around}{s:Shared}{v:Value}{d:PyData}{as:LA}{Q:Int->Shared->Prop},tT n d=true->Reads s.heap v d as->A.units+n<cLine->Q (jT d) {s with toks:=s.toks+jU d}->wpAny (model prog w) A (pyHash v) Q E s):
  ∀(xs:List PyData)(vs:LW)(as:LA)(A:Around)(s:Shared)(b:Array Int)(Q:Array Int->Shared->Prop),xs.all (tT n)=true->ReadsAll s.heap vs xs as->A.units+n<cLine ->
  (∀a:Array Int,a.toList=b.toList++dY xs->Q a {s with toks:=s.toks+gY xs}) ->
  wpAny (model prog w) A (forIn vs b λx r=>do let h ←pyHash x;pure PUnit.unit;pure (ForInStep.yield (r.push h))) Q E s:=by
 intro xs
 induction xs with
 |nil =>
  intro vs as A s b Q _ r _ h;cases r;exact zB (h b (by simp[dY]))
 | cons d ds g =>
  intro vs as A s b Q c r e h;cases r with
  |cons r1 r2 =>
   rw[xH,zR]at c;rw[uJ];refine zA (zA (i c.1 r1 e ?_));refine zA (zB (zB ?_));refine g _ _ A {s with toks:=s.toks+jU d} (b.push (jT d)) Q c.2 r2 e λa f=>?_;have:=h a (by rw[f];simp[dY]);rw[show s.toks+gY (d:: ds)=s.toks+jU d+gY ds by simp[gY,Nat.add_assoc]]at this;exact this
theorem Ri:∀(n:Nat){A:Around}{s:Shared}{v:Value}{d:PyData}{as:LA}{Q:Int->Shared->Prop},tT n d=true->Reads s.heap v d as->A.units+n<cLine->Q (jT d) {s with toks:=s.toks+jU d}->wpAny (model prog w) A (pyHash v) Q E s:=by
 intro n
 induction n with
 |zero =>
  intro A s v d as Q c r g h;cases r <;> simp[tT]at c;exact qZ (by simpa [jT,jU]using h)
 | succ n f =>
  intro A s v d as Q c r g h;cases r <;> simp only[tT,Bool.false_eq_true]at c
  case int=>exact qZ (by simpa [jT,jU]using h)
  case tuple a o vs m xs hg hc hd hr =>
   unfold pyHash;refine PySem.W.pyHash_slot (T:= "tuple") ⟨_,hg,hc⟩ PySem.F.slot_tuple_hash PySem.F.entry_tuple_hash (PySem.F.args_tuple_hash_1 _) (beq_builtin_none _) (.inr ⋯) ?_;show wpAny _ _ (Builtin.Tuple.tupleItemsOf (.ref a) >>= _) _ _ s;refine zA (rV hg hd ?_);refine zA ?_;rw[←Array.forIn_toList];refine Rj n f xs vs.toList _ A.in1 s #[] _ c hr (by show A.units+1+n<cLine;omega) λb i=>?_;show wpAny _ _ (retInt (Builtin.Tuple.tupleHashOf b.toList)) _ _ _;rw[i];refine zA (wpAny_mkInt (zB ⟨_,_,rfl,?_⟩));have e:s.toks+gY xs+1=s.toks+jU (.tuple xs):=by simp[jU,Nat.add_assoc]
   simp only[jT]at h;rw[←e]at h;exact h
theorem Rh:∀(n m:Nat),n<m->∀{A:Around}{s:Shared}{v:Value}{d:PyData}{as:LA}{Q:Bool->Shared->Prop},tT n d=true->Reads s.heap v d as->Q true s->wpAny (model prog w) A (eqIsQuiet m v) Q E s:=by
 intro n
 induction n with
 |zero =>
  intro m _ A s v d as Q b r h;cases r <;> simp[tT]at b;rw[eqIsQuiet_byValue _ rfl];exact zB h
 | succ n l =>
  intro m p A s v d as Q b r h;cases r <;> simp only[tT,Bool.false_eq_true]at b
  case int=>rw[eqIsQuiet_byValue _ rfl];exact zB h
  case tuple a o vs k xs hg hc hd hr =>
   obtain⟨m,rfl⟩:∃j,m=j+1:=⟨m-1,⋯⟩;have g:s.TypeIs (.ref a) "tuple" := ⟨o,hg,hc⟩;unfold eqIsQuiet;refine zA (wpAny_specialOf g PySem.F.slot_tuple_eq.lookup ?_);show wpAny _ _ (isInstance (.ref a) (.type "tuple") >>= _) _ _ s;refine zA (vZ g isSubtype_tuple_tuple ?_);simp only[Bool.not_true,Bool.false_eq_true,if_false];refine zA (wJ hg hd ?_);refine zA ?_;show wpAny _ _ (forIn vs _ _) _ _ s;rw[←Array.forIn_toList];refine wpAny_forIn_list _ (λrest q f=>q.1=none/\f=s/\∃ys bs,ys.all (tT n)=true/\ReadsAll s.heap rest ys bs) _ ?_ ?_ _ _ ⟨rfl,rfl,xs,_,b,hr⟩
   ·rintro u rest q f ⟨e,rfl,ys,bs,c,i⟩;cases i with
    |cons r1 r2 =>
     rw[xH,zR]at c;refine zA (l m ⋯ c.1 r1 ?_);simp only[Bool.not_true,Bool.false_eq_true,if_false];exact zB ⟨rfl,rfl,_,_,c.2,r2⟩
   ·rintro⟨r1,r2⟩ f ⟨e,rfl,_⟩;simp only at e;subst e;exact zB h
end
theorem Rg{h h':Heap}{x:Addr}{c:Obj}{es:Array DictEntry}{ep:Nat}(e:h.get? x=some c)(j:c.data=.dict es ep)(l:Heap.SameBut x h h'):∀(n:Nat){v:Value}{d:PyData}{as:LA},tT n d=true->Reads h v d as->Reads h' v d as:=by
 intro n
 induction n with
 |zero =>
  intro v d as b r;cases r <;> simp[tT]at b;exact .int _ _
 | succ n g =>
  have all:∀(xs:List PyData)(vs:LW)(as:LA),xs.all (tT n)=true->ReadsAll h vs xs as->ReadsAll h' vs xs as:=by
   intro xs
   induction xs with
   |nil=>intro vs as _ r;cases r;exact .nil
   | cons d ds f =>
    intro vs as b r;cases r with
    |cons r1 r2 =>
     rw[xH,zR]at b;exact .cons (g b.1 r1) (f _ _ b.2 r2)
  intro v d as b r;cases r <;> simp only[tT,Bool.false_eq_true]at b
  case int=>exact .int _ _
  case tuple a o vs k xs hg hc hdd hr =>
   have i:a≠x:=by
    rintro rfl;rw[e]at hg;cases hg;rw[j]at hdd;cases hdd
   exact .tuple ((l.2 a i).trans hg) hc hdd (all _ _ _ b hr)
def isT(h:Heap)(d:PyData)(a:Addr):Prop:=tT 4 d=true/\∃as,Reads h (.ref a) d as
def kD(prog:Program)(w:World):HeapKind prog w PyData where
 is:=isT
 hash:=jT
 draws:=jU
 room:=λA=>A.units+8<cLine
 inj:=λ{h a x y}hx hy=>by
  obtain⟨t1,as,r1⟩:=hx;obtain⟨t2,bs,r2⟩:=hy;exact PySem.SeqAt.Reads.unique _ _ _ _ _ (iK 4 _ (gX 4 _ t1)).1 r1 r2
 keeps:=λ{h h' k a x o es ep}hk hx hd hs=>⟨hk.1,let ⟨as,r⟩:=hk.2;⟨as,Rg hx hd hs 4 hk.1 r⟩⟩
 pyHash:=λ{A E s k a Q}hu hk h=>let ⟨as,r⟩:=hk.2;Ri 4 hk.1 r ⋯ h
 eqBool:=λ{A E s x y a b Q}hu hx hy h=>by
  obtain⟨t1,as,r1⟩:=hx;obtain⟨t2,bs,r2⟩:=hy;have i1:=gX 4 _ t1;have i2:=gX 4 _ t2;have l1:=iK 4 _ i1;have l2:=iK 4 _ i2;refine PySem.SeqAt.eqBoolOverData _ _ _ _ _ _ _ _ _ _ _ _ r1 r2 l1.1 l2.1 ⋯ ?_;rw[←SeqAt.same_eq_eqv _ _ (bR 4 _ _ i1 i2)];have e:=bT 4 _ _ i1 i2
  by_cases z:x=y
  ·rw[zP z]at h;rw[e.mpr z];exact h
  ·rw[zN z]at h;have:same x y=false:=by
    cases q:same x y with
    |false=>rfl
    |true=>exact absurd (e.mp q) z
   rw[this];exact h
 quiet:=λ{A E s k a Q}hk h=>let ⟨as,r⟩:=hk.2;Rh 4 8 ∅ hk.1 r h
def mH(a:Addr)(xs:List (PyData×Addr×Value)):HO:=.ext λh=>∃o es ep,h.get? a=some o/\o.ExactDict/\o.data=.dict es ep/\es.toList=xs.map λx=>⟨jT x.1,.ref x.2.1,x.2.2⟩
theorem Ho{o:Option V}{u:Option Value}(h:RelO o u):o.isSome=u.isSome:=by
 cases o <;> cases u <;> first|rfl|exact h.elim
def vT(kvs:List (PyData×V))(k:PyData):Option V:=(kvs.find? λkv=>decide (kv.1=k)).map (·.2)
def pT(kvs:List (PyData×V))(k:PyData)(v:V):List (PyData×V):=if(vT kvs k).isSome=true then kvs.map (λkv=>if kv.1=k then(kv.1,v) else kv) else kvs++[(k,v)]
theorem dZ{p:PyData×V}{r:List (PyData×V)}{k:PyData}(e:p.1=k):vT (p:: r) k=some p.2:=by simp[vT,List.find?_cons,e]
theorem gZ{p:PyData×V}{r:List (PyData×V)}{k:PyData}(e:¬ p.1=k):vT (p:: r) k=vT r k:=by simp[vT,List.find?_cons,e]
abbrev KP(K:Frag)(H:Hp):List (PyData×V)->List (PyData×Addr×Value)->Prop:=Paired λp q=>p.1=q.1/\(tT 4 p.1=true/\Dt K H (.ref q.2.1) p.1)/\RelV p.2 q.2.2
structure DTr(K:Frag)(H:Hp)(a:Addr)(kvs:List (PyData×V)):Prop where
 len:kvs.length<=sizeLine
 sys:(a == sysModules)=false
 ex:∃xs,H a=some (mH a xs)/\(xs.map (·.1)).Nodup/\KP K H kvs xs
theorem KP.val{K:Frag}{H:Hp}{kvs:List (PyData×V)}{xs:List (PyData×Addr×Value)}(r:KP K H kvs xs)(k:PyData):RelO (vT kvs k) ((atKey xs k).map (·.2)):=by
 induction r with
 |nil=>exact True.intro
 | @cons p q ps a h i d =>
  obtain⟨c,_,g⟩:=h
  by_cases e:p.1=k
  ·have b:atKey (q:: a) k=some q.2:=by simp[atKey,List.find?_cons,c.symm.trans e]
   rw[dZ e,b];exact g
  ·have f:¬ q.1=k:=λz=>e (c.trans z);have b:atKey (q:: a) k=atKey a k:=by simp[atKey,List.find?_cons,f]
   rw[gZ e,b];exact d
theorem KP.put{K:Frag}{H:Hp}{kvs:List (PyData×V)}{xs:List (PyData×Addr×Value)}(r:KP K H kvs xs)(k:PyData){b:Addr}{y:V}{u:Value}(tk:tT 4 k=true)(f:Dt K H (.ref b) k)(c:RelV y u):KP K H (pT kvs k y) (storedH xs k b u):=by
 have e:(vT kvs k).isSome=(atKey xs k).isSome:=by rw[Ho (r.val k),Option.isSome_map]
 unfold pT storedH;rw[e]
 by_cases q:(atKey xs k).isSome=true
 ·rw[zF q,zF q];clear e q
  induction r with
  |nil=>exact .nil
  |@cons p q ps j h l i =>
   rw[zK,zK];refine .cons ?_ i;obtain⟨a,d,g⟩:=h;unfold putAt
   by_cases e:p.1=k
   ·rw[zF e,zF (a.symm.trans e)];exact⟨a,d,c⟩
   ·rw[zD e,zD (λz=>e (a.trans z))];exact⟨a,d,g⟩
 ·rw[zD q,zD q];exact Paired.snoc r ⟨rfl,⟨tk,f⟩,c⟩
theorem kJ{K:Frag}{H H':Hp}(e:∀b xs,SqT K H b xs->SqT K H' b xs):∀(n:Nat){x:V}{d:PyData},tT n d=true->Dt K H x d->Dt K H' x d:=by
 intro n
 induction n with
 |zero =>
  intro x d h r;cases r <;> simp[tT]at h;exact .int _
 | succ n f =>
  have all:∀(ds:List PyData)(xs:List V),ds.all (tT n)=true->Dts K H xs ds->Dts K H' xs ds:=by
   intro ds
   induction ds with
   |nil=>intro xs _ r;cases r;exact .nil
   | cons d ds c =>
    intro xs h r;cases r with
    |cons r1 r2 =>
     rw[xH,zR]at h;exact .cons (f h.1 r1) (c _ h.2 r2)
  intro x d h r;cases r <;> simp only[tT,Bool.false_eq_true]at h
  case int=>exact .int _
  case tup a xs ds hq hr=>exact .tup (e _ _ hq) (all _ _ h hr)
theorem Hn{K:Frag}{H:Hp}{a:Addr}{o:HO}(d:∀xs,¬ Rd H a (.tup xs)):∀b xs,SqT K H b xs->SqT K (upd H a o) b xs:=λb xs h=>by
 rcases h with h|h
 ·have c:b≠a:=λe=>d xs (e ▸ h);rcases h with h|⟨f,h⟩
  ·exact .inl (.inl (by rw[oT c];exact h))
  ·exact .inl (.inr ⟨f,by rw[oT c];exact h⟩)
 ·exact .inr h
theorem KP.keeps{K:Frag}{H H':Hp}{kvs:List (PyData×V)}{xs:List (PyData×Addr×Value)}(r:KP K H kvs xs)(a:∀b ys,SqT K H b ys->SqT K H' b ys):KP K H' kvs xs:=
 Paired.mapP r λ_ _ z=>⟨z.1,⟨z.2.1.1,kJ a 4 z.2.1.1 z.2.1.2⟩,z.2.2⟩
theorem lP{K:Frag}{H H':Hp}(s:Same H H'):∀b xs,SqT K H b xs->SqT K H' b xs:=λb xs h=>by
 rcases h with(h|⟨o,h⟩)|h
 ·exact .inl (.inl (s _ _ h))
 ·exact .inl (.inr ⟨o,s _ _ h⟩)
 ·exact .inr h
theorem DTr.up{K:Frag}{H H':Hp}{a:Addr}{kvs:List (PyData×V)}(h:DTr K H a kvs)(s:Same H H'):DTr K H' a kvs:=by
 obtain⟨l,y,xs,e,n,r⟩:=h;exact⟨l,y,xs,s _ _ e,n,r.keeps (lP s)⟩
section
variable {X:Cx} {pins:PN} {σ:St} {H:Hp} {s:Shared} {a:Addr}
theorem fA{k:PyData}{b:Addr}(I:Inv X pins σ H s)(tk:tT 4 k=true)(c:Dt X.K H (.ref b) k):(kD X.prog X.w).is s.heap k b:=⟨tk,c.reads I rfl⟩
theorem fB{kvs:List (PyData×V)}(I:Inv X pins σ H s)(g:DTr X.K H a kvs):∃xs,H a=some (mH a xs)/\KP X.K H kvs xs/\s.heap.DictOfH (kD X.prog X.w) a xs:=by
 obtain⟨_,_,xs,e,n,r⟩:=g;obtain⟨⟨o,es,ep,f,i,d,k⟩,_⟩:=(show nO X.prog X.w H s.heap a (mH a xs) from I.hok a _ e);refine⟨xs,e,r,o,es,ep,f,i,d,k,λx b=>?_,n⟩;have all:∀{l:List (PyData×V)}{m:List (PyData×Addr×Value)},KP X.K H l m->∀x∈m,(kD X.prog X.w).is s.heap x.1 x.2.1:=by
  intro l m q
  induction q with
  |nil=>intro x b;exact nomatch b
  |@cons p q ps t c u j =>
   intro x b;rcases xI.mp b with e|b
   ·subst e;rw[←c.1];exact fA I c.2.1.1 c.2.1.2
   ·exact j x b
 exact all r x b
end
def bW(K:Frag):R2:=λx y H Q=>∃a kvs b k v,x=.ref a/\y=.ref b/\DTr K H a kvs/\tT 4 k=true/\Dt K H (.ref b) k/\vT kvs k=some v/\Q v H
def rInT(K:Frag)(neg:Bool):R2:=λy x H Q=>∃a kvs b k,x=.ref a/\y=.ref b/\DTr K H a kvs/\tT 4 k=true/\Dt K H (.ref b) k/\Q (.bl (if neg=true then !(vT kvs k).isSome else(vT kvs k).isSome)) H
def Rf(K:Frag):TSet:=λx y v H Q=>∃a kvs b k,x=.ref a/\y=.ref b/\DTr K H a kvs/\tT 4 k=true/\Dt K H (.ref b) k/\kvs.length<sizeLine/\∀H',(∀c o,c≠a->H c=some o->H' c=some o)->(∀c,c≠a->H' c=H c)->DTr K H' a (pT kvs k v)->Q H'
section
variable {X:Cx}
theorem ix_T(D:X.A.units+64<cLine):IxR X (bW X.K):=by
 intro F G C s w H x y v u Q I j n h l;obtain⟨a,kvs,b,k,z,rfl,rfl,g,tk,i,f,q⟩:=h;cases j;cases n;obtain⟨xs,e,r,dd⟩:=fB I g;obtain⟨d,o,m⟩:=RelO.some_of (v:=z) (o:=(atKey xs k).map (·.2)) (by rw[←f];exact r.val k);obtain⟨p,t,c⟩:=Option.map_eq_some_iff.mp o;refine sQ (x:=d) dd.typeIs PySem.F.slot_dict_getitem.lookup ?_ l;refine wpAny_getItem_heap (knd:=kD X.prog X.w) (show X.A.units+1+8<cLine by omega) (fA I tk i) dd t ⟨c,z,H,I.tok _,?_,q⟩;rw[c];exact m
theorem Re(l:X.A.units+64<cLine):OpR X (compareOp .NotIn) (rInT X.K true):=by
 intro j s i H x y v u Q I d f h;obtain⟨a,kvs,b,k,rfl,rfl,g,tk,c,q⟩:=h;cases d;cases f;obtain⟨xs,e,r,dd⟩:=fB I g;refine wpAny_notIn_heap (knd:=kD X.prog X.w) (show X.A.units+1+8<cLine by omega) (fA I tk c) g.sys dd ?_;have e:=Ho (r.val k);rw[Option.isSome_map]at e;rw[←e];exact⟨.bl _,H,I.tok _,rfl,q⟩
theorem Rc(kvs:List (PyData×V))(k:PyData)(v:V):(pT kvs k v).length<=kvs.length+1:=by
 unfold pT;split
 ·rw[yS];omega
 ·rw[yE];exact zE _
theorem bX{P:Program}{w:World}{H:Hp}{h:Heap}{a:Addr}{xs:List (PyData×Addr×Value)}{o:Obj}{es:Array DictEntry}{ep:Nat}(c:h.get? a=some o)(i:o.ExactDict)(g:o.data=.dict es ep)(l:es.toList=xs.map λx=>⟨jT x.1,.ref x.2.1,x.2.2⟩):nO P w H h a (mH a xs):=
 ⟨⟨o,es,ep,c,i,g,l⟩,⟨o,c⟩,λn m⟨b,f,d,j,e⟩k=>⟨b,f,d,k b j,e⟩⟩
theorem Hm(N:X.A.units+64<cLine):PSet X (Rf X.K):=by
 intro K s J H o i v L M u Q I m t w h;obtain⟨a,kvs,b,k,rfl,rfl,g,tk,f,hl,q⟩:=h;cases m;cases t;obtain⟨xs,e,r,dd⟩:=fB I g;have x:xs.length<=sizeLine:=by rw[←Paired.length r];exact g.len
 have y:∀ys,¬ Rd H a (.tup ys):=λys z=>by
  rcases z with z|⟨l,z⟩
  ·rw[e]at z;cases z
  ·rw[e]at z;cases z
 refine wpAny_setItem_heap (knd:=kD X.prog X.w) (hsz:=x) (show X.A.units+1+8<cLine by omega) (fA I tk f) dd λh' C G=>?_;obtain⟨l,es,ep,j,F,p,n,_,D⟩:=C;refine⟨upd H a (mH a (storedH xs k b u)),I.write (x:=a) (e:=a) (by rw[e];exact True.intro) (.inl rfl) (λc o d z=>(G.2 c d).trans z) ⟨l,j⟩ (bX j F p n),?_⟩;refine q _ (λc o d z=>by rw[oT d];exact z) (λc d=>oT d) ⟨by have:=Rc kvs k v;omega,g.sys,_,oP,D,(r.put k tk f w).keeps (Hn y)⟩
end
section
variable {X:Cx} {pos:Pos}
theorem Bp{b:PN}{a:St}{H:Hp}{s:Shared}(I:Inv X b a H s):sysModules<s.heap.objs.size:=
 Nat.lt_trans ∅ (show mainGlobals<s.heap.objs.size from(I.mod.glob.keeps I.bk).lt)
theorem Hl{P:Program}{w:World}{H:Hp}(h:Heap):nO P w H (h.push {cls:=.type "dict",data:=.dict #[]}) h.objs.size (mH h.objs.size []):=
 bX (es:=#[]) (ep:=0) (zS _ rfl) ⟨rfl,rfl,rfl⟩ rfl rfl
theorem Hk{K:Frag}{H:Hp}{p:Addr}(a:(p == sysModules)=false)(e:H p=some (mH p [])):DTr K H p []:=⟨yB _,a,[],e,uY,.nil⟩
def Hj(K:Frag):TE:=λ_ H Q=>∀p,H p=none->DTr K (upd H p (mH p [])) p []->Q (.ref p) (upd H p (mH p []))
theorem Rb:PE X (.Dict [] [] pos) (Hj X.K):=λb s a H Q I h =>
 wpAny_Dict_empty ⟨.ref s.heap.objs.size,_,I.laid (a:=s.heap.objs.size) (o:=mH s.heap.objs.size []) (t':=s.toks) (λ_ _ q=>zC _ q) (zE _) (Hl s.heap),rfl,
  h _ (I.hok.fresh (zE _)) (Hk (pY.mpr (yA (zY (Bp I)))) oP)⟩
def Hi(K:Frag)(tk tv:TE):TE:=λσ H Q=>∀p,H p=none->tk σ (upd H p (mH p [])) λx H1=>tv σ H1 λy H2=>∃b d,x=.ref b/\tT 4 d=true/\Dt K H2 (.ref b) d/\H2 p=some (mH p [])/\∀H3,(∀c,c≠p->H3 c=H2 c)->DTr K H3 p [(d,y)]->Q (.ref p) H3
theorem Ra{k v:Expr}{tk m:TE}(a3:X.A.units+64<cLine)(R:PE X k tk)(O:PE X v m):PE X (.Dict [some k] [v] pos) (Hi X.K tk m):=by
 intro l s i H Q I q;have C:=I.hok.fresh (zE s.heap.objs.size);have n:(s.heap.objs.size == sysModules)=false:=pY.mpr (yA (zY (Bp I)));have F:=I.laid (a:=s.heap.objs.size) (o:=mH s.heap.objs.size []) (h':=s.heap.push {cls:=.type "dict",data:=.dict #[]}) (t':=s.toks) (λ_ _ q=>zC _ q) (zE _) (Hl s.heap);rw[arm_eval_Dict,zip_pairTrees [some k] [v] X.env pos rfl rfl,dictDisplay_pairs (pairTrees [some k] [v] X.env pos) (by intro e;cases e) (show 1<17 by decide)];refine zA (wS (zA ?_));unfold subDict;refine zA (wpAny_alloc ?_);refine zA (xB ?_);rw[zF (show(pairTrees [some k] [v] X.env pos).length<=15 from(show 1<=15 by decide))];refine zA (pairTrees_cons_walk (thn (R l _ i _ _ F (q _ C)) λu J⟨x,W,M,P,D⟩=>thn (O l J i W _ M D) λY a2⟨y,t,g,K,b,d,S,f,j,e,N⟩=>pairTrees_nil_walk ?_));subst S;cases P;refine xB ?_;obtain⟨xs,a1,r,dd⟩:=fB g (Hk n e);cases r;refine zA ?_;rw[uJ];refine zA (zA (wpAny_dictSet_heap (knd:=kD X.prog X.w) (hsz:=yB _) (show X.A.units+8<cLine by omega) (fA g f j) dd λh' U a0=>zB ?_));refine zB (zB (zB (zB ?_)));obtain⟨w,es,ep,p,Z,L,G,_,V⟩:=U;have T:∀ys,¬ Rd t s.heap.objs.size (.tup ys):=λys z=>by
  rcases z with z|⟨w,z⟩
  ·rw[e]at z;cases z
  ·rw[e]at z;cases z
 refine⟨.ref s.heap.objs.size,upd t s.heap.objs.size (mH s.heap.objs.size (storedH [] d b Y)),g.write (x:=s.heap.objs.size) (e:=s.heap.objs.size) (by rw[e];exact True.intro) (.inl rfl) (λc o a z=>(a0.2 c a).trans z) ⟨w,p⟩ (bX p Z L G),rfl,?_⟩;exact N _ (λc a=>oT a) ⟨by show 1<=sizeLine;decide,n,_,oP,V,.cons ⟨rfl,⟨f,kJ (Hn T) 4 f j⟩,K⟩ .nil⟩
def Sz(K:Frag):V->List V->Hp->VK->Prop:=λx vs H Q=>∃a kvs b k,x=.ref a/\vs=[.ref b]/\DTr K H a kvs/\tT 4 k=true/\Dt K H (.ref b) k/\Q ((vT kvs k).getD .non) H
def tBMR(K:Frag)(r:V->List V->Hp->VK->Prop)(to:TE)(ta:TA):TE:=λσ H Q=>to σ H λx H1=>(∃a kvs,x=.ref a/\DTr K H1 a kvs)/\ta σ H1 λvs H2=>r x vs H2 Q
theorem bY{T:String}{o e:Expr}{es:List Expr}{name:Str}{id:String}{j b:Pos}{k:TE}{f:TA}{r:V->List V->Hp->VK->Prop}(L:PlainAttrs "dict")(y:Slot "dict" name id)(p:typeOf (.builtin id)=pure (.type "method_descriptor"))(K:MtM X id r)(m:PE X o k)(G:PA X (e:: es) f)
  (F:attributeBase o name X.env (eval o X.env)=eval o X.env:=by rfl)
  (t:((backTo b (starEach (e:: es) X.env)).all (λx=>!x.1) && (backToKw b (keywordEach [] X.env)).all (λx=>x.1.isSome)
   && decide ((e:: es).length+([]:List Keyword).length+(if([]:List Keyword).isEmpty then 0 else 1)<30))=true:=by rfl)
  (u:(j.endLine == b.line)=true:=by rfl)(N:starEach (e:: es) X.env=(false,eval e X.env):: starEach es X.env:=by rfl)(w:(backTo b (starEach es X.env)).any (·.1)=false:=by rfl):
  PE X (.Call (.Attribute o name j) (e:: es) [] b) (tBMR X.K r k f):=by
 intro d s c H Q I h;refine wpAny_Call_method_late F t u rfl (thn (m d s c H _ I h) ?_);rintro v q ⟨x,M,i,r1,ty,n⟩;obtain⟨a,kvs,rfl,g⟩:=ty;cases r1;obtain⟨xs,O,r,dd⟩:=fB i g;refine⟨"dict",id,L,y,p,dd.typeIs,dictOfH_noDict dd,?_⟩;have l:=G b d q c M _ i n;rw[N]at l ⊢;refine uM (by show(false || (backTo b (starEach es X.env)).any (·.1))=false;rw[w] <;> rfl) (vU ?_);exact thn l λus J⟨vs,z,C,r2,D⟩=>K d J c z (.ref a) vs _ us Q C rfl r2 D
theorem Sy{o:Option V}{u:Option Value}{d:V}{r:Value}(h:RelO o u)(a:RelV d r):RelV (o.getD d) (u.getD r):=by
 cases o <;> cases u <;> first|exact a|exact h.elim|exact h
theorem bZ(m:X.A.units+64<cLine):MtM X "dict.get" (Sz X.K):=by
 intro l s j H x vs v us Q I d f h;obtain⟨a,kvs,b,k,rfl,rfl,g,tk,c,q⟩:=h;cases d;obtain⟨u,rfl,i⟩:=f.one;cases i;obtain⟨xs,e,r,dd⟩:=fB I g;refine call_meetsIn vN dd.typeIs PySem.F.entry_dict_get (PySem.F.args_dict_get_2 _ _) (meetsH_dict_get (kD X.prog X.w) a b g.sys) ⟨show X.A.units+1+8<cLine by omega,k,xs,fA I tk c,dd,⟨_,H,I.tok _,?_,q⟩⟩;exact Sy (r.val k) rfl
end
def kK:Bool->Keyed->Array Keyed->Nat->Nat->Nat->StateT SortSt Sem (Option Nat):=sortPriv%PySem.Builtin.gallop
def fC(left:Bool)(key:Keyed)(arr:Array Keyed)(base i:Nat):StateT SortSt Sem (Option Bool):=do
 let x ←elem' arr (base+i)
 if left then lt' x key else return (←lt' key x).map (!·)
theorem Sx(left:Bool)(b:Keyed)(arr:Array Keyed)(base n a:Nat):kK left b arr base n a=(do
 let mut lastofs:=0
 let mut ofs:=1
 let mut lo:=0
 let mut hi:=0
 let some right ←fC left b arr base a|return none
 if right then
  let c:=n-a
  for _ in[0:n] do
   if ofs≥c then break
   let some more ←fC left b arr base (a+ofs)|return none
   if !more then break
   lastofs:=ofs
   ofs:=2*ofs+1
  lo:=a+lastofs+1
  hi:=a+min ofs c
 else
  let c:=a+1
  for _ in[0:n] do
   if ofs≥c then break
   let some found ←fC left b arr base (a-ofs)|return none
   if found then break
   lastofs:=ofs
   ofs:=2*ofs+1
  lo:=a+1-min ofs c
  hi:=a-lastofs
 for _ in[0:n] do
  if lo≥hi then break
  let m:=lo+(hi-lo)/2
  let some more ←fC left b arr base m|return none
  if more then lo:=m+1 else hi:=m
 return some hi):=rfl
section
variable {prog:Program} {w:World} {A:Around} {E:VP} {s:Shared} {κ:PyProof.Rows.KeyKind} {kd:SortKind}
def Cmp(prog:Program)(w:World)(A:Around)(s:Shared)(κ:PyProof.Rows.KeyKind)(kd:SortKind):Prop:=
 ∀(E:VP)(x y:Value)(a b:κ.α)(Q:Bool->Shared->Prop),κ.keyOf x=some a->κ.keyOf y=some b->Q (κ.blt a b) s->wpAny (model prog w) A (keyLt' kd x y) Q E s
def ky(κ:PyProof.Rows.KeyKind)(p:Keyed):κ.α:=(κ.keyOf p.1).getD κ.dflt
def Gd(κ:PyProof.Rows.KeyKind)(p:Keyed):Prop:=∃a,κ.keyOf p.1=some a
def lq(κ:PyProof.Rows.KeyKind)(p q:Keyed):Bool:=κ.blt (ky κ p) (ky κ q)
theorem Hh{p:Keyed}(h:Gd κ p):κ.keyOf p.1=some (ky κ p):=by
 obtain⟨a,e⟩:=h;unfold ky;rw[e];rfl
theorem cC(c:Cmp prog w A s κ kd){st:SortSt}{x y:Keyed}{Q:Option Bool->SortSt->Prop}(d:kindOf st=kd)(b:Gd κ x)(a:Gd κ y)(h:Q (some (lq κ x y)) st):wpS (model prog w) A E s (lt' x y) Q st:=by
 rw[lt'_eq];refine zG (uW ?_);rw[d];refine zG (rS (vP (c _ x.1 y.1 _ _ _ (Hh b) (Hh a) ⟨rfl,?_⟩)));exact zH h
theorem mV{st:SortSt}{arr:Array Keyed}{i:Nat}{p:Keyed}{Q:Keyed->SortSt->Prop}(hi:arr[i]?=some p)(h:Q p st):wpS (model prog w) A E s (elem' arr i) Q st:=by
 rw[elem'_eq,hi];exact zH h
def bey(κ:PyProof.Rows.KeyKind)(left:Bool)(key p:Keyed):Bool:=if left=true then lq κ p key else !lq κ key p
theorem Sw(c:Cmp prog w A s κ kd){st:SortSt}{left:Bool}{a p:Keyed}{arr:Array Keyed}{base i:Nat}{Q:Option Bool->SortSt->Prop}(d:kindOf st=kd)(b:Gd κ a)(f:arr[base+i]?=some p)(e:Gd κ p)(h:Q (some (bey κ left a p)) st):
  wpS (model prog w) A E s (fC left a arr base i) Q st:=by
 unfold fC;refine zG (mV f ?_);unfold bey at h;cases left with
 |true =>
  rw[zF rfl]at h ⊢;exact cC c d e b h
 |false =>
  rw[zD (by simp)]at h ⊢;exact zG (cC c d b e (zH h))
theorem Hg{st:SortSt}{n lo hi:Nat}{B:Nat->Bool}{f:Nat->StateT SortSt Sem (Option Bool)}{Q:Option Nat->SortSt->Prop}
  (t:∀(i:Nat)(R:Option Bool->SortSt->Prop),i<n->R (some (B i)) st->wpS (model prog w) A E s (f i) R st)(g:lo<=hi)(l:hi<=n)(mono:∀i j,i<=j->j<n->B j=true->B i=true)(p:∀i,i<lo->B i=true)(u:∀i,hi<=i->i<n->B i=false)
  (h:∀k,k<=n->(∀i,i<k->B i=true)->(∀i,k<=i->i<n->B i=false)->Q (some k) st):
  wpS (model prog w) A E s (do
   let mut lo:=lo
   let mut hi:=hi
   for _ in[0:n] do
    if lo≥hi then break
    let m:=lo+(hi-lo)/2
    let some more ←f m|return none
    if more then lo:=m+1 else hi:=m
   return some hi) Q st:=by
 refine zG (wL (xJ (I:=λx c a=>a=st/\∃lo hi,c=(none,lo,hi)/\lo<=hi/\hi<=n/\hi-lo+x<=n/\(∀i,i<lo->B i=true)/\∀i,hi<=i->i<n->B i=false)
  (Q:=λc a=>a=st/\∃k,c=(none,k,k)/\k<=n/\(∀i,i<k->B i=true)/\∀i,k<=i->i<n->B i=false) ?_ ?_ ⟨rfl,lo,hi,rfl,g,l,⋯,p,u⟩) ?_)
 ·rintro x c a _ v ⟨rfl,lo,hi,rfl,r,b,q,e,d⟩;dsimp only
  by_cases hl:lo≥hi
  ·rw[zF hl];exact zH ⟨rfl,hi,by rw[show lo=hi by omega],b,λi hi'=>e i ⋯,d⟩
  ·rw[zD hl];refine zG (t _ _ ⋯ ?_);dsimp only;cases hb:B (lo+(hi-lo)/2) with
   |true =>
    rw[zF rfl];refine zH ⟨rfl,_,_,rfl,⋯,b,⋯,λi hi'=>?_,d⟩;exact mono i _ ⋯ ⋯ hb
   |false =>
    rw[zD (by simp)];refine zH ⟨rfl,_,_,rfl,⋯,⋯,⋯,e,λi hi' o=>?_⟩;cases hbi:B i with
    |false=>rfl
    |true=>rw[mono _ i hi' o hbi]at hb;cases hb
 ·rintro c a ⟨rfl,lo,hi,rfl,r,b,q,e,d⟩;have:lo=hi:=⋯
  subst this;exact⟨rfl,lo,rfl,b,e,d⟩
 ·rintro c a ⟨rfl,k,rfl,b,e,d⟩;exact zH (h k b e d)
theorem cD(z:Cmp prog w A s κ kd){st:SortSt}{left:Bool}{o:Keyed}{arr:Array Keyed}{base n b:Nat}{B:Nat->Bool}{Q:Option Nat->SortSt->Prop}(F:kindOf st=kd)(y:Gd κ o)(v:b<n)
  (C:∀i,i<n->∃p,arr[base+i]?=some p/\Gd κ p/\bey κ left o p=B i)(mono:∀i j,i<=j->j<n->B j=true->B i=true)
  (h:∀k,k<=n->(∀i,i<k->B i=true)->(∀i,k<=i->i<n->B i=false)->Q (some k) st):wpS (model prog w) A E s (kK left o arr base n b) Q st:=by
 have m:∀(i:Nat)(R:Option Bool->SortSt->Prop),i<n->R (some (B i)) st->wpS (model prog w) A E s (fC left o arr base i) R st:=λi R hi r=>by
  obtain⟨p,e1,I,G⟩:=C i hi;exact Sw z F y e1 I (by rw[G];exact r)
 rw[Sx];refine zG (m b _ v ?_);dsimp only;cases hh:B b with
 | true =>
  rw[zF rfl];refine zG (wL (xJ (I:=λx c e=>e=st/\∃lo a,c=(none,lo,a)/\x+1<=a/\lo<a/\b+lo<n/\B (b+lo)=true)
   (Q:=λc e=>e=st/\∃lo a,c=(none,lo,a)/\lo<a/\b+lo<n/\B (b+lo)=true/\(n-b<=a\/(b+a<n/\B (b+a)=false))) ?_ ?_ ⟨rfl,0,1,rfl,zE _,⋯,v,hh⟩) ?_)
  ·rintro x c e _ D ⟨rfl,lo,a,rfl,u,g,f,d⟩;dsimp only
   by_cases hl:a≥n-b
   ·rw[zF hl];exact zH ⟨rfl,lo,a,rfl,g,f,d,.inl hl⟩
   ·rw[zD hl];refine zG (m _ _ ⋯ ?_);dsimp only;cases hb:B (b+a) with
    |true =>
     rw[zD (by simp)];exact zH ⟨rfl,_,_,rfl,⋯,⋯,⋯,hb⟩
    |false =>
     rw[zF ∅];exact zH ⟨rfl,lo,a,rfl,g,f,d,.inr ⟨⋯,hb⟩⟩
  ·rintro c e ⟨rfl,lo,a,rfl,u,g,f,d⟩;exact⟨rfl,lo,a,rfl,g,f,d,.inl ⋯⟩
  ·rintro c e ⟨rfl,lo,a,rfl,g,f,d,l⟩;dsimp only;refine Hg (lo:=b+lo+1) (hi:=b+min a (n-b)) m ⋯ ⋯ mono (λi hi=>mono i _ ⋯ f d) (λi hi t=>?_) h;rcases l with l|⟨l,q⟩
   ·omega
   ·cases hbi:B i with
    |false=>rfl
    |true=>rw[mono _ i ⋯ t hbi]at q;cases q
 | false =>
  rw[zD (by simp)];refine zG (wL (xJ (I:=λx c e=>e=st/\∃lo a,c=(none,lo,a)/\x+1<=a/\lo<a/\lo<=b/\B (b-lo)=false)
   (Q:=λc e=>e=st/\∃lo a,c=(none,lo,a)/\lo<a/\lo<=b/\B (b-lo)=false/\(b+1<=a\/(a<=b/\B (b-a)=true))) ?_ ?_ ⟨rfl,0,1,rfl,zE _,⋯,yB _,hh⟩) ?_)
  ·rintro x c e _ D ⟨rfl,lo,a,rfl,u,g,f,d⟩;dsimp only
   by_cases hl:a≥b+1
   ·rw[zF hl];exact zH ⟨rfl,lo,a,rfl,g,f,d,.inl hl⟩
   ·rw[zD hl];refine zG (m _ _ ⋯ ?_);dsimp only;cases hb:B (b-a) with
    |true =>
     rw[zF rfl];exact zH ⟨rfl,lo,a,rfl,g,f,d,.inr ⟨⋯,hb⟩⟩
    |false =>
     rw[zD (by simp)];exact zH ⟨rfl,_,_,rfl,⋯,⋯,⋯,hb⟩
  ·rintro c e ⟨rfl,lo,a,rfl,u,g,f,d⟩;exact⟨rfl,lo,a,rfl,g,f,d,.inl ⋯⟩
  ·rintro c e ⟨rfl,lo,a,rfl,g,f,d,l⟩;dsimp only;refine Hg (lo:=b+1-min a (b+1)) (hi:=b-lo) m ⋯ ⋯ mono (λi hi=>?_) (λi hi t=>?_) h
   ·rcases l with l|⟨l,q⟩
    ·omega
    ·exact mono i _ ⋯ ⋯ q
   ·cases hbi:B i with
    |false=>rfl
    |true=>rw[mono _ i ⋯ t hbi]at d;cases d
end
section
variable {κ:PyProof.Rows.KeyKind}
def le'(κ:PyProof.Rows.KeyKind)(x y:Keyed):Prop:=lq κ y x=false
theorem mM{x y z:Keyed}(a:le' κ x y)(b:le' κ y z):le' κ x z:=KeyOrd.kle_trans (O:=κ.toKeyOrd) a b
theorem mW{x y:Keyed}(h:lq κ x y=true):le' κ x y:=KeyOrd.klt_asymm (O:=κ.toKeyOrd) h
theorem iN(x:Keyed):le' κ x x:=κ.irrefl _
abbrev Srt(κ:PyProof.Rows.KeyKind)(l:List Keyed):Prop:=l.Pairwise (le' κ)
structure MI(κ:PyProof.Rows.KeyKind)(A B out:List Keyed)(ia ib:Nat):Prop where
 pm:out.Perm (A.take ia++B.take ib)
 so:Srt κ out
 oa:∀x∈out,∀y∈A.drop ia,le' κ x y
 ob:∀x∈out,∀y∈B.drop ib,le' κ x y
theorem MI.symm{A B out:List Keyed}{ia ib:Nat}(h:MI κ A B out ia ib):MI κ B A out ib ia:=⟨h.pm.trans vM,h.so,h.ob,h.oa⟩
theorem Sv{A:List Keyed}{i k:Nat}:A.take (i+k)=A.take i++(A.drop i).take k:=by rw[qI]
theorem MI.ext{A B out:List Keyed}{ia ib k:Nat}(h:MI κ A B out ia ib)(f:Srt κ A)(d:∀x∈(A.drop ia).take k,∀y∈B.drop ib,le' κ x y):MI κ A B (out++(A.drop ia).take k) (ia+k) ib:=by
 have e:Srt κ (A.drop ia):=uU (sL _ _) f;have cut:(A.drop ia).take k++A.drop (ia+k)=A.drop ia:=by rw[←pL];exact wA _ _
 have c:=oH.mp (show Srt κ ((A.drop ia).take k++A.drop (ia+k)) by rw[cut];exact e);refine⟨?_,oH.mpr ⟨h.so,c.1,λx b y a=>h.oa x b y (List.mem_of_mem_take a)⟩,λx b y a=>?_,λx b y a=>?_⟩
 ·rw[Sv,yI];refine(h.pm.append_right _).trans ?_;rw[yI];exact rA _ vM
 ·rcases oA.mp b with q|q
  ·exact h.oa x q y (by rw[←cut];exact yO _ a)
  ·exact c.2.2 x q y a
 ·rcases oA.mp b with q|q
  ·exact h.ob x q y a
  ·exact d x q y a
theorem aA{A:List Keyed}{i:Nat}{p:Keyed}(e:A[i]?=some p):A.drop i=p:: A.drop (i+1):=by
 obtain⟨h,rfl⟩:=oG.mp e;exact vR h
theorem MI.push{A B out:List Keyed}{ia ib:Nat}{p:Keyed}(h:MI κ A B out ia ib)(d:Srt κ A)(e:A[ia]?=some p)(c:∀y∈B.drop ib,le' κ p y):MI κ A B (out++[p]) (ia+1) ib:=by
 have:=MI.ext (k:=1) h d (λx a y b=>by
  rw[aA e]at a;have f:x=p:=by simpa using a
  rw[f];exact c y b)
 rw[aA e]at this;simpa using this
theorem fZ{A:List Keyed}{i:Nat}{p q:Keyed}(d:Srt κ A)(e:A[i]?=some q)(h:le' κ p q):∀y∈A.drop i,le' κ p y:=λy a=>by
 have b:Srt κ (A.drop i):=uU (sL _ _) d;rw[aA e]at a b;rcases xI.mp a with c|a
 ·rw[c];exact h
 ·exact mM h ((List.pairwise_cons.mp b).1 y a)
def Res(κ:PyProof.Rows.KeyKind)(A B r:List Keyed):Prop:=r.Perm (A++B)/\Srt κ r
theorem MI.all{A B out:List Keyed}{ia ib:Nat}(h:MI κ A B out ia ib)(a:Srt κ A)(b:B.length<=ib):Res κ A B (out++A.drop ia):=by
 refine⟨?_,oH.mpr ⟨h.so,uU (sL _ _) a,h.oa⟩⟩;have:=h.pm;rw[yT b]at this;refine(this.append_right _).trans ?_;rw[yI];refine(rA _ vM).trans ?_;rw[←yI,wA]
theorem Res.symm{A B r:List Keyed}(h:Res κ A B r):Res κ B A r:=⟨h.1.trans vM,h.2⟩
theorem MI.last{A B out:List Keyed}{ia ib:Nat}{p:Keyed}(h:MI κ A B out ia ib)(f:Srt κ B)(e:A[ia]?=some p)(hl:ia+1=A.length)(c:∀y∈B,le' κ y p):Res κ A B (out++B.drop ib++A.drop ia):=by
 have a:A.drop ia=[p]:=by rw[aA e,sT ⋯]
 rw[a];refine⟨?_,oH.mpr ⟨oH.mpr ⟨h.so,uU (sL _ _) f,h.ob⟩,List.pairwise_singleton _ _,λx d y b=>?_⟩⟩
 ·have g:A=A.take ia++[p]:=by rw[←a,wA]
  have:=(h.pm.append_right (B.drop ib)).append_right [p];refine this.trans ?_;rw[yI (A.take ia),wA,yI]
  conv=>rhs;rw[g]
  rw[yI];exact rA _ vM
 ·rw[pS.mp b];rcases oA.mp d with q|q
  ·exact h.oa x q p (by rw[a];exact List.mem_singleton_self _)
  ·exact c x (List.mem_of_mem_drop q)
theorem Bo(a:Array Keyed)(i j:Nat):(a.extract i (i+j)).toList=(a.toList.drop i).take j:=by simp[Array.toList_extract,List.extract_eq_take_drop]
theorem eE(a:Array Keyed)(i:Nat):(a.extract i a.size).toList=a.toList.drop i:=by
 simp only[Array.toList_extract,List.extract_eq_take_drop];exact yT (by rw[tF,zM];exact zE _)
end
section
variable {prog:Program} {w:World} {A:Around} {E:VP} {s:Shared} {κ:PyProof.Rows.KeyKind} {kd:SortKind}
structure MG(κ:PyProof.Rows.KeyKind)(a b:Array Keyed):Prop where
 sa:Srt κ a.toList
 sb:Srt κ b.toList
 ga:∀p∈a.toList,Gd κ p
 gb:∀p∈b.toList,Gd κ p
 na:1<=a.size
 nb:1<=b.size
 top:∀p,a[a.size-1]?=some p->∀y∈b.toList,le' κ y p
 fst:∀p q,b[0]?=some p->a[0]?=some q->le' κ p q
structure Sm(st st':SortSt):Prop where
 k:kindOf st'=kindOf st
 a:arrOf st'=arrOf st
 p:pendingOf st'=pendingOf st
 f:failedOf st'=failedOf st
theorem Sm.refl(st:SortSt):Sm st st:=⟨rfl,rfl,rfl,rfl⟩
theorem Sm.set{st a:SortSt}(h:Sm st a)(g:Nat):Sm st (SortSt.mk' (kindOf a) (arrOf a) (pendingOf a) g (failedOf a)):=⟨h.k,h.a,h.p,h.f⟩
theorem oY{a:Array Keyed}{i:Nat}{p:Keyed}:a[i]?=some p↔a.toList[i]?=some p:=by rw[yH]
theorem mG{a:Array Keyed}{i:Nat}(h:i<a.size):∃p,a[i]?=some p:=⟨a[i],Array.getElem?_eq_getElem h⟩
theorem lQ{st:SortSt}{arr:Array Keyed}{i:Nat}{Q:Keyed->SortSt->Prop}(hi:i<arr.size)(h:∀p,arr[i]?=some p->Q p st):wpS (model prog w) A E s (elem' arr i) Q st:=by
 obtain⟨p,e⟩:=mG hi;exact mV e (h p e)
theorem gC{l:List Keyed}(d:Srt κ l){i j:Nat}{p q:Keyed}(h:i<=j)(e1:l[i]?=some p)(a:l[j]?=some q):le' κ p q:=by
 rcases uD i j with h'|h'
 ·obtain⟨b,rfl⟩:=oG.mp e1;obtain⟨c,rfl⟩:=oG.mp a;exact List.pairwise_iff_getElem.mp d i j b c h'
 ·have:i=j:=⋯
  subst this;rw[e1]at a;cases a;exact iN _
theorem Bn{l:List Keyed}{i:Nat}{x:Keyed}(h:x∈l.drop i):∃j,i<=j/\l[j]?=some x:=by
 obtain⟨j,a,rfl⟩:=wO h;exact⟨i+j,⋯,by rw[←vJ];exact xN a⟩
theorem eF{l:List Keyed}{i k:Nat}{x:Keyed}(h:x∈(l.drop i).take k):∃j,j<k/\l[i+j]?=some x:=by
 obtain⟨j,a,rfl⟩:=wO h;rw[yK]at a;refine⟨j,⋯,?_⟩;rw[←vJ,List.getElem_take];exact xN ⋯
theorem Su(g:Cmp prog w A s κ kd){st:SortSt}{a:Array Keyed}{ia:Nat}{p:Keyed}{Q:Option Nat->SortSt->Prop}(l:kindOf st=kd)(t:Srt κ a.toList)(n:∀x∈a.toList,Gd κ x)(z:Gd κ p)(C:ia<a.size)
  (h:∀k,ia+k<=a.size->(∀x∈(a.toList.drop ia).take k,le' κ x p)->(∀y∈a.toList.drop (ia+k),lq κ p y=true)->Q (some k) st):wpS (model prog w) A E s (kK false p a ia (a.size-ia) 0) Q st:=by
 refine cD g (B:=λi=>!lq κ p (a.getD (ia+i) p)) l z ⋯ (λi hi=>?_) (λi j D b c=>?_) λk F o v=>h k ⋯ (λx m=>?_) λy f=>?_
 ·obtain⟨q,e⟩:=mG (a:=a) (i:=ia+i) ⋯;refine⟨q,e,n q (yF (oY.mp e)),?_⟩;rw[show a.getD (ia+i) p=q by simp[Array.getD_eq_getD_getElem?,e]];rfl
 ·obtain⟨q,e⟩:=mG (a:=a) (i:=ia+i) ⋯;obtain⟨r,d⟩:=mG (a:=a) (i:=ia+j) ⋯;rw[show a.getD (ia+j) p=r by simp[Array.getD_eq_getD_getElem?,d]]at c;rw[show a.getD (ia+i) p=q by simp[Array.getD_eq_getD_getElem?,e]];have l1:le' κ r p:=by unfold le';simpa using c
  have:=mM (gC t (show ia+i<=ia+j by omega) (oY.mp e) (oY.mp d)) l1;unfold le' at this;rw[this];rfl
 ·obtain⟨j,b,e⟩:=eF m;have:=o j b;rw[show a.getD (ia+j) p=x by simp[Array.getD_eq_getD_getElem?,oY.mpr e]]at this;unfold le';simpa using this
 ·obtain⟨j,b,e⟩:=Bn f;have u:=(oG.mp e).1;rw[zM]at u;have:=v (j-ia) ⋯ ⋯;rw[show ia+(j-ia)=j by omega,show a.getD j p=y by simp[Array.getD_eq_getD_getElem?,oY.mpr e]]at this;simpa using this
theorem aB(g:Cmp prog w A s κ kd){st:SortSt}{b:Array Keyed}{ib c:Nat}{q:Keyed}{n:Nat}{Q:Option Nat->SortSt->Prop}(l:kindOf st=kd)(u:Srt κ b.toList)(v:∀x∈b.toList,Gd κ x)(f:Gd κ q)(z:ib+n<=b.size)(hh:c<n)
  (h:∀k,k<=n->(∀i x,i<k->b[ib+i]?=some x->lq κ x q=true)->(∀i x,k<=i->i<n->b[ib+i]?=some x->le' κ q x)->Q (some k) st):wpS (model prog w) A E s (kK true q b ib n c) Q st:=by
 refine cD g (B:=λi=>lq κ (b.getD (ib+i) q) q) l f hh (λi hi=>?_) (λi j C D a=>?_) λk y o t=>h k y (λi x hi e=>?_) λi x hi m e=>?_
 ·obtain⟨p,e⟩:=mG (a:=b) (i:=ib+i) ⋯;refine⟨p,e,v p (yF (oY.mp e)),?_⟩;rw[show b.getD (ib+i) q=p by simp[Array.getD_eq_getD_getElem?,e]];rfl
 ·obtain⟨p,e⟩:=mG (a:=b) (i:=ib+i) ⋯;obtain⟨r,d⟩:=mG (a:=b) (i:=ib+j) ⋯;rw[show b.getD (ib+j) q=r by simp[Array.getD_eq_getD_getElem?,d]]at a;rw[show b.getD (ib+i) q=p by simp[Array.getD_eq_getD_getElem?,e]];exact KeyOrd.klt_of_kle_of_klt (O:=κ.toKeyOrd) (gC u (show ib+i<=ib+j by omega) (oY.mp e) (oY.mp d)) a
 ·have:=o i hi;rw[show b.getD (ib+i) q=x by simp[Array.getD_eq_getD_getElem?,e]]at this;exact this
 ·have:=t i hi m;rw[show b.getD (ib+i) q=x by simp[Array.getD_eq_getD_getElem?,e]]at this;exact this
end
def Bm:Array Keyed->Array Keyed->StateT SortSt Sem (Array Keyed):=sortPriv%PySem.Builtin.mergeLo
def cE:Nat->StateT SortSt Sem Unit:=sortPriv%PySem.Builtin.setMinGallop
theorem Ss(a b:Array Keyed):Bm a b=(do
 rule "list.sort.merge-lo"
 let d:=a.size+b.size
 let done (out:Array Keyed) (ia ib:Nat):=out++a.extract ia a.size++b.extract ib b.size
 let c (out:Array Keyed) (ia ib:Nat):=out++b.extract ib b.size++a.extract ia a.size
 let mut out:Array Keyed:=#[←elem' b 0]
 let mut ia:=0
 let mut ib:=1
 if ib == b.size then return done out ia ib
 if ia+1 == a.size then return c out ia ib
 let mut minGallop:=gallopOf (←get)
 for _ in[0:d] do
  let mut acount:=0
  let mut bcount:=0
  for _ in[0:d] do
   let some bWins ←lt' (←elem' b ib) (←elem' a ia)|return done out ia ib
   if bWins then
    out:=out.push (←elem' b ib);ib:=ib+1;bcount:=bcount+1;acount:=0
    if ib == b.size then return done out ia ib
    if bcount≥minGallop then break
   else
    out:=out.push (←elem' a ia);ia:=ia+1;acount:=acount+1;bcount:=0
    if ia+1 == a.size then return c out ia ib
    if acount≥minGallop then break
  rule "list.sort.gallop"
  minGallop:=minGallop+1
  for _ in[0:d] do
   if minGallop > 1 then minGallop:=minGallop-1
   cE minGallop
   let some k ←kK false (←elem' b ib) a ia (a.size-ia) 0|return done out ia ib
   acount:=k
   if k > 0 then
    out:=out++a.extract ia (ia+k);ia:=ia+k
    if ia+1 == a.size then return c out ia ib
    if ia == a.size then return done out ia ib
   out:=out.push (←elem' b ib);ib:=ib+1
   if ib == b.size then return done out ia ib
   let some k ←kK true (←elem' a ia) b ib (b.size-ib) 0|return done out ia ib
   bcount:=k
   if k > 0 then
    out:=out++b.extract ib (ib+k);ib:=ib+k
    if ib == b.size then return done out ia ib
   out:=out.push (←elem' a ia);ia:=ia+1
   if ia+1 == a.size then return c out ia ib
   if acount<7 && bcount<7 then break
  minGallop:=minGallop+1
  cE minGallop
 unsupported "internal:list.sort.merge-bound"):=rfl
theorem aC(g:Nat):cE g=modify λs=>SortSt.mk' (kindOf s) (arrOf s) (pendingOf s) g (failedOf s):=rfl
section
variable {prog:Program} {w:World} {A:Around} {E:VP} {s:Shared} {κ:PyProof.Rows.KeyKind} {kd:SortKind}
theorem eG{a b out:Array Keyed}{ia ib:Nat}(d:MG κ a b)(h:MI κ a.toList b.toList out.toList ia ib)(c:b.size<=ib):Res κ a.toList b.toList (out++a.extract ia a.size++b.extract ib b.size).toList:=by
 rw[yJ,yJ,eE,eE,sT (as:=b.toList) (by rw[zM];exact c),wM];exact h.all d.sa (by rw[zM];exact c)
theorem Sr{a b out:Array Keyed}{ia ib:Nat}(d:MG κ a b)(h:MI κ a.toList b.toList out.toList ia ib)(c:a.size<=ia):Res κ a.toList b.toList (out++a.extract ia a.size++b.extract ib b.size).toList:=by
 rw[yJ,yJ,eE,eE,sT (as:=a.toList) (by rw[zM];exact c),wM];exact(h.symm.all d.sb (by rw[zM];exact c)).symm
theorem fD{a b out:Array Keyed}{ia ib:Nat}(c:MG κ a b)(h:MI κ a.toList b.toList out.toList ia ib)(d:ia+1=a.size):Res κ a.toList b.toList (out++b.extract ib b.size++a.extract ia a.size).toList:=by
 rw[yJ,yJ,eE,eE];obtain⟨p,e⟩:=mG (a:=a) (i:=ia) ⋯;exact h.last c.sb (oY.mp e) (by rw[zM];exact d) (c.top p (by rw[show a.size-1=ia by omega];exact e))
theorem aD{a b out:Array Keyed}{ia ib:Nat}{p:Keyed}(d:MG κ a b)(h:MI κ a.toList b.toList out.toList ia ib)(e:b[ib]?=some p)(c:∀y∈a.toList.drop ia,le' κ p y):MI κ a.toList b.toList (out.push p).toList ia (ib+1):=by
 rw[uT];exact(h.symm.push d.sb (oY.mp e) c).symm
theorem cF{a b out:Array Keyed}{ia ib:Nat}{p:Keyed}(d:MG κ a b)(h:MI κ a.toList b.toList out.toList ia ib)(e:a[ia]?=some p)(c:∀y∈b.toList.drop ib,le' κ p y):MI κ a.toList b.toList (out.push p).toList (ia+1) ib:=by
 rw[uT];exact h.push d.sa (oY.mp e) c
theorem So{a b out:Array Keyed}{ia ib k:Nat}{p:Keyed}(c:MG κ a b)(h:MI κ a.toList b.toList out.toList ia ib)(e:b[ib]?=some p)(f:∀x∈(a.toList.drop ia).take k,le' κ x p):MI κ a.toList b.toList (out++a.extract ia (ia+k)).toList (ia+k) ib:=by
 rw[yJ,Bo];exact h.ext c.sa λx g y d=>mM (f x g) (fZ c.sb (oY.mp e) (iN p) y d)
theorem Hf{a b out:Array Keyed}{ia ib k:Nat}{p:Keyed}(c:MG κ a b)(h:MI κ a.toList b.toList out.toList ia ib)(e:a[ia]?=some p)(f:∀x∈(b.toList.drop ib).take k,le' κ x p):MI κ a.toList b.toList (out++b.extract ib (ib+k)).toList ia (ib+k):=by
 rw[yJ,Bo];exact(h.symm.ext c.sb λx g y d=>mM (f x g) (fZ c.sa (oY.mp e) (iN p) y d)).symm
theorem Bl{a out:Array Keyed}{i:Nat}:out++a.extract i (i+0)=out:=by simp;omega
theorem nC{a:Type}{c:Prop}[Decidable c]{b e:StateT SortSt Sem a}{Q:a->SortSt->Prop}{st:SortSt}(d:c->wpS (model prog w) A E s b Q st)(f:¬ c->wpS (model prog w) A E s e Q st):wpS (model prog w) A E s (if c then b else e) Q st:=by
 by_cases h:c
 ·rw[zF h];exact d h
 ·rw[zD h];exact f h
theorem He{a:Type}{c:Nat->Prop}[∀m,Decidable (c m)]{b F:Nat->StateT SortSt Sem a}{Q:a->SortSt->Prop}{st:SortSt}(h:∀m,wpS (model prog w) A E s (F m) Q st)(e:∀m,F (m-1)=b m)(m:Nat):wpS (model prog w) A E s (if c m then b m else F m) Q st:=nC (λ_=>by rw[←e];exact h _) λ_=>h m
theorem Sn(O:Cmp prog w A s κ kd){st:SortSt}{a b:Array Keyed}{Q:Array Keyed->SortSt->Prop}(P:kindOf st=kd)(d:MG κ a b)
  (h:∀r n,Sm st n->Res κ a.toList b.toList r.toList->Q r n):wpS (model prog w) A E s (Bm a b) Q st:=by
 have b6:=d.na;have c0:=d.nb;have U:∀i p,a[i]?=some p->Gd κ p:=λi p e=>d.ga p (yF (oY.mp e));have a4:∀i p,b[i]?=some p->Gd κ p:=λi p e=>d.gb p (yF (oY.mp e));rw[Ss];refine zG (rS (wU ⟨rfl,?_⟩));refine zG (lQ ⋯ λa6 a5=>?_);dsimp only;obtain⟨a8,a7⟩:=mG (a:=a) (i:=0) ⋯;have Y:MI κ a.toList b.toList (#[a6]:Array Keyed).toList 0 1:=by
  have:=aD (out:=#[]) (ia:=0) (ib:=0) d ⟨by simp,List.Pairwise.nil,λx I=>by simp at I,λx I=>by simp at I⟩ a5 (fZ d.sa (oY.mp a7) (d.fst a6 a8 a5 a7));simpa using this
 by_cases N:(1 == b.size)=true
 ·rw[zF N];exact zH (h _ _ (Sm.refl _) (eG d Y (by have:=yN N;omega)))
 rw[zD N];have b7:1≠b.size:=λe=>N (pW.mpr e)
 by_cases R:(0+1 == a.size)=true
 ·rw[zF R];exact zH (h _ _ (Sm.refl _) (fD d Y (by have:=yN R;omega)))
 rw[zD R];have c1:0+1≠a.size:=λe=>R (pW.mpr e);refine zG (uW ?_);refine zG (wL (xJ (I:=λx c n=>Sm st n/\E4 λ(out:Array Keyed)(ia ib u:Nat)=>A5 (c=(none,out,ia,ib,u)) (MI κ a.toList b.toList out.toList ia ib) (ia+1<a.size) (ib<b.size) (x+1<=ia+ib))
  (Q:=λc n=>Sm st n/\∃r G,c=(some r,G)/\Res κ a.toList b.toList r.toList) ?_ ?_ ⟨Sm.refl _,_,_,_,_,rfl,Y,⋯,⋯,⋯⟩) ?_)
 ·rintro x c a1 _ I ⟨sm,out,ia,ib,u,rfl,l,lia,g,pr⟩;dsimp only;refine zG (wL (xJ (I:=λy c n=>Sm st n/\E5 λ(out:Array Keyed)(ia ib t o:Nat)=>A6 (c=(none,out,ia,ib,t,o)) (MI κ a.toList b.toList out.toList ia ib) (ia+1<a.size) (ib<b.size) (x+1<=ia+ib) (1<=y->x+2<=ia+ib))
   (Q:=λc n=>Sm st n/\((∃r G,c=(some r,G)/\Res κ a.toList b.toList r.toList)\/E5 λ(out:Array Keyed)(ia ib t o:Nat)=>A5 (c=(none,out,ia,ib,t,o)) (MI κ a.toList b.toList out.toList ia ib) (ia+1<a.size) (ib<b.size) (x+2<=ia+ib))) ?_ ?_ ⟨sm,out,ia,ib,0,0,rfl,l,lia,g,pr,⋯⟩) ?_)
  ·rintro y c a3 _ C ⟨sm,out,ia,ib,t,o,rfl,l,lia,g,pr,_⟩;dsimp only;refine zG (lQ g λp e=>?_);refine zG (lQ (show ia<a.size by omega) λq f=>?_);refine zG (cC O (by rw[sm.k];exact P) (a4 _ _ e) (U _ _ f) ?_);dsimp only;cases hl:lq κ p q with
   |true =>
    rw[zF rfl];have J:=aD d l e (fZ d.sa (oY.mp f) (mW hl));refine zG (mV e ?_)
    by_cases F:(ib+1 == b.size)=true
    ·rw[zF F];exact zH ⟨sm,.inl ⟨_,_,rfl,eG d J (by have:=yN F;omega)⟩⟩
    rw[zD F];have b2:ib+1≠b.size:=λe=>F (pW.mpr e);split
    ·exact zH ⟨sm,.inr ⟨_,_,_,_,_,rfl,J,lia,⋯,⋯⟩⟩
    ·exact zH ⟨sm,_,_,_,_,_,rfl,J,lia,⋯,⋯,⋯⟩
   |false =>
    rw[zD (by simp)];have J:=cF d l f (fZ d.sb (oY.mp e) hl);refine zG (mV f ?_)
    by_cases F:(ia+1+1 == a.size)=true
    ·rw[zF F];exact zH ⟨sm,.inl ⟨_,_,rfl,fD d J (by have:=yN F;omega)⟩⟩
    rw[zD F];have b2:ia+1+1≠a.size:=λe=>F (pW.mpr e);split
    ·exact zH ⟨sm,.inr ⟨_,_,_,_,_,rfl,J,⋯,g,⋯⟩⟩
    ·exact zH ⟨sm,_,_,_,_,_,rfl,J,⋯,g,⋯,⋯⟩
  ·rintro c a3 ⟨sm,out,ia,ib,t,o,rfl,l,lia,g,pr,b3⟩;exact⟨sm,.inr ⟨_,_,_,_,_,rfl,l,lia,g,b3 ⋯⟩⟩
  ·rintro c a3 ⟨sm,⟨r,G,rfl,K⟩|⟨out,ia,ib,t,o,rfl,l,lia,g,pr⟩⟩
   ·exact zH ⟨sm,_,_,rfl,K⟩
   dsimp only;refine zG (rS (wU ⟨rfl,?_⟩));refine zG (wL (xJ (I:=λy c n=>Sm st n/\E6 λ(out:Array Keyed)(ia ib u t o:Nat)=>A5 (c=(none,out,ia,ib,u,t,o)) (MI κ a.toList b.toList out.toList ia ib) (ia+1<a.size) (ib<b.size) (x+2<=ia+ib))
    (Q:=λc n=>Sm st n/\((∃r G,c=(some r,G)/\Res κ a.toList b.toList r.toList)\/E6 λ(out:Array Keyed)(ia ib u t o:Nat)=>A5 (c=(none,out,ia,ib,u,t,o)) (MI κ a.toList b.toList out.toList ia ib) (ia+1<a.size) (ib<b.size) (x+2<=ia+ib))) ?_ ?_ ⟨sm,_,_,_,_,_,_,rfl,l,lia,g,pr⟩) ?_)
   ·rintro y c a2 _ C ⟨sm,out,ia,ib,u,t,o,rfl,l,lia,g,pr⟩;dsimp only
    revert u
    refine He (λu=>?_) λ_=>rfl;rw[aC];refine zG (wT ?_);refine zG (lQ (arr:=b) g λp e=>?_);refine zG (Su O (show kindOf _=kd from sm.k.trans P) d.sa d.ga (a4 _ _ e) (show ia<a.size by omega) λk c2 b5 V=>?_);have mk:=So d l e b5;dsimp only;refine nC (λb0=>?_) λb0=>?_
    ·refine nC (λz=>?_) λz=>?_
     ·exact zH ⟨sm.set _,.inl ⟨_,_,rfl,fD d mk (yN z)⟩⟩
     have b8:ia+k+1≠a.size:=λe=>z (pW.mpr e);refine nC (λy=>?_) λy=>?_
     ·exact zH ⟨sm.set _,.inl ⟨_,_,rfl,Sr d mk (by have:=yN y;omega)⟩⟩
     have b9:ia+k≠a.size:=λe=>y (pW.mpr e);have L:=aD d mk e λy C=>mW (V y C);refine zG (mV e ?_);refine nC (λz=>?_) λz=>?_
     ·exact zH ⟨sm.set _,.inl ⟨_,_,rfl,eG d L (by have:=yN z;omega)⟩⟩
     have b1:ib+1≠b.size:=λe=>z (pW.mpr e);refine zG (lQ (arr:=a) (i:=(ia+k)) ⋯ λq f=>?_);refine zG (aB O (show kindOf _=kd from sm.k.trans P) d.sb d.gb (U _ _ f) (show ib+1+(b.size-(ib+1))<=b.size by omega) ⋯ λk2 a9 T S=>?_);have v:=Hf (k:=k2) d L f λx I=>by
      obtain⟨j,M,D⟩:=eF I;exact mW (T j x M (oY.mpr D))
     have nx:∀y∈b.toList.drop (ib+1+k2),le' κ q y:=λy C=>by
      obtain⟨j,M,D⟩:=Bn C;have X:=(oG.mp D).1;rw[zM]at X;exact S (j-(ib+1)) y ⋯ ⋯ (by rw[show ib+1+(j-(ib+1))=j by omega];exact oY.mpr D)
     dsimp only;refine nC (λZ=>?_) λZ=>?_
     ·refine nC (λz=>?_) λz=>?_
      ·exact zH ⟨sm.set _,.inl ⟨_,_,rfl,eG d v (by have:=yN z;omega)⟩⟩
      have b4:ib+1+k2≠b.size:=λe=>z (pW.mpr e);have m:=cF d v f nx;refine zG (mV f ?_);refine nC (λz=>?_) λz=>?_
      ·exact zH ⟨sm.set _,.inl ⟨_,_,rfl,fD d m (yN z)⟩⟩
      have a0:(ia+k)+1+1≠a.size:=λe=>z (pW.mpr e);refine nC (λ_=>?_) λ_=>?_
      ·exact zH ⟨sm.set _,.inr ⟨_,_,_,_,_,_,rfl,m,⋯,⋯,⋯⟩⟩
      ·exact zH ⟨sm.set _,_,_,_,_,_,_,rfl,m,⋯,⋯,⋯⟩
     ·have W:k2=0:=⋯
      subst W;rw[Bl]at v;simp only[Nat.add_zero]at v nx;have m:=cF d v f nx;refine zG (mV f ?_);refine nC (λz=>?_) λz=>?_
      ·exact zH ⟨sm.set _,.inl ⟨_,_,rfl,fD d m (yN z)⟩⟩
      have a0:(ia+k)+1+1≠a.size:=λe=>z (pW.mpr e);refine nC (λ_=>?_) λ_=>?_
      ·exact zH ⟨sm.set _,.inr ⟨_,_,_,_,_,_,rfl,m,⋯,⋯,⋯⟩⟩
      ·exact zH ⟨sm.set _,_,_,_,_,_,_,rfl,m,⋯,⋯,⋯⟩
    ·have k0:k=0:=⋯
     subst k0;rw[Bl]at mk;simp only[Nat.add_zero]at mk V;have L:=aD d mk e λy C=>mW (V y C);refine zG (mV e ?_);refine nC (λz=>?_) λz=>?_
     ·exact zH ⟨sm.set _,.inl ⟨_,_,rfl,eG d L (by have:=yN z;omega)⟩⟩
     have b1:ib+1≠b.size:=λe=>z (pW.mpr e);refine zG (lQ (arr:=a) (i:=ia) ⋯ λq f=>?_);refine zG (aB O (show kindOf _=kd from sm.k.trans P) d.sb d.gb (U _ _ f) (show ib+1+(b.size-(ib+1))<=b.size by omega) ⋯ λk2 a9 T S=>?_);have v:=Hf (k:=k2) d L f λx I=>by
      obtain⟨j,M,D⟩:=eF I;exact mW (T j x M (oY.mpr D))
     have nx:∀y∈b.toList.drop (ib+1+k2),le' κ q y:=λy C=>by
      obtain⟨j,M,D⟩:=Bn C;have X:=(oG.mp D).1;rw[zM]at X;exact S (j-(ib+1)) y ⋯ ⋯ (by rw[show ib+1+(j-(ib+1))=j by omega];exact oY.mpr D)
     dsimp only;refine nC (λZ=>?_) λZ=>?_
     ·refine nC (λz=>?_) λz=>?_
      ·exact zH ⟨sm.set _,.inl ⟨_,_,rfl,eG d v (by have:=yN z;omega)⟩⟩
      have b4:ib+1+k2≠b.size:=λe=>z (pW.mpr e);have m:=cF d v f nx;refine zG (mV f ?_);refine nC (λz=>?_) λz=>?_
      ·exact zH ⟨sm.set _,.inl ⟨_,_,rfl,fD d m (yN z)⟩⟩
      have a0:ia+1+1≠a.size:=λe=>z (pW.mpr e);refine nC (λ_=>?_) λ_=>?_
      ·exact zH ⟨sm.set _,.inr ⟨_,_,_,_,_,_,rfl,m,⋯,⋯,⋯⟩⟩
      ·exact zH ⟨sm.set _,_,_,_,_,_,_,rfl,m,⋯,⋯,⋯⟩
     ·have W:k2=0:=⋯
      subst W;rw[Bl]at v;simp only[Nat.add_zero]at v nx;have m:=cF d v f nx;refine zG (mV f ?_);refine nC (λz=>?_) λz=>?_
      ·exact zH ⟨sm.set _,.inl ⟨_,_,rfl,fD d m (yN z)⟩⟩
      have a0:ia+1+1≠a.size:=λe=>z (pW.mpr e);refine nC (λ_=>?_) λ_=>?_
      ·exact zH ⟨sm.set _,.inr ⟨_,_,_,_,_,_,rfl,m,⋯,⋯,⋯⟩⟩
      ·exact zH ⟨sm.set _,_,_,_,_,_,_,rfl,m,⋯,⋯,⋯⟩
   ·rintro c a2 ⟨sm,out,ia,ib,u,t,o,rfl,l,lia,g,pr⟩;exact⟨sm,.inr ⟨_,_,_,_,_,_,rfl,l,lia,g,pr⟩⟩
   ·rintro c a2 ⟨sm,⟨r,G,rfl,K⟩|⟨out,ia,ib,u,t,o,rfl,l,lia,g,pr⟩⟩
    ·exact zH ⟨sm,_,_,rfl,K⟩
    dsimp only;rw[aC];refine zG (wT (zH ⟨sm.set _,_,_,_,_,rfl,l,lia,g,⋯⟩))
 ·rintro c a1 ⟨sm,out,ia,ib,u,rfl,l,lia,g,pr⟩;omega
 ·rintro c a1 ⟨sm,r,G,rfl,K⟩;exact zH (h r a1 sm K)
end
def Bk:Array Keyed->Array Keyed->StateT SortSt Sem (Array Keyed):=sortPriv%PySem.Builtin.mergeHi
theorem Sl(a b:Array Keyed):Bk a b=(do
 rule "list.sort.merge-hi"
 let d:=a.size+b.size
 let done (out:Array Keyed) (na nb:Nat):=a.extract 0 na++b.extract 0 nb++out.reverse
 let c (out:Array Keyed) (na nb:Nat):=b.extract 0 nb++a.extract 0 na++out.reverse
 let mut na:=a.size-1
 let mut nb:=b.size
 let mut out:Array Keyed:=#[←elem' a na]
 if na == 0 then return done out na nb
 if nb == 1 then return c out na nb
 let mut minGallop:=gallopOf (←get)
 for _ in[0:d] do
  let mut acount:=0
  let mut bcount:=0
  for _ in[0:d] do
   let some aWins ←lt' (←elem' b (nb-1)) (←elem' a (na-1))|return done out na nb
   if aWins then
    na:=na-1;out:=out.push (←elem' a na);acount:=acount+1;bcount:=0
    if na == 0 then return done out na nb
    if acount≥minGallop then break
   else
    nb:=nb-1;out:=out.push (←elem' b nb);bcount:=bcount+1;acount:=0
    if nb == 1 then return c out na nb
    if bcount≥minGallop then break
  rule "list.sort.gallop"
  minGallop:=minGallop+1
  for _ in[0:d] do
   if minGallop > 1 then minGallop:=minGallop-1
   cE minGallop
   let some at_ ←kK false (←elem' b (nb-1)) a 0 na (na-1)|return done out na nb
   let k:=na-at_
   acount:=k
   if k > 0 then
    out:=out++(a.extract at_ na).reverse;na:=at_
    if na == 0 then return done out na nb
   nb:=nb-1;out:=out.push (←elem' b nb)
   if nb == 1 then return c out na nb
   let some at_ ←kK true (←elem' a (na-1)) b 0 nb (nb-1)|return done out na nb
   let k:=nb-at_
   bcount:=k
   if k > 0 then
    out:=out++(b.extract at_ nb).reverse;nb:=at_
    if nb == 1 then return c out na nb
    if nb == 0 then return done out na nb
   na:=na-1;out:=out.push (←elem' a na)
   if na == 0 then return done out na nb
   if acount<7 && bcount<7 then break
  minGallop:=minGallop+1
  cE minGallop
 unsupported "internal:list.sort.merge-bound"):=rfl
def revK(κ:PyProof.Rows.KeyKind):PyProof.Rows.KeyKind where
 α:=κ.α
 blt:=λa b=>κ.blt b a
 irrefl:=κ.irrefl
 trans:=λa b c h1 h2=>κ.trans c b a h2 h1
 negTrans:=λa b c h=>(κ.negTrans c b a h).symm
 total:=λa b h1 h2=>κ.total a b h2 h1
 keyOf:=κ.keyOf
 dflt:=κ.dflt
section
variable {prog:Program} {w:World} {A:Around} {E:VP} {s:Shared} {κ:PyProof.Rows.KeyKind} {kd:SortKind}
theorem Hd{x y:Keyed}:le' (revK κ) x y↔le' κ y x:=Iff.rfl
theorem fE{l:List Keyed}(h:Srt κ l):Srt (revK κ) l.reverse:=List.pairwise_reverse.mpr h
theorem Sk{l:List Keyed}(h:Srt (revK κ) l):Srt κ l.reverse:=List.pairwise_reverse.mpr h
def MH(κ:PyProof.Rows.KeyKind)(a b out:Array Keyed)(na nb:Nat):Prop:=MI (revK κ) a.toList.reverse b.toList.reverse out.toList (a.size-na) (b.size-nb)
theorem Bj{a:Array Keyed}{n:Nat}{p:Keyed}(h:n<a.size)(e:a[n]?=some p):a.toList.reverse[a.size-(n+1)]?=some p:=by
 rw[rB (by rw[zM];omega),zM,show a.size-1-(a.size-(n+1))=n by omega];exact oY.mp e
theorem eH{a:Array Keyed}{n:Nat}(h:n<=a.size):a.toList.reverse.drop (a.size-n)=(a.toList.take n).reverse:=by
 rw[List.drop_reverse,zM,show a.size-(a.size-n)=n by omega]
theorem aE{a:Array Keyed}{n:Nat}{y:Keyed}(h:n<=a.size)(b:y∈a.toList.reverse.drop (a.size-n)):∃i,i<n/\a[i]?=some y:=by
 rw[eH h]at b;obtain⟨i,hi,e⟩:=wO (List.mem_reverse.mp b);rw[yK]at hi;refine⟨i,⋯,?_⟩;rw[oY,←e,List.getElem_take];exact xN _
theorem Bi{a b r:Array Keyed}{l:List Keyed}(e:r.toList.reverse=l)(h:Res (revK κ) a.toList.reverse b.toList.reverse l):Res κ a.toList b.toList r.toList:=by
 subst e;refine⟨?_,?_⟩
 ·refine(qM r.toList).symm.trans (h.1.trans ?_);exact((qM _).append (qM _))
 ·have:=Sk h.2
  rwa[List.reverse_reverse]at this
theorem eI{a:Array Keyed}{n:Nat}:(a.extract 0 n).toList=a.toList.take n:=by
 have:=Bo a 0 n;rw[xO,List.drop_zero]at this;exact this
theorem fF{a b out:Array Keyed}{c:Nat}(d:MG κ a b)(h:MH κ a b out 0 c)(e:c<=b.size):Res κ a.toList b.toList (a.extract 0 0++b.extract 0 c++out.reverse).toList:=by
 refine Bi (l:=out.toList++b.toList.reverse.drop (b.size-c)) ?_ ((MI.symm h).all (fE d.sb) (by simp)).symm;rw[yJ,yJ,eI,eI,eH e,tE];simp
theorem Iz{a b out:Array Keyed}{c:Nat}(d:MG κ a b)(h:MH κ a b out c 0)(e:c<=a.size):Res κ a.toList b.toList (a.extract 0 c++b.extract 0 0++out.reverse).toList:=by
 refine Bi (l:=out.toList++a.toList.reverse.drop (a.size-c)) ?_ (MI.all h (fE d.sa) (by simp));rw[yJ,yJ,eI,eI,eH e,tE];simp
theorem eJ{a b out:Array Keyed}{d:Nat}(c:MG κ a b)(h:MH κ a b out d 1)(j:d<=a.size):Res κ a.toList b.toList (b.extract 0 1++a.extract 0 d++out.reverse).toList:=by
 have i:=c.nb;obtain⟨p,e⟩:=mG (a:=b) (i:=0) ⋯;obtain⟨q,f⟩:=mG (a:=a) (i:=0) (by have:=c.na;omega);refine Bi (l:=out.toList++a.toList.reverse.drop (a.size-d)++b.toList.reverse.drop (b.size-1)) ?_ (Res.symm ((MI.symm h).last (fE c.sa) (Bj ⋯ e) (by rw[List.length_reverse,zM];omega) λy g=>?_))
 ·rw[yJ,yJ,eI,eI,eH j,eH i,tE];simp
 ·exact fZ c.sa (oY.mp f) (c.fst p q e f) y (by simpa using List.mem_reverse.mp g)
theorem eK{a b out:Array Keyed}{c d:Nat}{p:Keyed}(l:MG κ a b)(h:MH κ a b out (c+1) d)(g:c<a.size)(j:d<=b.size)(e:a[c]?=some p)(k:∀i y,i<d->b[i]?=some y->le' κ y p):MH κ a b (out.push p) c d:=by
 unfold MH at h ⊢;rw[uT,show a.size-c=a.size-(c+1)+1 by omega];exact MI.push h (fE l.sa) (Bj g e) λy f=>by
  obtain⟨i,hi,m⟩:=aE j f;exact k i y hi m
theorem Bh{a b out:Array Keyed}{d c:Nat}{p:Keyed}(l:MG κ a b)(h:MH κ a b out d (c+1))(g:c<b.size)(j:d<=a.size)(e:b[c]?=some p)(k:∀i y,i<d->a[i]?=some y->le' κ y p):MH κ a b (out.push p) d c:=by
 unfold MH at h ⊢;rw[uT,show b.size-c=b.size-(c+1)+1 by omega];exact(MI.push (MI.symm h) (fE l.sb) (Bj g e) λy f=>by
  obtain⟨i,hi,m⟩:=aE j f;exact k i y hi m).symm
theorem Iy{a:Array Keyed}{n m:Nat}(h:n<=a.size)(b:m<=n):(a.extract m n).reverse.toList=(a.toList.reverse.drop (a.size-n)).take (n-m):=by
 rw[eH h,tE,List.take_reverse,yK,zM,show min n a.size-(n-m)=m by omega];simp only[Array.toList_extract,List.extract_eq_take_drop];rw[List.drop_take]
theorem Sj{a b out:Array Keyed}{c d m:Nat}{p:Keyed}(f:MG κ a b)(h:MH κ a b out c d)(n:c<=a.size)(r:m<=c)(l:d<=b.size)(u:0<d)(e:b[d-1]?=some p)(o:∀i x,m<=i->i<c->a[i]?=some x->le' κ p x):MH κ a b (out++(a.extract m c).reverse) m d:=by
 unfold MH at h ⊢;rw[yJ,Iy n r,show a.size-m=a.size-c+(c-m) by omega];refine MI.ext h (fE f.sa) λx q y k=>?_;obtain⟨i,hi,t⟩:=aE l k;obtain⟨j,v,g⟩:=eF q;rw[rB (by rw[zM];omega),zM]at g;have l1:le' κ y p:=gC f.sb (show i<=d-1 by omega) (oY.mp t) (oY.mp e);exact Hd.mpr (mM l1 (o _ x ⋯ ⋯ (oY.mpr g)))
theorem Ix{a b out:Array Keyed}{d c m:Nat}{p:Keyed}(f:MG κ a b)(h:MH κ a b out d c)(n:c<=b.size)(r:m<=c)(l:d<=a.size)(u:0<d)(e:a[d-1]?=some p)(o:∀i x,m<=i->i<c->b[i]?=some x->le' κ p x):MH κ a b (out++(b.extract m c).reverse) d m:=by
 unfold MH at h ⊢;rw[yJ,Iy n r,show b.size-m=b.size-c+(c-m) by omega];refine(MI.ext (MI.symm h) (fE f.sb) λx q y k=>?_).symm;obtain⟨i,hi,t⟩:=aE l k;obtain⟨j,v,g⟩:=eF q;rw[rB (by rw[zM];omega),zM]at g;have l1:le' κ y p:=gC f.sa (show i<=d-1 by omega) (oY.mp t) (oY.mp e);exact Hd.mpr (mM l1 (o _ x ⋯ ⋯ (oY.mpr g)))
theorem Si(g:Cmp prog w A s κ kd){st:SortSt}{b:Array Keyed}{ib c:Nat}{q:Keyed}{n:Nat}{Q:Option Nat->SortSt->Prop}(l:kindOf st=kd)(u:Srt κ b.toList)(v:∀x∈b.toList,Gd κ x)(f:Gd κ q)(z:ib+n<=b.size)(hh:c<n)
  (h:∀k,k<=n->(∀i x,i<k->b[ib+i]?=some x->le' κ x q)->(∀i x,k<=i->i<n->b[ib+i]?=some x->lq κ q x=true)->Q (some k) st):wpS (model prog w) A E s (kK false q b ib n c) Q st:=by
 refine cD g (B:=λi=>!lq κ q (b.getD (ib+i) q)) l f hh (λi hi=>?_) (λi j C D a=>?_) λk y o t=>h k y (λi x hi e=>?_) λi x hi m e=>?_
 ·obtain⟨p,e⟩:=mG (a:=b) (i:=ib+i) ⋯;refine⟨p,e,v p (yF (oY.mp e)),?_⟩;rw[show b.getD (ib+i) q=p by simp[Array.getD_eq_getD_getElem?,e]];rfl
 ·obtain⟨p,e⟩:=mG (a:=b) (i:=ib+i) ⋯;obtain⟨r,d⟩:=mG (a:=b) (i:=ib+j) ⋯;rw[show b.getD (ib+j) q=r by simp[Array.getD_eq_getD_getElem?,d]]at a;rw[show b.getD (ib+i) q=p by simp[Array.getD_eq_getD_getElem?,e]];have l1:le' κ r q:=by unfold le';simpa using a
  have:=mM (gC u (show ib+i<=ib+j by omega) (oY.mp e) (oY.mp d)) l1;unfold le' at this;rw[this];rfl
 ·have:=o i hi;rw[show b.getD (ib+i) q=x by simp[Array.getD_eq_getD_getElem?,e]]at this;unfold le';simpa using this
 ·have:=t i hi m;rw[show b.getD (ib+i) q=x by simp[Array.getD_eq_getD_getElem?,e]]at this;simpa using this
theorem Bg{a out:Array Keyed}{n:Nat}:out++(a.extract n n).reverse=out:=by simp;omega
theorem Sh(W:Cmp prog w A s κ kd){st:SortSt}{a b:Array Keyed}{Q:Array Keyed->SortSt->Prop}(Y:kindOf st=kd)(j:MG κ a b)
  (h:∀r C,Sm st C->Res κ a.toList b.toList r.toList->Q r C):wpS (model prog w) A E s (Bk a b) Q st:=by
 have c5:=j.na;have c3:=j.nb;have a1:∀i p,a[i]?=some p->Gd κ p:=λi p e=>j.ga p (yF (oY.mp e));have a6:∀i p,b[i]?=some p->Gd κ p:=λi p e=>j.gb p (yF (oY.mp e));rw[Sl];refine zG (rS (wU ⟨rfl,?_⟩));refine zG (lQ ⋯ λa9 a7=>?_);dsimp only;have T:MH κ a b #[a9] (a.size-1) b.size:=by
  have b7:MH κ a b #[] (a.size-1+1) b.size:=by
   unfold MH;rw[show a.size-(a.size-1+1)=0 by omega,vI];exact⟨by simp,List.Pairwise.nil,λx X=>by simp at X,λx X=>by simp at X⟩
  exact eK j b7 ⋯ (zE _) a7 λi y _ o=>j.top a9 a7 y (yF (oY.mp o))
 refine nC (λz=>?_) λz=>?_
 ·have l:=yN z;rw[l]at T ⊢;exact zH (h _ _ (Sm.refl _) (fF j T (zE _)))
 have b3:a.size-1≠0:=λe=>z (pW.mpr e);refine nC (λy=>?_) λy=>?_
 ·have b6:=yN y;refine zH (h _ _ (Sm.refl _) ?_);rw[b6]at T ⊢;exact eJ j T ⋯
 have c4:b.size≠1:=λe=>y (pW.mpr e);refine zG (uW ?_);refine zG (wL (xJ (I:=λx c C=>Sm st C/\E4 λ(g d:Nat)(out:Array Keyed)(I:Nat)=>A7 (c=(none,g,d,out,I)) (MH κ a b out g d) (0<g) (g<a.size) (1<d) (d<=b.size) (x+g+d<a.size+b.size))
  (Q:=λc C=>Sm st C/\∃r K,c=(some r,K)/\Res κ a.toList b.toList r.toList) ?_ ?_ ⟨Sm.refl _,_,_,_,_,rfl,T,⋯,⋯,⋯,⋯,⋯⟩) ?_)
 ·rintro x c a3 _ X ⟨sm,g,d,out,I,rfl,t,l1,l2,J,D,pr⟩;dsimp only;refine zG (wL (xJ (I:=λy c C=>Sm st C/\E5 λ(g d:Nat)(out:Array Keyed)(G F:Nat)=>A8 (c=(none,g,d,out,G,F)) (MH κ a b out g d) (0<g) (g<a.size) (1<d) (d<=b.size) (x+g+d<a.size+b.size) (1<=y->x+1+g+d<a.size+b.size))
   (Q:=λc C=>Sm st C/\((∃r K,c=(some r,K)/\Res κ a.toList b.toList r.toList)\/E5 λ(g d:Nat)(out:Array Keyed)(G F:Nat)=>A7 (c=(none,g,d,out,G,F)) (MH κ a b out g d) (0<g) (g<a.size) (1<d) (d<=b.size) (x+1+g+d<a.size+b.size))) ?_ ?_ ⟨sm,g,d,out,0,0,rfl,t,l1,l2,J,D,pr,⋯⟩) ?_)
  ·rintro y c a5 _ b1 ⟨sm,g,d,out,G,F,rfl,t,l1,l2,J,D,pr,_⟩;obtain⟨n,rfl⟩:∃n,g=n+1:=⟨g-1,⋯⟩;obtain⟨m,rfl⟩:∃m,d=m+1:=⟨d-1,⋯⟩;dsimp only;refine zG (lQ (arr:=b) (i:=m+1-1) ⋯ λp e=>?_);refine zG (lQ (arr:=a) (i:=n+1-1) ⋯ λq f=>?_);refine zG (cC W (by rw[sm.k];exact Y) (a6 _ _ e) (a1 _ _ f) ?_);dsimp only;cases hl:lq κ p q with
   |true =>
    rw[zF rfl];have L:=eK j t (show n<a.size by omega) ⋯ f λi y hi o=>mM (gC j.sb (show i<=m by omega) (oY.mp o) (oY.mp e)) (mW hl);refine zG (mV f ?_);refine nC (λz=>?_) λz=>?_
    ·have l:n=0:=yN z;subst l;exact zH ⟨sm,.inl ⟨_,_,rfl,fF j L ⋯⟩⟩
    have b8:n≠0:=λe=>z (pW.mpr e);refine nC (λ_=>?_) λ_=>?_
    ·exact zH ⟨sm,.inr ⟨n,m+1,_,_,_,rfl,L,⋯,⋯,⋯,⋯,⋯⟩⟩
    ·exact zH ⟨sm,n,m+1,_,_,_,rfl,L,⋯,⋯,⋯,⋯,⋯,⋯⟩
   |false =>
    rw[zD (by simp)];have L:=Bh j t (show m<b.size by omega) ⋯ e λi y hi o=>mM (gC j.sa (show i<=n by omega) (oY.mp o) (oY.mp f)) hl;refine zG (mV e ?_);refine nC (λz=>?_) λz=>?_
    ·have l:m=1:=yN z;subst l;exact zH ⟨sm,.inl ⟨_,_,rfl,eJ j L ⋯⟩⟩
    have b8:m≠1:=λe=>z (pW.mpr e);refine nC (λ_=>?_) λ_=>?_
    ·exact zH ⟨sm,.inr ⟨n+1,m,_,_,_,rfl,L,⋯,⋯,⋯,⋯,⋯⟩⟩
    ·exact zH ⟨sm,n+1,m,_,_,_,rfl,L,⋯,⋯,⋯,⋯,⋯,⋯⟩
  ·rintro c a5 ⟨sm,g,d,out,G,F,rfl,t,l1,l2,J,D,pr,b9⟩;exact⟨sm,.inr ⟨_,_,_,_,_,rfl,t,l1,l2,J,D,b9 ⋯⟩⟩
  ·rintro c a5 ⟨sm,⟨r,K,rfl,O⟩|⟨g,d,out,G,F,rfl,t,l1,l2,J,D,pr⟩⟩
   ·exact zH ⟨sm,_,_,rfl,O⟩
   dsimp only;refine zG (rS (wU ⟨rfl,?_⟩));refine zG (wL (xJ (I:=λy c C=>Sm st C/\E6 λ(g d:Nat)(out:Array Keyed)(I G F:Nat)=>A7 (c=(none,g,d,out,I,G,F)) (MH κ a b out g d) (0<g) (g<a.size) (1<d) (d<=b.size) (x+1+g+d<a.size+b.size))
    (Q:=λc C=>Sm st C/\((∃r K,c=(some r,K)/\Res κ a.toList b.toList r.toList)\/E6 λ(g d:Nat)(out:Array Keyed)(I G F:Nat)=>A7 (c=(none,g,d,out,I,G,F)) (MH κ a b out g d) (0<g) (g<a.size) (1<d) (d<=b.size) (x+1+g+d<a.size+b.size))) ?_ ?_ ⟨sm,_,_,_,_,_,_,rfl,t,l1,l2,J,D,pr⟩) ?_)
   ·rintro y c a4 _ b1 ⟨sm,g,d,out,I,G,F,rfl,t,l1,l2,J,D,pr⟩;dsimp only
    revert I
    refine He (λI=>?_) λ_=>rfl;rw[aC];refine zG (wT ?_);refine zG (lQ (arr:=b) (i:=d-1) ⋯ λp e=>?_);refine zG (Si W (show kindOf _=kd from sm.k.trans Y) j.sa j.ga (a6 _ _ e) (show 0+g<=a.size by omega) ⋯ λk c2 b0 b4=>?_);have mk:=Sj (m:=k) j t ⋯ c2 D ⋯ e λi x hi S V=>mW (b4 i x hi S (by rw[xO];exact V));dsimp only;refine nC (λa8=>?_) λa8=>?_
    ·refine nC (λz=>?_) λz=>?_
     ·have l:k=0:=yN z;subst l;exact zH ⟨sm.set _,.inl ⟨_,_,rfl,fF j mk D⟩⟩
     have b3:k≠0:=λe=>z (pW.mpr e)
     -- the other's last comes out
     obtain⟨m,rfl⟩:∃m,d=m+1:=⟨d-1,⋯⟩;have P:=Bh j mk (show m<b.size by omega) ⋯ e λi y hi o=>b0 i y hi (by rw[xO];exact o);refine zG (mV (show b[m+1-1]?=some p from e) ?_);refine nC (λz=>?_) λz=>?_
     ·have l:m=1:=yN z;subst l;exact zH ⟨sm.set _,.inl ⟨_,_,rfl,eJ j P ⋯⟩⟩
     have b5:m≠1:=λe=>z (pW.mpr e);have b2:0<m:=⋯
     refine zG (lQ (arr:=a) (i:=k-1) ⋯ λq f=>?_);refine zG (aB W (show kindOf _=kd from sm.k.trans Y) j.sb j.gb (a1 _ _ f) (show 0+(m+1-1)<=b.size by omega) ⋯ λk2 M R Z=>?_);replace M:k2<=m:=M;have u:=Ix (m:=k2) j P ⋯ M ⋯ ⋯ f λi x hi S V=>Z i x hi S (by rw[xO];exact V);obtain⟨n,N⟩:∃n,k=n+1:=⟨k-1,⋯⟩;dsimp only;refine nC (λU=>?_) λU=>?_
     ·refine nC (λz=>?_) λz=>?_
      ·have l:k2=1:=yN z;subst l;exact zH ⟨sm.set _,.inl ⟨_,_,rfl,eJ j u ⋯⟩⟩
      have c0:k2≠1:=λe=>z (pW.mpr e);refine nC (λz=>?_) λz=>?_
      ·have l:k2=0:=yN z;subst l;exact zH ⟨sm.set _,.inl ⟨_,_,rfl,Iz j u ⋯⟩⟩
      have c1:k2≠0:=λe=>z (pW.mpr e);rw[N]at u f ⊢;have v:=eK j u (show n<a.size by omega) ⋯ f λi y hi o=>mW (R i y hi (by rw[xO];exact o));refine zG (mV (show a[n+1-1]?=some q from f) ?_);refine nC (λz=>?_) λz=>?_
      ·have l:n=0:=yN z;subst l;exact zH ⟨sm.set _,.inl ⟨_,_,rfl,fF j v ⋯⟩⟩
      have a0:n≠0:=λe=>z (pW.mpr e);refine nC (λ_=>?_) λ_=>?_
      ·exact zH ⟨sm.set _,.inr ⟨n,_,_,_,_,_,rfl,v,⋯,⋯,⋯,⋯,⋯⟩⟩
      ·exact zH ⟨sm.set _,n,_,_,_,_,_,rfl,v,⋯,⋯,⋯,⋯,⋯⟩
     ·have a2:k2=m:=by
       have:¬ m-k2 > 0:=U;omega
      subst a2;rw[Bg]at u;rw[N]at u f ⊢;have v:=eK j u (show n<a.size by omega) ⋯ f λi y hi o=>mW (R i y hi (by rw[xO];exact o));refine zG (mV (show a[n+1-1]?=some q from f) ?_);refine nC (λz=>?_) λz=>?_
      ·have l:n=0:=yN z;subst l;exact zH ⟨sm.set _,.inl ⟨_,_,rfl,fF j v ⋯⟩⟩
      have a0:n≠0:=λe=>z (pW.mpr e);refine nC (λ_=>?_) λ_=>?_
      ·exact zH ⟨sm.set _,.inr ⟨n,_,_,_,_,_,rfl,v,⋯,⋯,⋯,⋯,⋯⟩⟩
      ·exact zH ⟨sm.set _,n,_,_,_,_,_,rfl,v,⋯,⋯,⋯,⋯,⋯⟩
    ·have k0:k=g:=by
      have:¬ g-k > 0:=a8;omega
     subst k0;rw[Bg]at mk
     -- the other's last comes out
     obtain⟨m,rfl⟩:∃m,d=m+1:=⟨d-1,⋯⟩;have P:=Bh j mk (show m<b.size by omega) ⋯ e λi y hi o=>b0 i y hi (by rw[xO];exact o);refine zG (mV (show b[m+1-1]?=some p from e) ?_);refine nC (λz=>?_) λz=>?_
     ·have l:m=1:=yN z;subst l;exact zH ⟨sm.set _,.inl ⟨_,_,rfl,eJ j P ⋯⟩⟩
     have b5:m≠1:=λe=>z (pW.mpr e);have b2:0<m:=⋯
     refine zG (lQ (arr:=a) (i:=k-1) ⋯ λq f=>?_);refine zG (aB W (show kindOf _=kd from sm.k.trans Y) j.sb j.gb (a1 _ _ f) (show 0+(m+1-1)<=b.size by omega) ⋯ λk2 M R Z=>?_);replace M:k2<=m:=M;have u:=Ix (m:=k2) j P ⋯ M ⋯ ⋯ f λi x hi S V=>Z i x hi S (by rw[xO];exact V);obtain⟨n,N⟩:∃n,k=n+1:=⟨k-1,⋯⟩;dsimp only;refine nC (λU=>?_) λU=>?_
     ·refine nC (λz=>?_) λz=>?_
      ·have l:k2=1:=yN z;subst l;exact zH ⟨sm.set _,.inl ⟨_,_,rfl,eJ j u ⋯⟩⟩
      have c0:k2≠1:=λe=>z (pW.mpr e);refine nC (λz=>?_) λz=>?_
      ·have l:k2=0:=yN z;subst l;exact zH ⟨sm.set _,.inl ⟨_,_,rfl,Iz j u ⋯⟩⟩
      have c1:k2≠0:=λe=>z (pW.mpr e);rw[N]at u f ⊢;have v:=eK j u (show n<a.size by omega) ⋯ f λi y hi o=>mW (R i y hi (by rw[xO];exact o));refine zG (mV (show a[n+1-1]?=some q from f) ?_);refine nC (λz=>?_) λz=>?_
      ·have l:n=0:=yN z;subst l;exact zH ⟨sm.set _,.inl ⟨_,_,rfl,fF j v ⋯⟩⟩
      have a0:n≠0:=λe=>z (pW.mpr e);refine nC (λ_=>?_) λ_=>?_
      ·exact zH ⟨sm.set _,.inr ⟨n,_,_,_,_,_,rfl,v,⋯,⋯,⋯,⋯,⋯⟩⟩
      ·exact zH ⟨sm.set _,n,_,_,_,_,_,rfl,v,⋯,⋯,⋯,⋯,⋯⟩
     ·have a2:k2=m:=by
       have:¬ m-k2 > 0:=U;omega
      subst a2;rw[Bg]at u;rw[N]at u f ⊢;have v:=eK j u (show n<a.size by omega) ⋯ f λi y hi o=>mW (R i y hi (by rw[xO];exact o));refine zG (mV (show a[n+1-1]?=some q from f) ?_);refine nC (λz=>?_) λz=>?_
      ·have l:n=0:=yN z;subst l;exact zH ⟨sm.set _,.inl ⟨_,_,rfl,fF j v ⋯⟩⟩
      have a0:n≠0:=λe=>z (pW.mpr e);refine nC (λ_=>?_) λ_=>?_
      ·exact zH ⟨sm.set _,.inr ⟨n,_,_,_,_,_,rfl,v,⋯,⋯,⋯,⋯,⋯⟩⟩
      ·exact zH ⟨sm.set _,n,_,_,_,_,_,rfl,v,⋯,⋯,⋯,⋯,⋯⟩
   ·rintro c a4 ⟨sm,g,d,out,I,G,F,rfl,t,l1,l2,J,D,pr⟩;exact⟨sm,.inr ⟨_,_,_,_,_,_,rfl,t,l1,l2,J,D,pr⟩⟩
   ·rintro c a4 ⟨sm,⟨r,K,rfl,O⟩|⟨g,d,out,I,G,F,rfl,t,l1,l2,J,D,pr⟩⟩
    ·exact zH ⟨sm,_,_,rfl,O⟩
    dsimp only;rw[aC];refine zG (wT (zH ⟨sm.set _,_,_,_,_,rfl,t,l1,l2,J,D,pr⟩))
 ·rintro c a3 ⟨sm,g,d,out,I,rfl,t,l1,l2,J,D,pr⟩;omega
 ·rintro c a3 ⟨sm,r,K,rfl,O⟩;exact zH (h r a3 sm O)
end
theorem Sg(i:Nat):mergeAt' i=(do
 let s ←get
 let (some (sa,na,power),some (sb,nb,_)):=((pendingOf s)[i]?,(pendingOf s)[i+1]?)|unsupported "internal:list.sort.pending"
 set (SortSt.mk' (kindOf s) (arrOf s) (((pendingOf s).setIfInBounds i (sa,na+nb,power)).eraseIdxIfInBounds (i+1)) (gallopOf s) (failedOf s))
 let some k ←kK false (←elem' (arrOf s) sb) (arrOf s) sa na 0|return false
 let (sa,na):=(sa+k,na-k)
 if na == 0 then return true
 let some nb ←kK true (←elem' (arrOf s) (sa+na-1)) (arrOf s) sb nb (nb-1)|return false
 if nb == 0 then return true
 let x:=(arrOf s).extract sa sb
 let y:=(arrOf s).extract sb (sb+nb)
 let b ←if na<=nb then Bm x y else Bk x y
 modify λs=>setArr s (b.toList.zipIdx.foldl (λa(p,j)=>a.setIfInBounds (sa+j) p) (arrOf s))
 return (failedOf (←get)).isNone):=rfl
section
variable {prog:Program} {w:World} {A:Around} {E:VP} {s:Shared} {κ:PyProof.Rows.KeyKind} {kd:SortKind}
def seg(l:List Keyed)(i j:Nat):List Keyed:=(l.drop i).take (j-i)
theorem Sf{st a:SortSt}{Q:PUnit->SortSt->Prop}(h:Q ⟨⟩ a):wpS (model prog w) A E s (set a:StateT SortSt Sem PUnit) Q st:=by
 unfold wpS;rw[StateT.run_set];exact zB ⟨rfl,h⟩
theorem Bf{l:List Keyed}{i j k:Nat}(a:i<=j)(b:j<=k):seg l i k=seg l i j++seg l j k:=by
 unfold seg;rw[show k-i=(j-i)+(k-j) by omega,qI,pL,show i+(j-i)=j by omega]
theorem Iw{l:List Keyed}{i j:Nat}(h:i<=j):l.take i++seg l i j++l.drop j=l:=by
 unfold seg;have:l.take j=l.take i++(l.drop i).take (j-i):=by
  conv=>lhs;rw[show j=i+(j-i) by omega]
  exact qI
 rw[←this,wA]
theorem cG{l:List Keyed}{i j t:Nat}:(seg l i j)[t]?=if t<j-i then l[i+t]? else none:=by
 unfold seg;rw[List.getElem?_take];split
 ·rw[vJ]
 ·rfl
theorem jV{l:List Keyed}{i j:Nat}{x:Keyed}(h:x∈seg l i j):∃t,t<j-i/\l[i+t]?=some x:=eF h
theorem Be{l:List Keyed}{i j:Nat}(h:j<=l.length):(seg l i j).length=j-i:=by
 unfold seg;rw[yK,tF];omega
theorem aF{l:List Keyed}{i j:Nat}(b:Srt κ (seg l i j)){a u:Nat}{x y:Keyed}(f:a<=u)(e:u<j-i)(d:l[i+a]?=some x)(c:l[i+u]?=some y):le' κ x y:=
 gC b f (by rw[cG,zF ⋯];exact d) (by rw[cG,zF e];exact c)
theorem jW(a:Array Keyed)(i j:Nat):(a.extract i j).toList=seg a.toList i j:=by
 unfold seg;simp only[Array.toList_extract,List.extract_eq_take_drop]
theorem Iv:∀(m:List Keyed)(c b:Nat)(a:Array Keyed),b+c+m.length<=a.size->((m.zipIdx c).foldl (λa(x:Keyed×Nat)=>a.setIfInBounds (b+x.2) x.1) a).toList=a.toList.take (b+c)++m++a.toList.drop (b+c+m.length)
 |[],c,b,a,_=>by simp
 | p:: m,c,b,a,h=>by
  rw[zU]at h;have hl:b+c<a.toList.length:=by rw[zM];omega
  rw[vW,wN,Iv m (c+1) b _ (by rw[Array.size_setIfInBounds];omega),Array.toList_setIfInBounds,zU];show List.take (b+(c+1)) (a.toList.set (b+c) p)++m++List.drop (b+(c+1)+m.length) (a.toList.set (b+c) p)=_;have e1:List.take (b+(c+1)) (a.toList.set (b+c) p)=a.toList.take (b+c)++[p]:=by
   rw[show b+(c+1)=b+c+1 by omega,wD,List.take_set_of_le (zE _),wQ hl];rfl
  have d:List.drop (b+(c+1)+m.length) (a.toList.set (b+c) p)=a.toList.drop (b+c+(m.length+1)):=by
   rw[List.drop_set_of_lt ⋯,show b+(c+1)+m.length=b+c+(m.length+1) by omega]
  rw[e1,d];simp
theorem Se(g:Cmp prog w A s κ kd){st:SortSt}{b:Array Keyed}{ib c:Nat}{q:Keyed}{n:Nat}{Q:Option Nat->SortSt->Prop}(l:kindOf st=kd)(D:∀i j x y,i<=j->j<n->b[ib+i]?=some x->b[ib+j]?=some y->le' κ x y)(z:∀x∈b.toList,Gd κ x)(f:Gd κ q)(F:ib+n<=b.size)(hh:c<n)
  (h:∀k,k<=n->(∀i x,i<k->b[ib+i]?=some x->le' κ x q)->(∀i x,k<=i->i<n->b[ib+i]?=some x->lq κ q x=true)->Q (some k) st):wpS (model prog w) A E s (kK false q b ib n c) Q st:=by
 refine cD g (B:=λi=>!lq κ q (b.getD (ib+i) q)) l f hh (λi hi=>?_) (λi j m v a=>?_) λk C t u=>h k C (λi x hi e=>?_) λi x hi o e=>?_
 ·obtain⟨p,e⟩:=mG (a:=b) (i:=ib+i) ⋯;refine⟨p,e,z p (yF (oY.mp e)),?_⟩;rw[show b.getD (ib+i) q=p by simp[Array.getD_eq_getD_getElem?,e]];rfl
 ·obtain⟨p,e⟩:=mG (a:=b) (i:=ib+i) ⋯;obtain⟨r,d⟩:=mG (a:=b) (i:=ib+j) ⋯;rw[show b.getD (ib+j) q=r by simp[Array.getD_eq_getD_getElem?,d]]at a;rw[show b.getD (ib+i) q=p by simp[Array.getD_eq_getD_getElem?,e]];have l1:le' κ r q:=by unfold le';simpa using a
  have:=mM (D i j p r m v e d) l1;unfold le' at this;rw[this];rfl
 ·have:=t i hi;rw[show b.getD (ib+i) q=x by simp[Array.getD_eq_getD_getElem?,e]]at this;unfold le';simpa using this
 ·have:=u i hi o;rw[show b.getD (ib+i) q=x by simp[Array.getD_eq_getD_getElem?,e]]at this;simpa using this
theorem Sd(g:Cmp prog w A s κ kd){st:SortSt}{b:Array Keyed}{ib c:Nat}{q:Keyed}{n:Nat}{Q:Option Nat->SortSt->Prop}(l:kindOf st=kd)(D:∀i j x y,i<=j->j<n->b[ib+i]?=some x->b[ib+j]?=some y->le' κ x y)(z:∀x∈b.toList,Gd κ x)(f:Gd κ q)(F:ib+n<=b.size)(hh:c<n)
  (h:∀k,k<=n->(∀i x,i<k->b[ib+i]?=some x->lq κ x q=true)->(∀i x,k<=i->i<n->b[ib+i]?=some x->le' κ q x)->Q (some k) st):wpS (model prog w) A E s (kK true q b ib n c) Q st:=by
 refine cD g (B:=λi=>lq κ (b.getD (ib+i) q) q) l f hh (λi hi=>?_) (λi j m v a=>?_) λk C t u=>h k C (λi x hi e=>?_) λi x hi o e=>?_
 ·obtain⟨p,e⟩:=mG (a:=b) (i:=ib+i) ⋯;refine⟨p,e,z p (yF (oY.mp e)),?_⟩;rw[show b.getD (ib+i) q=p by simp[Array.getD_eq_getD_getElem?,e]];rfl
 ·obtain⟨p,e⟩:=mG (a:=b) (i:=ib+i) ⋯;obtain⟨r,d⟩:=mG (a:=b) (i:=ib+j) ⋯;rw[show b.getD (ib+j) q=r by simp[Array.getD_eq_getD_getElem?,d]]at a;rw[show b.getD (ib+i) q=p by simp[Array.getD_eq_getD_getElem?,e]];exact KeyOrd.klt_of_kle_of_klt (O:=κ.toKeyOrd) (D i j p r m v e d) a
 ·have:=t i hi;rw[show b.getD (ib+i) q=x by simp[Array.getD_eq_getD_getElem?,e]]at this;exact this
 ·have:=u i hi o;rw[show b.getD (ib+i) q=x by simp[Array.getD_eq_getD_getElem?,e]]at this;exact this
theorem Sc(K:Cmp prog w A s κ kd){st:SortSt}{i b c J f a9:Nat}{Q:Bool->SortSt->Prop}(c0:kindOf st=kd)(U:∀x∈(arrOf st).toList,Gd κ x)(b2:failedOf st=none)(e1:(pendingOf st)[i]?=some (b,c,J))(a7:(pendingOf st)[i+1]?=some (b+c,f,a9))
  (c9:1<=c)(d4:1<=f)(d3:b+c+f<=(arrOf st).size)(G:Srt κ (seg (arrOf st).toList b (b+c)))(I:Srt κ (seg (arrOf st).toList (b+c) (b+c+f)))
  (h:∀n X,kindOf n=kd->failedOf n=none->pendingOf n=((pendingOf st).setIfInBounds i (b,c+f,J)).eraseIdxIfInBounds (i+1)->(arrOf n).toList=(arrOf st).toList.take b++X++(arrOf st).toList.drop (b+c+f)->X.Perm (seg (arrOf st).toList b (b+c+f))->Srt κ X->Q true n):
  wpS (model prog w) A E s (mergeAt' i) Q st:=by
 rw[Sg];refine zG (uW ?_);rw[e1,a7];dsimp only;refine zG (Sf ?_);generalize hst:SortSt.mk' (kindOf st) (arrOf st) (((pendingOf st).setIfInBounds i (b,c+f,J)).eraseIdxIfInBounds (i+1)) (gallopOf st) (failedOf st)=D;have k1:kindOf D=kd:=by rw[←hst];exact c0
 have a5:arrOf D=arrOf st:=by rw[←hst]
 have a1:pendingOf D=((pendingOf st).setIfInBounds i (b,c+f,J)).eraseIdxIfInBounds (i+1):=by rw[←hst]
 have Y:failedOf D=none:=by rw[←hst];exact b2
 clear hst e1 a7;generalize harr:arrOf st=arr at*
 generalize pendingOf st=d6 at*;have c7:arr.toList.length=arr.size:=zM;have M:∀d x,arr[d]?=some x->Gd κ x:=λd x e=>U x (yF (oY.mp e))
 -- already in order
 have stay:Srt κ (seg arr.toList b (b+c+f))->Q true D:=λso=>h D _ k1 Y a1 (by rw[a5,Iw ⋯]) (List.Perm.refl _) so;have P:seg arr.toList b (b+c+f)=seg arr.toList b (b+c)++seg arr.toList (b+c) (b+c+f):=Bf ⋯ ⋯;refine zG (lQ (arr:=arr) (i:=b+c) ⋯ λp ep=>?_);refine zG (Se K k1 (λd u x y O c5 o F=>aF G O ⋯ (oY.mp o) (oY.mp F)) U (M _ _ ep) ⋯ ⋯ λk d7 a8 b9=>?_);dsimp only;have R:∀y∈seg arr.toList (b+c) (b+c+f),le' κ p y:=λy m=>by
  obtain⟨d,v,l⟩:=jV m;exact aF I (yB d) v (oY.mp ep) l
 refine nC (λz=>?_) λz=>?_
 ·have c8:c-k=0:=yN z;refine zH (stay ?_);rw[P];refine oH.mpr ⟨G,I,λx g y m=>?_⟩;obtain⟨d,v,l⟩:=jV g;exact mM (a8 d x ⋯ (oY.mpr l)) (R y m)
 have d1:c-k≠0:=λe=>z (pW.mpr e);refine zG (lQ (arr:=arr) (i:=b+k+(c-k)-1) ⋯ λq L=>?_);rw[show b+k+(c-k)-1=b+(c-1) by omega]at L;refine zG (Sd K k1 (λd u x y O c5 o F=>aF I O ⋯ (oY.mp o) (oY.mp F)) U (M _ _ L) ⋯ ⋯ λk2 d0 b7 V=>?_);dsimp only;have a4:∀x∈seg arr.toList b (b+c),le' κ x q:=λx g=>by
  obtain⟨d,v,l⟩:=jV g;exact aF G (show d<=c-1 by omega) ⋯ l (oY.mp L)
 refine nC (λy=>?_) λy=>?_
 ·have d2:k2=0:=yN y;refine zH (stay ?_);rw[P];refine oH.mpr ⟨G,I,λx g y m=>?_⟩;obtain⟨d,v,l⟩:=jV m;exact mM (a4 x g) (V d y ⋯ ⋯ (oY.mpr l))
 have d5:k2≠0:=λe=>y (pW.mpr e)
 -- the parts
 have T:seg arr.toList b (b+c)=seg arr.toList b (b+k)++seg arr.toList (b+k) (b+c):=Bf ⋯ ⋯;have N:seg arr.toList (b+c) (b+c+f)=seg arr.toList (b+c) (b+c+k2)++seg arr.toList (b+c+k2) (b+c+f):=Bf ⋯ ⋯;have a0:=G;have a6:=I;rw[T]at a0;rw[N]at a6;obtain⟨b8,b0,b1⟩:=oH.mp a0;obtain⟨c3,c6,c4⟩:=oH.mp a6;have Z:∀x∈seg arr.toList b (b+k),le' κ x p:=λx g=>by
  obtain⟨d,v,l⟩:=jV g;exact a8 d x ⋯ (oY.mpr l)
 have b5:∀x∈seg arr.toList (b+k) (b+c),le' κ p x:=λx g=>by
  obtain⟨d,v,l⟩:=jV g;exact mW (b9 (k+d) x ⋯ ⋯ (by rw[show b+(k+d)=b+k+d by omega];exact oY.mpr l))
 have b6:∀y∈seg arr.toList (b+c) (b+c+k2),le' κ y q:=λy m=>by
  obtain⟨d,v,l⟩:=jV m;exact mW (b7 d y ⋯ (oY.mpr l))
 have b4:∀y∈seg arr.toList (b+c+k2) (b+c+f),le' κ q y:=λy m=>by
  obtain⟨d,v,l⟩:=jV m;exact V (k2+d) y ⋯ ⋯ (by rw[show b+c+(k2+d)=b+c+k2+d by omega];exact oY.mpr l)
 have a3:MG κ (arr.extract (b+k) (b+c)) (arr.extract (b+c) (b+c+k2)):=by
  refine⟨by rw[jW];exact b0,by rw[jW];exact c3,λx g=>?_,λx g=>?_,by rw[rY];omega,by rw[rY];omega,λx o y m=>?_,λx y o F=>?_⟩
  ·rw[jW]at g;obtain⟨d,_,l⟩:=jV g;exact M _ x (oY.mpr l)
  ·rw[jW]at g;obtain⟨d,_,l⟩:=jV g;exact M _ x (oY.mpr l)
  ·rw[jW]at m;rw[oY,jW,cG,rY]at o;split at o
   ·rw[show b+k+(min (b+c) arr.size-(b+k)-1)=b+(c-1) by omega,oY.mp L]at o;cases o;exact b6 y m
   ·cases o
  ·rw[oY,jW,cG,zF ⋯,sF,oY.mp ep]at o;cases o;rw[oY,jW]at F;exact b5 y (yF F)
 have W:∀(r:Array Keyed)(n:SortSt),Sm D n->Res κ (arr.extract (b+k) (b+c)).toList (arr.extract (b+c) (b+c+k2)).toList r.toList->wpS (model prog w) A E s (do
   modify λs=>setArr s (r.toList.zipIdx.foldl (λa(p,j)=>a.setIfInBounds (b+k+j) p) (arrOf s))
   return (failedOf (←get)).isNone) Q n:=λr n sm t=>by
  rw[jW,jW]at t;refine zG (wT (zG (uW (zH ?_))));have a2:failedOf n=none:=sm.f.trans Y;show Q (failedOf n).isNone _;rw[a2];have c1:r.toList.length=(c-k)+k2:=by
   rw[t.1.length_eq,yE,Be ⋯,Be ⋯];omega
  refine h _ (seg arr.toList b (b+k)++r.toList++seg arr.toList (b+c+k2) (b+c+f)) (sm.k.trans k1) a2 (sm.p.trans a1) ?_ ?_ ?_
  ·show(List.foldl _ (arrOf n) _).toList=_;rw[sm.a,a5,Iv r.toList 0 (b+k) arr ⋯,c1];have c2:arr.toList.take (b+k+0)=arr.toList.take b++seg arr.toList b (b+k):=by
    unfold seg;rw[sF,qI,show b+k-b=k by omega]
   have b3:arr.toList.drop (b+k+0+(c-k+k2))=seg arr.toList (b+c+k2) (b+c+f)++arr.toList.drop (b+c+f):=by
    unfold seg;rw[show b+k+0+(c-k+k2)=b+c+k2 by omega]
    conv=>lhs;rw[←wA (b+c+f-(b+c+k2)) (arr.toList.drop (b+c+k2))]
    rw[pL,show b+c+k2+(b+c+f-(b+c+k2))=b+c+f by omega]
   rw[c2,b3];simp only[List.append_assoc]
  ·rw[P,T,N];have:=(t.1.append_left (seg arr.toList b (b+k))).append_right (seg arr.toList (b+c+k2) (b+c+f));simp only[List.append_assoc]at this ⊢;exact this
  ·have mem:∀x∈r.toList,x∈seg arr.toList (b+k) (b+c)\/x∈seg arr.toList (b+c) (b+c+k2):=λx g=>oA.mp (t.1.mem_iff.mp g);refine oH.mpr ⟨oH.mpr ⟨b8,t.2,λx g y m=>?_⟩,c6,λx g y m=>?_⟩
   ·rcases mem y m with C|C
    ·exact b1 x g y C
    ·exact mM (Z x g) (R y (by rw[N];exact xU _ C))
   ·rcases oA.mp g with C|C
    ·exact mM (Z x C) (R y (by rw[N];exact yO _ m))
    ·rcases mem x C with S|S
     ·exact mM (a4 x (by rw[T];exact yO _ S)) (b4 y m)
     ·exact c4 x S y m
 refine nC (λ_=>?_) λ_=>?_
 ·exact zG (Sn K k1 a3 λr n sm t=>W r n sm t)
 ·exact zG (Sh K k1 a3 λr n sm t=>W r n sm t)
theorem cH(d:Cmp prog w A s κ kd){st:SortSt}{i j:Nat}{Q:Option Bool->SortSt->Prop}(e:kindOf st=kd)(a:∀x∈(arrOf st).toList,Gd κ x)(hi:i<(arrOf st).size)(f:j<(arrOf st).size)
  (h:∀x y,(arrOf st)[i]?=some x->(arrOf st)[j]?=some y->Q (some (lq κ x y)) st):wpS (model prog w) A E s (ltAt' i j) Q st:=by
 rw[ltAt'_eq];refine zG (uW ?_);refine zG (lQ hi λx c=>?_);refine zG (lQ f λy b=>?_);exact cC d e (a x (yF (oY.mp c))) (a y (yF (oY.mp b))) (h x y c b)
structure Ch(lo hi:Nat)(st st':SortSt):Prop where
 k:kindOf st'=kindOf st
 p:pendingOf st'=pendingOf st
 f:failedOf st'=failedOf st
 z:(arrOf st').size=(arrOf st).size
 m:(arrOf st').Perm (arrOf st)
 o:∀i,i<lo\/hi<=i->(arrOf st')[i]?=(arrOf st)[i]?
theorem Ch.refl(lo hi:Nat)(st:SortSt):Ch lo hi st st:=⟨rfl,rfl,rfl,rfl,Array.Perm.refl _,λ_ _=>rfl⟩
theorem Ch.trans{lo hi:Nat}{a b c:SortSt}(d:Ch lo hi a b)(e:Ch lo hi b c):Ch lo hi a c:=⟨e.k.trans d.k,e.p.trans d.p,e.f.trans d.f,e.z.trans d.z,e.m.trans d.m,λi hi=>(e.o i hi).trans (d.o i hi)⟩
theorem Ch.wide{lo hi hi':Nat}{a b:SortSt}(h:Ch lo hi a b)(hh:hi<=hi'):Ch lo hi' a b:=⟨h.k,h.p,h.f,h.z,h.m,λi hi=>h.o i ⋯⟩
theorem Ch.good{lo hi:Nat}{a b:SortSt}(h:Ch lo hi a b)(d:∀x∈(arrOf a).toList,Gd κ x):∀x∈(arrOf b).toList,Gd κ x:=λx c=>d x ((h.m.toList.mem_iff).mp c)
def Up(κ:PyProof.Rows.KeyKind)(a:Array Keyed)(lo hi:Nat):Prop:=∀i j x y,lo<=i->i<=j->j<hi->a[i]?=some x->a[j]?=some y->le' κ x y
def Dn(κ:PyProof.Rows.KeyKind)(a:Array Keyed)(lo hi:Nat):Prop:=∀i j x y,lo<=i->i<=j->j<hi->a[i]?=some x->a[j]?=some y->le' κ y x
theorem Up.one{a:Array Keyed}{lo:Nat}:Up κ a lo (lo+1):=λi j x y e f d c b=>by
 have:i=j:=⋯
 subst this;rw[c]at b;cases b;exact iN _
theorem Up.more{a:Array Keyed}{lo hi hi':Nat}(h:Up κ a lo hi)(hl:lo<hi)(n:hi<a.size)(f:∀x y,a[hi-1]?=some x->a[hi]?=some y->le' κ x y)(k:hi'=hi+1:=by omega):Up κ a lo hi':=λi j x y d g o c b=>by
 subst k;rcases uD j hi with q|q
 ·exact h i j x y d g q c b
 ·have l:j=hi:=⋯
  subst l;rcases uD i j with m|m
  ·obtain⟨u,e⟩:=mG (a:=a) (i:=j-1) ⋯;exact mM (h i (j-1) x u d ⋯ ⋯ c e) (f u y e b)
  ·have:i=j:=⋯
   subst this;rw[c]at b;cases b;exact iN _
theorem Up.same{a b:Array Keyed}{lo hi:Nat}(h:Up κ a lo hi)(e:∀i,lo<=i->i<hi->b[i]?=a[i]?):Up κ b lo hi:=λi j x y d k c g f=>h i j x y d k c (by rw[←e i d ⋯];exact g) (by rw[←e j ⋯ c];exact f)
theorem Dn.more{a:Array Keyed}{lo hi hi':Nat}(h:Dn κ a lo hi)(hl:lo<hi)(n:hi<a.size)(f:∀x y,a[hi-1]?=some x->a[hi]?=some y->le' κ y x)(k:hi'=hi+1:=by omega):Dn κ a lo hi':=λi j x y d g o c b=>by
 subst k;rcases uD j hi with q|q
 ·exact h i j x y d g q c b
 ·have l:j=hi:=⋯
  subst l;rcases uD i j with m|m
  ·obtain⟨u,e⟩:=mG (a:=a) (i:=j-1) ⋯;exact mM (f u y e b) (h i (j-1) x u d ⋯ ⋯ c e)
  ·have:i=j:=⋯
   subst this;rw[c]at b;cases b;exact iN _
abbrev mir(a:Array Keyed)(i j:Nat):Array Keyed:=mirror a i j ((j-i)/2)
theorem gD{a:Array Keyed}{i j k:Nat}(b:j<=a.size):(mir a i j)[k]?=if i<=k/\k<j then a[i+j-1-k]? else a[k]?:=getElem?_mirror_all b k
theorem Dn.turned{a:Array Keyed}{lo hi c b:Nat}(h:Dn κ a lo hi)(u:Up κ a c b)(hl:lo<=c)(o:b<=hi)(n:hi<=a.size):Dn κ (mir a c b) lo hi:=λi j x y k m g e d=>by
 rw[gD ⋯]at e d
 by_cases l:c<=i/\i<b
 ·rw[zF l]at e
  by_cases f:c<=j/\j<b
  ·rw[zF f]at d;exact u _ _ y x ⋯ (show c+b-1-j<=c+b-1-i by omega) ⋯ d e
  ·rw[zD f]at d;exact h _ _ x y ⋯ (show c+b-1-i<=j by omega) g e d
 ·rw[zD l]at e
  by_cases f:c<=j/\j<b
  ·rw[zF f]at d;exact h _ _ x y k (show i<=c+b-1-j by omega) ⋯ e d
  ·rw[zD f]at d;exact h _ _ x y k m g e d
theorem Dn.up{a:Array Keyed}{lo hi:Nat}(h:Dn κ a lo hi)(c:hi<=a.size):Up κ (mir a lo hi) lo hi:=λi j x y f g e d b=>by
 rw[gD c,zF ⟨f,⋯⟩]at d;rw[gD c,zF ⟨⋯,e⟩]at b;exact h _ _ y x ⋯ (show lo+hi-1-j<=lo+hi-1-i by omega) ⋯ b d
theorem aG{st:SortSt}{i j:Nat}{Q:Unit->SortSt->Prop}(b:j<=(arrOf st).size)(h:∀a,Ch i j st a->arrOf a=mir (arrOf st) i j->Q () a):wpS (model prog w) A E s (reverseSlice' i j) Q st:=by
 rw[reverseSlice'_eq];refine wT (h _ ⟨rfl,rfl,rfl,mirror_size _ _ _ _,mirror_perm _ _ _ _,λk c=>?_⟩ rfl);exact(gD b).trans (zD ⋯)
theorem Iu(t:Cmp prog w A s κ kd){st:SortSt}{lo b a:Nat}{f:Nat->Option (Option Nat)×Nat->StateT SortSt Sem (ForInStep (Option (Option Nat)×Nat))}{Q:Option (Option Nat)×Nat->SortSt->Prop}(C:kindOf st=kd)(z:∀x∈(arrOf st).toList,Gd κ x)(J:lo+a<=(arrOf st).size)(I:1<=b)(m:b<=a)(G:Up κ (arrOf st) lo (lo+b))
  (r:∀x c,f x c=(do
   let D ←ltAt' (lo+c.2) (lo+c.2-1)
   match D with
    |some F=>if F=true then pure (ForInStep.done (none,c.2)) else pure (ForInStep.yield (none,c.2+1))
    |_=>pure (ForInStep.done (some none,c.2))))
  (h:∀n,b<=n->n<=a->Up κ (arrOf st) lo (lo+n)->(n=a\/∀x y,(arrOf st)[lo+n]?=some x->(arrOf st)[lo+n-1]?=some y->lq κ x y=true)->Q (none,n) st):
  wpS (model prog w) A E s (forIn [b:a] ((none,b):Option (Option Nat)×Nat) f) Q st:=by
 refine wL (xJ (I:=λx c d=>d=st/\c=(none,x)/\b<=x/\x<=a/\Up κ (arrOf st) lo (lo+x))
  (Q:=λc d=>d=st/\∃n,c=(none,n)/\b<=n/\n<=a/\Up κ (arrOf st) lo (lo+n)/\(n=a\/∀x y,(arrOf st)[lo+n]?=some x->(arrOf st)[lo+n-1]?=some y->lq κ x y=true)) ?_ ?_ ⟨rfl,rfl,zE _,m,G⟩) ?_
 ·rintro x c d K L ⟨rfl,rfl,j,g,e⟩;rw[r];dsimp only;refine zG (cH t C z ⋯ ⋯ λp q ep l=>?_);dsimp only;cases hl:lq κ p q with
  |true =>
   rw[zF rfl];refine zH ⟨rfl,x,rfl,j,g,e,.inr λu v k i=>?_⟩;rw[ep]at k;rw[l]at i;cases k;cases i;exact hl
  |false =>
   rw[zD (by simp)];refine zH ⟨rfl,rfl,⋯,⋯,?_⟩;refine Up.more e ⋯ ⋯ λu v k i=>?_;rw[l]at k;rw[ep]at i;cases k;cases i;exact hl
 ·rintro c d ⟨rfl,rfl,j,g,e⟩;exact⟨rfl,_,rfl,j,g,e,.inl ⋯⟩
 ·rintro c d ⟨rfl,n,rfl,j,g,e,o⟩;exact h n j g e o
theorem Ir{b:Type}{c:Prop}[Decidable c]{P T:StateT SortSt Sem b}{R:SortSt->Prop}{st:SortSt}{Q:b->SortSt->Prop}(e:c->(∀a,R a->wpS (model prog w) A E s P Q a)->wpS (model prog w) A E s T Q st)(d:¬ c->R st)(go:∀a,R a->wpS (model prog w) A E s P Q a):wpS (model prog w) A E s (if c then T else P) Q st:=
 nC (λx=>e x go) λx=>go st (d x)
theorem Sb(F:Cmp prog w A s κ kd){st:SortSt}{lo o:Nat}{Q:Option Nat->SortSt->Prop}(K:kindOf st=kd)(J:∀x∈(arrOf st).toList,Gd κ x)(b0:lo+o<=(arrOf st).size)(a8:1<=o)
  (h:∀n b,1<=n->n<=o->Ch lo (lo+n) st b->Up κ (arrOf b) lo (lo+n)->Q (some n) b):wpS (model prog w) A E s (countRun' lo o) Q st:=by
 rw[countRun'_eq];refine zG (Iu F K J b0 (zE _) a8 Up.one (λx c=>rfl) λn a2 Y up nx=>?_);dsimp only;refine nC (λz=>?_) λz=>?_
 ·exact zH (h n st a2 Y (Ch.refl _ _ _) up)
 have P:n≠o:=λe=>z (pW.mpr e);have T:=nx.resolve_left P;refine Ir (R:=λD=>Ch lo (lo+n) st D/\Dn κ (arrOf D) lo (lo+n+1)) (λy go=>?_) (λy=>?_) λD b4=>?_
 ·refine zG (cH F K J ⋯ ⋯ λp q ep r=>?_);dsimp only;cases hl:lq κ p q with
  |true =>
   rw[zF rfl];exact zH (h n st a2 Y (Ch.refl _ _ _) up)
  | false =>
   rw[zD (by simp)];refine zG (aG ⋯ λD G a0=>?_);refine go D ⟨G,Dn.more (hi:=lo+n) ?_ ⋯ (by rw[G.z];omega) λu v f d=>?_⟩
   ·-- all alike
    rw[a0];intro i j x y b1 b2 a1 L t;rw[gD ⋯,zF ⟨b1,⋯⟩]at L;rw[gD ⋯,zF ⟨⋯,a1⟩]at t;exact up _ _ y x ⋯ (show lo+(lo+n)-1-j<=lo+(lo+n)-1-i by omega) ⋯ t L
   ·rw[G.o _ (.inr (zE _))]at d;rw[a0,gD ⋯,zF ⋯,show lo+(lo+n)-1-(lo+n-1)=lo by omega,ep]at f;cases f;exact mM (mW (T v q d r)) hl
 ·have:n=1:=⋯
  subst this;refine⟨Ch.refl _ _ _,Dn.more (hi:=lo+1) (λi j x y b1 b2 a1 L t=>?_) ⋯ ⋯ λu v f d=>mW (T v u d f)⟩;have:i=j:=⋯
  subst this;rw[L]at t;cases t;exact iN _
 ·obtain⟨G,k⟩:=b4;refine zG (rS (wU ⟨rfl,?_⟩));refine zG (wL (xJ (I:=λx c b=>∃g,c=(none,x,g)/\n+1<=x/\x<=o/\g+1<=x/\Ch lo (lo+x) st b/\Dn κ (arrOf b) lo (lo+x)/\Up κ (arrOf b) (lo+x-(g+1)) (lo+x))
   (Q:=λc b=>∃x g,c=(none,x,g)/\n+1<=x/\x<=o/\g+1<=x/\Ch lo (lo+x) st b/\Dn κ (arrOf b) lo (lo+x)/\Up κ (arrOf b) (lo+x-(g+1)) (lo+x)) ?_ ?_ ⟨0,rfl,zE _,⋯,⋯,G.wide ⋯,k,by rw[show lo+(n+1)=lo+n+1 by omega];exact Up.one⟩) ?_)
  ·rintro x c b b9 c0 ⟨g,rfl,M,C,I,ch,k,up⟩;have W:kindOf b=kd:=ch.k.trans K;have V:=ch.good J;have P:=ch.z;dsimp only;refine zG (cH F W V ⋯ ⋯ λp q ep r=>?_);dsimp only;cases hl:lq κ p q with
   |true =>
    rw[zF rfl];refine nC (λS=>?_) λS=>?_
    ·refine zG (aG ⋯ λl a N=>zH ?_);have O:Ch lo (lo+x) b l:=⟨a.k,a.p,a.f,a.z,a.m,λi hi=>a.o i ⋯⟩;refine⟨0,rfl,⋯,⋯,⋯,(ch.trans O).wide ⋯,?_,by rw[show lo+(x+1)-(0+1)=lo+x by omega];exact Up.one⟩;refine Dn.more (hi:=lo+x) (by rw[N];exact Dn.turned k up ⋯ (zE _) ⋯) ⋯ (by rw[a.z];omega) λu v f d=>?_;rw[a.o _ (.inr (zE _)),ep]at d;cases d;rw[N,gD ⋯,zF ⋯]at f;have l1:le' κ q u:=k _ _ u q ⋯ (show lo+x-(g+1)+(lo+x)-1-(lo+x-1)<=lo+x-1 by omega) ⋯ f r;exact mM (mW hl) l1
    ·refine zH ⟨0,rfl,⋯,⋯,⋯,ch.wide ⋯,?_,by rw[show lo+(x+1)-(0+1)=lo+x by omega];exact Up.one⟩;refine Dn.more k ⋯ ⋯ λu v f d=>?_;rw[r]at f;rw[ep]at d;cases f;cases d;exact mW hl
   | false =>
    rw[zD (by simp)];refine zG (cH F W V ⋯ ⋯ λb5 c1 X Z=>?_);rw[r]at X;rw[ep]at Z;cases X;cases Z;dsimp only;cases hl2:lq κ q p with
    |true =>
     rw[zF rfl];exact zH ⟨x,g,rfl,M,C,I,ch,k,up⟩
    | false =>
     rw[zD (by simp)];refine zH ⟨g+1,rfl,⋯,⋯,⋯,ch.wide ⋯,?_,?_⟩
     ·refine Dn.more k ⋯ ⋯ λu v f d=>?_;rw[r]at f;rw[ep]at d;cases f;cases d;exact hl2
     ·have:=Up.more (hi':=lo+(x+1)) up ⋯ ⋯ λu v f d=>by
       rw[r]at f;rw[ep]at d;cases f;cases d;exact hl
      rw[show lo+(x+1)-(g+1+1)=lo+x-(g+1) by omega];exact this
  ·rintro c b ⟨g,rfl,M,C,I,ch,k,up⟩;exact⟨_,g,rfl,M,C,I,ch,k,up⟩
  ·rintro c b ⟨x,g,rfl,M,C,I,ch,k,up⟩;dsimp only;refine Ir (R:=λl=>Ch lo (lo+x) st l/\Dn κ (arrOf l) lo (lo+x)) (λS a5=>?_) (λS=>⟨ch,k⟩) λl a6=>?_
   ·have P:=ch.z;refine zG (aG ⋯ λl a N=>?_);have O:Ch lo (lo+x) b l:=⟨a.k,a.p,a.f,a.z,a.m,λi hi=>a.o i ⋯⟩;exact a5 l ⟨ch.trans O,by rw[N];exact Dn.turned k up ⋯ (zE _) ⋯⟩
   ·obtain⟨a,b3⟩:=a6;have b7:=a.z;refine zG (aG ⋯ λa9 U a3=>?_);have R:=a.trans U;have b6:=U.z;refine zG (Iu F (R.k.trans K) (R.good J) ⋯ ⋯ C (by rw[a3];exact Dn.up b3 ⋯) (λ_ _=>rfl) λm b8 a4 a7 _=>?_);dsimp only;exact zH (h m a9 ⋯ a4 (R.wide ⋯) a7)
theorem Sa{x y z:Keyed}(a:lq κ x y=true)(b:le' κ y z):lq κ x z=true:=KeyOrd.klt_of_klt_of_kle (O:=κ.toKeyOrd) a b
theorem Up.put{a:Array Keyed}{lo k l:Nat}{p:Keyed}(d:Up κ a lo (lo+k))(m:lo+k<a.size)(ep:a[lo+k]?=some p)(hl:l<=k)(o:∀i u,lo<=i->i<lo+l->a[i]?=some u->le' κ u p)(q:∀i u,lo+l<=i->i<lo+k->a[i]?=some u->lq κ p u=true):
  Up κ (bubble a (lo+k) (lo+k-(lo+l))) lo (lo+(k+1)):=λi j x y e n r c b=>by
 rw[getElem?_bubble m _ ⋯,show lo+k-(lo+k-(lo+l))=lo+l by omega]at c b
 by_cases g:i=lo+l
 ·rw[zF g,ep]at c;cases c
  by_cases b1:j=lo+l
  ·rw[zF b1,ep]at b;cases b;exact iN _
  ·rw[zD b1,zF ⋯]at b;exact mW (q _ _ ⋯ ⋯ b)
 ·rw[zD g]at c
  by_cases f:lo+l<i/\i<=lo+k
  ·rw[zF f]at c;rw[zD ⋯,zF ⋯]at b;exact d _ _ _ _ ⋯ (show i-1<=j-1 by omega) ⋯ c b
  ·rw[zD f]at c
   by_cases b1:j=lo+l
   ·rw[zF b1,ep]at b;cases b;exact o _ _ e ⋯ c
   ·rw[zD b1]at b
    by_cases b2:lo+l<j/\j<=lo+k
    ·rw[zF b2]at b;exact d _ _ _ _ e (show i<=j-1 by omega) ⋯ c b
    ·rw[zD b2]at b;exact d _ _ _ _ e n ⋯ c b
theorem Tz(G:Cmp prog w A s κ kd){st:SortSt}{lo n ok:Nat}{Q:Bool->SortSt->Prop}(M:kindOf st=kd)(L:∀x∈(arrOf st).toList,Gd κ x)(V:lo+n<=(arrOf st).size)(J:1<=ok)(K:ok<=n)(S:Up κ (arrOf st) lo (lo+ok))
  (h:∀a,Ch lo (lo+n) st a->Up κ (arrOf a) lo (lo+n)->Q true a):wpS (model prog w) A E s (binarySort' lo n ok) Q st:=by
 rw[binarySort'_eq];refine zG (wL (xJ (I:=λk c a=>c=(none,())/\ok<=k/\k<=n/\Ch lo (lo+n) st a/\Up κ (arrOf a) lo (lo+k))
  (Q:=λc a=>c=(none,())/\Ch lo (lo+n) st a/\Up κ (arrOf a) lo (lo+n)) ?step ?fin ?init) ?post)
 case post =>
  rintro c a ⟨rfl,b,d⟩;exact zH (h a b d)
 case init=>rw[show max ok 1=ok by omega];exact⟨rfl,zE _,K,Ch.refl _ _ _,S⟩
 case fin =>
  rintro c a ⟨I,N,z,b,d⟩;rw[show max (max ok 1) n=n by omega]at d;exact⟨I,b,d⟩
 case step =>
  rintro k c a T U ⟨rfl,N,z,b,d⟩;have Y:=b.z;have D:kindOf a=kd:=b.k.trans M;have C:=b.good L;obtain⟨p,ep⟩:=mG (a:=arrOf a) (i:=lo+k) ⋯;refine zG (wL (xJ (I:=λx c f=>f=a/\∃l r,c=(none,l,r)/\l<=r/\r<=k/\r-l<=k-x /\
    (∀i u,lo<=i->i<lo+l->(arrOf a)[i]?=some u->le' κ u p)/\(∀i u,lo+r<=i->i<lo+k->(arrOf a)[i]?=some u->lq κ p u=true))
   (Q:=λc f=>f=a/\∃l r,c=(none,l,r)/\l<=k /\
    (∀i u,lo<=i->i<lo+l->(arrOf a)[i]?=some u->le' κ u p)/\(∀i u,lo+l<=i->i<lo+k->(arrOf a)[i]?=some u->lq κ p u=true)) ?istep ?ifin ?iinit) ?ipost)
  case iinit=>exact⟨rfl,0,k,rfl,⋯,⋯,⋯,λi u _ hi=>⋯,λi u J Z=>⋯⟩
  case ifin =>
   rintro c f ⟨rfl,l,r,rfl,P,m,R,g,e⟩;have:l=r:=⋯
   subst this;exact⟨rfl,l,l,rfl,m,g,e⟩
  case istep =>
   rintro x c f _ W ⟨rfl,l,r,rfl,P,m,R,g,e⟩;dsimp only;refine nC (λF=>?_) λF=>?_
   ·have:l=r:=⋯
    subst this;exact zH ⟨rfl,l,l,rfl,m,g,e⟩
   ·refine zG (cH G D C ⋯ ⋯ λX q y v=>?_);rw[ep]at y;cases y;dsimp only;cases hless:lq κ p q with
    |true =>
     rw[zF rfl];refine zH ⟨rfl,l,(l+r)/2,rfl,⋯,⋯,⋯,g,λi u j t o=>?_⟩;exact Sa hless (d _ _ _ _ ⋯ j t v o)
    |false =>
     rw[zD (by simp)];refine zH ⟨rfl,(l+r)/2+1,r,rfl,⋯,⋯,⋯,λi u j t o=>?_,e⟩;exact mM (d _ _ _ _ j (show i<=lo+(l+r)/2 by omega) ⋯ o v) hless
  case ipost =>
   rintro c f ⟨rfl,l,r,rfl,O,g,e⟩;show wpS _ _ _ _ (do moveDown' (lo+k) (lo+l);pure (ForInStep.yield (none,()))) _ _;rw[moveDown'_eq];refine zG (wT (zH ⟨rfl,⋯,⋯,b.trans ⟨rfl,rfl,rfl,bubble_size _ _ _,bubble_perm _ _ _,λi hi=>?_⟩,d.put ⋯ ep O g e⟩));exact(getElem?_bubble ⋯ _ ⋯ i).trans (by rw[zD ⋯,zD ⋯])
def Run(κ:PyProof.Rows.KeyKind)(a:Array Keyed):Nat->List (Nat×Nat×Nat)->Nat->Prop
 |s,[],e=>s=e
 |s,x:: xs,e=>x.1=s/\1<=x.2.1/\Up κ a s (s+x.2.1)/\Run κ a (s+x.2.1) xs e
theorem Run.le{a:Array Keyed}:∀{xs:List (Nat×Nat×Nat)}{s e:Nat},Run κ a s xs e->s+xs.length<=e
 |[],s,e,h=>by have:s=e:=h;simp[this]
 |x:: xs,s,e,h=>by have:=Run.le h.2.2.2;have:=h.2.1;simp only[List.length_cons];omega
theorem Run.app{a:Array Keyed}:∀{xs ys:List (Nat×Nat×Nat)}{s e:Nat},Run κ a s (xs++ys) e ↔ ∃m,Run κ a s xs m/\Run κ a m ys e
 |[],ys,s,e=>⟨λh=>⟨s,rfl,h⟩,λ⟨m,b,c⟩=>by cases(show s=m from b);exact c⟩
 |x:: xs,ys,s,e=>⟨λ⟨b,c,d,f⟩=>let ⟨m,j,i⟩:=Run.app.mp f;⟨m,⟨b,c,d,j⟩,i⟩,λ⟨m,⟨b,c,d,f⟩,g⟩=>⟨b,c,d,Run.app.mpr ⟨m,f,g⟩⟩⟩
theorem Run.same{a b:Array Keyed}:∀{xs:List (Nat×Nat×Nat)}{s e:Nat},(∀i,s<=i->i<e->b[i]?=a[i]?)->Run κ a s xs e->Run κ b s xs e
 |[],_,_,_,h=>h
 |x:: xs,s,e,q,h=>by
  have:=Run.le h.2.2.2;exact⟨h.1,h.2.1,h.2.2.1.same λi d c=>q i d ⋯,Run.same (λi d c=>q i ⋯ c) h.2.2.2⟩
theorem Bd{a:Array Keyed}{i j:Nat}(h:Up κ a i j):Srt κ (seg a.toList i j):=by
 rw[Srt,List.pairwise_iff_getElem];intro e u d c f;have e1:=xN d;have b:=xN c;rw[cG]at e1 b;split at e1
 ·split at b
  ·exact h _ _ _ _ ⋯ (show i+e<=i+u by omega) ⋯ (oY.mpr e1) (oY.mpr b)
  ·cases b
 ·cases e1
theorem Ty{a:Array Keyed}{l X r:List Keyed}{i j:Nat}(e:a.toList=l++X++r)(hl:l.length=i)(k:X.length=j-i)(h:Srt κ X):Up κ a i j:=λp q x y n o m d b=>by
 have d:=oY.mp d;have b:=oY.mp b;rw[e,yI,zV ⋯,yD ⋯]at d b;rcases uD p q with c|c
 ·have g:p-l.length<X.length:=⋯
  have f:q-l.length<X.length:=⋯
  rw[xN g]at d;rw[xN f]at b;cases d;cases b;exact(List.pairwise_iff_getElem.mp h) _ _ g f ⋯
 ·have:p=q:=⋯
  subst this;rw[d]at b;cases b;exact iN _
structure Wt(κ:PyProof.Rows.KeyKind)(kd:SortKind)(a₀:Array Keyed)(hi:Nat)(st:SortSt):Prop where
 k:kindOf st=kd
 f:failedOf st=none
 m:(arrOf st).Perm a₀
 r:Run κ (arrOf st) 0 (pendingOf st).toList hi
theorem Wt.z{a₀:Array Keyed}{hi:Nat}{st:SortSt}(h:Wt κ kd a₀ hi st):(arrOf st).size=a₀.size:=h.m.size_eq
theorem Wt.good{a₀:Array Keyed}{hi:Nat}{st:SortSt}(h:Wt κ kd a₀ hi st)(b:∀x∈a₀.toList,Gd κ x):∀x∈(arrOf st).toList,Gd κ x:=λx a=>b x ((h.m.toList.mem_iff).mp a)
theorem Tx{p:Array (Nat×Nat×Nat)}{xs ys:List (Nat×Nat×Nat)}{e f g:Nat×Nat×Nat}(h:p.toList=xs++e:: f:: ys):((p.setIfInBounds xs.length g).eraseIdxIfInBounds (xs.length+1)).toList=xs++g:: ys:=by
 have a:xs.length+1<(p.setIfInBounds xs.length g).size:=by
  rw[Array.size_setIfInBounds,←zM,h];simp
 rw[Array.eraseIdxIfInBounds,dif_pos a,Array.toList_eraseIdx,Array.toList_setIfInBounds,h,List.set_append_right _ _ (zE _),vI];rw[vV ⋯];simp
theorem Bc(t:Cmp prog w A s κ kd){a₀:Array Keyed}(z:∀x∈a₀.toList,Gd κ x){st:SortSt}{i hi:Nat}{xs ys:List (Nat×Nat×Nat)}{e f:Nat×Nat×Nat}{Q:Bool->SortSt->Prop}(c:Wt κ kd a₀ hi st)(hh:hi<=a₀.size)(d:(pendingOf st).toList=xs++e:: f:: ys)(u:i=xs.length)
  (h:∀a,Wt κ kd a₀ hi a->(pendingOf a).toList=xs++(e.1,e.2.1+f.2.1,e.2.2):: ys->(∀j,hi<=j->(arrOf a)[j]?=(arrOf st)[j]?)->Q true a):wpS (model prog w) A E s (mergeAt' i) Q st:=by
 subst u;have hr:=c.r;rw[d]at hr;obtain⟨m,r1,k,I,y,r,D,C,r2⟩:=Run.app.mp hr;have l1:=r1.le;have l2:=r2.le;have K:=c.z;have e1:(pendingOf st)[xs.length]?=some (m,e.2.1,e.2.2):=by
  rw[←yH,d,zV (zE _),vI,←k];rfl
 have F:(pendingOf st)[xs.length+1]?=some (m+e.2.1,f.2.1,f.2.2):=by
  rw[←yH,d,zV ⋯,Nat.add_sub_cancel_left,←r];rfl
 refine Sc t c.k (c.good z) c.f e1 F I D ⋯ (Bd y) (Bd C) λa X v p G g n o=>?_;have J:X.length=e.2.1+f.2.1:=by rw[n.length_eq,Be (by rw[zM];omega)];omega
 have lt:((arrOf st).toList.take m).length=m:=by rw[yK,zM];omega
 have ps:(pendingOf a).toList=xs++(e.1,e.2.1+f.2.1,e.2.2):: ys:=by
  rw[G,←k];exact Tx d
 have up:Up κ (arrOf a) m (m+e.2.1+f.2.1):=Ty g lt ⋯ o;have lo:∀j,j<m->(arrOf a)[j]?=(arrOf st)[j]?:=λj b=>by
  rw[←yH,←yH,g,yI,yD ⋯,uA b]
 have l:∀j,m+e.2.1+f.2.1<=j->(arrOf a)[j]?=(arrOf st)[j]?:=λj b=>by
  rw[←yH,←yH,g,zV (by rw[yE];omega),vJ];congr 1;rw[yE];omega
 refine h a ⟨v,p,?_,?_⟩ ps λj b=>l j ⋯
 ·refine Array.Perm.trans (Array.perm_iff_toList_perm.mpr ?_) c.m;have q:=(n.append_left ((arrOf st).toList.take m)).append_right ((arrOf st).toList.drop (m+e.2.1+f.2.1));rw[Iw ⋯]at q;rw[g];exact q
 ·rw[ps];refine Run.app.mpr ⟨m,r1.same λj _ b=>lo j b,k,(show 1<=e.2.1+f.2.1 by omega),?_,?_⟩
  ·show Up κ _ m (m+(e.2.1+f.2.1));rw[←sU];exact up
  ·show Run κ _ (m+(e.2.1+f.2.1)) _ _;rw[←sU];exact r2.same λj b _=>l j b
theorem Run.modify{a:Array Keyed}{f:Nat×Nat×Nat->Nat×Nat×Nat}(b:∀e,(f e).1=e.1/\(f e).2.1=e.2.1):∀{xs:List (Nat×Nat×Nat)}{i s e:Nat},Run κ a s xs e->Run κ a s (xs.modify i f) e
 |[],i,s,e,h=>by cases i <;> exact h
 |x:: xs,0,s,e,h=>by
  show(f x).1=s/\1<=(f x).2.1/\Up κ a s (s+(f x).2.1)/\Run κ a (s+(f x).2.1) xs e;rw[(b x).1,(b x).2];exact h
 |x:: xs,i+1,s,e,h=>⟨h.1,h.2.1,h.2.2.1,Run.modify b h.2.2.2⟩
theorem Tw{b:Prop}[Decidable b]{z:Nat}(h:¬ z<=1):(if b then z-2-1 else z-2)+1<z:=by split <;> omega
theorem Bb{p:Array (Nat×Nat×Nat)}{i:Nat}(h:i+1<p.size):∃xs e f ys,p.toList=xs++e:: f:: ys/\xs.length=i:=by
 have h':i+1<p.toList.length:=by rw[zM];exact h
 refine⟨p.toList.take i,p.toList[i],p.toList[i+1],p.toList.drop (i+2),?_,by rw[yK];omega⟩;rw[←vR,←vR,wA]
theorem Wt.push{a₀:Array Keyed}{lo n:Nat}{st:SortSt}(h:Wt κ kd a₀ lo st)(a:1<=n)(b:Up κ (arrOf st) lo (lo+n)):Wt κ kd a₀ (lo+n) (setPending st ((pendingOf st).push (lo,n,0))):=
 ⟨h.k,h.f,h.m,by
  show Run κ (arrOf st) 0 ((pendingOf st).push (lo,n,0)).toList (lo+n);rw[uT];exact Run.app.mpr ⟨lo,h.r,rfl,a,b,rfl⟩⟩
theorem Tv(C:Cmp prog w A s κ kd){a₀:Array Keyed}(F:∀x∈a₀.toList,Gd κ x){st:SortSt}{Q:Unit->SortSt->Prop}(a5:kindOf st=kd)(Z:failedOf st=none)(a3:pendingOf st=#[])(V:arrOf st=a₀)
  (h:∀a,kindOf a=kd->failedOf a=none->(arrOf a).Perm a₀->Up κ (arrOf a) 0 a₀.size->Q () a):wpS (model prog w) A E s sortRuns' Q st:=by
 rw[sortRuns'_eq];refine zG (uW ?_);rw[V];dsimp only;have a0:Wt κ kd a₀ 0 st:=⟨a5,Z,by rw[V],by rw[a3];rfl⟩;refine zG (wL (xJ (I:=λx c a=>∃lo,c=(none,lo)/\x<=lo/\lo<=a₀.size/\Wt κ kd a₀ lo a)
  (Q:=λc a=>c=(none,a₀.size)/\Wt κ kd a₀ a₀.size a) ?step ?fin ⟨0,rfl,zE _,yB _,a0⟩) ?post)
 case fin =>
  rintro c a ⟨lo,rfl,a4,S,g⟩;have:lo=a₀.size:=⋯
  subst this;exact⟨rfl,g⟩
 case step =>
  rintro x c a b3 b4 ⟨lo,rfl,a4,S,g⟩;dsimp only;refine nC (λz=>?_) λz=>?_
  ·have:lo=a₀.size:=⋯
   subst this;exact zH ⟨rfl,g⟩
  have b2:=g.z;refine zG (Sb C g.k (g.good F) ⋯ ⋯ λn W R b1 k N=>?_);dsimp only;have U:∀l,kindOf l=kindOf a->pendingOf l=pendingOf a->failedOf l=failedOf a->(arrOf l).Perm (arrOf a)->(∀i,i<lo->(arrOf l)[i]?=(arrOf a)[i]?)->Wt κ kd a₀ lo l:=λl e1 b0 a9 X a1=>⟨e1.trans g.k,a9.trans g.f,X.trans g.m,by rw[b0];exact g.r.same λi _ hi=>a1 i hi⟩;refine nC (λy=>?_) λy=>?_
  ·refine zG (rS (wU ⟨rfl,?_⟩));have b5:=k.z;refine zG (Tz C (k.k.trans g.k) (k.good (g.good F)) ⋯ R ⋯ N λl G t=>?_);rw[zD (by simp)];obtain⟨I,L,p,t⟩:Wt κ kd a₀ lo l/\1<=min (a₀.size-lo) (minRun' a₀.size a₀.size 0)/\lo+min (a₀.size-lo) (minRun' a₀.size a₀.size 0)<=a₀.size/\Up κ (arrOf l) lo (lo+min (a₀.size-lo) (minRun' a₀.size a₀.size 0)):=⟨U l (G.k.trans k.k) (G.p.trans k.p) (G.f.trans k.f) (G.m.trans k.m) λi hi=>(G.o i (.inl hi)).trans (k.o i (.inl hi)),⋯,⋯,t⟩
   revert L p t
   generalize min (a₀.size-lo) (minRun' a₀.size a₀.size 0)=n;intro L p t;refine zG (uW ?_);cases hb:(pendingOf l).back? with
   |none =>
    dsimp only;exact zG (wT (zH ⟨lo+n,rfl,⋯,p,I.push L t⟩))
   | some v =>
    obtain⟨D,k1,a6⟩:=v;dsimp only;generalize power' a₀.size (2*D+k1) (2*D+k1+k1+n) a₀.size=u;refine zG (wL (xJ (I:=λx c a=>c=(none,())/\Wt κ kd a₀ lo a/\Up κ (arrOf a) lo (lo+n))
     (Q:=λc a=>c=(none,())/\Wt κ kd a₀ lo a/\Up κ (arrOf a) lo (lo+n)) ?istep1 (λc a hh=>hh) ⟨rfl,I,t⟩) ?ipost1)
    case istep1 =>
     rintro x c b _ _ ⟨rfl,d,m⟩;refine zG (uW ?_)
     by_cases J:(pendingOf b).size > 1
     ·rw[zF J];obtain⟨xs,e,f,ys,ep,r⟩:=Bb (p:=pendingOf b) (i:=(pendingOf b).size-2) ⋯;have O:(pendingOf b)[(pendingOf b).size-2]?=some e:=by
       rw[←yH,ep,zV ⋯,r,vI];rfl
      rw[O];dsimp only;refine nC (λ_=>zH ⟨rfl,d,m⟩) λ_=>?_;refine zG (Bc C F d S ep r.symm λT o P M=>?_);rw[zD (by simp)];exact zH ⟨rfl,o,m.same λi hi _=>M i hi⟩
     ·rw[zD J];exact zH ⟨rfl,d,m⟩
    case ipost1 =>
     rintro c b ⟨rfl,d,m⟩;dsimp only;refine zG (wT ?_);have o:Wt κ kd a₀ lo (setPending b ((pendingOf b).modify ((pendingOf b).size-1) λx=>(x.1,x.2.1,u))):=⟨d.k,d.f,d.m,by
      show Run κ (arrOf b) 0 ((pendingOf b).modify _ _).toList lo;rw[Array.toList_modify];exact Run.modify (f:=λx=>(x.1,x.2.1,u)) (λe=>⟨rfl,rfl⟩) d.r⟩
     exact zG (wT (zH ⟨lo+n,rfl,⋯,p,o.push L m⟩))
  ·have I:=U W k.k k.p k.f k.m λi hi=>k.o i (.inl hi);have p:lo+n<=a₀.size:=⋯
   refine zG (uW ?_);cases hb:(pendingOf W).back? with
   |none =>
    dsimp only;exact zG (wT (zH ⟨lo+n,rfl,⋯,p,I.push R N⟩))
   | some v =>
    obtain⟨D,k1,a6⟩:=v;dsimp only;generalize power' a₀.size (2*D+k1) (2*D+k1+k1+n) a₀.size=u;refine zG (wL (xJ (I:=λx c a=>c=(none,())/\Wt κ kd a₀ lo a/\Up κ (arrOf a) lo (lo+n))
     (Q:=λc a=>c=(none,())/\Wt κ kd a₀ lo a/\Up κ (arrOf a) lo (lo+n)) ?istep (λc a hh=>hh) ⟨rfl,I,N⟩) ?ipost)
    case istep =>
     rintro x c b _ _ ⟨rfl,d,m⟩;refine zG (uW ?_)
     by_cases J:(pendingOf b).size > 1
     ·rw[zF J];obtain⟨xs,e,f,ys,ep,r⟩:=Bb (p:=pendingOf b) (i:=(pendingOf b).size-2) ⋯;have O:(pendingOf b)[(pendingOf b).size-2]?=some e:=by
       rw[←yH,ep,zV ⋯,r,vI];rfl
      rw[O];dsimp only;refine nC (λ_=>zH ⟨rfl,d,m⟩) λ_=>?_;refine zG (Bc C F d S ep r.symm λT o P M=>?_);rw[zD (by simp)];exact zH ⟨rfl,o,m.same λi hi _=>M i hi⟩
     ·rw[zD J];exact zH ⟨rfl,d,m⟩
    case ipost =>
     rintro c b ⟨rfl,d,m⟩;dsimp only;refine zG (wT ?_);have o:Wt κ kd a₀ lo (setPending b ((pendingOf b).modify ((pendingOf b).size-1) λx=>(x.1,x.2.1,u))):=⟨d.k,d.f,d.m,by
      show Run κ (arrOf b) 0 ((pendingOf b).modify _ _).toList lo;rw[Array.toList_modify];exact Run.modify (f:=λx=>(x.1,x.2.1,u)) (λe=>⟨rfl,rfl⟩) d.r⟩
     exact zG (wT (zH ⟨lo+n,rfl,⋯,p,o.push R m⟩))
 case post =>
  rintro c a ⟨rfl,g⟩;dsimp only;have a7:=g.r.le;rw[zM]at a7;refine zG (wL (xJ (I:=λx c a=>c=(none,())/\Wt κ kd a₀ a₀.size a/\((pendingOf a).size<=1\/(pendingOf a).size+x<=a₀.size))
   (Q:=λc a=>c=(none,())/\Wt κ kd a₀ a₀.size a/\(pendingOf a).size<=1) ?fstep ?ffin ⟨rfl,g,.inr ⋯⟩) ?fpost)
  case ffin =>
   rintro c b ⟨rfl,d,K⟩;exact⟨rfl,d,⋯⟩
  case fstep =>
   rintro x c b _ _ ⟨rfl,d,K⟩;refine zG (uW ?_);refine nC (λq=>zH ⟨rfl,d,q⟩) λq=>?_;generalize hi:(if Option.any (λx=>decide (x<(pendingOf b)[(pendingOf b).size-2+1]?.elim 0 λx=>x.2.1)) (if(pendingOf b).size-2 > 0 then Option.map (λx=>x.2.1) (pendingOf b)[(pendingOf b).size-2-1]? else none)=true then(pendingOf b).size-2-1 else(pendingOf b).size-2)=i;have hi':i+1<(pendingOf b).size:=by
    rw[←hi];exact Tw q
   obtain⟨xs,e,f,ys,ep,r⟩:=Bb hi';refine zG (Bc C F d (zE _) ep r.symm λT o P _=>?_);rw[zD (by simp)];refine zH ⟨rfl,o,.inr ?_⟩;have a2:=wH List.length ep;have Y:=wH List.length P;simp only[Array.length_toList,List.length_append,List.length_cons]at a2 Y;omega
  case fpost =>
   rintro c b ⟨rfl,d,K⟩;refine zH (h b d.k d.f d.m ?_);have hr:=d.r;rw[←zM]at K
   match hl:(pendingOf b).toList,hr,K with
   |[],hr,_ =>
    have:0=a₀.size:=hr;rw[←this];exactλi j x y _ _ a8=>absurd a8 (Nat.not_lt_zero _)
   |[v],hr,_ =>
    have:0+v.2.1=a₀.size:=hr.2.2.2;rw[←this];exact hr.2.2.1
end
def cI(prog:Program)(w:World)(n:Nat):Prop:=∀{A:Around}{E:VP}{s:Shared}{κ:PyProof.Rows.KeyKind}{kd:SortKind}{a₀:Array Keyed}{st:SortSt}{Q:Unit->SortSt->Prop},a₀.size=n->2<=n->Cmp prog w A s κ kd->(∀x∈a₀.toList,Gd κ x)->kindOf st=kd->failedOf st=none->pendingOf st=#[]->arrOf st=a₀ ->
 (∀st',kindOf st'=kd->failedOf st'=none->(arrOf st').Perm a₀->Up κ (arrOf st') 0 a₀.size->Q () st')->wpS (model prog w) A E s sortRuns' Q st
section
variable {prog:Program} {w:World}
theorem Tu(n:Nat):cI prog w n:=λ_ _ b a d e f c h=>Tv b a d e f c h
end
mutual
def fl:PyData->LI'
 |.int i=>[i]
 |.tuple xs=>flA xs
 |_=>[]
def flA:List PyData->LI'
 |[]=>[]
 |d:: ds=>fl d++flA ds
end
mutual
def sm:PyData->PyData->Bool
 |.int _,.int _=>true
 |.tuple xs,.tuple ys=>smA xs ys
 |_,_=>false
def smA:List PyData->List PyData->Bool
 |[],[]=>true
 |x:: xs,y:: ys=>sm x y && smA xs ys
 |_,_=>false
end
mutual
theorem aH:∀(x y:PyData),sm x y=true->(fl x).length=(fl y).length
 |.int _,y,h=>by cases y <;> simp[sm]at h <;> simp[fl]
 |.tuple xs,y,h=>by cases y <;> simp[sm]at h <;> simp[fl];exact Iq _ _ h
 |.none,y,h=>by simp[sm]at h
 |.bool _,y,h=>by simp[sm]at h
 |.str _,y,h=>by simp[sm]at h
 |.list _,y,h=>by simp[sm]at h
 |.dict _,y,h=>by simp[sm]at h
theorem Iq:∀(xs ys:List PyData),smA xs ys=true->(flA xs).length=(flA ys).length
 |[],ys,h=>by cases ys <;> simp[smA]at h <;> rfl
 |x:: xs,ys,h=>by
  cases ys <;> simp[smA]at h;simp only[flA,List.length_append];rw[aH _ _ h.1,Iq _ _ h.2]
end
mutual
theorem Ba:∀(x y:PyData),sm x y=true->fl x=fl y->x=y
 |.int _,y,h,e=>by cases y <;> simp[sm]at h;simp[fl]at e;rw[e]
 |.tuple xs,y,h,e=>by cases y <;> simp[sm]at h;simp only[fl]at e;rw[Ip _ _ h e]
 |.none,y,h,e=>by simp[sm]at h
 |.bool _,y,h,e=>by simp[sm]at h
 |.str _,y,h,e=>by simp[sm]at h
 |.list _,y,h,e=>by simp[sm]at h
 |.dict _,y,h,e=>by simp[sm]at h
theorem Ip:∀(xs ys:List PyData),smA xs ys=true->flA xs=flA ys->xs=ys
 |[],ys,h,e=>by cases ys <;> simp[smA]at h;rfl
 |x:: xs,ys,h,e=>by
  cases ys <;> simp[smA]at h;simp only[flA]at e;obtain⟨e1,a⟩:=List.append_inj e (aH _ _ h.1);rw[Ba _ _ h.1 e1,Ip _ _ h.2 a]
end
def lx(a b:LI'):Bool:=decide (a<b)
theorem Cz:∀(a l1 l2:LI'),lx (a++l1) (a++l2)=lx l1 l2
 |[],_,_=>rfl
 |x:: a,l1,l2=>by
  rw[←Cz a l1 l2]
  refine decide_eq_decide.mpr ?_
  simp[List.cons_lt_cons_iff]
theorem Cy:∀(a b l1 l2:LI'),a.length=b.length->a≠b->lx (a++l1) (b++l2)=lx a b
 |[],[],_,_,_,h=>absurd rfl h
 |[],_:: _,_,_,h,_=>by simp at h
 |_:: _,[],_,_,h,_=>by simp at h
 |x:: a,y:: b,l1,l2,h,c=>by
  refine decide_eq_decide.mpr ?_
  simp only[List.cons_append,List.cons_lt_cons_iff]
  by_cases e:x=y
  ·subst e;have:=decide_eq_decide.mp (Cy a b l1 l2 (by simpa using h) (by simpa using c));rw[this]
  ·simp[e]
section
variable {prog:Program} {w:World} {E:VP}
theorem eqT{n:Nat}(f:n<=4){A:Around}{s:Shared}{v u:Value}{x y:PyData}{as bs:LA}{Q:Bool->Shared->Prop}(c:tT n x=true)(d:tT n y=true)(r1:Reads s.heap v x as)(r2:Reads s.heap u y bs)(g:A.units+8<cLine)(h:Q (decide (x=y)) s):wpAny (model prog w) A (eqBool v u) Q E s:=by
 have b:=gX n _ c;have a:=gX n _ d;have l1:=iK n _ b;have l2:=iK n _ a;refine PySem.SeqAt.eqBoolOverData _ _ _ _ _ _ _ _ _ _ _ _ r1 r2 l1.1 l2.1 ⋯ ?_;rw[←SeqAt.same_eq_eqv _ _ (bR n _ _ b a)];have e:=bT n _ _ b a
 by_cases z:x=y
 ·rw[zP z]at h;rw[e.mpr z];exact h
 ·rw[zN z]at h;have:same x y=false:=by
   cases q:same x y with
   |false=>rfl
   |true=>exact absurd (e.mp q) z
  rw[this];exact h
theorem ltT:∀(n:Nat),n<=4->∀{A:Around}{s:Shared}{v u:Value}{x y:PyData}{as bs:LA}{Q:VP},tT n x=true->tT n y=true->sm x y=true->Reads s.heap v x as->Reads s.heap u y bs->A.units+8+n<cLine->Q (.bool (lx (fl x) (fl y))) s->wpAny (model prog w) A (richCompare .Lt v u) Q E s:=by
 intro n
 induction n with
 |zero =>
  intro R A s v u x y as bs Q C z D r1 r2 a6 h;cases r1 <;> simp[tT]at C;cases r2 <;> simp[tT]at z;refine wpAny_lt_int ?_;simpa [fl,lx,uZ]using h
 | succ n a7 =>
  intro R A s v u x y as bs Q C z D r1 r2 a6 h;cases r1 <;> simp only[tT,Bool.false_eq_true]at C
  case int =>
   cases r2 <;> simp only[sm,Bool.false_eq_true]at D;refine wpAny_lt_int ?_;simpa [fl,lx,uZ]using h
  case tuple a o vs m xs hg hc hd hr =>
   cases r2 <;> simp only[sm,Bool.false_eq_true]at D;rename_i b a2 us a9 ys O U Y V;simp only[tT]at z;have M:s.TypeIs (.ref a) "tuple" := ⟨o,hg,hc⟩;have P:s.TypeIs (.ref b) "tuple" := ⟨a2,O,U⟩;refine wpAny_richCompare_same_room (op:=.Lt) M P PySem.F.slot_tuple_lt (xV PySem.F.slot_tuple_lt M PySem.F.entry_tuple_lt ?_ (PySem.F.args_tuple_lt_2 _ _)) ⋯;show wpAny _ _ (isInstance (.ref b) (.type "tuple") >>= _) _ _ s;refine zA (vZ P isSubtype_tuple_tuple ?_);simp only[Bool.not_true,Bool.false_eq_true,if_false];refine zA (rV hg hd ?_);refine zA (rV O Y ?_);refine zA ?_;refine wpAny_forIn_list _
    (λrest r j=>r.1=none/\j=s/\∃d f t l K L,rest=List.zip t l/\ReadsAll s.heap t d K/\ReadsAll s.heap l f L/\d.all (tT n)=true/\f.all (tT n)=true/\smA d f=true/\lx (flA d) (flA f)=lx (flA xs) (flA ys)/\(t.length+us.size=l.length+vs.size))
    _ ?_ ?_ _ _ ⟨rfl,rfl,xs,ys,vs.toList,us.toList,_,_,rfl,hr,V,C,z,D,rfl,by simp;omega⟩
   ·rintro⟨p,q⟩ rest r j ⟨I,rfl,d,f,t,l,K,L,k,G,F,i,tb,c,g,J⟩;cases G with
    |nil=>simp at k
    | @cons b5 a3 d' a8 b4 b2 r1 S =>
     cases F with
     |nil=>simp[smA]at c
     |@cons b0 a4 N a1 b1 b7 r2 X =>
      simp only[List.zip_cons_cons,List.cons.injEq,Prod.mk.injEq]at k;obtain⟨⟨rfl,rfl⟩,rfl⟩:=k;rw[xH,zR]at i tb;simp only[smA,Bool.and_eq_true]at c;refine zA (eqT (n:=n) ⋯ i.1 tb.1 r1 r2 (by show A.units+1+8<cLine;omega) ?_)
      by_cases e:d'=N
      ·subst e;rw[zP rfl];simp only[Bool.not_true,Bool.false_eq_true,if_false];refine zB ⟨rfl,rfl,a8,a1,a3,a4,_,_,rfl,S,X,i.2,tb.2,c.2,?_,by simp at J;omega⟩;rw[←g];simp only[flA];rw[Cz]
      ·rw[zN e];simp only[Bool.not_false,if_true];have a0:fl d'≠fl N:=λq=>e (Ba _ _ c.1 q);simp only[flA]at g;rw[Cy _ _ _ _ (aH _ _ c.1) a0]at g;refine zA (wU ?_);refine zA (a7 ⋯ i.1 tb.1 c.1 r1 r2 (by show A.units+1+8+n<cLine;omega) ?_);rw[g];exact zA (zB (zB (zB ⟨_,rfl,(λe=>nomatch e),h⟩)))
   ·rintro⟨r1,r2⟩ j ⟨I,rfl,d,f,t,l,K,L,k,G,F,i,tb,c,g,J⟩;simp only at I;subst I;cases G with
    |cons b6 b3 =>
     cases F with
     |nil=>simp[smA]at c
     |cons a5 W=>simp at k
    | nil =>
     cases F with
     |cons a5 W=>simp[smA]at c
     |nil =>
      have T:vs.size=us.size:=by simp at J;omega
      have Z:lx (flA xs) (flA ys)=false:=by rw[←g];simp[flA,lx]
      refine zB ⟨_,rfl,(λe=>nomatch e),?_⟩;show Q (.bool (decide (vs.size<us.size))) j;have h':Q (.bool (lx (flA xs) (flA ys))) j:=h;rw[Z]at h';rw[T,zN (xC _)];exact h'
end
mutual
theorem Io:∀(d x y:PyData),sm d x=true->sm d y=true->sm x y=true
 |.int _,x,y,a,b=>by cases x <;> simp[sm]at a;cases y <;> simp[sm]at b;simp[sm]
 |.tuple xs,x,y,a,b=>by cases x <;> simp[sm]at a;cases y <;> simp[sm]at b;simp only[sm];exact Im _ _ _ a b
 |.none,x,y,a,b=>by simp[sm]at a
 |.bool _,x,y,a,b=>by simp[sm]at a
 |.str _,x,y,a,b=>by simp[sm]at a
 |.list _,x,y,a,b=>by simp[sm]at a
 |.dict _,x,y,a,b=>by simp[sm]at a
theorem Im:∀(d x y:List PyData),smA d x=true->smA d y=true->smA x y=true
 |[],x,y,a,b=>by cases x <;> simp[smA]at a;cases y <;> simp[smA]at b;simp[smA]
 |d:: ds,x,y,a,b=>by
  cases x <;> simp[smA]at a;cases y <;> simp[smA]at b;simp only[smA,Bool.and_eq_true];exact⟨Io _ _ _ a.1 b.1,Im _ _ _ a.2 b.2⟩
end
theorem Tt(a:LI'):lx a a=false:=zN (List.lt_irrefl a)
theorem Ts(a b c:LI')(d:lx a b=true)(e:lx b c=true):lx a c=true:=zP (List.lt_trans (xQ d) (xQ e))
theorem Tr(a b:LI')(c:lx a b=false)(d:lx b a=false):a=b:=List.le_antisymm (oB.mp (vK d)) (oB.mp (vK c))
theorem Tq(a b c:LI')(h:lx a c=true):lx a b=true\/lx b c=true:=by
 cases h1:lx a b with
 |true=>exact .inl rfl
 | false =>
  refine .inr ?_;cases h2:lx b c with
  |true=>rfl
  |false =>
   have e1:b<=a:=oB.mp (vK h1);have d:c<=b:=oB.mp (vK h2);exact absurd (xQ h) (oB.mpr (List.le_trans d e1))
open Classical in
def keyT(h:Heap)(d0:PyData)(v:Value):Option (LI'):=if q:∃d,tT 4 d=true/\sm d0 d=true/\∃as,Reads h v d as then some (fl q.choose) else none
theorem Il{h:Heap}{d0 d:PyData}{v:Value}{as:LA}(a:tT 4 d=true)(z:sm d0 d=true)(r:Reads h v d as):keyT h d0 v=some (fl d):=by
 have q:∃d,tT 4 d=true/\sm d0 d=true/\∃as,Reads h v d as:=⟨d,a,z,as,r⟩;unfold keyT;rw[dif_pos q];obtain⟨t',c,e,b⟩:=q.choose_spec;rw[PySem.SeqAt.Reads.unique _ _ _ _ _ (iK 4 _ (gX 4 _ t')).1 b r]
theorem Ik{h:Heap}{d0:PyData}{v:Value}{a:LI'}(e:keyT h d0 v=some a):∃d as,tT 4 d=true/\sm d0 d=true/\Reads h v d as/\a=fl d:=by
 unfold keyT at e
 by_cases q:∃d,tT 4 d=true/\sm d0 d=true/\∃as,Reads h v d as
 ·rw[dif_pos q]at e;obtain⟨t',b,c,f⟩:=q.choose_spec;exact⟨_,c,t',b,f,by cases e;rfl⟩
 ·rw[dif_neg q]at e;cases e
def eN(h:Heap)(d0:PyData):PyProof.Rows.KeyKind where
 α:=LI'
 blt:=lx
 irrefl:=Tt
 trans:=Ts
 negTrans:=Tq
 total:=Tr
 keyOf:=keyT h d0
 dflt:=[]
section
variable {prog:Program} {w:World} {A:Around} {s:Shared}
theorem katT(o:A.units+16<cLine){Q:Bool->Shared->Prop}:∀(c a:List PyData)(g f:LW)(k n:LA)(i:Nat),ReadsAll s.heap g c k->ReadsAll s.heap f a n->c.all (tT 3)=true->a.all (tT 3)=true->smA c a=true->Q (lx (flA c) (flA a)) s->PySem.W.KatLex prog w A false false Q (g.zip f) i s
 | [],a,g,f,k,n,i,l,m,_,_,b,h=>by
  cases l;cases a with
  |cons _ _=>simp[smA]at b
  |nil =>
   cases m;refine PySem.W.kat_nil ?_;simpa [flA,lx]using h
 | d :: c,a,g,f,k,n,i,l,m,j,tb,b,h=>by
  cases a with
  |nil=>simp[smA]at b
  | cons e a =>
   cases l with
   | cons r1 p =>
    cases m with
    |cons r2 r =>
     rw[xH,zR]at j tb;simp only[smA,Bool.and_eq_true]at b;rw[rW];refine PySem.W.kat_cons (eqT (n:=3) ⋯ j.1 tb.1 r1 r2 ⋯ ?_);simp only[flA]at h
     by_cases z:d=e
     ·subst z;rw[zP rfl];rw[Cz]at h;exact PySem.W.kat_yes (katT o c a _ _ _ _ (i+1) p r j.2 tb.2 b.2 h)
     ·rw[zN z];rw[Cy _ _ _ _ (aH _ _ b.1) λq=>z (Ba _ _ b.1 q)]at h;refine PySem.W.kat_no ?_;show wpAny (model prog w) A (oneLt' false _ _) Q _ s;exact PySem.W.kat_one _ _ (ltT 3 ⋯ j.1 tb.1 b.1 r1 r2 ⋯ h)
theorem cmpT(v:A.units+16<cLine){d0:PyData}(f:∃l,d0=.tuple l):Cmp prog w A s (eN s.heap d0) (tuples' false):=by
 intro E x y a b Q t p h;obtain⟨l,rfl⟩:=f;obtain⟨d,as,g,j,r1,rfl⟩:=Ik t;obtain⟨e,bs,k,n,r2,rfl⟩:=Ik p;have z:=Io _ _ _ j n;cases r1 <;> simp only[sm,Bool.false_eq_true]at j
 case tuple a o vs m xs hg hc f hr =>
  cases r2 <;> simp only[sm,Bool.false_eq_true]at n;rename_i b G us F ys q D C i;simp only[tT]at g k;simp only[sm]at z;have hl:vs.size=us.size:=by
   have e1:∀{h:Heap}{vs:LW}{xs:List PyData}{as:LA},ReadsAll h vs xs as->vs.length=xs.length:=by
    intro h vs xs as r
    induction xs generalizing vs as with
    |nil=>cases r;rfl
    |cons x xs c=>cases r with|cons r1 r2=>simp[c r2]
   have u:∀{xs ys:List PyData},smA xs ys=true->xs.length=ys.length:=by
    intro xs
    induction xs with
    |nil=>intro ys h;cases ys <;> simp[smA]at h;rfl
    |cons x xs c=>intro ys h;cases ys <;> simp[smA]at h;simp[c h.2]
   have:=e1 hr;have:=e1 i;have:=u z;simp only[Array.length_toList]at*
   omega
  refine PySem.W.kat_lt hg f q C ?_;rw[zN ⋯];exact katT v xs ys _ _ _ _ 0 hr i g k z h
end
theorem Cv{h h':Heap}(g:∀b o,h.get? b=some o->o.cls=.type "tuple" -> h'.get? b=some o):∀(n:Nat){v:Value}{d:PyData}{as:LA},tT n d=true->Reads h v d as->Reads h' v d as:=by
 intro n
 induction n with
 |zero =>
  intro v d as c r;cases r <;> simp[tT]at c;exact .int _ _
 | succ n e =>
  have all:∀(xs:List PyData)(vs:LW)(as:LA),xs.all (tT n)=true->ReadsAll h vs xs as->ReadsAll h' vs xs as:=by
   intro xs
   induction xs with
   |nil=>intro vs as _ r;cases r;exact .nil
   | cons d ds f =>
    intro vs as c r;cases r with
    |cons r1 r2 =>
     rw[xH,zR]at c;exact .cons (e c.1 r1) (f _ _ c.2 r2)
  intro v d as c r;cases r <;> simp only[tT,Bool.false_eq_true]at c
  case int=>exact .int _ _
  case tuple a o vs k xs hg hc hdd hr=>exact .tuple (g _ _ hg hc) hc hdd (all _ _ _ c hr)
theorem Paired.perm{g f:Type}{F:g->f->Prop}{ys i:List f}(p:ys.Perm i):∀{xs:List g},Paired F xs ys->∃e,e.Perm xs/\Paired F e i:=by
 induction p with
 |nil=>intro xs h;exact⟨xs,List.Perm.refl _,h⟩
 | cons x p w =>
  intro xs h;cases h with
  |@cons a b l1 l2 c d =>
   obtain⟨e,u,h'⟩:=w d;exact⟨a:: e,u.cons _,.cons c h'⟩
 | swap x y l =>
  intro xs h;cases h with
  |@cons a b l1 l2 c d =>
   cases d with
   |@cons o z n I r q=>exact⟨o:: a:: n,List.Perm.swap ..,.cons r (.cons c q)⟩
 |trans D C m j =>
  intro xs h;obtain⟨G,k,c⟩:=m h;obtain⟨v,t,d⟩:=j c;exact⟨v,t.trans k,d⟩
theorem Paired.mem{b c:Type}{F:b->c->Prop}{xs:List b}{ys:List c}(h:Paired F xs ys):∀x∈xs,∃y∈ys,F x y:=by
 induction h with
 |nil=>intro x a;cases a
 |cons f i g =>
  intro x a;rcases xI.mp a with e|a
  ·subst e;exact⟨_,.head _,f⟩
  ·obtain⟨y,d,q⟩:=g x a;exact⟨y,.tail _ d,q⟩
theorem ord_of{κ:PyProof.Rows.KeyKind}{a:Type}{F:a->Value->Prop}{k:a->κ.α}(d:∀p v,F p v->κ.keyOf v=some (k p)):∀(L:List Keyed)(ps:List a),(∀e∈L,e.1=e.2)->L.Pairwise (le' κ)->Paired F ps (L.map (·.2))->ps.Pairwise λp q=>κ.blt (k q) (k p)=false
 |[],ps,_,_,h=>by cases h;exact .nil
 | e:: L,ps,c,f,h=>by
  cases h with
  |@cons p b l1 l2 t j =>
   rw[List.pairwise_cons]at f;refine .cons (λq o=>?_) (ord_of d L l1 (λx n=>c x (.tail _ n)) f.2 j);obtain⟨v,m,r⟩:=Paired.mem j q o;obtain⟨y,g,rfl⟩:=pZ.mp m;have l:=f.1 y g;have k1:ky κ e=k p:=by unfold ky;rw[c e (.head _),d _ _ t];rfl
   have k2:ky κ y=k q:=by unfold ky;rw[c y (.tail _ g),d _ _ r];rfl
   have i:κ.blt (ky κ y) (ky κ e)=false:=l;rw[k1,k2]at i;exact i
structure TV(K:Frag)(H:Hp)(d0:PyData)(p:V×PyData)(v:Value):Prop where
 r:RelV p.1 v
 t:tT 4 p.2=true
 z:sm d0 p.2=true
 d:Dt K H p.1 p.2
theorem TV.vals{K:Frag}{H:Hp}{d0:PyData}{ps:List (V×PyData)}{vs:LW}(h:Paired (TV K H d0) ps vs):Vals (ps.map (·.1)) vs:=by
 induction h with
 |nil=>exact .nil
 |cons a _ b=>exact .cons a.r b
theorem Cu:∀{vs:LW}{e:Keyed},e∈vs.zip vs->e.1=e.2
 |[],e,h=>by cases h
 |v:: vs,e,h=>by
  rw[rW]at h;rcases xI.mp h with h|h
  ·rw[h]
  ·exact Cu h
theorem mE{a b:Type}{F:a->b->Prop}{xs:List a}{ys:List b}(h:Paired F xs ys):xs.length=ys.length:=by
 induction h with
 |nil=>rfl
 |cons _ _ c=>simp[c]
theorem Ct{b c:Type}{F:b->c->Prop}{xs:List b}{ys:List c}(h:Paired F xs ys):∀y∈ys,∃x∈xs,F x y:=by
 induction h with
 |nil=>intro x a;cases a
 |cons f i g =>
  intro x a;rcases xI.mp a with e|a
  ·subst e;exact⟨_,.head _,f⟩
  ·obtain⟨y,d,q⟩:=g x a;exact⟨y,.tail _ d,q⟩
theorem Tp{l:List Keyed}{n:Nat}(h:l.length=n):seg l 0 n=l:=by
 unfold seg;rw[List.drop_zero,Nat.sub_zero,yT ⋯]
section
variable {X:Cx} {pins:PN} {σ:St} {H:Hp} {s:Shared} {a:Addr} {A:Around} {E:VP} {vs:LW} {ps:List (V×PyData)} {n0:Nat} {R:VP} {d0:PyData} {l0 l1:List PyData}
theorem To(c2:cI X.prog X.w vs.length)(c5:A.units+16<cLine)(I:Inv X pins σ H s)(b3:FpOk X pins H a)(w:s.heap.get? a=some (seqObj "list" vs.toArray n0))(T:vs.length<=sizeLine)(a2:d0=.tuple (.tuple l1:: l0))(y:Paired (TV X.K H d0) ps vs)
  (h:∀(n:List (V×PyData)) H' J,Inv X pins σ H' J->Same H H'->H' a=some (.lst (n.map (·.1)))->n.Perm ps->n.Pairwise (λp q=>lx (fl q.2) (fl p.2)=false)->R .none J):
  wpAny (model X.prog X.w) A (Builtin.«list.sort» ⟨[.ref a],[]⟩) (λM J=>∃v,M=.done (.ret v)/\R v J) E s:=by
 obtain⟨Y,O,d1,a3,a4,Z⟩:=b3;rw[list_sort_plain];have d2:a<s.heap.objs.size:=zL w;refine zA (listItems_at w rfl ?_);refine zA (listUpdate_at w rfl ?_ (by rw[zT];exact T) (yB _));obtain⟨e1,a0⟩:∃e1,(s.heap.update a (Obj.mapSeq λ_=>(#[]:Array Value))).get? a=some (seqObj "list" #[] e1):=⟨_,get?_update_seq w (λ_=>#[])⟩;have b5:=vC s.heap a (Obj.mapSeq λ_=>(#[]:Array Value));have b1:Inv X pins σ H {s with heap:=s.heap.update a (Obj.mapSeq λ_=>(#[]:Array Value)),toks:=s.toks}:=I.turned (λb o j q=>(b5.2 b j).trans q) Y O a3 a4 Z;refine zA (seqEpoch_at a0 rfl ?_);refine zA (pJ ?_ T);refine zA (wpAny_newList ?_ (yB _));refine xB ?_;have F:(((s.heap.update a (Obj.mapSeq λ_=>(#[]:Array Value))).push (seqObj "tuple" vs.toArray 0)).push (seqObj "list" #[] 0)).get? a=some (seqObj "list" #[] e1):=zC _ (zC _ a0);have D:Inv X pins σ H {s with heap:=((s.heap.update a (Obj.mapSeq λ_=>(#[]:Array Value))).push (seqObj "tuple" vs.toArray 0)).push (seqObj "list" #[] 0),toks:=s.toks}:=b1.kept λb o q=>zC _ (zC _ q);show wpAny (model X.prog X.w) A _ _ E {s with heap:=((s.heap.update a (Obj.mapSeq λ_=>(#[]:Array Value))).push (seqObj "tuple" vs.toArray 0)).push (seqObj "list" #[] 0),toks:=s.toks};generalize ((s.heap.update a (Obj.mapSeq λ_=>(#[]:Array Value))).push (seqObj "tuple" vs.toArray 0)).push (seqObj "list" #[] 0)=f at*
 dsimp only;have M:∀d:SortSt,(arrOf d).Perm (pairsOf vs)->Srt (eN f d0) (arrOf d).toList->R .none {s with heap:=f.update a (Obj.mapSeq λ_=>(arrOf d).map (·.2))}:=by
  intro d G so;have pl:(arrOf d).toList.Perm (vs.zip vs):=by rw[←pairsOf_toList];exact Array.perm_iff_toList_perm.mp G
  have N:∀e∈(arrOf d).toList,e.1=e.2:=λe N=>Cu (pl.mem_iff.mp N);have b7:vs.Perm ((arrOf d).toList.map (·.2)):=by
   have:=(pl.map (·.2)).symm;rw[List.map_snd_zip (zE _)]at this;exact this
  obtain⟨n,a1,a5⟩:=Paired.perm b7 y;have b8:∀p v,TV X.K H d0 p v->(eN f d0).keyOf v=some (fl p.2):=λp v g=>by
   obtain⟨as,r⟩:=g.d.reads D g.r;exact Il g.t g.z r
  have c1:=ord_of (κ:=eN f d0) (k:=λp:V×PyData=>fl p.2) b8 _ n N so a5;have c4:((arrOf d).map (·.2)).toList=(arrOf d).toList.map (·.2):=Array.toList_map ..;generalize (arrOf d).map (·.2)=out at*
  have L:=vC f a (Obj.mapSeq λ_=>out);obtain⟨W,P⟩:∃W,(f.update a (Obj.mapSeq λ_=>out)).get? a=some (seqObj "list" (out) W):=⟨_,get?_update_seq F λ_=>out⟩;generalize f.update a (Obj.mapSeq λ_=>out)=b9 at*
  refine h n (upd H a (.lst (n.map (·.1)))) _ ?_ ?_ oP a1 c1
  ·have C:∀b u,H b=some u->b≠a:=λb u e z=>by rw[z,Y]at e;cases e
   refine Inv.step (s:={s with heap:=f,toks:=s.toks}) (h':=b9) (H':=upd H a (.lst (n.map (·.1)))) (I:=D) (g':=s.gens) (d':=s.drawn) (t':=s.toks) (ch:=[a]) (λb j=>?_) (λb o _ _ i e _=>(L.2 b (λz=>i (by simp[z]))).trans e) (λb o _ _ i e _=>⟨o.slots,(L.2 b (λz=>i (by simp[z]))).trans e⟩)
    (λb o i e q=>by rw[oT (λz=>i (by simp[z]))];exact q) (λb o i e=>⟨o,(L.2 b (λz=>i (by simp[z]))).trans e⟩) (λb xs e=>by rw[oT (C _ _ e)];exact e) (λb o u e=>by rw[oT (C _ _ e)];exact e)
    (λb ps e=>⟨#[],by rw[oT (C _ _ e),e];simp⟩) (λm U=>?_) (λb u e=>?_) D.bare
   ·have e:b=a:=by simpa using j
    subst e;exact⟨a3,O,a4,Z⟩
   ·obtain⟨o,es,ep,w,r⟩:=U;exact⟨o,es,ep,(L.2 _ (yA O)).trans w,r⟩
   ·by_cases j:b=a
    ·subst j;rw[oP]at e;cases e;refine⟨?_,(arrOf d).toList.map (·.2),W,TV.vals a5,by rw[P,←c4]⟩;rw[yS,a1.length_eq,mE y];exact T
    ·rw[oT j]at e;refine(D.hok b u e).stay (λc v i q=>(L.2 c ?_).trans q) (λc q=>by rw[oT (C _ _ q)];exact q) λc xs q=>by rw[oT (C _ _ q)];exact q
     rcases i with z|z
     ·rw[z];exact j
     ·exact C c _ z
  ·intro b u q;rw[oT (λz=>by rw[z,Y]at q;cases q)];exact q
 have hsz:vs.toArray.size=vs.length:=by simp
 by_cases t:vs.toArray.size<2
 ·rw[zF t,zF t];refine zA (zB ?_);rw[StateT.run_pure];refine zA (zB ?_);dsimp only;refine zA (seqEpoch_at F rfl ?_);refine zA (listUpdate_at F rfl ?_ (yB _) (by rw[Array.size_map];show(pairsOf vs).size<=_;rw[pairsOf_size];omega));simp only[bne_self_eq_false,Bool.false_eq_true,if_false];refine zB ⟨_,rfl,M (SortSt.mk' general' (vs.toArray.zip vs.toArray) #[] 7 none) (Array.Perm.refl _) ?_⟩;show Srt _ (pairsOf vs).toList;rw[pairsOf_toList]
  match vs,hsz,t with
  |[],_,_=>exact .nil
  |[_],_,_=>exact .cons (λ_ h=>nomatch h) .nil
  |_:: _:: _,_,t=>simp at t;omega
 ·rw [zD t,zD t];have c3:∀{ps:List (V×PyData)}{vs:LW},Paired (TV X.K H d0) ps vs->∃fs,PySem.W.KatTups f vs fs/\fs.length=vs.length/\∀v∈fs,∃b o,v=.ref b/\f.get? b=some o/\o.cls=.type "tuple" := by
   intro ps vs y
   induction y with
   |nil=>exact⟨[],PySem.W.KatTups.nil,rfl,λ_ h=>nomatch h⟩
   | @cons p v ps vs g _ c6 =>
    obtain⟨fs,k,l,b0⟩:=c6;obtain⟨as,r⟩:=g.d.reads D g.r;have z:=g.z;rw[a2]at z;generalize p.2=dd at*
    cases r <;> simp only[sm,Bool.false_eq_true]at z
    case tuple b o us m xs hg i hd hr =>
     cases xs with
     |nil=>simp[smA]at z
     | cons x xs =>
      simp only[smA,Bool.and_eq_true]at z;cases hr0:us.toList with
      |nil=>rw[hr0]at hr;cases hr
      | cons u c8 =>
       rw[hr0]at hr;cases hr with
       | cons r1 r2 =>
        have c7:=z.1;cases r1 <;> simp only[sm,Bool.false_eq_true]at c7
        case tuple b2 o2 us2 m2 xs2 hg2 P hd2 hr2 =>
         refine⟨.ref b2:: fs,PySem.W.KatTups.cons hg i hd ?_ k,by simp[l],λv K=>?_⟩
         ·rw[←yH,hr0];rfl
         ·rcases xI.mp K with e|K
          ·exact⟨b2,o2,e,hg2,P⟩
          ·exact b0 v K
  obtain⟨fs,c0,c9,b4⟩:=c3 y;refine zA (PySem.W.kat_kind (s:={s with heap:=f,toks:=s.toks}) (T:=.type "tuple") c0 ⋯ (λv K=>?_) rfl ?_)
  ·obtain⟨b,o,rfl,j,i⟩:=b4 v K;exactλA Q E s k q=>uX (T:= "tuple") ⟨o,k _ _ j,i⟩ q
  have a9:(Value.type "tuple" != Value.type "tuple")=false:=∅
  rw[a9];refine zA (yU (c2 (κ:=eN f d0) (kd:=tuples' false) (a₀:=pairsOf vs) (st:=SortSt.mk' (tuples' false) (vs.toArray.zip vs.toArray) #[] 7 none)
   (Q:=λ_ d=>(arrOf d).Perm (pairsOf vs)/\failedOf d=none/\Up (eN f d0) (arrOf d) 0 (pairsOf vs).size) (pairsOf_size _) ⋯ (cmpT (s:={s with heap:=f,toks:=s.toks}) c5 ⟨_,a2⟩) (λx S=>?_) rfl rfl rfl rfl λd _ a6 b6 a7=>⟨b6,a6,a7⟩) ?_ λ_ _ e=>e)
  ·rw[pairsOf_toList]at S;have e:=Cu S;have U:x.2∈vs:=(rK (a:=x.1) (b:=x.2) S).2;obtain⟨p,_,g⟩:=Ct y x.2 U;obtain⟨as,r⟩:=g.d.reads D g.r;exact⟨fl p.2,by rw[e];exact Il g.t g.z r⟩
  rintro⟨⟨⟩,d⟩ J ⟨rfl,G,a8,up⟩;dsimp only;refine zA (seqEpoch_at F rfl ?_);refine zA (listUpdate_at F rfl ?_ (yB _) (by refine yG (tZ ((Array.size_map ..).trans (G.size_eq.trans (pairsOf_size _)))) ?_;omega));rw[a8];simp only[bne_self_eq_false,Bool.false_eq_true,if_false];refine zB ⟨_,rfl,M d G ?_⟩;have:=Bd up
  rwa[Tp (by rw[zM];exact G.size_eq)]at this
end
abbrev Asc(ps:List (V×PyData)):Prop:=ps.Pairwise λp q=>lx (fl q.2) (fl p.2)=false
section
variable {X:Cx} {pins:PN} {σ:St} {H:Hp} {s:Shared} {d0:PyData} {l0 l1:List PyData}
theorem Tn{N:Nat}(k:∀n,n<=N->cI X.prog X.w n)(z:X.A.units+64<cLine){ps:List (V×PyData)}{its:LW}{v:Value}{Q:VK}(g:its.length<=sizeLine)(j:its.length<=N)(w:d0=.tuple (.tuple l1:: l0))(x:Paired (TV X.K H d0) ps its)
  (u:∀(f:LW->Shared->Prop)(m:VP),(∀a,Inv X pins σ H a->f its a)->wpAny (model X.prog X.w) X.A.in1 (collect v) f m s)
  (h:∀q(c:List (V×PyData)) H',Same H H'->H q=none->H' q=some (.lst (c.map (·.1)))->c.Perm ps->Asc c->Q (.ref q) H'):
  wpAny (model X.prog X.w) X.A (call (.builtin "sorted") [v]) (EP X pins σ Q) X.xe s:=by
 refine Calls.call_function_entry kind_sorted plain_sorted entry_sorted (args_sorted1 _) ?_;unfold Builtin.«sorted»;refine zA (m:=checkCount "sorted" 1 1 _) (zB ?_);refine zA (u _ _ λa I=>?_);refine zA (wpAny_newList ?_ g);have d:(a.heap.push (seqObj "list" its.toArray 0)).get? a.heap.objs.size=some (seqObj "list" its.toArray 0):=zS _ rfl;have i:H a.heap.objs.size=none:=I.hok.fresh (zE _);have r:=I.fpOk (zE _) i;have t:Inv X pins σ H {a with heap:=a.heap.push (seqObj "list" its.toArray 0),toks:=a.toks}:=I.kept λb o q=>zC _ q;refine zA (xB (xV slot_list_sort ⟨_,d,rfl⟩ entry_list_sort ?body (args_list_sort _)));show wpAny (model X.prog X.w) X.A.in1.in1 (Builtin.«list.sort» ⟨[.ref a.heap.objs.size],[]⟩) _ _ {a with heap:=a.heap.push (seqObj "list" its.toArray 0),toks:=a.toks};refine To (k _ j) (A:=X.A.in1.in1) (by show X.A.units+1+1+16<cLine;omega) t r d g w x λc H' y l sm e p o=>?_;exact zB ⟨_,rfl,.ref a.heap.objs.size,H',l,rfl,h _ c H' sm i e p o⟩
end
def RawD(h:Heap)(d:Addr)(es:Array DictEntry)(ep:Nat):Prop:=∃o,h.get? d=some o/\o.ExactDict/\o.data=.dict es ep
theorem RawD.at{h h':Heap}{d:Addr}{es:Array DictEntry}{ep:Nat}(x:RawD h d es ep)(e:∀o,h.get? d=some o->h'.get? d=some o):RawD h' d es ep:=let ⟨o,a,r⟩:=x;⟨o,e _ a,r⟩
section
variable {prog:Program} {w:World} {A:Around} {E:VP} {s:Shared} {d it:Addr} {es:Array DictEntry} {ep i:Nat}
theorem RawD.typeIs(x:RawD s.heap d es ep):s.TypeIs (.ref d) "dict" := let ⟨o,b,a,_⟩:=x;⟨o,b,a.1⟩
theorem Tm{Q:VP}(g:(d == sysModules)=false)(c:RawD s.heap d es ep)
  (f:Q (.ref s.heap.objs.size) {s with heap:=s.heap.push {cls:=.type "dict_keyiterator",data:=.fields #[.ref d,.int 0 0,.int es.size 0,.int ep 0]}}):wpAny (model prog w) A (pyIter (.ref d)) Q E s:=by
 obtain⟨o,b,j,e⟩:=id c;have a:=c.typeIs;refine wpAny_pyIter_slot a PySem.F.slot_dict_iter (xV PySem.F.slot_dict_iter a PySem.F.entry_dict_iter ?_ (PySem.F.args_dict_iter_1 _));unfold Builtin.«dict.__iter__»;refine zA ?_;unfold Builtin.Dict.dictSlotNone;refine zA (wpAny_notOrdered_dict a ?_);show wpAny _ _ (pure (Value.ref d)) _ _ s;refine zB ?_;show wpAny _ _ (Builtin.Dict.showsAll d >>= _) _ _ s;unfold Builtin.Dict.showsAll;rw[zD (by rw[g];exact zX)];refine zA (zB ?_);refine zA (qO b e ?_);refine zA (pC b e ?_);exact zA (xL (zB ⟨_,rfl,"dict_keyiterator",_,⟨_,zS _ rfl,rfl⟩,PySem.F.slot_dict_keyiterator_next.lookup,f⟩))
theorem Tl{Q:Option Value->Shared->Prop}(a:s.heap.IsKeyIter it d i es.size ep)(l:RawD s.heap d es ep)(hi:i<es.size)
  (j:∀h',h'.IsKeyIter it d (i+1) es.size ep->Heap.SameBut it s.heap h'->Q (some es[i].key) {s with heap:=h'}):wpAny (model prog w) A (pyNext (.ref it)) Q E s:=by
 obtain⟨o,c,m,b⟩:=id a;obtain⟨n,f,p,e⟩:=id l;unfold pyNext;refine zA (vP (wB (name:=Str.ofString "__next__") a.typeIs wK
  (xV wK a.typeIs PySem.F.entry_dict_keyiterator_next ?_ (PySem.F.args_dict_keyiterator_next_1 _))))
 refine zA (zB ?_);refine zA ?_;refine zA ?_
 first|refine zA (vB a.typeIs (zB ?_))|refine zA (uC a.typeIs (zB ?_))
 refine zA (wpAny_fieldsOf c b ?_);have k:Builtin.Dict_items.ownsTuple "dict_keyiterator"=false:=∅
 simp only[k,Bool.false_eq_true,if_false];show wpAny _ _ (if(Value.ref d == Value.none)=true then _ else _) _ _ s;rw[zD (show¬ ((Value.ref d == Value.none)=true) from zX)];refine zA (zB ?_);refine zA (qO f e ?_);rw[zD (by simp)];refine zA (zB ?_);refine zA (pC f e ?_);rw[zD (by simp)];refine zB ?_;simp only[show¬ ((i:Int)<0) from⋯,if_false,Int.toNat_natCast,Array.getElem?_eq_getElem hi];refine zA ?_
 first|refine zA (vB a.typeIs (zB ?_))|refine zA (uC a.typeIs (zB ?_))
 refine zA (wpAny_isOneOf_keyiter a.typeIs ?_);show wpAny _ _ (setField (.ref it) 1 (rawInt ((i:Int)+1)) >>= _) _ _ s;refine zA (sH c b (by simp) ?_);have g:(s.heap.update it (Obj.mapFields (·.setIfInBounds 1 (rawInt ((i:Int)+1))))).IsKeyIter it d (i+1) es.size ep:=
  ⟨_,wG _ c (Obj.isFreed_of_fields (sD b _)),(Obj.cls_mapFields ..).trans m,by rw[sD b];simp[rawInt]⟩
 refine zA (xB ?_);refine zA (wpAny_isOneOf_keyiter (s:={s with heap:=s.heap.update it (Obj.mapFields (·.setIfInBounds 1 (rawInt ((i:Int)+1))))}) g.typeIs ?_);show wpAny _ _ (pure es[i].key) _ _ _;exact zB (zB ⟨_,rfl,zB (j _ g (vC ..))⟩)
theorem Tk{Q:Option Value->Shared->Prop}(hh:A.handled=none)(a:s.heap.IsKeyIter it d es.size es.size ep)(k:RawD s.heap d es ep)
  (g:∀h',Heap.ExtBut it s.heap h'->Q none {s with heap:=h'}):wpAny (model prog w) A (pyNext (.ref it)) Q E s:=by
 obtain⟨o,b,l,f⟩:=id a;obtain⟨m,e,n,c⟩:=id k;unfold pyNext;refine zA (vP (wB (name:=Str.ofString "__next__") a.typeIs wK
  (xV wK a.typeIs PySem.F.entry_dict_keyiterator_next ?_ (PySem.F.args_dict_keyiterator_next_1 _))))
 refine zA (zB ?_);refine zA ?_;refine zA ?_
 first|refine zA (vB a.typeIs (zB ?_))|refine zA (uC a.typeIs (zB ?_))
 refine zA (wpAny_fieldsOf b f ?_);have j:Builtin.Dict_items.ownsTuple "dict_keyiterator"=false:=∅
 simp only[j,Bool.false_eq_true,if_false];show wpAny _ _ (if(Value.ref d == Value.none)=true then _ else _) _ _ s;rw[zD (show¬ ((Value.ref d == Value.none)=true) from zX)];refine zA (zB ?_);refine zA (qO e c ?_);rw[zD (by simp)];refine zA (zB ?_);refine zA (pC e c ?_);rw[zD (by simp)];refine zB ?_;simp only[show¬ ((es.size:Int)<0) from⋯,if_false,Int.toNat_natCast,Array.getElem?_eq_none (Nat.le_refl _)];refine zA ?_
 first|refine zA (vB a.typeIs (zB ?_))|refine zA (uC a.typeIs (zB ?_))
 show wpAny _ _ (setField (.ref it) 0 .none >>= _) _ _ s;refine zA (sH b f (by simp) ?_);show wpAny _ _ (newExc (.type "StopIteration") [] >>= _) _ _ _;refine zA ?_;simp only[newExc,newTuple];refine zA (xL ?_ (by size_fits));refine zA (m:=firstArgMember _ _) (wpAny_of_eq (a:=Value.none) (by first|rfl|(simp only[firstArgMember];rfl)) ?_);refine xL ?_ (by size_fits);simp only[raiseNew];refine zA (wpAny_handled ?_);rw[show A.in1.handled=none from hh];refine zA (zB (wpAny_throw ?_));refine zA (vZ (T:= "StopIteration") (b:=true) ⟨_,zS _ rfl,rfl⟩ pK ?_);exact zB (g _ (((vC ..).extBut.push _).push _))
theorem Tj(hh:A.handled=none)(I d:Addr)(l:d≠I)(es:Array DictEntry)(ep:Nat):
  Walks prog w A I [I,d] [I] es.size (λi v=>(es[i]?).map (·.key)=some v) (λi h=>h.IsKeyIter I d i es.size ep/\RawD h d es ep) where
 sub:=λb a=>by simp at a;simp[a]
 frame:=λ_ _ _ st g=>⟨st.1.at λo e=>g I (by simp) o e,st.2.at λo e=>g d (by simp) o e⟩
 item:=λi s Q E hi st c=>by
  refine Tl st.1 st.2 hi λh' k f=>?_;exact c _ h' s.toks (by simp[hi]) ⟨k,st.2.at λo e=>(f.2 d l).trans e⟩ λb o a e=>(f.2 b (λh=>a (by simp[h]))).trans e
 done:=λs Q E st c=>Tk hh st.1 st.2 λh' j=>c h' s.toks λb o a e=>j b o (λh=>a (by simp[h])) e
 self:=λ_ _ _ _ st c=>wpAny_pyIter_keyiter st.1 c
theorem Ti:typeLookup (.type "dict") "__len__"=pure (some (.builtin "dict.__len__")):=PySem.F.slot_dict_len.lookup
theorem Th{Q:LW->Shared->Prop}(hh:A.handled=none)(K:(d == sysModules)=false)(c:RawD s.heap d es ep)(O:es.size<=sizeLine)
  (h:∀h' tk,(∀b o,s.heap.get? b=some o->h'.get? b=some o)->Q (es.toList.map (·.key)) {s with heap:=h',toks:=tk}):wpAny (model prog w) A (collect (.ref d)) Q E s:=by
 obtain⟨o,I,V,Y⟩:=id c;have u:@LT.lt Nat _ d s.heap.objs.size:=zL I;unfold collect;refine zA (wpAny_runValue (tV PySem.F.entry_proto_collect ?_));rw[tL PySem.F.plain_proto_collect _];show wpAny _ A.in1 (newList [] >>= λl=>again (.builtin "list.__iadd__" ⟨[l,.ref d],[]⟩)) _ _ s;refine zA (xL ?_);refine zB ⟨qG PySem.F.plain_list_iadd _,tV PySem.F.entry_list_iadd ?_⟩;rw[tL PySem.F.plain_list_iadd _];have R:(s.heap.push {cls:=.type "list",data:=.seq ([]:LW).toArray}).get? s.heap.objs.size=some {cls:=.type "list",data:=.seq ([]:LW).toArray}:=zS _ rfl;have q:RawD (s.heap.push {cls:=.type "list",data:=.seq ([]:LW).toArray}) d es ep:=c.at λo e=>zC _ e;have k1:∀b o,s.heap.get? b=some o->(s.heap.push {cls:=.type "list",data:=.seq ([]:LW).toArray}).get? b=some o:=λb o e=>zC _ e;have t:(s.heap.push {cls:=.type "list",data:=.seq ([]:LW).toArray}).objs.size=s.heap.objs.size+1:=size_push' _ _;show wpAny _ A.in1 (Builtin.List.listExtendWith (.ref s.heap.objs.size) (.ref d) (.ref s.heap.objs.size)) _ _ {s with heap:=s.heap.push {cls:=.type "list",data:=.seq ([]:LW).toArray}};generalize s.heap.push {cls:=.type "list",data:=.seq ([]:LW).toArray}=a at*
 unfold Builtin.List.listExtendWith;refine zA (uX (s:={s with heap:=a}) (T:= "dict") (RawD.typeIs (s:={s with heap:=a}) q) ?_);have e1:Builtin.List.listSameRef (.ref s.heap.objs.size) (.ref d)=false:=by simp only[Builtin.List.listSameRef,beq_eq_false_iff_ne];exact yA (zY u)
 rw[zD (by rw[e1];decide)];refine zA (Tm (s:={s with heap:=a}) K q ?_);have p:RawD (a.push {cls:=.type "dict_keyiterator",data:=.fields #[.ref d,.int 0 0,.int es.size 0,.int ep 0]}) d es ep:=q.at λo e=>zC _ e;have J:(a.push {cls:=.type "dict_keyiterator",data:=.fields #[.ref d,.int 0 0,.int es.size 0,.int ep 0]}).IsKeyIter a.objs.size d 0 es.size ep:=⟨_,zS _ rfl,rfl,rfl⟩;have C:(a.push {cls:=.type "dict_keyiterator",data:=.fields #[.ref d,.int 0 0,.int es.size 0,.int ep 0]}).get? s.heap.objs.size=_:=zC _ R;have k2:∀b o,a.get? b=some o->(a.push {cls:=.type "dict_keyiterator",data:=.fields #[.ref d,.int 0 0,.int es.size 0,.int ep 0]}).get? b=some o:=λb o e=>zC _ e;generalize a.push {cls:=.type "dict_keyiterator",data:=.fields #[.ref d,.int 0 0,.int es.size 0,.int ep 0]}=f at*
 refine zA (xB ?_);unfold Builtin.List.listLengthHint;refine zA (wpAny_specialOf (s:={s with heap:=f}) (RawD.typeIs (s:={s with heap:=f}) p) Ti ?_);generalize hid:("dict.__len__" :String)=x
 (fail_if_success (clear hid x))
 wp_delta
 rw[show splitId x=some ("dict","__len__") from by subst hid;decide +kernel];subst hid;refine zA (vZ (b:=true) (RawD.typeIs (s:={s with heap:=f}) p) (by rw[isSubtype_type];kernel_rfl) ?_);refine zA (uX (s:={s with heap:=f}) (T:= "dict") (RawD.typeIs (s:={s with heap:=f}) p) ?_);refine zB ?_;rw[zF ∅];refine zA (wU ?_);refine zA ?_;show wpAny _ A.in1 (updateSeq s.heap.objs.size (·.push .none) >>= λ_=>updateSeq s.heap.objs.size (·.pop)) _ _ _;refine zA (wpAny_updateSeq C rfl ?_);have D:=wG (Obj.mapSeq (·.push Value.none)) C rfl;refine wpAny_updateSeq D rfl ?_;have N:=wG (Obj.mapSeq (·.pop)) D rfl;have S:d≠a.objs.size:=zY (by rw[t];exact qJ u);have G:s.heap.objs.size≠a.objs.size:=by rw[t];exact zY (vX _)
 have y:s.heap.objs.size≠d:=yA (zY u);have r:∀b o,b≠s.heap.objs.size->f.get? b=some o->((f.update s.heap.objs.size (Obj.mapSeq (·.push Value.none))).update s.heap.objs.size (Obj.mapSeq (·.pop))).get? b=some o:=
  λb o k e=>(vH _ _ (yA k)).trans ((vH _ _ (yA k)).trans e)
 have W:=(Tj (prog:=prog) (w:=w) (A:=A.in1) hh a.objs.size d S es ep).toS;refine zB ⟨qG PySem.F.plain_extend_loop _,codeAny_extend_loopS W O s.heap.objs.size (λc=>by rcases xI.mp c with z|z;exact G z;exact y (pS.mp z)) _ es.size 0 _ _ _ rfl (yB _)
  ⟨J.at λo e=>r _ _ (yA G) e,p.at λo e=>r _ _ (yA y) e⟩ N (ItemsOf.nil _) λm n X c L F=>?_⟩
 show wpAny _ A (load s.heap.objs.size >>= _) _ _ m;refine zA (wpAny_load L ?_);have M:n.toList=es.toList.map (·.key):=by
  refine List.ext_getElem? ?_
  intro j;rw[zI,yH,yH];cases hj:n[j]? with
  |some v=>exact(F.2 j v hj).symm
  |none =>
   have:n.size<=j:=Array.getElem?_eq_none_iff.mp hj;rw[Array.getElem?_eq_none (by rw[←F.1];exact this)];rfl
 show wpAny _ _ (pure n.toList) Q E m;rw[M];have T:m={s with heap:=m.heap,toks:=m.toks}:=by
  obtain⟨_,g,U,P,_⟩:=c;cases m;cases g;cases U;cases P;rfl
 rw[T];refine zB (h _ _ λb o e=>c.heap b o ?_ (r b o ?_ (k2 _ _ (k1 _ _ e))))
 ·have k:@LT.lt Nat _ b s.heap.objs.size:=zL e;intro c;rcases xI.mp c with z|z
  ·exact absurd z (zY k)
  ·rw[pS.mp z,t]at k;exact absurd k (Nat.not_lt.mpr (uN _))
 ·exact zY (zL e)
end
def Tg(K:Frag)(N:Nat):List V->Hp->VK->Prop:=λxs H Q=>∃(a:Addr)(kvs:List (PyData×V))(l0 l1:List PyData),xs=[.ref a]/\kvs.length<=N/\DTr K H a kvs/\(∀kv∈kvs,sm (.tuple (.tuple l1:: l0)) kv.1=true) /\
 ∀q(ps':List (V×PyData)) H',Same H H'->H q=none->H' q=some (.lst (ps'.map (·.1)))->(∀p∈ps',tT 4 p.2=true/\Dt K H p.1 p.2)->(ps'.map (·.2)).Perm (kvs.map (·.1))->Asc ps'->Q (.ref q) H'
section
variable {X:Cx}
theorem Tf{N:Nat}(Y:∀n,n<=N->cI X.prog X.w n)(a0:X.A.units+64<cLine)(M:X.calm=true):lK X (.builtin "sorted") (Tg X.K N):=by
 intro a5 s a4 H xs us Q I r h;obtain⟨a,kvs,f,l1,rfl,a7,g,c,q⟩:=h;obtain⟨u,rfl,U⟩:=jE r;cases U;obtain⟨xs,e,i,dd⟩:=fB I g;obtain⟨o,es,ep,O,a3,L,m,_⟩:=id dd;have a8:=g.len;have Z:RawD s.heap a es ep:=⟨o,O,a3,L⟩;have W:es.toList.map (·.key)=xs.map λx=>Value.ref x.2.1:=by rw[m,xK];rfl
 have pr:∀{kvs:List (PyData×V)}{xs:List (PyData×Addr×Value)},KP X.K H kvs xs->(∀d∈kvs,sm (.tuple (.tuple l1:: f)) d.1=true)->Paired (TV X.K H (.tuple (.tuple l1:: f))) (xs.map λx=>(V.ref x.2.1,x.1)) (xs.map λx=>Value.ref x.2.1)/\(xs.map (·.1))=kvs.map (·.1):=by
  intro kvs xs i
  induction i with
  |nil=>intro _;exact⟨.nil,rfl⟩
  |@cons p q ps b0 b a6 a1 =>
   intro c;obtain⟨T,F⟩:=a1 λd a2=>c d (.tail _ a2);have z:=c p (.head _);rw[b.1]at z;have y:=b.2.1.1;have l:=b.2.1.2;rw[b.1]at y l;refine⟨.cons ⟨rfl,y,z,l⟩ T,?_⟩;rw[zK,zK,F,b.1]
 obtain⟨w,t⟩:=pr i c;have b2:xs.length=kvs.length:=by have:=wH List.length t;simpa using this
 have le:es.size=xs.length:=by have:=wH List.length m;simpa using this
 refine Tn Y a0 (d0:=.tuple (.tuple l1:: f)) (its:=xs.map λx=>Value.ref x.2.1) (ps:=xs.map λx=>(V.ref x.2.1,x.1)) (by rw[yS];omega) (by rw[yS];omega) rfl w (λa9 b1 J=>?_) λD P H' S C R k as=>?_
 ·refine Th (I.ok.hd M) g.sys Z ⋯ λh' tk K=>?_;rw[W];exact J _ (I.kept (t':=tk) K)
 ·refine q D P H' S C R (λp G=>?_) ?_ as
  ·obtain⟨v,_,j⟩:=Paired.mem w p (k.mem_iff.mp G);exact⟨j.t,j.d⟩
  ·have:=k.map (·.2);rw[xK]at this;rw[←t];exact this
end
open Sem (wp)
theorem Te:typeLookup (.type "list") (Str.ofString "keys")=pure none:=am_miss_of_fast (by kernel_rfl)
theorem Td:typeLookup (.type "list") "__getattr__"=pure none:=by rw[typeLookup_type,builtinLookup_eq_fast];kernel_rfl
section
variable {prog:Program} {w:World} {A:Around} {E:VP} {h:Heap} {g:Array GenState} {d:Drawn} {t:Nat} {os:OsState} {a:Addr} {o:Obj}
theorem Tc{tk:Tok}{Q:PySem.Fin->Shared->Prop}(hh:A.handled=none)(c:h.get? a=some o)(b:o.cls=.type "list")(j:o.dict=none){xs:Array Value}{n:Nat}(i:o.data=.seq xs n)(f:∀h' tk e,Heap.NewAttrErr h h' e (.ref a) (Str.ofString "keys")->E (.ref e) ⟨h',g,d,tk,os⟩):
  wpAny (model prog w) A (Builtin.«object.__getattribute__» ⟨[.ref a,.str (Str.ofString "keys") tk],[]⟩) Q E ⟨h,g,d,t,os⟩:=by
 have k:(⟨h,g,d,t,os⟩:Shared).TypeIs (.ref a) "list" := ⟨_,c,b⟩;have l:=Te;unfold Builtin.«object.__getattribute__»
 repeat (any_goals (first|assumption|wp_step))
 rw[i];dsimp only;unfold instanceDict
 repeat (any_goals (first|assumption|wp_step))
 rw[b,j];dsimp only;simp only[Bool.not_false,Bool.true_or,if_true]
 repeat (any_goals (first|assumption|wp_step))
 exact wpAny_raiseAttrError hh f (attrMsg_fits (nofun) (by size_fits))
theorem Ta{Q:Option Value->Shared->Prop}(hh:A.handled=none)(c:h.get? a=some o)(f:o.cls=.type "list")(m:o.dict=none){xs:Array Value}{n:Nat}(l:o.data=.seq xs n)(j:∀h' tk,(∀b i,h.get? b=some i->h'.get? b=some i)->Q none ⟨h',g,d,tk,os⟩):
  wpAny (model prog w) A (getAttr? (.ref a) (Str.ofString "keys")) Q E ⟨h,g,d,t,os⟩:=by
 have k:∀t,(⟨h,g,d,t,os⟩:Shared).TypeIs (.ref a) "list" := λt=>⟨_,c,f⟩;have r:(⟨h,g,d,t+1,os⟩:Shared).TypeIs (.ref a) "list" := ⟨_,c,f⟩;have p:=sub_AttributeError;have z:=PySem.F.slot_list_getattribute.lookup;have q:=PySem.F.slot_list_getattribute.bind (.ref a);have y:=Td;unfold getAttr? getAttrBy?;refine zA (wpAny_mkText ?_);refine zA (vP ?_);unfold getAttrBy
 repeat (any_goals (first|assumption|((with_reducible show wpAny _ _ (call (Value.builtin "list.__getattribute__") _ _) _ _ _);refine xV PySem.F.slot_list_getattribute (k _) PySem.F.entry_list_ga (Tc hh c f m l λh' x e c=>?_) (PySem.F.args_list_getattribute_2 _ _))|wp_step))
 obtain⟨t',v,u⟩:=c.there
 repeat (any_goals (first|assumption|wp_step))
 exact j _ _ c.keeps
end
theorem aI:plainId "dict.update.loop"=true:=nofun
theorem Ij:entryFor table "dict.update.loop"=some Builtin.«dict.update.loop»:=entryFor_of_fast (by kernel_rfl)
structure Ent where
 p:Addr
 k:PyData
 b:Addr
 v:Value
def Ent.ok(h:Heap)(t:Ent):Prop:=(∃o n,h.get? t.p=some o/\o.cls=.type "tuple" /\ o.data=.seq #[.ref t.b,t.v] n)/\isT h t.k t.b
theorem Ent.up{h h':Heap}{d:Ent}(x:d.ok h)(a:∀b o,h.get? b=some o->o.cls=.type "tuple" -> h'.get? b=some o):d.ok h':=by
 obtain⟨⟨o,n,i,c,g⟩,e,as,f⟩:=x;exact⟨⟨o,n,a _ _ i c,c,g⟩,e,as,Cv a 4 e f⟩
def putP(xs:List (PyData×Addr×Value))(t:Ent):List (PyData×Addr×Value):=storedH xs t.k t.b t.v
theorem Uz(xs:List (PyData×Addr×Value))(k:PyData)(b:Addr)(v:Value):(storedH xs k b v).length<=xs.length+1:=by
 unfold storedH;split <;> simp
section
variable {prog:Program} {w:World} {A:Around} {R:Result->Shared->Prop} {d it l:Addr} {items:Array Value}
theorem Ii(hh:A.handled=none)(b5:A.units+32<cLine)(t:d≠it)(T:d≠l)(S:l≠it):
  ∀(rest:List Ent)(i:Nat)(xs:List (PyData×Addr×Value))(s:Shared),(∀j,items[i+j]?=rest[j]?.map λa=>Value.ref a.p)->s.heap.IsListIter it l i->s.heap.IsList l items->s.heap.DictOfH (kD prog w) d xs->(∀a∈rest,a.ok s.heap)->xs.length+rest.length<=sizeLine ->
  (∀h' tk,(∀b o,b≠it->b≠d->s.heap.get? b=some o->h'.get? b=some o)->h'.DictOfH (kD prog w) d (rest.foldl putP xs)->R (.ok (.ret .none)) {s with heap:=h',toks:=tk}) ->
  codeAny (model prog w) A (.builtin "dict.update.loop" ⟨[.ref d,.ref it,.int i 0,.none],[]⟩) R s
 | [],i,xs,s,q,m,hl,D,_,_,G=>by
  refine tV Ij ?_;rw[tL aI _];show wpAny _ A.in1 (pyNext (.ref it) >>= _) _ _ s;refine zA (wpAny_pyNext_list_end (i:=i) hh m hl (by simpa using q 0) λh' C=>?_);show wpAny _ _ (Builtin.Dict.addKeywords d [] >>= _) _ _ _;refine zA (zB (zB ?_));obtain⟨o,es,ep,c,K⟩:=D;exact G h' s.toks (λb o U _ e=>C b o U e) ⟨o,es,ep,C d o t c,by
   obtain⟨f,v,J,I,u⟩:=K;refine⟨f,v,J,λx F=>?_,u⟩;obtain⟨a,as,r⟩:=I x F;refine⟨a,as,Cv (λb o e g=>C b o (λz=>?_) e) 4 a r⟩;obtain⟨a3,e1,b4,_⟩:=m;rw[z,e1]at e;cases e;rw[b4]at g;simp at g⟩
 | a:: rest,i,xs,s,q,m,hl,D,a2,N,G=>by
  refine tV Ij ?_;rw[tL aI _];show wpAny _ A.in1 (pyNext (.ref it) >>= _) _ _ s;have a4:items[i]?=some (.ref a.p):=by simpa using q 0
  refine zA (wpAny_pyNext_list_item (i:=i) m hl a4 λc a6 n=>?_);obtain⟨a3,Z,W,_⟩:=id m;have M:∀b o,s.heap.get? b=some o->o.cls=.type "tuple" -> c.get? b=some o:=λb o e g=>(n.2 b (λz=>by rw[z,Z]at e;cases e;rw[W]at g;simp at g)).trans e;have L:c.DictOfH (kD prog w) d xs:=by
   obtain⟨o,es,ep,k,f,v,J,I,u⟩:=D;exact⟨o,es,ep,(n.2 d t).trans k,f,v,J,λx F=>let ⟨a,as,r⟩:=I x F;⟨a,as,Cv M 4 a r⟩,u⟩
  have a1:c.IsList l items:=by
   obtain⟨o,k,f⟩:=hl;exact⟨o,(n.2 l S).trans k,f⟩
  have P:∀t'∈a:: rest,t'.ok c:=λt' y=>Ent.up (a2 t' y) M;obtain⟨⟨op,c1,O,a8,b7⟩,X⟩:=P a (.head _);refine zA (xB ?_);have b0:xs.length<=sizeLine:=by
   have:=N;simp only[List.length_cons]at this;omega
  refine zA (wpAny_tryCatch ?_);unfold Builtin.Dict.pairItems;refine zA (uX (s:={s with heap:=c}) (T:= "tuple") ⟨op,O,a8⟩ ?_);rw[zF ∅];refine zA (wJ (s:={s with heap:=c}) O b7 (zB ?_));show wpAny _ A.in1 (holding [.ref a.b,a.v] (dictSet d (.ref a.b) a.v)) _ _ _;refine xB ?_;refine wpAny_dictSet_heap (knd:=kD prog w) (s:={s with heap:=c}) (hsz:=b0) (show A.units+1+8<cLine by omega) X L λK a5 p=>?_;obtain⟨b9,c0,b8,a7,V,c2,_⟩:=id L;have b3:∀b o,c.get? b=some o->o.cls=.type "tuple" -> K.get? b=some o:=λb o e g=>(p.2 b (λz=>by rw[z,a7]at e;cases e;rw[V.1]at g;simp at g)).trans e;refine zB ⟨qG aI _,?_⟩;have b6:(rawInt ((i:Int)+1))=.int ((i+1:Nat):Int) 0:=rfl;rw[b6];refine Ii hh b5 t T S rest (i+1) (storedH xs a.k a.b a.v) _ (λj=>?_) ?_ ?_ a5 (λt' y=>Ent.up (P t' (.tail _ y)) b3) ?_ λa0 Y k3 a9=>?_
  ·have:=q (j+1);rw[List.getElem?_cons_succ]at this;rw[←this];congr 1;omega
  ·obtain⟨o,k,f⟩:=a6;exact⟨o,(p.2 it (yA t)).trans k,f⟩
  ·obtain⟨o,k,f⟩:=a1;exact⟨o,(p.2 l (yA T)).trans k,f⟩
  ·have:=Uz xs a.k a.b a.v;have:=N;simp only[List.length_cons]at this;omega
  ·exact G a0 Y (λb o b1 b2 e=>k3 b o b1 b2 ((p.2 b b2).trans ((n.2 b b1).trans e))) a9
end
section
variable {prog:Program} {w:World} {A:Around} {E:VP} {s:Shared} {l:Addr}
theorem Uy{Q:VP}{es:List Ent}{o:Obj}{n:Nat}(hh:A.handled=none)(V:A.units+48<cLine)(d:s.heap.get? l=some o)(f:o.cls=.type "list")(O:o.dict=none)(i:o.data=.seq (es.map λc=>Value.ref c.p).toArray n)(N:∀c∈es,c.ok s.heap)(P:es.length<=sizeLine)
  (h:∀h' tk,(∀b o,s.heap.get? b=some o->h'.get? b=some o)->h'.DictOfH (kD prog w) s.heap.objs.size (es.foldl putP [])->Q (.ref s.heap.objs.size) {s with heap:=h',toks:=tk}):
  wpAny (model prog w) A (call (.type "dict") [.ref l]) Q E s:=by
 have z:@LT.lt Nat _ l s.heap.objs.size:=zL d;refine callType_codes (Q₁:=λu v=>u=.ref s.heap.objs.size/\v={s with heap:=s.heap.push {cls:=.type "dict",data:=.dict #[]}}) PySem.F.kt_called_dict (PySem.F.kt_typeCall_dict_1 _) PySem.F.entry_dict_init (kt_code_dict_new _ ⟨rfl,rfl⟩) ?_;rintro u v ⟨rfl,rfl⟩;have m:(s.heap.push {cls:=.type "dict",data:=.dict #[]}).DictOfH (kD prog w) s.heap.objs.size []:=Heap.DictOfH.new s.heap;have k1:∀b o,s.heap.get? b=some o->(s.heap.push {cls:=.type "dict",data:=.dict #[]}).get? b=some o:=λb o e=>zC _ e;have W:(s.heap.push {cls:=.type "dict",data:=.dict #[]}).objs.size=s.heap.objs.size+1:=size_push' _ _;generalize s.heap.push {cls:=.type "dict",data:=.dict #[]}=k at*
 have y:=Heap.DictOfH.typeIs (s:={s with heap:=k}) m;refine⟨y,PySem.F.args_dict_init_2 _ _,?_⟩;unfold Builtin.«dict.__init__»;refine zA ?_;unfold Builtin.Dict.selfAndRest;refine zA (wpAny_notOrdered_dict y ?_);show wpAny _ _ (pure (s.heap.objs.size,[Value.ref l])) _ _ _;refine zB ?_;show wpAny _ _ (Builtin.Dict.updateFrom "dict.__init__" s.heap.objs.size (.ref l) [] .none) _ _ {s with heap:=k};unfold Builtin.Dict.updateFrom;refine zA (uX (s:={s with heap:=k}) (T:= "list") ⟨o,k1 _ _ d,f⟩ ?_);rw[zF ∅];refine zA (Ta (A:=A.in1.in1) hh (k1 _ _ d) f O i λa t k2=>?_);rw[zF (by rfl)];refine zA (wU ?_);have I:a.IsList l (es.map λc=>Value.ref c.p).toArray:=⟨o,k2 _ _ (k1 _ _ d),f,n,i⟩;refine zA (sJ (s:={s with heap:=a,toks:=t}) I ?_);have p:s.heap.objs.size+1<=a.objs.size:=by
  obtain⟨C,_,_,e,_⟩:=id m;exact(show @LT.lt Nat _ s.heap.objs.size a.objs.size from zL (k2 _ _ e))
 have k3:∀b o,a.get? b=some o->(a.push {cls:=.type "list_iterator",data:=.fields #[.ref l,.int 0 0]}).get? b=some o:=λb o e=>zC _ e;have R:(a.push {cls:=.type "list_iterator",data:=.fields #[.ref l,.int 0 0]}).IsListIter a.objs.size l 0:=⟨_,zS _ rfl,rfl,rfl⟩;show wpAny _ _ _ _ _ {s with heap:=a.push {cls:=.type "list_iterator",data:=.fields #[.ref l,.int 0 0]},toks:=t};generalize a.push {cls:=.type "list_iterator",data:=.fields #[.ref l,.int 0 0]}=L at*
 have g:∀b o,s.heap.get? b=some o->L.get? b=some o:=λb o e=>k3 _ _ (k2 _ _ (k1 _ _ e));refine zA (zB ?_);refine zB ⟨qG aI _,?_⟩;refine Ii (A:=A.in1) (items:=(es.map λc=>Value.ref c.p).toArray) hh (by show A.units+1+32<cLine;omega) (zY (zJ (vX _) p)) (yA (zY z)) (zY (zJ (qJ z) p)) es 0 [] _ (λj=>by simp) R
  ⟨o,g _ _ d,f,n,i⟩ ?_ (λc S=>Ent.up (N c S) λb o e _=>g b o e) (by simpa using P) λG F T D=>?_
 ·obtain⟨C,U,ep,e,r⟩:=id m;obtain⟨r1,r2,M,_,K⟩:=r;exact⟨C,U,ep,k3 _ _ (k2 _ _ e),r1,r2,M,λx J=>(nomatch J),K⟩
 ·refine⟨rfl,h G F (λb o e=>?_) D⟩;have q:@LT.lt Nat _ b s.heap.objs.size:=zL e;exact T b o (zY (zJ (qJ q) p)) (zY q) (g _ _ e)
end
def Ux(K:Frag):List V->Hp->VK->Prop:=λxs H Q=>∃(l:Addr)(ts:List (Addr×PyData×Addr×V)),xs=[.ref l]/\SqL K H l (ts.map λt=>V.ref t.1)/\(∀t∈ts,SqT K H t.1 [.ref t.2.2.1,t.2.2.2]/\tT 4 t.2.1=true/\Dt K H (.ref t.2.2.1) t.2.1)/\(ts.map (·.2.1)).Nodup /\
 ∀D H',Same H H'->H D=none->DTr K H' D (ts.map λt=>(t.2.1,t.2.2.2))->Q (.ref D) H'
theorem Uw{kvs:List (PyData×V)}{k:PyData}(h:k∉kvs.map (·.1)):vT kvs k=none:=by
 induction kvs with
 |nil=>rfl
 |cons p r a =>
  rw[zK,xI,not_or]at h;rw[gZ (λe=>h.1 e.symm)];exact a h.2
section
variable {X:Cx}
theorem Uv(b2:X.A.units+64<cLine)(P:X.calm=true):lK X (.type "dict") (Ux X.K):=by
 intro a7 s a5 H xs us Q I r h;obtain⟨l,ts,rfl,O,b,y,q⟩:=h;obtain⟨u,rfl,W⟩:=jE r;cases W;obtain⟨its,Z,⟨o,b0,e,c,a4,dd⟩,v⟩:=I.list O;have mk:∀(ts:List (Addr×PyData×Addr×V))(its:LW),Vals (ts.map λa=>V.ref a.1) its->(∀a∈ts,SqT X.K H a.1 [.ref a.2.2.1,a.2.2.2]/\tT 4 a.2.1=true/\Dt X.K H (.ref a.2.2.1) a.2.1) ->
   ∃es:List Ent,its=es.map (λa=>Value.ref a.p)/\Paired (λa(e:Ent)=>e.k=a.2.1/\e.b=a.2.2.1/\RelV a.2.2.2 e.v/\e.ok s.heap) ts es:=by
  intro ts
  induction ts with
  |nil=>intro its r _;cases r;exact⟨[],rfl,.nil⟩
  | cons a ts m =>
   intro its r b;cases r with
   | cons r1 r2 =>
    obtain⟨es,e1,g⟩:=m _ r2 λx j=>b x (.tail _ j);obtain⟨d,p,k⟩:=b a (.head _);obtain⟨a9,a1,⟨op,M,C,S,a0⟩,_⟩:=I.tuple d;cases a1 with
    | cons J n =>
     cases n with
     |cons n w =>
      cases w;cases J;cases r1;rename_i v2;refine⟨⟨a.1,a.2.1,a.2.2.1,v2⟩:: es,by rw[zK,←e1],.cons ⟨rfl,rfl,n,⟨op,S,M,C,a0⟩,fA I p k⟩ g⟩
 obtain⟨es,e1,g⟩:=mk ts its Z b;subst e1;have T:ts.length=es.length:=mE g;refine Uy (es:=es) (I.ok.hd P) ⋯ e c a4 (by rw[dd]) (λa i=>?_) (by rw[←T];simpa using v) λh' tk N D=>?_
 ·obtain⟨_,_,z⟩:=Ct g a i;exact z.2.2.2
 have Y:∀(ts:List (Addr×PyData×Addr×V))(es:List Ent),Paired (λa(e:Ent)=>e.k=a.2.1/\e.b=a.2.2.1/\RelV a.2.2.2 e.v/\e.ok s.heap) ts es->(∀a∈ts,tT 4 a.2.1=true/\Dt X.K H (.ref a.2.2.1) a.2.1)->∀(kvs:List (PyData×V))(xs:List (PyData×Addr×Value)),KP X.K H kvs xs->(kvs.map (·.1)++ts.map (·.2.1)).Nodup->KP X.K H (kvs++ts.map λa=>(a.2.1,a.2.2.2)) (es.foldl putP xs):=by
  intro ts es pr
  induction pr with
  |nil=>intro _ kvs xs f _;rw[rG,wM];exact f
  | @cons a e ts es K _ m =>
   intro b kvs xs f nd;obtain⟨d,p,k,_⟩:=K;have st:=f.put a.2.1 (b a (.head _)).1 (b a (.head _)).2 k;have R:a.2.1∉kvs.map (·.1):=λa2=>by
    have:=(qL.mp nd).2.2 _ a2 a.2.1 (by simp);exact this rfl
   have ep:pT kvs a.2.1 a.2.2.2=kvs++[(a.2.1,a.2.2.2)]:=by
    unfold pT;rw[Uw R];rfl
   rw[ep,←d,←p]at st;have:=m (λx j=>b x (.tail _ j)) _ _ st (by rw[xD,yI];simpa [d]using nd);rw[yI]at this;rw[d]at this;show KP X.K H _ (List.foldl putP (storedH xs e.k e.b e.v) es);rw[d];exact this
 have f:=Y ts es g (λa i=>(b a i).2) [] [] .nil (by simpa using y);rw[List.nil_append]at f;obtain⟨a8,a6,b1,U,F,a3,L,_,G⟩:=D;have t:H s.heap.objs.size=none:=I.hok.fresh (zE _);have sm:Same H (upd H s.heap.objs.size (mH s.heap.objs.size (es.foldl putP []))):=Same.new t;refine⟨.ref s.heap.objs.size,_,I.laid (a:=s.heap.objs.size) (o:=mH s.heap.objs.size (es.foldl putP [])) (t':=tk) N (zE _) (bX U F a3 L),rfl,?_⟩;refine q _ _ sm t ⟨by rw[yS];simpa using v,pY.mpr (yA (zY (Bp I))),_,oP,G,f.keeps (lP sm)⟩
end
open Classical in
structure FunD(K:Frag)(x qual:Str)(st:Stmt)(f:Addr)(fd:FuncData)(ds:LW):Prop where
 ex:∃(oc:Value)(od:Option Addr)(T:Addr)(kV doc pm:Value)(an:Option Addr)(cdv ct:Value)(osl:Array (Option Value)),
  fd=PySem.W.fnOf x qual (jR st) (kH st) (oR st) (.ref T) kV doc pm an cdv ct/\K.lookup f=some ⟨oc,od,.func fd,osl⟩/\PySem.W.codeIn K cdv qual=true/\∃(o2:Value)(d2:Option Addr)(n2:Nat)(s2:Array (Option Value)),K.lookup T=some ⟨o2,d2,.seq ds.toArray n2,s2⟩
 kp:PySem.W.keepIn K (.ref f)=true
section
variable {P:Program} {w:World} {K:Frag} {mg:MT} {base:Heap}
theorem FunD.binds{x e:Str}{st:Stmt}{f:Addr}{g:FuncData}{ps:List Str}{ds:LW}(F:FunD K x e st f g ds)
  (h:∀(T:Addr)(kV c d:Value)(b:Option Addr)(cdv a:Value)(us:LW),us.length+ds.length=ps.length->∃k,bindArgs (PySem.W.fnOf x e (jR st) (kH st) (oR st) (.ref T) kV c d b cdv a) ⟨us,[]⟩=seqItems? (.ref T) >>= k/\k (some ds.toArray)=pure (ps.zip (us++ds))):nZ K g ps ds:=by
 obtain⟨u,r,T,kV,c,d,b,cdv,a,l,rfl,q,t,p,o,m,n,lt⟩:=F.ex;intro s us j hl;obtain⟨k,e1,i⟩:=h T kV c d b cdv a us (by simpa using hl);exact BindsTo.of_defaults (T:=T) rfl (j _ _ lt) rfl e1 i
theorem FunD.bindsA{x e:Str}{st:Stmt}{f:Addr}{g:FuncData}{ps:List Str}{ds:LW}(F:FunD K x e st f g ds)
  (h:∀(T:Addr)(kV c d:Value)(b:Option Addr)(cdv a:Value)(us:LW),us.length=ps.length->∃k,bindArgs (PySem.W.fnOf x e (jR st) (kH st) (oR st) (.ref T) kV c d b cdv a) ⟨us,[]⟩=seqItems? (.ref T) >>= k/\k (some ds.toArray)=pure (ps.zip us)):nZ K g ps []:=by
 obtain⟨u,r,T,kV,c,d,b,cdv,a,l,rfl,q,t,p,o,m,n,lt⟩:=F.ex;intro s us j hl;rw[wM]at hl ⊢;obtain⟨k,e1,i⟩:=h T kV c d b cdv a us hl;exact BindsTo.of_defaults (T:=T) rfl (j _ _ lt) rfl e1 i
theorem Uu{x a:Str}{st:Stmt}{f T:Addr}{q p:Value}{o n d:Option Addr}{i m:Array (Option Value)}{kV e g cdv b:Value}{ds:LW}{j:Nat}(l:K.lookup f=some ⟨q,o,.func (PySem.W.fnOf x a (jR st) (kH st) (oR st) (.ref T) kV e g d cdv b),i⟩)
  (c:PySem.W.codeIn K cdv a=true)(k:PySem.W.keepIn K (.ref f)=true)(l2:K.lookup T=some ⟨p,n,.seq ds.toArray j,m⟩):FunD K x a st f (PySem.W.fnOf x a (jR st) (kH st) (oR st) (.ref T) kV e g d cdv b) ds:=⟨⟨q,o,T,kV,e,g,d,cdv,b,i,rfl,l,c,p,n,j,m,l2⟩,k⟩
end
end L2
namespace PySem
section
variable {prog:Program} {w:World} {A:Around} {E:VP} {h:Heap} {g:Array GenState} {d:Drawn} {t:Nat} {os:OsState}
variable {nm q:Str} {C N:Addr} {bs bm bmB:LW} {hdct:Bool} {sn:List Str} {sub:LW} {ab:Bool} {col:Option Bool} {dd:Option Addr} {k0 k1 k2 k3 k5:Option Value} {B newId initId:String}
abbrev xTup(us:LW):Obj:={cls:=.type "tuple",data:=.seq us.toArray}
abbrev xExc(C t:Addr)(dx:Option Addr):Obj:={cls:=.ref C,dict:=dx,data:=.fields #[.ref t,.none,.none,.none,.bool false,.none]}
abbrev gE(h:Heap)(C:Addr)(us:LW):Heap:=(h.push (xTup us)).push (xExc C h.objs.size none)
theorem Ut(F:ExcBaseFacts B newId initId bmB)(T:OwnTail h bmB bm){mN:MT}{us:LW}{f:Addr}{j:Obj}{Q:Fin->Shared->Prop}
  (a:h.get? C=some (excClassObj nm q C N bs bm hdct sn sub ab col dd k0 k1 k2 k3 k5 newId))(n:h.Ns N mN)(hi:mN "__init__"=some (.ref f))(D:h.get? f=some j)(G:j.cls=.type "function")(v:us.length<=sizeLine)
  (y:wpAny (model prog w) A (call (.ref f) (.ref (h.objs.size+1):: us)) (λr k=>r=.none/\Q (.done (.ret (.ref (h.objs.size+1)))) k) E ⟨gE h C us,g,d,t,os⟩):
  wpAny (model prog w) A (Builtin.«type.__call__» ⟨.ref C:: us,[]⟩) Q E ⟨h,g,d,t,os⟩:=by
 repeat (first|with_reducible refine uP a ?_|with_reducible refine wpAny_madeBy_exc a ?_|wp_step)
 refine codeAny_call_builtin_code (rX _ F.quiet) (wpAny_check_new_subT F T a (codeAny_exc_new_subT F T a ?_ v));show wpAny _ _ _ _ _ _;have c:∀b o,h.get? b=some o->(gE h C us).get? b=some o:=λb o e=>zC _ (zC _ e);have i:=c _ _ a;have z:=c _ _ D;have l:=n.keeps c;have m:(gE h C us).get? (h.objs.size+1)=some (xExc C h.objs.size none):=by heap_get
 have I:(Value.ref C:: bm).contains (.ref C)=true:=by simp
 have u:=T.keeps c;unfold isInstance
 repeat (first|with_reducible refine uP m ?_|(with_reducible refine wpAny_isSubtype_exc i ?_;rw[I])|wp_step)
 show wpAny _ _ (typeLookup (.ref C) _) _ _ _;refine wpAny_typeLookup_tail i l u F.mroIs F.init.lookup ?_;rw[hi];refine xB (zA ?_);unfold bindSpecial;refine zA (uX (T:= "function") ⟨_,z,G⟩ ?_);rw[zF ∅];refine zB (zA (yU y (λr k hr=>?_) λ_ _ x=>x));obtain⟨rfl,p⟩:=hr
 wp_walk
 exact p
theorem Us(F:ExcBaseFacts B newId initId bmB)(T:OwnTail h bmB bm){mN:MT}{us:LW}{b:Addr}{c:Obj}{Q:VP}
  (a:h.get? C=some (excClassObj nm q C N bs bm hdct sn sub ab col dd k0 k1 k2 k3 k5 newId))(e:h.Ns N mN)(hi:mN "__init__"=some (.ref b))(j:h.get? b=some c)(k:c.cls=.type "function")(f:us.length<=sizeLine)
  (i:wpAny (model prog w) (A.under (.builtin "type.__call__" ⟨.ref C:: us,[]⟩)) (call (.ref b) (.ref (h.objs.size+1):: us)) (λr l=>r=.none/\Q (.ref (h.objs.size+1)) l) E ⟨gE h C us,g,d,t,os⟩):
  wpAny (model prog w) A (call (.ref C) us) Q E ⟨h,g,d,t,os⟩:=by
 have m:=tc_lookup;have o:=tc_bind (.ref C);have n:(⟨h,g,d,t,os⟩:Shared).TypeIs (.ref C) "type" := ⟨_,a,rfl⟩;refine tI (codeAny_of_tree ?_);show wpAny _ _ (callAny (.ref C) _) _ _ _
 repeat (any_goals (first|assumption|with_reducible refine uP a ?_|wp_step))
 refine⟨rfl,codeAny_call_builtin_at (rX _ (nofun)) entry_typeCall (wpAny_check_type_call_sub a (Ut F T a e hi j k f ?_))⟩;exact i
theorem Ur{env:Env}{s:Shared}{x:Sem Value}{Q:Flow->Shared->Prop}(f:bm.contains (.type "BaseException")=true)(hh:A.handled=none){M:Model}
  (h:wpAny M A x (λv a=>∃e t c,v=.ref e/\a.heap.get? C=some (excClassObj nm q C N bs bm hdct sn sub ab col dd k0 k1 k2 k3 k5 newId)/\a.heap.get? e=some (xExc C t c)/\E (.ref e) a) E s):
  wpAny M A (raiseStmt env (some x) none) Q E s:=by
 have j:(Value.ref C:: bm).contains (.type "BaseException")=true:=by rw[List.contains_cons,f,Bool.or_true]
 unfold raiseStmt;refine zA (yU h (λv a i=>?_) λ_ _ x=>x);obtain⟨e,t,c,rfl,b,l,k⟩:=i;obtain⟨m,g,d,tk,os⟩:=a
 repeat (first|with_reducible refine uP l ?_|with_reducible refine uP b ?_|(with_reducible refine wpAny_isSubtype_exc b ?_;rw[j])|wp_step)
 exact wpAny_raiseNew_none hh k
end
end PySem
namespace L2
open PySem PySem.Spec PyProof.Rows
open PySem.W (Frag)
def XObj(e C:Addr)(b:Bool):HO:=.ext λh=>∃t dx,h.get? e=some (xExc C t dx)/\(b=true->dx=none)
theorem Cs{P:Program}{w:World}{H:Hp}{h:Heap}{e C c:Addr}{a:Option Addr}{b:Bool}(q:h.get? e=some (xExc C c a))(d:b=true->a=none):nO P w H h e (XObj e C b):=⟨⟨c,a,q,d⟩,⟨_,q⟩,λ_ _⟨c,a,z,y⟩k=>⟨c,a,k _ z,y⟩⟩
def rmv(H:Hp)(e:Addr):Hp:=λb=>if b=e then none else H b
theorem gF{H:Hp}{e b:Addr}(h:b≠e):rmv H e b=H b:=zD h
theorem Cr{H:Hp}{e:Addr}:rmv H e e=none:=zF rfl
theorem Uq{H:Hp}{e:Addr}{o:HO}(h:H e=some o):upd H e o=H:=by
 funext b
 by_cases q:b=e
 ·rw[q,oP,h]
 ·exact oT q
section
variable {X:Cx} {pins:PN} {σ:St} {H:Hp} {s:Shared} {e C:Addr} {b0:Bool}
theorem Inv.untrack(I:Inv X pins σ H s)(k:H e=some (XObj e C b0)):Inv X pins σ (rmv H e) s:=by
 have u:=I.base;have j:∀{b o},rmv H e b=some o->b≠e/\H b=some o:=λ{b o}z=>by
  by_cases q:b=e
  ·rw[q,Cr]at z;cases z
  ·rw[gF q]at z;exact⟨q,z⟩
 have f:∀{b o},H b=some o->o≠XObj e C b0->b≠e:=λ{b o}z d q=>by rw[q,k]at z;exact d (zW z).symm
 have g:∀b,H b=none->rmv H e b=none:=λb z=>by
  by_cases q:b=e
  ·rw[q,Cr]
  ·rw[gF q];exact z
 refine⟨I.ok,I.os,I.bare,⟨u.keep,u.slot,λb o q n i=>g _ (u.free b o q n i),u.there,λb xs q=>?_,λb o v q=>?_,λb ps q=>?_⟩,I.loc,I.cell,g _ I.free,λx c q=>g _ (I.freeC x c q),λp l=>?_,λa o q=>?_,I.len⟩
 ·have:=u.tups b xs q;rw[gF (f this (by intro z;cases z))];exact this
 ·have:=u.frzs b o v q;rw[gF (f this (by intro z;cases z))];exact this
 ·obtain⟨m,e1⟩:=u.tbls b ps q;exact⟨m,by rw[gF (f e1 (by intro z;cases z))];exact e1⟩
 ·obtain⟨e1,t,r⟩:=I.pin p l;exact⟨e1,g _ t,r⟩
 ·obtain⟨_,w⟩:=j q;exact(I.hok a o w).stay (λ_ _ _ z=>z) (λb z=>by rw[gF (f z (by intro z;cases z))];exact z) λb xs z=>by rw[gF (f z (by intro z;cases z))];exact z
end
def Ih(X:Cx)(EX:XE):Prop:=∀(pins:PN)(σ:St)(H:Hp)(s:Shared)(e C t:Addr)(dx:Option Addr),Inv X pins σ H s->H e=none->X.s₀.heap.get? e=none->s.heap.get? e=some (xExc C t dx)->EX σ (.ref C) H->X.xe (.ref e) s
section
variable {P:Program} {w:World} {K:Frag} {mg:MT} {base:Heap} {N:List Str} {qual:Str} {scope:Scope} {f:Addr} {cd:Value} {A:Around} {outer:List Env} {s₀:Shared} {H₀:Hp} {E:XK}
theorem Uo:Ih (cxOf (CX1 P w) P w K mg base N qual scope f cd A outer s₀ H₀ E) (λ_ C H=>E C none H):=by
 intro J G H s e C n M I i x m y;have p:=PySem.W.funFrames_hide (as:=e:: frs (cxOf (CX1 P w) P w K mg base N qual scope f cd A outer s₀ H₀ E).stack) I.stack (λenv d a F=>.tail _ (oE.mpr ⟨env,d,F⟩));refine wpAny_leaving_firstW (a0:=.ref n) I.ok.frames p rfl m (λb o q=>rZ _ q) (rD _ (.head _)) rfl rfl rfl λh' l=>?_;obtain⟨g,⟨_,_,t⟩,j,D⟩:=l;obtain⟨un,ok,r⟩:=bJ I rfl rfl rfl g D λb o q k u=>rQ _ q λd=>by
  rcases xI.mp d with z|z
  ·subst z;rcases u with⟨L,c⟩|⟨v,c⟩
   ·rw[x]at c;cases c
   ·rw[i]at c;cases c
  ·exact k z
 exact⟨e,.ref C,H,_,_,rfl,I.os,I.bare,un,ok,⟨g,rD _ (.head _),t,j⟩,r,y⟩
end
def aJ(K:Frag)(C:Addr)(bmB:LW)(newId:String)(f:Addr):Bool:=
 (K.lookup f).any (λo=>o.cls == .type "function") &&
 (K.lookup C).any λob=>match ob with
  |⟨.type "type",_,.cls c1,sl⟩=>(match c1.mro,sl.toList with
   |.ref C1:: bm,[_,_,_,_,some (.builtin nw),_]=>C1 == C && nw == newId && !c1.hasDel && PySem.W.tailIn K bmB bm && PySem.W.nsOkIn K c1.ns && PySem.W.nsIn K c1.ns "__init__" == some (some (.ref f))
   |_,_=>false)
  |_=>false
theorem Um{K:Frag}{h:Heap}{N:Addr}{x:Str}{v:Value}(X:K.In h)(b:h.Ns N (h.nsMap N))(e:PySem.W.nsIn K N x=some (some v)):h.nsMap N x=some v:=by
 obtain⟨o,es,ep,a,i,_,f⟩:=b;unfold PySem.W.nsIn at e;split at e
 ·rename_i c d k j l q;have:=X _ _ q;rw[a]at this;cases this;cases i;split at e
  ·rename_i g;cases e;rw[←f];unfold nsFind findBy;rw[←Array.find?_toList,g];rfl
  ·split at e <;> cases e
 ·cases e
theorem Ig{K:Frag}{h:Heap}{C f:Addr}{j:LW}{newId:String}(KX:K.In h)(k:aJ K C j newId f=true):
  ∃bm N nm e bs c sn sub ab col dd k0 k1 k2 k3 k5 mN b,h.get? C=some (excClassObj nm e C N bs bm c sn sub ab col dd k0 k1 k2 k3 k5 newId)/\h.Ns N mN/\mN "__init__"=some (.ref f)/\OwnTail h j bm/\h.get? f=some b/\b.cls=.type "function" := by
 unfold aJ at k;obtain⟨d,a⟩:=Bool.and_eq_true_iff.mp k;obtain⟨b,t,d⟩:=sV d;obtain⟨G,q,a⟩:=sV a;split at a
 ·next dd o i =>
  split at a
  ·next x bm k0 k1 k2 k3 n k5 v es =>
   simp only[Bool.and_eq_true,beq_iff_eq,Bool.not_eq_true']at a;obtain⟨⟨⟨⟨⟨e1,D⟩,y⟩,m⟩,g⟩,z⟩:=a;subst e1 D;cases o with
   | mk nm bs F ns e c sn sub ab col u =>
    have w:F=Value.ref x:: bm:=v;have p:u=false:=y;subst w p;have r:i=#[k0,k1,k2,k3,some (Value.builtin n),k5]:=by
     cases i with
     |mk l=>exact wH Array.mk es
    subst r;exact⟨bm,ns,nm,e,bs,c,sn,sub,ab,col,dd,k0,k1,k2,k3,k5,_,b,KX _ _ q,pF (qB KX g),Um KX (pF (qB KX g)) z,PySem.W.tail_of_in KX m,KX _ _ t,pW.mp d⟩
  ·cases a
 ·cases a
section
variable {X:Cx} {CX:CXT} {EX:XE} {k:Nat} {C f:Addr} {fd:FuncData} {ps:List Str} {sp:Sp} {dvs:List V} {ds:LW} {x:Str} {np p cpos pos:Pos} {e e₀:Expr} {es rest:List Expr} {t:TA} {bmB:LW} {B newId initId:String}
def Ul(C:Addr)(sp:Sp)(EX:XE)(t:TA):TS:=λ_ σ H=>t σ H λvs H1=>vs.length<=sizeLine/\∀e,H1 e=none->sp (.ref e:: vs) (upd H1 e (XObj e C true)) (λv H2=>v=.non/\H2 e=some (XObj e C false)/\EX σ (.ref C) (rmv H2 e)) E0
theorem Uk(a7:X.calm=true)(a6:Ih X EX)(a4:Gl X x)(c0:X.mg x=some (.ref C))(a5:aJ X.K C bmB newId f=true)(G:ExcBaseFacts B newId initId bmB)(F:FnOk X.prog X.w X.K X.mg X.base CX k f fd ps sp)
  (hr:Room (k+1) X.A)(W:nZ X.K fd ps [])(b6:iF CX X E0)(b9:PA X (e₀:: rest) t)
  (Z:(x == ("__debug__" :Str))=false:=by decide)(K:starEach (e₀:: rest) X.env=(false,eval e₀ X.env):: starEach rest X.env:=by rfl)(a3:(backTo cpos (starEach rest X.env)).any (·.1)=false:=by rfl):
  PS X (.Raise (some (.Call (.Name x np) (e₀:: rest) [] cpos)) none pos) (Ul C sp EX t):=by
 intro i s g H D I h;obtain⟨bm,N,nm,q,bs,a2,sn,sub,ab,col,dd,k0,k1,k2,k3,k5,mN,c7,U,a9,a1,T,a0,a8⟩:=Ig I.mod.kin a5;have R:(backTo cpos (starEach (e₀:: rest) X.env)).any (·.1)=false:=by
  rw[K];show(false || (backTo cpos (starEach rest X.env)).any (·.1))=false;rw[a3];rfl
 rw[arm_exec_Raise];refine zA (wS (Ur (C:=C) (nm:=nm) (q:=q) (N:=N) (bs:=bs) (bm:=bm) (hdct:=a2) (sn:=sn) (sub:=sub) (ab:=ab) (col:=col) (dd:=dd) (k0:=k0) (k1:=k1) (k2:=k2) (k3:=k3) (k5:=k5) (newId:=newId) (T.hasType G.hasBase) (I.ok.hd a7)
  (zA (yU (wpAny_Call_ofName (iC I a4 c0 ?_ Z)) (λv c9 b8=>zA (wS (zB b8))) λ_ _ x=>x))))
 unfold callWith;have O:=b9 cpos i s g H _ I h;rw[K]at O R ⊢;refine zA (xB (yU (vU (Q:=λa c=>∃us,a=⟨us,[]⟩/\AP X i g _ us c) (thn O λus c8 z=>⟨us,rfl,z⟩)) (λa c c2=>zA (wS ?_)) λ_ _ x=>x));obtain⟨us,rfl,vs,c1,d,r,b2,b1⟩:=c2;simp only[R];have S:=d.bk _ _ U;have hl:us.length<=sizeLine:=by rw[←r.length];exact b2
 have M:=b1 (c.heap.objs.size+1) (d.hok.fresh (uN _));have b7:∀b o,c.heap.get? b=some o->(gE c.heap C us).get? b=some o:=λb o e=>zC _ (zC _ e);have Y:(gE c.heap C us).get? (c.heap.objs.size+1)=some (xExc C c.heap.objs.size none):=by
  have:=zS (c.heap.push (xTup us)) (o:=xExc C c.heap.objs.size none) rfl
  rwa[xR]at this
 have l:Inv X i g (upd c1 (c.heap.objs.size+1) (XObj (c.heap.objs.size+1) C true)) {c with heap:=gE c.heap C us}:=d.laid (t':=c.toks) b7 (uN _) (Cs Y λ_=>rfl);have r2:Vals (V.ref (c.heap.objs.size+1):: vs) (Value.ref (c.heap.objs.size+1):: us):=.cons rfl r;have b0:(Value.ref (c.heap.objs.size+1):: us++[]).length=ps.length:=by rw[wM,←r2.length];exact F.len _ _ _ _ M
 have P:=W {c with heap:=gE c.heap C us} (Value.ref (c.heap.objs.size+1):: us) l.kIn b0;rw[wM]at P;have run:=F.run _ X.stack _ _ ⟨Value.ref (c.heap.objs.size+1):: us,[]⟩ _ _ _ E0 (hr.make C us []) (l.env0.make C us []) P r2 M;obtain⟨d0,c3,c4,c5,c6⟩:=c;refine zA (wpAny_keeperOf_exc S ?_);refine zA (Us G (T.keeps d.bk) S (a9.keeps d.bk) a1 (d.bk _ _ a0) a8 hl (tI (uV run λb4 n j=>?_)));cases b4 with
 |error m=>exact b6 i g _ _ m n l j
 | ok fl =>
  cases fl with
  |ret u =>
   obtain⟨v,H',w,b3,m,y,b5⟩:=l.after j;subst m;refine⟨b3,zA (xB (wpAny_point (zB ?_)))⟩;obtain⟨⟨t',L,J,_⟩,_⟩:=(show nO X.prog X.w H' n.heap _ (XObj _ C false) from w.hok _ _ y);refine⟨_,t',L,rfl,w.bk _ _ U,J,a6 i g (rmv H' _) n _ C t' L (w.untrack y) Cr (Heap.get?_none_of_le (yG d.sz (uN _))) J b5⟩
  |next=>exact False.elim j
  |brk=>exact False.elim j
  |cont=>exact False.elim j
def Ie(C:Addr)(sp:Sp)(dvs:List V)(EX:XE)(t:TA):TE:=λσ H Q=>t σ H λvs H1=>∀x dx,H1 x=none->H1 dx=none->dx≠x ->
 sp (.ref x:: (vs++dvs)) (upd (upd H1 dx (.own x)) x (.ins C dx [])) (λv H2=>v=.non/\Q (.ref x) H2) λC' _ H'=>EX σ C' H'
theorem Uj{g:PN}{c:St}{H:Hp}{s:Shared}{Q:VK}{us:LW}{vs:List V}(M:Mk X.K C f)(F:FnOk X.prog X.w X.K X.mg X.base (CX1 X.prog X.w) k f fd ps sp)(hr:Room (k+1) X.A)(j:nZ X.K fd ps ds)(P:Vals dvs ds)
  (S:fP X EX)(N:X.ex=[])(I:Inv X g c H s)(r:Vals vs us)
  (h:∀x i,H x=none->H i=none->i≠x->sp (.ref x:: (vs++dvs)) (upd (upd H i (.own x)) x (.ins C i [])) (λv T=>v=.non/\Q (.ref x) T) λl _ H'=>EX c l H'):
  wpAny (model X.prog X.w) X.A (call (.ref C) us) (EP X g c Q) X.xe s:=by
 have y:=h (s.heap.objs.size+1) s.heap.objs.size (I.hok.fresh (uN _)) (I.hok.fresh (zE _)) (zY (vX _));have a:=Inv.made (C:=C) I;have r2:Vals (V.ref (s.heap.objs.size+1):: (vs++dvs)) (Value.ref (s.heap.objs.size+1):: (us++ds)):=.cons rfl (r.append P);have hl:(Value.ref (s.heap.objs.size+1):: us++ds).length=ps.length:=r2.length.symm.trans (F.len _ _ _ _ y);refine tI (Fr (f:=f) I.kIn M.makes M.init (pW.mp M.fn) (uV (F.run _ X.stack _ _ ⟨Value.ref (s.heap.objs.size+1):: us,[]⟩ (Value.ref (s.heap.objs.size+1):: (us++ds)) _ _ _ (hr.make C us [])
  (a.env0.make C us []) (j _ (Value.ref (s.heap.objs.size+1):: us) a.kIn hl) r2 y) λZ D d=>?_))
 cases Z with
 | error n =>
  obtain⟨e,l,H',a3,a0,rfl,a1,R,un,ok,fl,J,q⟩:=d;have G:Inv X g c H' D:=a.call' a1 un ok R λb z=>absurd z (by simp);refine S g c H' D e l G ⟨a3,a0,fl,λb o e1 j m=>J b o e1 j ?_,λp w=>?_⟩ q
  ·rcases m with⟨L,U⟩|m
   ·obtain⟨a4,a5⟩:=a.base.there b L U (by rw[N];simp);exact .inl ⟨a4,a5⟩
   ·exact .inr m
  ·obtain⟨e1,a7,O,a2,_⟩:=G.pin p w;refine J p.1 p.2 e1 (λa6=>?_) (.inl ⟨_,(a.pin p w).1⟩);rcases xI.mp (a.stkSub p.1 a6) with z|z
   ·exact O z
   ·exact a2 z
 | ok fl =>
  cases fl with
  |ret u =>
   obtain⟨v,H',W,Y,n,K⟩:=a.after d;subst n;exact⟨Y,⟨V.ref (s.heap.objs.size+1),H',W,rfl,K⟩⟩
  |next=>exact False.elim d
  |brk=>exact False.elim d
  |cont=>exact False.elim d
theorem Ui(M:Mk X.K C f)(F:FnOk X.prog X.w X.K X.mg X.base (CX1 X.prog X.w) k f fd ps sp)(hr:Room (k+1) X.A)(b:Gl X x)(m:X.mg x=some (.ref C))(d:nZ X.K fd ps ds)(u:Vals dvs ds)(i:fP X EX)
  (l:PA X (e:: es) t)(o:X.ex=[]:=by rfl)(j:(x == ("__debug__" :Str))=false:=by decide)(n:starEach (e:: es) X.env=(false,eval e X.env):: starEach es X.env:=by rfl)(v:(backTo pos (starEach es X.env)).any (·.1)=false:=by rfl):
  PE X (.Call (.Name x p) (e:: es) [] pos) (Ie C sp dvs EX t):=by
 intro g s c H Q I h;refine wI (iC I b m ?_ j);refine uH (h₀:=X.base) I.ok.mod.kin M.kp (thn (l pos g s c H _ I h) λus w⟨vs,y,a,r,q⟩=>⟨a.kIn,?_⟩) n v;exact Uj M F hr d u i o a r q
theorem FunD.okX{P:Program}{w:World}{K:Frag}{b:MT}{base:Heap}{x a:Str}{st:Stmt}{f:Addr}{fd:FuncData}{ds:LW}{N ps:List Str}{k:Nat}{sp:Sp}(F:FunD K x a st f fd ds)(S:nA N ps (oR st))(len:∀vs H Q E,sp vs H Q E->vs.length=ps.length)
  (c:∀(cdv:Value)(A:Around)(outer:List Env)(s:Shared)(H:Hp)(vs:List V)(Q:VK)(E:XK),Room k (A.deeper (envOfC a (oR st) s.heap.objs.size f cdv))->sp vs H Q E ->
   ∃t,PSs (cxOf (CX1 P w) P w K b base N a (oR st) f cdv A outer s H E) (kH st) t/\t {nx:=λ_ H'=>Q .non H',rt:=Q} (jQ N vs) H):FnOk P w K b base (CX1 P w) (k+1) f fd ps sp:=by
 obtain⟨r,q,T,kV,n,o,m,cdv,l,j,rfl,g,i,_⟩:=F.ex;exact Ai g i S len λA outer s H vs Q E hr d=>c cdv A outer s H vs Q E hr d
end
structure XIn(K:Frag)(C C0 f:Addr):Prop where
 cl:aJ K C [.type "ValueError",.type "Exception",.type "BaseException",.type "object"] "ValueError.__new__" f=true
 ga:PySem.W.specialIn K (.ref C0) "__getattribute__"=some (some (.builtin "type.__getattribute__"))
 rd:PySem.W.readsIn K C0 (.type "type")=true
 fi:PySem.W.findCls K (.ref C0) (.type "type") "__init__"=some (.val (.builtin "ValueError.__init__"))
def Cq:LW->Bool
 |.ref _:: r=>Cq r
 |l=>l == [.type "ValueError",.type "Exception",.type "BaseException",.type "object"]
theorem Ic(a:Value):∀{l:LW},Cq l=true->refuseLoop a "__setattr__" l=pure ()/\l.contains (.type "object")=true
 |.ref c:: r,e=>by
  obtain⟨b,d⟩:=Ic a (l:=r) e;exact⟨by rw[refuseLoop_ref];exact b,by rw[List.contains_cons,d,Bool.or_true]⟩
 |[],e=>by cases e
 |.type n:: r,e=>by rw[show Value.type n:: r=_ from pW.mp e];exact⟨PySem.F.store_ValueError.passes a,∅⟩
structure XSt(K:Frag)(C:Addr)(x:Str):Prop where
 sa:PySem.W.findIn K (.ref C) "__setattr__"=some (some (.builtin "object.__setattr__"))
 mr:((PySem.W.clsIn K C).any λc1=>Cq c1.mro && c1.hasDict)=true
 tk:PySem.W.takerIn K C x=some none
section
variable {X:Cx} {C C0 f:Addr} {x nm:Str} {np apos cpos pos:Pos} {e o:Expr} {es:List Expr} {te to:TE} {t:TA}
def Ib(C:Addr)(t:TA):TE:=λσ H Q=>t σ H λvs H1=>∃p b r,vs=.ref p:: r/\H1 p=some (XObj p C b)/\r.length<=sizeLine/\Q .non H1
theorem Uh{pl:Sem Bool}(U:Gl X x)(a5:X.mg x=some (.ref C0))(g:XIn X.K C C0 f)(a3:PA X (e:: es) t)(M:(x == ("__debug__" :Str))=false:=by decide)
  (Z:starEach (e:: es) X.env=(false,eval e X.env):: starEach es X.env:=by rfl)(S:(backTo cpos (starEach es X.env)).any (·.1)=false:=by rfl)
  (a2:eval (.Call (.Attribute (.Name x np) "__init__" apos) (e:: es) [] cpos) X.env=(do
   let w ←eval (.Name x np) X.env
   standAt apos.atName
   let (f,first) ←holding [w] (getMethod w "__init__" pl)
   callWith cpos f first (backTo cpos (starEach (e:: es) X.env)) (backToKw cpos (keywordEach [] X.env))):=by rfl):
  PE X (.Call (.Attribute (.Name x np) "__init__" apos) (e:: es) [] cpos) (Ib C t):=by
 intro L s J H Q I h;refine rC (pl:=pl) (iC I U a5 ?_ M) a2;refine PySem.W.method_cls I.kIn g.ga (PySem.W.cls_value I.kIn g.rd g.fi (by rfl) ?_);have W:=I.tok (s.toks+1);have D:=a3 cpos L _ J H _ W h;show wpAny _ _ (callWith cpos (.builtin "ValueError.__init__") [] (backTo cpos (starEach (e:: es) X.env)) []) _ _ _;rw[Z]at D ⊢;refine uM (by show(false || (backTo cpos (starEach es X.env)).any (·.1))=false;rw[S];rfl) (vU (thn D ?_));rintro us v ⟨vs,G,j,r,q⟩;obtain⟨p,b,O,rfl,k,a0,V⟩:=q;obtain⟨u,c,rfl,Y,a1⟩:∃u c,us=u:: c/\RelV (.ref p) u/\Vals O c:=by cases r with|cons a b=>exact⟨_,_,rfl,a,b⟩
 obtain rfl:u=Value.ref p:=Y;obtain⟨⟨t',n,i,R⟩,_⟩:=(show nO X.prog X.w G v.heap _ (XObj _ C b) from j.hok _ _ k);obtain⟨bm,N,nm,q,bs,b0,sn,sub,ab,col,dd,k0,k1,k2,k3,k5,mN,b2,a4,b4,a9,T,a6,b3⟩:=Ig j.kIn g.cl;have F:=xF;have hl:c.length<=sizeLine:=by rw[←a1.length];exact a0
 obtain⟨d,a7,a8,P,b1⟩:=v;refine tI (tJ F.init.plain F.initEntry (wpAny_check_init_subT F T a4 i rfl ?_));have b5:p≠d.objs.size:=zY (zL i);have l:(d.push (xTup c)).get? p=some (xExc C t' n):=zC _ i;unfold Builtin.«BaseException.__init__»;refine zA (pJ ?_ hl);refine zA (zA (xW l rfl rfl (zA (sH l rfl (by show 0<6;decide) (pH (zB ?_))))));have m:((d.push (xTup c)).update p (Obj.mapFields (·.setIfInBounds 0 (.ref d.objs.size)))).get? p=some (xExc C d.objs.size n):=wG _ l rfl;refine⟨.non,G,?_,rfl,V⟩;have y:=j.write (h':=(d.push (xTup c)).update p (Obj.mapFields (·.setIfInBounds 0 (.ref d.objs.size)))) (x:=p) (e:=p) (t':=P) (o:=XObj p C b) (by rw[k];exact True.intro) (.inl rfl) (λb u K z=>(vH _ _ (yA K)).trans (zC _ z)) ⟨_,m⟩ (Cs m R);rw[Uq k]at y;exact y
def Ia(C:Addr)(te to:TE):TS:=λD σ H=>te σ H λ_ H1=>to σ H1 λy H2=>∃p,y=.ref p/\H2 p=some (XObj p C true)/\D.nx σ (upd H2 p (XObj p C false))
open Builtin Builtin.ObjectAttr in
theorem Ug(xs:XSt X.K C nm)(l:PE X e te)(c0:PE X o to)(c4:swapsWith e (some (.Attribute o nm apos)) pos.line X.env=pure false:=by rfl):PS X (.Assign [.Attribute o nm apos] e pos) (Ia C te to):=by
 intro J s G H D I h;refine plainObj_wpAny_Assign_Attribute (thn (l J s G H _ I h) λu a5⟨v,b6,a2,c9,a0⟩=>thn (c0 J a5 G b6 _ a2 a0) ?_) c4;rintro a6 c ⟨y,b0,r,a7,p,U,M,a3⟩;subst U;obtain rfl:a6=Value.ref p:=a7;obtain⟨⟨t',c5,j,a1⟩,_⟩:=(show nO X.prog X.w b0 c.heap _ (XObj _ C true) from r.hok _ _ M);obtain rfl:=a1 rfl;have g:=r.kIn;have ia:PySem.W.InstAt c.heap p (xExc C t' none) C none:=⟨j,rfl,rfl,trivial⟩;refine PySem.W.set_plain g ia xs.sa ?_;have i:=PySem.F.store_object;obtain⟨w,n,c2⟩:=sV xs.mr;obtain⟨F,b3⟩:=Bool.and_eq_true_iff.mp c2;obtain⟨V,c1⟩:=Ic (.ref p) F;have c3:w.mro.isEmpty=false:=by cases q:w.mro with|nil=>rw[q]at F;cases F|cons _ _=>rfl
 have sub:PySem.W.Looks (model X.prog X.w) c.heap (isInstance (.ref p) (.type "object")) true:=ia.type.andThen (rP g (by unfold PySem.W.mroIn;rw[n,Option.bind_some,zD (by rw[c3];decide),c1]));refine tJ i.slot.plain i.entry (@PySem.W.check_slot (model X.prog X.w) _ _ {c with toks:=c.toks+1} "object.__setattr__" "object" "__setattr__" (.ref p) [.str nm c.toks,u] [] _ i.kind i.split sub (i.args (.ref p) (.str nm c.toks) u) ?_);obtain⟨L,b7,hr⟩:=Option.bind_eq_some_iff.mp xs.tk;have b4:PySem.W.Looks (model X.prog X.w) c.heap (mroOf (.ref C)) w.mro:=(rO g n).andThen .now;have T:PySem.W.Looks (model X.prog X.w) c.heap (storeTaker? L) none:=by
  cases L with
  |none=>exact .now
  |some a =>
   obtain⟨b,k,b5⟩:=Option.map_eq_some_iff.mp hr;refine(PySem.W.looks_takesIn g k).andThen ?_;cases b
   ·exact .now
   ·cases b5
 have up:∀{S:Type}{m:Sem S}{a:S},PySem.W.Looks (model X.prog X.w) c.heap m a->PySem.W.Looks (model X.prog X.w) {c with toks:=c.toks+1}.heap m a:=λz=>z;rw[PySem.W.osa_eq,refuse_eq];refine zA (zA (wW (up ia.type) (zA (wW (up b4) ?_))));rw[V];refine zB (zA (wW (up ia.type) (zA (wW (up (vS g b7)) (zA (wW (up T) ?_))))));obtain⟨d,Y,Z,K,a4⟩:=c;have a9:d.get? p=some ⟨.ref C,none,.fields #[.ref t',.none,.none,.none,.bool false,.none],#[]⟩:=j;refine zA (zB (zA (zA (pN a9 (zA (wW (s:=⟨d,Y,Z,K+1,a4⟩) (rO g n) ?_))))));rw[b3];have O:p≠d.objs.size:=zY (zL j);have N:(d.push {cls:=.type "dict",data:=.dict #[]}).get? p=some (xExc C t' none):=zC _ j;refine zA (wpAny_alloc' (zA (wpAny_update' N (zB ?_))));have b8:((d.push {cls:=.type "dict",data:=.dict #[]}).update p λo=>{cls:=o.cls,dict:=some d.objs.size,data:=o.data,slots:=o.slots}).get? d.objs.size=some {cls:=.type "dict",data:=.dict #[]}:=
  (Heap.get?_update_ne _ _ _ _ O.symm).trans (Heap.get?_push_at rfl rfl)
 have b1:((d.push {cls:=.type "dict",data:=.dict #[]}).update p λo=>{cls:=o.cls,dict:=some d.objs.size,data:=o.data,slots:=o.slots}).Ns d.objs.size (λ_=>none):=
  ⟨_,#[],_,b8,rfl,λe l=>absurd l (by simp),λ_=>rfl⟩
 show wpAny _ _ (storeInDict d.objs.size (.str nm K) nm u) _ _ _;unfold storeInDict newKeyGuard;refine zA (zB (zA (wpAny_nsSet1 (Heap.Ns1.of_empty b1) λh' b9 R=>?_)));obtain⟨c7,c8,c6,b2,W,a8⟩:=b9.count (Within.cons nm u Within.nil);refine zA (wpAny_lookBehind b2 (by rw[W];exact pastItsLine_dict (yG a8 (by rw[zU,List.length_nil,sizeLine_eq];omega))) (zB ?_));have P:h'.get? p=some (xExc C t' (some d.objs.size)):=(R.2 p O).trans (wG _ N rfl);refine⟨_,_,?_,a3⟩;exact r.write (h':=h') (x:=p) (e:=p) (o:=XObj p C false) (by rw[M];exact True.intro) (.inl rfl) (λb q k z=>(R.2 b (zY (zL z))).trans ((Heap.get?_update_ne _ _ _ _ k).trans (zC _ z))) ⟨_,P⟩ (Cs P (by intro z;cases z))
end
theorem Jz{a b:Type}(f:a->b):∀(l:List a)(j:Nat),(l.map f).eraseIdx j=(l.eraseIdx j).map f
 |[],_=>rfl
 |_:: _,0=>rfl
 |x:: l,j+1=>by show f x:: (l.map f).eraseIdx j=_;rw[Jz f l j];rfl
def Uf:List V->Hp->VK->Prop:=λvs H Q=>∃x p b,vs=[x,.ref p]/\H p=some (.tup [.ty "list",.ty "tuple"])/\((∃i,x=.int i/\b=false)\/∃a xs,x=.ref a/\H a=some (.lst xs)/\b=true)/\Q (.bl b) H
theorem Jy{X:Cx}(o:PySem.W.kitOne X.K (.type "int") (.type "list")=some false)(C:PySem.W.kitOne X.K (.type "int") (.type "tuple")=some false):lK X (.builtin "isinstance") Uf:=by
 intro g s f H xs us Q I t h;obtain⟨x,p,b,rfl,k,l,q⟩:=h;obtain⟨u,v,rfl,r1,r2⟩:=t.two;cases r2;have c:∀tk,EP X g f Q (.bool b) {s with toks:=tk}:=λtk=>⟨.bl b,H,I.tok tk,rfl,q⟩;obtain⟨_,its,w,⟨⟨G,M,D,K⟩,e1,e,n,d⟩⟩:=(show nO X.prog X.w H s.heap p (.tup _) from I.hok p _ k);obtain⟨J,L,rfl,j,r⟩:=w.two;cases j;cases r;dsimp only at e d;subst e d;rcases l with⟨i,rfl,rfl⟩|⟨a,ys,rfl,y,rfl⟩
 ·obtain⟨F,rfl⟩:=r1;exact PySem.W.kia_tup PySem.W.kitx_int I.kIn True.intro e1 (by unfold PySem.W.kitAny;rw[o];show PySem.W.kitAny _ _ _=_;unfold PySem.W.kitAny;rw[C];rfl) (λz=>nomatch z) c
 ·cases r1;obtain⟨_,_,n,_,m⟩:=(show nO X.prog X.w H s.heap a (.lst ys) from I.hok a _ y);exact PySem.W.kia_tup qN I.kIn ⟨_,m,rfl⟩ e1 (by rfl) (λz=>nomatch z) c
end L2
namespace Cw
open PySem L2
abbrev pa':List Str:=["_law_group_here","_law_numbered_here","_law_script","_law_d","_law_sort_here","_law_spot_here"]
abbrev pb':List Str:=["_law_group_here","_law_makers_here","_law_numbered_here","_law_script","_law_d"]
abbrev pc':List Str:=["_law_group_here","_law_members","_law_numbered_here","_law_box_here"]
abbrev pd':List Str:=["_law_script","_law_at","_law_d","_law_spot_here","_law_sort_here"]
abbrev pe':List Str:=["_law_group_here","_law_members","_law_words","_law_held"]
abbrev pf':List Str:=["_law_group_here","_law_one","_law_numbered_here"]
abbrev pg':List Str:=["_law_group_here","_law_i","_law_j","_law_due"]
abbrev ph':List Str:=["_law_sort_here","_law_box_here","_law_d"]
abbrev pi':List Str:=["_law_rows_here","_law_tops","_law_under"]
abbrev pj':List Str:=["_law_rows_here","_law_box_here"]
abbrev pk':List Str:=["_law_box_here","_law_many"]
abbrev pl':List Str:=["_law_d","_law_makers_here"]
abbrev pm':List Str:=["self","d","makers","most"]
abbrev pn':List Str:=["_law_box_here","_law_d"]
abbrev po':List Str:=["_law_one","_law_other"]
abbrev pp':List Str:=["_law_script","_law_k"]
abbrev pq':List Str:=["_law_script","_law_d"]
abbrev pr':List Str:=["rows","tops","under"]
abbrev pt':List Str:=["d","makers","most"]
abbrev pu':List Str:=["self","apart"]
abbrev pv':List Str:=["rows","i","k"]
abbrev pw':List Str:=["rows","count"]
abbrev px':List Str:=["self","i","j"]
abbrev py':List Str:=["one","other"]
abbrev pz':List Str:=["rows","spot"]
abbrev pA':List Str:=["_law_script"]
abbrev pB':List Str:=["self","one"]
abbrev pC':List Str:=["_law_found"]
abbrev pD':List Str:=["self","i"]
abbrev pE':List Str:=["rows"]
abbrev pF':List Str:=["self"]
abbrev pG':List Str:=["one"]
open PySem.W (nsIn keepIn codeIn findIn fnOf mg_of kitOne)
open PyProof.Rows (mulOk_of_bits)
theorem zqe{a b:Type}{l:List a}{f:a->b}:(l.map f).length=l.length:=yS ..
theorem zqa{b:Type}{l:List b}{i:Nat}{a:b}(h:l[i]?=some a):∃h:i<l.length,l[i]=a:=oG.mp h
theorem zqb{b:Type}{l:List b}{i:Nat}{a:b}(h:l[i]?=some a):a∈l:=yF h
theorem zqc{b:Type}{l:List b}{i:Nat}{a:b}:l.getD i a=l[i]?.getD a:=tN
theorem zqd{a:Type}{l:List a}{i:Nat}(h:i<l.length):l[i]?=some l[i]:=xN h
open PySem.W (Frag)
abbrev LM:=List (LI')
def top(i:Nat):Stmt:=PySem.Challenge.pw_crystalwords_k43_whole_every_word.main.body.getD i (.Pass ⟨0,0,0,0⟩)
abbrev s_18:Stmt:=top 1
abbrev N_18:List Str:=["thing"]
abbrev s_6:Stmt:=iX (top 6) 0
abbrev N_6:List Str:=pu'
abbrev s_16:Stmt:=top 8
abbrev N_16:List Str:=["one","other","greater","lesser","remainder"]
abbrev s_1b:Stmt:=top 10
abbrev N_1b:List Str:=["tops","under","common","top"]
abbrev aK:Stmt:=top 11
abbrev N_n:List Str:=["one","under"]
abbrev aL:Stmt:=top 13
abbrev N_o:List Str:=["size"]
abbrev s_1o:Stmt:=top 14
abbrev N_1o:List Str:=py'
abbrev s_1f:Stmt:=top 15
abbrev N_1f:List Str:=pE'
abbrev s_17:Stmt:=top 16
abbrev N_17:List Str:=pv'
abbrev s_9:Stmt:=top 17
abbrev N_9:List Str:=["rows","total","sign","k","number"]
abbrev s_12:Stmt:=top 18
abbrev N_12:List Str:=["rows","i","k","sign"]
abbrev s_19:Stmt:=top 19
abbrev N_19:List Str:=["rows","size"]
abbrev s_1e:Stmt:=top 20
abbrev N_1e:List Str:=pw'
abbrev s_1c:Stmt:=top 21
abbrev N_1c:List Str:=pE'
abbrev s_1a:Stmt:=top 23
abbrev N_1a:List Str:=pz'
abbrev s_1j:Stmt:=top 24
abbrev N_1j:List Str:=["rows","tops","under","axes"]
abbrev s_1i:Stmt:=top 25
abbrev N_1i:List Str:=["d"]
abbrev s_1g:Stmt:=top 26
abbrev N_1g:List Str:=["one","spot","tops"]
abbrev s_1d:Stmt:=top 27
abbrev N_1d:List Str:=["one","other","columns","rows"]
abbrev s_1l:Stmt:=top 28
abbrev N_1l:List Str:=["one","rows"]
abbrev s_1k:Stmt:=top 29
abbrev N_1k:List Str:=pG'
abbrev Cp:Stmt:=top 32
abbrev N_w:List Str:=["most"]
abbrev Co:Stmt:=top 33
abbrev N_s:List Str:=["d","makers","maker"]
abbrev s_14:Stmt:=top 34
abbrev N_14:List Str:=["d","makers","most","steps","found","words","at","number","step","reached"]
abbrev s_0:Stmt:=iX (top 35) 0
abbrev N_0:List Str:=["self","d","makers","most","words"]
abbrev s_5:Stmt:=iX (top 35) 2
abbrev N_5:List Str:=pF'
abbrev s_3:Stmt:=iX (top 35) 3
abbrev N_3:List Str:=pF'
abbrev s_4:Stmt:=iX (top 35) 4
abbrev N_4:List Str:=pF'
abbrev Cn:Stmt:=iX (top 35) 5
abbrev N_a:List Str:=pB'
abbrev s_8:Stmt:=iX (top 35) 6
abbrev N_8:List Str:=px'
abbrev s_7:Stmt:=iX (top 35) 7
abbrev N_7:List Str:=pD'
abbrev s_11:Stmt:=top 37
abbrev N_11:List Str:=["_law_script","_law_k","_law_cells"]
abbrev s_1:Stmt:=top 38
abbrev N_1:List Str:=["_law_box_here","_law_many","_law_digit","_law_number"]
abbrev Cm:Stmt:=top 39
abbrev N_u:List Str:=pC'
abbrev Cl:Stmt:=top 40
abbrev N_k:List Str:=po'
abbrev aM:Stmt:=top 41
abbrev N_q:List Str:=["_law_d"]
abbrev aN:Stmt:=top 42
abbrev N_m:List Str:=["_law_one","_law_other","_law_d","_law_found","_law_i"]
abbrev Ck:Stmt:=top 43
abbrev N_v:List Str:=["_law_box_here","_law_d","_law_rows_here","_law_k"]
abbrev aO:Stmt:=top 44
abbrev N_h:List Str:=["_law_box_here","_law_d","_law_left","_law_rows_here","_law_i","_law_at","_law_sign"]
abbrev s_15:Stmt:=top 45
abbrev N_15:List Str:=ph'
abbrev aP:Stmt:=top 46
abbrev N_l:List Str:=["_law_rows_here","_law_box_here","_law_d","_law_k","_law_i","_law_j","_law_by","_law_row"]
abbrev cJ:Stmt:=top 47
abbrev N_x:List Str:=["_law_rows_here","_law_tops","_law_under","_law_by","_law_top"]
abbrev s_10:Stmt:=top 48
abbrev N_10:List Str:=["_law_rows_here","_law_tops","_law_under","_law_by","_law_top"]
abbrev aQ:Stmt:=top 49
abbrev N_g:List Str:=["_law_script","_law_at","_law_d","_law_spot_here","_law_sort_here","_law_box_here","_law_rows_here","_law_under","_law_tops","_law_i","_law_far"]
abbrev aR:Stmt:=top 50
abbrev N_z:List Str:=["_law_script","_law_d","_law_box_here","_law_under"]
abbrev s_13:Stmt:=top 51
abbrev N_13:List Str:=["_law_script","_law_box_here"]
abbrev aS:Stmt:=top 52
abbrev N_j:List Str:=["_law_script","_law_d","_law_many","_law_sort_here","_law_spot_here"]
abbrev aT:Stmt:=top 53
abbrev N_f:List Str:=["_law_one","_law_other","_law_rows_here","_law_tops","_law_i","_law_far"]
abbrev Cj:Stmt:=top 54
abbrev N_p:List Str:=["_law_one"]
abbrev Ci:Stmt:=top 55
abbrev N_y:List Str:=["_law_d","_law_makers_here","_law_group_here"]
abbrev Cg:Stmt:=top 56
abbrev N_b:List Str:=["_law_members","_law_found","_law_k"]
abbrev Cf:Stmt:=top 57
abbrev N_r:List Str:=["_law_group_here","_law_one","_law_numbered_here","_law_found"]
abbrev Ce:Stmt:=top 58
abbrev N_t:List Str:=["_law_group_here","_law_i","_law_j","_law_due","_law_found"]
abbrev Cd:Stmt:=top 59
abbrev N_d:List Str:=["_law_group_here","_law_makers_here","_law_numbered_here","_law_script","_law_d","_law_done","_law_start","_law_at","_law_cell","_law_maker_here","_law_here","_law_way"]
abbrev Cc:Stmt:=top 60
abbrev N_i:List Str:=["_law_group_here","_law_members","_law_numbered_here","_law_box_here","_law_i","_law_j","_law_due"]
abbrev aU:Stmt:=top 61
abbrev N_c:List Str:=["_law_group_here","_law_members","_law_words","_law_held","_law_told","_law_kept","_law_copy"]
abbrev Cb:Stmt:=top 62
abbrev N_e:List Str:=["_law_group_here","_law_numbered_here","_law_script","_law_d","_law_sort_here","_law_spot_here","_law_one","_law_box_here","_law_tops","_law_i","_law_far","_law_other","_law_far_one","_law_some"]
abbrev s_1n:Stmt:=top 63
abbrev N_1n:List Str:=["_law_script","_law_d","_law_makers_here","_law_handed","_law_group_here","_law_beside","_law_members","_law_words","_law_held","_law_numbered_here","_law_k"]
local macro_rules | `(tactic| walk_at "s")=>`(tactic| exact ⟨rfl,rfl,rfl,by decide +kernel,rfl,by decide +kernel,by decide +kernel⟩)
local macro_rules | `(tactic| walk_at "v")=>`(tactic| (intro _ _ _ _ h; first | (obtain ⟨_,hh,_⟩:=h; subst hh; rfl) | (obtain ⟨_,_,hh,_⟩:=h; subst hh; rfl) | (obtain ⟨_,_,_,hh,_⟩:=h; subst hh; rfl) | (obtain ⟨_,_,_,_,hh,_⟩:=h; subst hh; rfl) | (obtain ⟨_,_,_,_,_,hh,_⟩:=h; subst hh; rfl) | (obtain ⟨_,_,_,_,_,_,hh,_⟩:=h; subst hh; rfl) | (obtain ⟨_,_,_,_,_,_,_,hh,_⟩:=h; subst hh; rfl) | (obtain ⟨_,_,_,_,_,_,_,_,hh,_⟩:=h; subst hh; rfl) | (obtain ⟨_,_,_,_,_,_,_,_,_,hh,_⟩:=h; subst hh; rfl) | (obtain ⟨_,_,_,_,_,_,_,_,_,_,hh,_⟩:=h; subst hh; rfl) | (obtain ⟨_,_,_,_,_,_,_,_,_,_,_,hh,_⟩:=h; subst hh; rfl) | (obtain ⟨_,_,_,_,_,_,_,_,_,_,_,_,_,hh,_⟩:=h; subst hh; rfl)))
theorem sc_18:nA N_18 ["thing"] (oR s_18):=by walk_at "s"
theorem sc_6:nA N_6 pu' (oR s_6):=by walk_at "s"
theorem sc_16:nA N_16 py' (oR s_16):=by walk_at "s"
theorem sc_1b:nA N_1b ["tops","under"] (oR s_1b):=by walk_at "s"
theorem sc_n:nA N_n pG' (oR aK):=by walk_at "s"
theorem sc_o:nA N_o ["size"] (oR aL):=by walk_at "s"
theorem sc_1o:nA N_1o py' (oR s_1o):=by walk_at "s"
theorem sc_1f:nA N_1f pE' (oR s_1f):=by walk_at "s"
theorem sc_17:nA N_17 pv' (oR s_17):=by walk_at "s"
theorem sc_9:nA N_9 pE' (oR s_9):=by walk_at "s"
theorem sc_12:nA N_12 pv' (oR s_12):=by walk_at "s"
theorem sc_19:nA N_19 pE' (oR s_19):=by walk_at "s"
theorem sc_1e:nA N_1e pw' (oR s_1e):=by walk_at "s"
theorem sc_1c:nA N_1c pE' (oR s_1c):=by walk_at "s"
theorem sc_1a:nA N_1a pz' (oR s_1a):=by walk_at "s"
theorem sc_1j:nA N_1j pr' (oR s_1j):=by walk_at "s"
theorem sc_1i:nA N_1i ["d"] (oR s_1i):=by walk_at "s"
theorem sc_1g:nA N_1g ["one","spot"] (oR s_1g):=by walk_at "s"
theorem sc_1d:nA N_1d py' (oR s_1d):=by walk_at "s"
theorem sc_1l:nA N_1l pG' (oR s_1l):=by walk_at "s"
theorem sc_1k:nA N_1k pG' (oR s_1k):=by walk_at "s"
theorem sc_w:nA N_w ["most"] (oR Cp):=by walk_at "s"
theorem sc_s:nA N_s ["d","makers"] (oR Co):=by walk_at "s"
theorem sc_14:nA N_14 pt' (oR s_14):=by walk_at "s"
theorem sc_0:nA N_0 pm' (oR s_0):=by walk_at "s"
theorem sc_5:nA N_5 pF' (oR s_5):=by walk_at "s"
theorem sc_3:nA N_3 pF' (oR s_3):=by walk_at "s"
theorem sc_4:nA N_4 pF' (oR s_4):=by walk_at "s"
theorem sc_a:nA N_a pB' (oR Cn):=by walk_at "s"
theorem sc_8:nA N_8 px' (oR s_8):=by walk_at "s"
theorem sc_7:nA N_7 pD' (oR s_7):=by walk_at "s"
theorem sc_11:nA N_11 pp' (oR s_11):=by walk_at "s"
theorem sc_1:nA N_1 pk' (oR s_1):=by walk_at "s"
theorem sc_u:nA N_u pC' (oR Cm):=by walk_at "s"
theorem sc_k:nA N_k po' (oR Cl):=by walk_at "s"
theorem sc_q:nA N_q ["_law_d"] (oR aM):=by walk_at "s"
theorem sc_m:nA N_m po' (oR aN):=by walk_at "s"
theorem sc_v:nA N_v pn' (oR Ck):=by walk_at "s"
theorem sc_h:nA N_h pn' (oR aO):=by walk_at "s"
theorem sc_15:nA N_15 ph' (oR s_15):=by walk_at "s"
theorem sc_l:nA N_l pj' (oR aP):=by walk_at "s"
theorem sc_x:nA N_x pi' (oR cJ):=by walk_at "s"
theorem sc_10:nA N_10 pi' (oR s_10):=by walk_at "s"
theorem sc_g:nA N_g pd' (oR aQ):=by walk_at "s"
theorem sc_z:nA N_z pq' (oR aR):=by walk_at "s"
theorem sc_13:nA N_13 pA' (oR s_13):=by walk_at "s"
theorem sc_j:nA N_j pA' (oR aS):=by walk_at "s"
theorem sc_f:nA N_f po' (oR aT):=by walk_at "s"
theorem sc_p:nA N_p ["_law_one"] (oR Cj):=by walk_at "s"
theorem sc_y:nA N_y pl' (oR Ci):=by walk_at "s"
theorem sc_b:nA N_b ["_law_members"] (oR Cg):=by walk_at "s"
theorem sc_r:nA N_r pf' (oR Cf):=by walk_at "s"
theorem sc_t:nA N_t pg' (oR Ce):=by walk_at "s"
theorem sc_d:nA N_d pb' (oR Cd):=by walk_at "s"
theorem sc_i:nA N_i pc' (oR Cc):=by walk_at "s"
theorem sc_c:nA N_c pe' (oR aU):=by walk_at "s"
theorem sc_e:nA N_e pa' (oR Cb):=by walk_at "s"
theorem sc_1n:nA N_1n pA' (oR s_1n):=by walk_at "s"
set_option genInjectivity false in
structure Adr where
 (a_18 a_6 a_16 a_1b a_n a_o a_1o a_1f a_17 a_9 a_12 a_19 a_1e a_1c a_1a a_1j a_1i a_1g a_1d a_1l a_1k a_w a_s a_14 a_0 a_5 a_3 a_4 a_a a_8 a_7 a_11 a_1 a_u a_k a_q a_m a_v a_h a_15 a_l a_x a_10 a_g a_z a_13 a_j a_f a_p a_y a_b a_r a_t a_d a_i a_c a_e a_1n:Addr)
 (d_18 d_6 d_16 d_1b d_n d_o d_1o d_1f d_17 d_9 d_12 d_19 d_1e d_1c d_1a d_1j d_1i d_1g d_1d d_1l d_1k d_w d_s d_14 d_0 d_5 d_3 d_4 d_a d_8 d_7 d_11 d_1 d_u d_k d_q d_m d_v d_h d_15 d_l d_x d_10 d_g d_z d_13 d_j d_f d_p d_y d_b d_r d_t d_d d_i d_c d_e d_1n:FuncData)
 a_1m:Addr
 a_1q:Addr
 a_1p:Addr
 a_1h:Addr
 a_1r:Addr
 a_2:Addr
 k_0:Tok
structure Txt(K:Frag)(mg:MT)(t:Adr):Prop where
 F_18:FunT K mg "copied" s_18 t.a_18 t.d_18 ["thing"]
 F_6:Fun K "__init__" "TooMany.__init__" s_6 t.a_6 t.d_6
 b_6:nZ K t.d_6 pu' []
 F_16:FunT K mg "divisor" s_16 t.a_16 t.d_16 py'
 F_1b:FunT K mg "place" s_1b t.a_1b t.d_1b ["tops","under"]
 F_n:FunT K mg "rest_place" aK t.a_n t.d_n pG'
 F_o:FunT K mg "still_rows" aL t.a_o t.d_o ["size"]
 F_1o:FunT K mg "dot" s_1o t.a_1o t.d_1o py'
 F_1f:FunT K mg "turned" s_1f t.a_1f t.d_1f pE'
 F_17:FunT K mg "without" s_17 t.a_17 t.d_17 pv'
 F_9:FunT K mg "determinant" s_9 t.a_9 t.d_9 pE'
 F_12:FunT K mg "cofactor" s_12 t.a_12 t.d_12 pv'
 F_19:FunT K mg "crossed" s_19 t.a_19 t.d_19 pE'
 F_1e:FunT K mg "scaled" s_1e t.a_1e t.d_1e pw'
 F_1c:FunT K mg "inverse" s_1c t.a_1c t.d_1c pE'
 F_1a:FunT K mg "joined" s_1a t.a_1a t.d_1a pz'
 F_1j:FunT K mg "deed" s_1j t.a_1j t.d_1j pr'
 F_1i:FunT K mg "still" s_1i t.a_1i t.d_1i ["d"]
 F_1g:FunT K mg "moved" s_1g t.a_1g t.d_1g ["one","spot"]
 F_1d:FunT K mg "behind" s_1d t.a_1d t.d_1d py'
 F_1l:FunT K mg "back" s_1l t.a_1l t.d_1l pG'
 F_1k:FunT K mg "rest" s_1k t.a_1k t.d_1k pG'
 F_w:FunT K mg "check_most" Cp t.a_w t.d_w ["most"]
 F_s:FunT K mg "check_axes" Co t.a_s t.d_s ["d","makers"]
 F_14:FunT K mg "closed" s_14 t.a_14 t.d_14 pt'
 F_0:FunD K "__init__" "Group.__init__" s_0 t.a_0 t.d_0 [.int 200 t.k_0]
 bd_Group___init__:nZ K t.d_0 pm' [.int 200 t.k_0]
 b_0:nZ K t.d_0 pm' []
 F_5:Fun K "makers" "Group.makers" s_5 t.a_5 t.d_5
 b_5:nZ K t.d_5 pF' []
 F_3:Fun K "members" "Group.members" s_3 t.a_3 t.d_3
 b_3:nZ K t.d_3 pF' []
 F_4:Fun K "words" "Group.words" s_4 t.a_4 t.d_4
 b_4:nZ K t.d_4 pF' []
 F_a:Fun K "at" "Group.at" Cn t.a_a t.d_a
 b_a:nZ K t.d_a pB' []
 F_8:Fun K "product" "Group.product" s_8 t.a_8 t.d_8
 b_8:nZ K t.d_8 px' []
 F_7:Fun K "back_of" "Group.back_of" s_7 t.a_7 t.d_7
 b_7:nZ K t.d_7 pD' []
 F_11:FunT K mg "_law_box" s_11 t.a_11 t.d_11 pp'
 F_1:FunT K mg "_law_take" s_1 t.a_1 t.d_1 pk'
 F_u:FunT K mg "_law_whole" Cm t.a_u t.d_u pC'
 F_k:FunT K mg "_law_common" Cl t.a_k t.d_k po'
 F_q:FunT K mg "_law_still" aM t.a_q t.d_q ["_law_d"]
 F_m:FunT K mg "_law_times" aN t.a_m t.d_m po'
 F_v:FunT K mg "_law_sixty" Ck t.a_v t.d_v pn'
 F_h:FunT K mg "_law_signed" aO t.a_h t.d_h pn'
 F_15:FunT K mg "_law_rows" s_15 t.a_15 t.d_15 ph'
 F_l:FunT K mg "_law_based" aP t.a_l t.d_l pj'
 F_x:FunT K mg "_law_rest" cJ t.a_x t.d_x pi'
 F_10:FunT K mg "_law_low" s_10 t.a_10 t.d_10 pi'
 F_g:FunT K mg "_law_maker" aQ t.a_g t.d_g pd'
 F_z:FunT K mg "_law_spot" aR t.a_z t.d_z pq'
 F_13:FunT K mg "_law_sort" s_13 t.a_13 t.d_13 pA'
 F_j:FunT K mg "_law_makers" aS t.a_j t.d_j pA'
 F_f:FunT K mg "_law_behind" aT t.a_f t.d_f po'
 F_p:FunT K mg "_law_rested" Cj t.a_p t.d_p ["_law_one"]
 F_y:FunT K mg "_law_group" Ci t.a_y t.d_y pl'
 F_b:FunT K mg "_law_numbered" Cg t.a_b t.d_b ["_law_members"]
 F_r:FunT K mg "_law_right" Cf t.a_r t.d_r pf'
 F_t:FunT K mg "_law_pair" Ce t.a_t t.d_t pg'
 F_d:FunT K mg "_law_walked" Cd t.a_d t.d_d pb'
 F_i:FunT K mg "_law_any_two" Cc t.a_i t.d_i pc'
 F_c:FunT K mg "_law_changed" aU t.a_c t.d_c pe'
 F_e:FunT K mg "_law_others" Cb t.a_e t.d_e pa'
 F_1n:FunT K mg "law" s_1n t.a_1n t.d_1n pA'
 z_sum:mg "sum"=none
 z_zip:mg "zip"=none
 z_enumerate:mg "enumerate"=none
 z_range:mg "range"=none
 z_len:mg "len"=none
 z_abs:mg "abs"=none
 z_isinstance:mg "isinstance"=none
 z_int:mg "int"=none
 z_bool:mg "bool"=none
 z_list:mg "list"=none
 z_tuple:mg "tuple"=none
 z_sorted:mg "sorted"=none
 z_dict:mg "dict"=none
 z_any:mg "any"=none
 m_1m:mg "CrystalError"=some (.ref t.a_1m)
 m_1q:mg "NoPlace"=some (.ref t.a_1q)
 m_1p:mg "NoDeed"=some (.ref t.a_1p)
 m_1h:mg "TooMany"=some (.ref t.a_1h)
 m_1r:mg "NoNumber"=some (.ref t.a_1r)
 m_2:mg "Group"=some (.ref t.a_2)
 g_MOST_MEMBERS:∃u,mg "MOST_MEMBERS"=some u/\RelV (.int 200) u
 h_j:kitOne K (.type "list") (.type "list")=some true
 x_1q:PySem.W.excIn K t.a_1q [.type "ValueError",.type "Exception",.type "BaseException",.type "object"] "ValueError.__new__"=true
 x_1p:PySem.W.excIn K t.a_1p [.type "ValueError",.type "Exception",.type "BaseException",.type "object"] "ValueError.__new__"=true
 cl_2:L2.Cls K t.a_2
 mk_2:L2.Mk K t.a_2 t.a_0
 me_3:L2.Meth K t.a_2 "members" t.a_3
 h_5:findIn K (.ref t.a_2) "dimension"=some none
 h_h:findIn K (.ref t.a_2) "given"=some none
 h_8:findIn K (.ref t.a_2) "ordered"=some none
 h_6:findIn K (.ref t.a_2) "shortest"=some none
 h_9:findIn K (.ref t.a_2) "numbers"=some none
 me_5:L2.Meth K t.a_2 "makers" t.a_5
 me_4:L2.Meth K t.a_2 "words" t.a_4
 h_k:kitOne K (.type "int") (.type "list")=some false
 h_l:kitOne K (.type "int") (.type "tuple")=some false
 h_a:L2.XIn K t.a_1h t.a_1m t.a_6
 h_b:L2.XSt K t.a_1h "apart"
 h_d:PySem.W.exmOne K (.ref t.a_1h) (.ref t.a_1h)=some true
 me_a:L2.Meth K t.a_2 "at" t.a_a
 me_8:L2.Meth K t.a_2 "product" t.a_8
 me_7:L2.Meth K t.a_2 "back_of" t.a_7
 h_m:kitOne K (.type "tuple") (.type "tuple")=some true
 h_n:kitOne K (.type "int") (.type "bool")=some false
 h_i:kitOne K (.type "int") (.type "int")=some true
 bl:∀(s:Shared)(u:Value),BindsTo s t.d_1n ⟨[u],[]⟩ [("_law_script",u)]
local macro_rules | `(tactic| walk_at "r")=>`(tactic| simp only [tSeq,tAsg,nB,tVar,qVar,tC,tOp,t_t,u_j,u_k,tUn,bE,tB,tIfS,tIf,tAnd,tOr,tNot,Mb,tOrV,Ma,tRet,u_e,Ny,Ea,mS,Ph,nF,tNil,tCB,tTup,tLst,tPar,Gs,tBM,tBM0,tSl,Ag,Ah,List.getElem?_cons_zero,List.getElem?_cons_succ,Option.some.injEq,exists_eq_left',exists_eq_left,List.set_cons_zero,List.set_cons_succ,List.cons.injEq,V.int.injEq,V.bl.injEq,V.ref.injEq,and_true,true_and,List.append_nil,ne_eq,exists_and_left,and_assoc,↓reduceIte,Bool.not_true,Bool.not_false,Bool.false_eq_true])
set_option hygiene false in
local macro_rules | `(tactic|apply $e:term)=>`(tactic|refine $e (by walk_at "v") (λcdv A outer s H vs Q E hr h=>?_))
set_option hygiene false in
local macro_rules | `(tactic|left)=>`(tactic|(subst e1;refine st λN1 e1=>?_;ext))
set_option hygiene false in
local macro_rules | `(tactic|right)=>`(tactic|(refine st λN1 e1=>?_;ext))
set_option hygiene false in
local macro_rules | `(tactic|symm)=>`(tactic|(subst e1;ext))
set_option hygiene false in
local macro_rules | `(tactic|exfalso)=>`(tactic|(refine nN λB eB=>?_;simp only[iSeq];ext))
def gcdI(a b:Int):Int:=(Int.gcd a b:Int)
def absI(u:Int):Int:=if u<0 then -u else u
def gl(u:Int)(ns:LI'):Int:=ns.foldl gcdI (absI u)
theorem Ue(u:Int):0<=absI u:=by unfold absI;split <;> omega
theorem Ud{d u:Int}:d∣absI u↔d∣u:=by
 unfold absI;split
 ·exact Int.dvd_neg
 ·exact Iff.rfl
theorem Jx{d:Int}:∀(ns:LI')(c:Int),d∣ns.foldl gcdI c↔d∣c/\∀g∈ns,d∣g
 |[],c=>by simp
 | g:: r,c=>by
  rw[wN,Jx r];unfold gcdI;rw[Int.dvd_coe_gcd_iff];constructor
  ·rintro⟨⟨f,a⟩,i⟩;refine⟨f,λx b=>?_⟩;rcases xI.mp b with e|e
   ·rw[e];exact a
   ·exact i x e
  ·rintro⟨f,a⟩;exact⟨⟨f,a g zZ⟩,λx b=>a x (zO _ b)⟩
theorem eO{d u:Int}{ns:LI'}:d∣gl u ns↔d∣u/\∀t∈ns,d∣t:=by
 unfold gl;rw[Jx,Ud]
theorem Jw:∀(ns:LI')(c:Int),0<=c->0<=ns.foldl gcdI c
 |[],_,h=>h
 |t:: r,c,_=>Jw r _ (Int.natCast_nonneg _)
theorem aV(u:Int)(ns:LI'):0<=gl u ns:=Jw ns _ (Ue u)
theorem gl_u(u:Int)(ns:LI'):gl u ns∣u:=(eO.mp (qU _)).1
theorem aW{u t:Int}{ns:LI'}(h:t∈ns):gl u ns∣t:=(eO.mp (qU _)).2 t h
theorem Ca{u:Int}(ns:LI')(h:u≠0):0<gl u ns:=by
 have:=aV u ns;rcases Int.lt_or_eq_of_le this with q|q
 ·exact q
 ·obtain⟨k,e⟩:=gl_u u ns;rw[←q,uF]at e;exact absurd e h
theorem Uc{u v:Int}{ns ms:LI'}(h:∀d:Int,(d∣u/\∀t∈ns,d∣t)↔(d∣v/\∀t∈ms,d∣t)):gl u ns=gl v ms:=
 Int.dvd_antisymm (aV _ _) (aV _ _) (eO.mpr ((h _).mp (eO.mp (qU _)))) (eO.mpr ((h _).mpr (eO.mp (qU _))))
theorem Ub(u:Int)(ns:LI')(t:Int):gl u (ns++[t])=gcdI (gl u ns) t:=by unfold gl;rw[uQ];rfl
def cs(u:Int)(ns:LI'):Int:=if u<0 then -(gl u ns) else gl u ns
theorem eP{u:Int}(ns:LI')(h:u≠0):cs u ns≠0:=by
 have:=Ca ns h;unfold cs;split <;> omega
theorem jX{u x:Int}{ns:LI'}(h:gl u ns∣x):cs u ns∣x:=by
 unfold cs;split
 ·exact Int.neg_dvd.mpr h
 ·exact h
theorem gG{c x:Int}(a:c≠0)(h:c∣x):x.fdiv c*c=x:=by
 obtain⟨k,e⟩:=h;subst e;rw[wR c k,Int.mul_fdiv_cancel _ a]
theorem gH{u:Int}(ns:LI')(h:u≠0):0<u.fdiv (cs u ns):=by
 have e:=gG (eP ns h) (jX (gl_u u ns));have g:=Ca ns h;rcases Int.lt_trichotomy (u.fdiv (cs u ns)) 0 with q|q|q
 ·refine False.elim ?_;unfold cs at e q;split at e
  ·rename_i a;rw[zF a]at q;have:=Int.mul_nonneg_of_nonpos_of_nonpos (wZ q) (show -(gl u ns)<=0 by omega);omega
  ·rename_i a;rw[zD a]at q;have:=Int.mul_neg_of_neg_of_pos q g;omega
 ·rw[q,uF]at e;exact absurd e.symm h
 ·exact q
theorem Ua{u:Int}{ns:LI'}(h:0<u)(g:gl u ns=1):cs u ns=1:=by
 unfold cs;rw[zD ⋯,g]
theorem Vz{u:Int}{ns:LI'}(h:0<u)(g:gl u ns=1):(ns.map λt=>t.fdiv (cs u ns))=ns/\u.fdiv (cs u ns)=u:=by
 rw[Ua h g];refine⟨?_,Int.fdiv_one u⟩;rw[show(λt:Int=>t.fdiv 1)=id from funext λt=>Int.fdiv_one t,List.map_id]
theorem Vy{u:Int}(b:0<u)(a:Int):(a.fmod u-a).fmod u=0:=by
 rw[xS a (wZ b),xS _ (wZ b)];exact Int.emod_eq_zero_of_dvd (by
  have:=Int.emod_add_mul_ediv a u;exact⟨-(a/u),by rw[Int.mul_neg];omega⟩)
theorem Jv(g l:Int):Int.gcd l (Int.fmod g l)=Int.gcd g l:=by
 rw[Int.fmod_def,Int.gcd_sub_mul_left_right,Int.gcd_comm]
theorem Ju(a b:Int):Int.gcd (if a<0 then -a else a) (if b<0 then -b else b)=Int.gcd a b:=by
 split <;> split <;> simp
theorem aX(a:Int):0<=(if a<0 then -a else a):=by split <;> omega
theorem Jt{g l a b:Int}(h:Int.gcd g l=Int.gcd a b)(c:0<=g)(z:l=0):g=gcdI a b:=by
 rw[z,Int.gcd_zero_right]at h;unfold gcdI;rw[←h];omega
def Dz:Sp:=λvs H Q _=>∃a b,vs=[.int a,.int b]/\Q (.int (gcdI a b)) H
abbrev sp_16:Sp:=Dz
abbrev sp_k:Sp:=Dz
def iO(H:Hp)(p:Addr)(ns:LI')(u:Int):Prop:=∃q,H p=some (.tup [.ref q,.int u])/\H q=some (.tup (ns.map V.int))
theorem iO.up{H H':Hp}{p:Addr}{ns:LI'}{u:Int}(h:iO H p ns u)(s:Same H H'):iO H' p ns u:=let ⟨q,a,b⟩:=h;⟨q,s _ _ a,s _ _ b⟩
def mO(n:Int):Prop:=n.natAbs<2^8990
theorem Js{c:Int}(h:mO c)(z:c≠0):c.natAbs.log2<9000:=zJ ((pV ⋯).mpr h) ∅
theorem Jr{c u:Int}(h:mO u)(z:u≠0)(d:c∣u):mO c:=by
 have:=Int.natAbs_dvd_natAbs.mpr d;have:=Nat.le_of_dvd ⋯ this;unfold mO at*
 omega
def redT(u:Int)(ns:LI'):LI':=ns.map λt=>t.fdiv (cs u ns)
def redU(u:Int)(ns:LI'):Int:=u.fdiv (cs u ns)
def nW(u:Int)(ns:LI'):LI':=ns.map λt=>t.fmod u
def sp_1b(K:Frag)(C:Addr):Sp:=λvs H Q E=>E4 λ(b:Bool)(a:Addr)(ns:LI')(u:Int)=>A6 (vs=[.ref a,.int u]) (SqB b K H a (ns.map V.int)) (ns.length<=100) (mO u) (((u=0\/ns=[])->E (.ref C) none H)) ((u≠0->ns≠[]->∀p H',Same H H'->iO H' p (redT u ns) (redU u ns)->Q (.ref p) H'))
theorem Vx{a:Type}{ns:List a}{i:Nat}{n:a}(h:ns[i]?=some n):ns.take (i+1)=ns.take i++[n]:=by
 rw[wD,h];rfl
def sp_1o(K:Frag):Sp:=λvs H Q _=>E6 λ(b1 b2:Bool)(p q:Addr)(ms ns:LI')=>A7 (vs=[.ref p,.ref q]) (SqB b1 K H p (ms.map V.int)) (SqB b2 K H q (ns.map V.int)) (ms.length=ns.length) (ms.length<=1000) ((∀(i:Nat) m n,ms[i]?=some m->ns[i]?=some n->IntMulOk m n)) (∀H',Same H H'->Q (.int (dotI ms ns)) H')
def sp_1f(K:Frag):Sp:=λvs H Q _=>E5 λ(b1 b2:Bool)(a:Addr)(rows:LM)(w:Nat)=>A7 (vs=[.ref a]) (MatB b1 b2 K H a rows) (rows≠[]) ((∀r∈rows,r.length=w)) (w<=1000) (rows.length<=1000) (∀r H',H r=none->Same H H'->MatL H' r (bV w rows)->Q (.ref r) H')
def lY(i k:Nat)(rows:LM):LM:=(rows.eraseIdx i).map λr=>r.eraseIdx k
def sg(k:Nat):Int:=if k%2=0 then 1 else -1
def altS(f:Nat->Int):Nat->Int
 |0=>0
 |k+1=>altS f k+sg k*f k
def detM:Nat->LM->Int
 |0,_=>1
 |1,rows=>(rows.getD 0 []).getD 0 0
 |n+2,rows=>altS (λk=>(rows.getD 0 []).getD k 0*detM (n+1) (lY 0 k rows)) (n+2)
def Sq(n:Nat)(rows:LM):Prop:=rows.length=n/\∀r∈rows,r.length=n
def nS(B:Nat)(rows:LM):Prop:=∀r∈rows,∀x∈r,x.natAbs<2^B
theorem Vw(k:Nat):-sg k=sg (k+1):=by
 unfold sg
 by_cases h:k%2=0
 ·rw[zF h,zD ⋯]
 ·rw[zD h,zF ⋯];rfl
theorem Dy(k:Nat):(sg k).natAbs=1:=by unfold sg;split <;> rfl
theorem Sq.minor{n i k:Nat}{a:LM}(h:Sq (n+1) a)(hi:i<n+1)(c:k<n+1):Sq n (lY i k a):=by
 refine⟨?_,λr hr=>?_⟩
 ·unfold lY;rw[zqe,rE,h.1,zF hi];rfl
 ·obtain⟨z,b,rfl⟩:=pZ.mp hr;have hl:=h.2 z (tY b);rw[rE,hl,zF c];rfl
theorem nS.minor{B i k:Nat}{a:LM}(h:nS B a):nS B (lY i k a):=λr hr x b=>by
 obtain⟨z,c,rfl⟩:=pZ.mp hr;exact h z (tY c) x (tY b)
theorem Jq{f:Nat->Int}{M:Nat}:∀n:Nat,(∀k<n,(f k).natAbs<=M)->(altS f n).natAbs<=n*M
 |0,_=>by simp[altS]
 |n+1,h=>by
  have b:=Jq n λk d=>h k ⋯;have c:=h n ⋯;show(altS f n+sg n*f n).natAbs<=_;have a:=uR (altS f n) (sg n*f n);rw[xA,Dy,pU]at a;rw[qX];omega
theorem row0{n:Nat}{a:LM}(h:Sq (n+1) a):a[0]?=some (a.getD 0 [])/\a.getD 0 []∈a:=by
 have hl:0<a.length:=by have:=h.1;omega
 have e:a.getD 0 []=a[0]:=by simp[hl]
 rw[e];exact⟨by simp[hl],vF hl⟩
theorem Dx{B:Nat}:∀(n:Nat)(a:LM),1<=n->n<=4->Sq n a->nS B a->(detM n a).natAbs<=2^(n*(B+2))
 |0,_,h,_,_,_=>⋯
 |1,a,_,_,b,c=>by
  have hr:=row0 b;have hl:0<(a.getD 0 []).length:=by rw[b.2 _ hr.2];decide
  have:=c _ hr.2 _ (L2.getD_mem hl);show((a.getD 0 []).getD 0 0).natAbs<=_;have:2^B<=2^(1*(B+2)):=yC ∅ ⋯;omega
 | n+2,a,_,j,b,c=>by
  have hr:=row0 b;have f:∀k<n+2,((a.getD 0 []).getD k 0*detM (n+1) (lY 0 k a)).natAbs<=2^B*2^((n+1)*(B+2)):=λk d=>by
   have hl:k<(a.getD 0 []).length:=by rw[b.2 _ hr.2];exact d
   have g:=c _ hr.2 _ (L2.getD_mem hl);have i:=Dx (n+1) (lY 0 k a) ⋯ ⋯ (b.minor ⋯ d) c.minor;rw[xA];exact xZ (vY g) i
  have:=Jq (n+2) f;have e:2^((n+2)*(B+2))=4*(2^B*2^((n+1)*(B+2))):=by
   rw[←vG,show(4:Nat)=2^2 from rfl,←vG];congr 1;rw[Nat.add_mul,Nat.add_mul];omega
  show(altS _ (n+2)).natAbs<=_;rw[e];refine yG this (wC _ ⋯)
theorem nL{x:Int}{B:Nat}(h:x.natAbs<2^B):Builtin.Int.intBits x<=B:=intBits_le_iff.mpr h
def sp_17(K:Frag):Sp:=λvs H Q _=>E7 λ(b1 b2:Bool)(a:Addr)(rows:LM)(i k w:Nat)=>A7 (vs=[.ref a,.int i,.int k]) (MatB b1 b2 K H a rows) ((∀r∈rows,r.length=w)) (k<w) (w<=1000) (rows.length<=1000) (∀r H',H r=none->Same H H'->MatL H' r (lY i k rows)->Q (.ref r) H')
def sp_9(K:Frag):Nat->Sp
 |0=>λ_ _ _ _=>False
 |n+1=>λvs H Q _=>∃(b1 b2:Bool)(a:Addr)(rows:LM)(B:Nat),vs=[.ref a]/\MatB b1 b2 K H a rows/\Sq (n+1) rows/\n<=3/\nS B rows/\B<=1000000/\∀H',Same H H'->Q (.int (detM (n+1) rows)) H'
section
variable {g:TG} {tt:TOx} {fr:List (Str×Nat)} {σ:St} {a:Addr} {H:Hp} {Q:VK} {K:Frag}
theorem Vv{b:Bool}{l:Addr}{xs:List V}(P:Nat->List V->Hp->Prop)(J:H a=none)(e:SqB b K H l xs)(D:xs.length<=1000)(z:P 0 [] (upd H a (.lst [])))
  (hl:∀i zs c,P i zs c->zs.length<=i)(mono:∀i zs c d,P i zs c->kS a c d->P i zs d)
  (m:∀i x c zs,xs[i]?=some x->Same H c->c a=some (.lst zs)->P i zs c->∀C:Option V->Hp->Prop,
   (∀y d,Same c d->P (i+1) (zs++[y]) d->C (some y) d)->(∀d,Same c d->P (i+1) zs d->C none d)->tt (some (.int i):: some x:: mI fr σ) c C)
  (u:∀c ys,Same H c->c a=some (.lst ys)->P xs.length ys c->Q (.ref a) c):
  lO (Ite K b l) (gTup K 2 (lC (nB 0) (lC (nB 1) gNil))) tt 2 fr σ a H Q:=by
 refine Bu xs.length P J D z hl mono (λi c hi s=>⟨xs,xs[i],e.up s,by simp[hi]⟩) (λc s=>⟨xs,e.up s,rfl⟩) ?_ u;intro i c zs hi j n p F x M I k C w G;obtain⟨q,x,rfl,t,rfl,v⟩:=k;refine⟨q,[.int i,x],rfl,SqT.of oP,rfl,_,[x],rfl,x,[],rfl,rfl,?_⟩;have sn:Same c (upd c q (.tup [.int i,x])):=Same.new t
 match F,I with
 |[o,L],_ =>
  exact⟨⟨[some (.int i),some x],rfl,rfl⟩,m i x _ zs (v xs (e.up j)) (j.trans sn) (sn _ _ n) (mono _ _ _ _ p sn.x) C (λy d f r=>w y d (sn.trans f) r) λd f r=>G d (sn.trans f) r⟩
end
theorem SqB.cut{b:Bool}{K:Frag}{H:Hp}{p:Addr}{xs:List V}:SqB b K (upd H p (seqO b xs)) p xs:=by
 cases b
 ·exact SqB.lst oP
 ·exact SqB.tup oP
theorem Vu{d:Type}{b:List d}{c a:Nat}{r:d}(e:b[a]?=some r):(b.take (a+1)).eraseIdx c=if a=c then(b.take a).eraseIdx c else(b.take a).eraseIdx c++[r]:=by
 have f:a<b.length:=(zqa e).1;have hl:(b.take a).length=a:=by rw[yK];omega
 rw[wD,e];show(b.take a++[r]).eraseIdx c=_
 by_cases h:a=c
 ·rw[zF h,vV ⋯,hl,h,vI,tM (l:=b.take c) (by rw[yK];omega)];simp
 ·rw[zD h]
  by_cases g:c<a
  ·rw[List.eraseIdx_append_of_lt_length ⋯]
  ·rw[vV ⋯,hl,tM (l:=b.take a) ⋯];congr 1;rw[tM];simp;omega
theorem cK{B C:Nat}:∀(ms ns:LI'),(∀x∈ms,x.natAbs<2^B)->(∀y∈ns,y.natAbs<2^C)->(dotI ms ns).natAbs<=ms.length*2^(B+C)
 |[],ns,_,_=>by simp[dotI]
 |m:: ms,[],_,_=>by simp[dotI]
 | m:: ms,n:: ns,a,b=>by
  have j:=cK ms ns (λx f=>a x (zO _ f)) (λy c=>b y (zO _ c));have e:dotI (m:: ms) (n:: ns)=m*n+dotI ms ns:=by simp[dotI]
  have g:=a m zZ;have d:=b n zZ;have i:(m*n).natAbs<=2^(B+C):=by
   rw[xA,vG];exact xZ (vY g) (vY d)
  have k:=uR (m*n) (dotI ms ns);rw[e,zU,qX];omega
def idM(d:Nat):LM:=(List.range d).map λi=>(List.range d).map λk=>if i=k then(1:Int) else 0
def sp_o:Sp:=λvs H Q _=>E1 λ(n:Nat)=>A3 (vs=[.int n]) (n<=1000) (∀r H',H r=none->Same H H'->MatL H' r (idM n)->Q (.ref r) H')
def mX(K:Frag)(H:Hp)(p:Addr)(M:LM)(ts:LI')(u:Int):Prop:=∃pr pt,H p=some (.tup [.ref pr,.ref pt,.int u])/\MatB true true K H pr M/\H pt=some (.tup (ts.map V.int))
theorem mX.up{K:Frag}{H H':Hp}{p:Addr}{M:LM}{ts:LI'}{u:Int}(h:mX K H p M ts u)(s:Same H H'):mX K H' p M ts u:=let ⟨pr,pt,a,b,c⟩:=h;⟨pr,pt,s _ _ a,b.up s,s _ _ c⟩
def sp_1a(K:Frag):Sp:=λvs H Q _=>E7 λ(b1 b2:Bool)(a p:Addr)(M:LM)(ts:LI')(u:Int)=>A5 (vs=[.ref a,.ref p]) (MatB b1 b2 K H a M) (iO H p ts u) (M.length<=100) (∀q H',Same H H'->mX K H' q M ts u->Q (.ref q) H')
def PlS(K:Frag)(H:Hp)(p:Addr)(ns:LI')(u:Int):Prop:=∃q,SqT K H p [.ref q,.int u]/\SqT K H q (ns.map V.int)
theorem PlS.up{K:Frag}{H H':Hp}{p:Addr}{ns:LI'}{u:Int}(h:PlS K H p ns u)(s:Same H H'):PlS K H' p ns u:=let ⟨q,a,b⟩:=h;⟨q,lP s _ _ a,lP s _ _ b⟩
theorem Jp{K:Frag}{H:Hp}{p:Addr}{ns:LI'}{u:Int}{Q:VK}(h:PlS K H p ns u)(k:∀q,SqT K H q (ns.map V.int)->Q (.ref q) H):rIxB K (.ref p) (.int 0) H Q:=let ⟨q,a,b⟩:=h;⟨true,p,_,_,_,rfl,rfl,(a:SqB true K H p _),rfl,k q b⟩
theorem Dw{K:Frag}{H:Hp}{p:Addr}{ns:LI'}{u:Int}{Q:VK}(h:PlS K H p ns u)(k:Q (.int u) H):rIxB K (.ref p) (.int 1) H Q:=let ⟨q,a,b⟩:=h;⟨true,p,_,_,_,rfl,rfl,(a:SqB true K H p _),rfl,k⟩
def sp_n(K:Frag):Sp:=λvs H Q _=>E3 λ(p:Addr)(ns:LI')(u:Int)=>A5 (vs=[.ref p]) (PlS K H p ns u) (ns.length<=100) (0<u) (∀p' H',Same H H'->iO H' p' (nW u ns) u->Q (.ref p') H')
def lR(K:Frag)(H:Hp)(p:Addr)(M:LM)(ts:LI')(u:Int):Prop:=∃v0 v1,SqT K H p [.ref v0,.ref v1,.int u]/\MatB true true K H v0 M/\SqT K H v1 (ts.map V.int)
theorem lR.up{K:Frag}{H H':Hp}{p:Addr}{M:LM}{ts:LI'}{u:Int}(h:lR K H p M ts u)(s:Same H H'):lR K H' p M ts u:=let ⟨c,e,b,d,a⟩:=h;⟨c,e,lP s _ _ b,d.up s,lP s _ _ a⟩
theorem mX.s{K:Frag}{H:Hp}{p:Addr}{M:LM}{ts:LI'}{u:Int}(h:mX K H p M ts u):lR K H p M ts u:=let ⟨c,e,b,d,a⟩:=h;⟨c,e,SqT.of b,d,SqT.of a⟩
theorem jK{K:Frag}{H:Hp}{p:Addr}{M:LM}{ts:LI'}{u:Int}{Q:VK}(h:lR K H p M ts u)(q:∀x,MatB true true K H x M->Q (.ref x) H):rIxB K (.ref p) (.int 0) H Q:=let ⟨x,y,a,b,c⟩:=h;⟨true,p,_,_,_,rfl,rfl,(a:SqB true K H p _),rfl,q x b⟩
theorem gI{K:Frag}{H:Hp}{p:Addr}{M:LM}{ts:LI'}{u:Int}{Q:VK}(h:lR K H p M ts u)(q:∀x,SqT K H x (ts.map V.int)->Q (.ref x) H):rIxB K (.ref p) (.int 1) H Q:=let ⟨x,y,a,c,b⟩:=h;⟨true,p,_,_,_,rfl,rfl,(a:SqB true K H p _),rfl,q y b⟩
theorem kW{K:Frag}{H:Hp}{p:Addr}{M:LM}{ts:LI'}{u:Int}{Q:VK}(h:lR K H p M ts u)(q:Q (.int u) H):rIxB K (.ref p) (.int 2) H Q:=let ⟨x,y,a,b,c⟩:=h;⟨true,p,_,_,_,rfl,rfl,(a:SqB true K H p _),rfl,q⟩
def movT(M:LM)(ts:LI')(u:Int)(ns:LI')(v:Int):LI':=List.zipWith (λr t=>dotI r ns*u+t*v) M ts
def kX(B:Nat)(ns:LI'):Prop:=∀x∈ns,x.natAbs<2^B
structure Fine(d:Nat)(M:LM)(ts:LI')(u:Int):Prop where
 sq:Sq d M
 len:ts.length=d
 pos:0<u
 bm:nS 200000 M
 bt:kX 200000 ts
 bu:u<2^1500
def sp_1g(K:Frag):Sp:=λvs H Q _=>E8 λ(p q:Addr)(M:LM)(ts ns:LI')(u v:Int)(d:Nat)=>A11 (vs=[.ref p,.ref q]) (lR K H p M ts u) (PlS K H q ns v) (Fine d M ts u) (1<=d) (d<=4) (ns.length=d) (kX 200000 ns) (0<v) (v<2^1500) (∀r H',Same H H'->iO H' r (redT (u*v) (movT M ts u ns v)) (redU (u*v) (movT M ts u ns v))->Q (.ref r) H')
def sp_1d(K:Frag):Sp:=λvs H Q _=>E9 λ(p q:Addr)(M N:LM)(ts ns:LI')(u v:Int)(d:Nat)=>A8 (vs=[.ref p,.ref q]) (lR K H p M ts u) (lR K H q N ns v) (Fine d M ts u) (Fine d N ns v) (1<=d) (d<=4) (∀r H',Same H H'->mX K H' r (mulM d N M) (redT (v*u) (movT N ns v ts u)) (redU (v*u) (movT N ns v ts u))->Q (.ref r) H')
def sp_1k(K:Frag):Sp:=λvs H Q _=>E4 λ(p:Addr)(M:LM)(ts:LI')(u:Int)=>A6 (vs=[.ref p]) (lR K H p M ts u) (M.length<=100) (ts.length<=100) (0<u) (∀r H',Same H H'->mX K H' r M (nW u ts) u->Q (.ref r) H')
theorem eQ{u:Int}(a:0<u)(b:u<2^1500):u.natAbs<2^1500:=by
 have e:((2^1500:Nat):Int)=(2:Int)^1500:=nofun
 omega
theorem iP{u:Int}{B:Nat}(h:u.natAbs<2^B)(a:B<=8990):mO u:=zJ h (yC ∅ a)
theorem Vt{u v:Int}(a:0<u)(d:u<2^1500)(b:0<v)(c:v<2^1500):mO (u*v)/\0<u*v:=by
 refine⟨iP (B:=1500+1500) ?_ ∅,xE a b⟩;rw[xA,vG];exact tH (eQ a d) (eQ b c)
section
variable {P:Program} {w:World} {K:Frag} {mg:MT} {base:Heap} {t:Adr}
def sp_u:Sp:=λvs H Q _=>∃i,vs=[.int i]/\Q (.bl true) H
theorem ok_u(T:Txt K mg t):FnOk P w K mg base CX0 1 t.a_u t.d_u pC' sp_u:=by
 apply T.F_u.ok sc_u
 ·obtain⟨i,rfl,q⟩:=h;refine⟨_,(oO (oW (dG (lN Gp rfl T.z_isinstance (nofun) (oJ (pq 0) (oJ (fN (v:=.ty "int") rfl T.z_int (nofun) rfl) oK))) (dF (Nz (lN Gp rfl T.z_isinstance (nofun) (oJ (pq 0) (oJ (fN (v:=.ty "bool") rfl T.z_bool (nofun) rfl) oK)))))))),?_⟩;show tRet _ _ [some (.int i)] H;ext;refine⟨_,_,_,_,rfl,.ty (.int i),rfl,T.h_i,?_⟩;ext;refine⟨_,_,_,_,rfl,.ty (.int i),rfl,T.h_n,?_⟩;ext;exact q
theorem Vs{a b:Int}{H:Hp}{Q:VK}{E:XK}:Dz [.int a,.int b] H Q E=Q (.int (gcdI a b)) H:=propext ⟨λ⟨_,_,e,q⟩=>by cases e;exact q,λq=>⟨_,_,rfl,q⟩⟩
theorem ok_16(T:Txt K mg t):FnOk P w K mg base CX0 1 t.a_16 t.d_16 py' sp_16:=by
 apply T.F_16.ok sc_16
 ·obtain⟨a,b,rfl,k⟩:=h;refine⟨_,(oM (oU (i:=2) sc_16.nd rfl (Or.inl rfl) (lN dI rfl T.z_abs (nofun) (oJ (pq 0) oK)))
   (oM (oU (i:=3) sc_16.nd rfl (Or.inl rfl) (lN dI rfl T.z_abs (nofun) (oJ (pq 1) oK)))
   (oM (cY yL (nH hJ (pq 3) oN (nD _))
   (oM (oU (i:=4) sc_16.nd rfl (Or.inl rfl) (oS kG (pq 2) (pq 3)))
   (oM (oU (i:=2) sc_16.nd rfl (Or.inl rfl) (pq 3))
   (oO (oU (i:=3) sc_16.nd rfl (Or.inl rfl) (pq 4))))))
   (oO (oW (pq 2)))))),?_⟩
  show tSeq _ _ _ [some (.int a),some (.int b),none,none,none] H;ext;refine⟨λm d c=>∃g l r,d=[some (.int a),some (.int b),some (.int g),some (.int l),r]/\c=H/\0<=g/\0<=l/\Int.gcd g l=Int.gcd a b/\m=l.toNat,
   ⟨_,_,_,_,rfl,rfl,aX a,aX b,Ju a b,rfl⟩,?_⟩
  rintro m d c ⟨g,l,r,rfl,rfl,i,hl,e,rfl⟩;ext
  by_cases z:l=0
  ·rw[zP z];refine iteF ?_;rw[Jt e i z];exact k
  ·rw[zN z];refine iteT ⟨λf H'=>f=[some (.int a),some (.int b),some (.int l),some (.int (g.fmod l)),some (.int (g.fmod l))]/\H'=c,?_,z,rfl,rfl⟩;rintro f H' ⟨rfl,rfl⟩;have l1:=tX g (show 0<l by omega);have l2:=uL g (show 0<l by omega);exact⟨(g.fmod l).toNat,⋯,_,_,_,rfl,rfl,hl,l2,by rw[Jv];exact e,rfl⟩
theorem ok_1b(T:Txt K mg t):FnOk P w K mg base (CX1 P w) 2 t.a_1b t.d_1b ["tops","under"] (sp_1b K t.a_1q):=by
 refine T.F_1b.okX sc_1b (λvs H Q E h=>?_) (λcdv A outer s H vs Q E hr h=>?_)
 ·obtain⟨b,a,ns,u,rfl,_⟩:=h;rfl
 ·obtain⟨b,a,ns,u,rfl,d,hl,G,D,J⟩:=h;refine⟨_,(oM (nK (nH lG (pq 1) oN (nD _))
   (oO (fS rfl fQ rfl T.m_1q T.x_1q xF (oJ gM oK)))
   nJ)
   (oM (nK (nH lG (mL T.z_len (pq 0)) oN (nD _))
   (oO (fS rfl fQ rfl T.m_1q T.x_1q xF (oJ gM oK)))
   nJ)
   (oM (oU (i:=2) sc_1b.nd rfl (Or.inr rfl) (lN dI rfl T.z_abs (nofun) (oJ (pq 1) oK)))
   (oM (PS.nox (mQ yL rfl (nV (pq 0)) (nX (i:=3) sc_1b.nd rfl (Or.inl rfl))
   (oO (oU (i:=2) sc_1b.nd rfl (Or.inr rfl) (oQ (ok_16 T) hr.mo T.F_16 (oJ (pq 2) (oJ (pq 3) oK)))))))
   (oM (nK (nH bA (pq 1) oN (nD _))
   (oO (oU (i:=2) sc_1b.nd rfl (Or.inr rfl) (gO gQ (pq 2))))
   nJ)
   (oO (oW (lV (oJ (mB jJ rfl T.z_tuple (nofun) (oJ (nT (sc:=oR s_1b) (N:=N_1b) (fr:=[("common",2)]) (te:=(tOp (rI iY λi j=>.int (i.fdiv j)) (tVar 0) (tVar 1))) rfl rfl (nofun) rfl (nofun) (nV (pq 0)) (λ_ _ _ a1=>(oS iZ (pv 0) (pv 1)))) oK)) (oJ (oS iZ (pq 1) (pq 2)) oK)))))))))),?_⟩
  show tSeq _ _ _ [some (.ref a),some (.int u),none,none] H;refine st λN1 e1=>?_;simp only[iI];ext;refine ite2 (λz=>⟨∅,D (.inl (xQ z))⟩) (λz=>?_);have k:u≠0:=λq=>z (zP q);subst e1;refine st λN1 e1=>?_;simp only[iI];ext;refine Br d ?_;ext;refine ite2 (λz=>⟨∅,D (.inr ?_)⟩) (λz=>?_)
  ·have:=xQ z;exact vA ⋯
  have X:ns≠[]:=λq=>z (zP (by rw[q];rfl));left;subst e1;refine st λN1 e1=>mT λB eB=>?_;simp only[iSeq];ext;refine⟨b,⟨_,d⟩,?_⟩;refine gU (g:=nB 3) (tb:=B) (λi g f=>∃v3,g=[some (.ref a),some (.int u),some (.int (gl u (ns.take i))),v3]/\f=H) ⟨_,rfl,rfl⟩ (λi g f _⟨_,_,e⟩=>e ▸ d) ?_ ?_
  ·rintro i x g f hi ⟨v3,rfl,rfl⟩;obtain⟨n,m,rfl⟩:=kU hi;subst eB;ext;simp only[Vs];rw[Vx m,Ub]
   first|trivial|exact⟨_,rfl,rfl⟩
  ·rintro g f ⟨v3,rfl,rfl⟩;rw[zqe,qV];subst e1;refine st λY Z=>?_;have c:Y [some (.ref a),some (.int u),some (.int (cs u ns)),v3] f:=by
    subst Z;have I:mO (cs u ns):=Jr G k (jX (gl_u u ns));have C:∀x,iY x (cs u ns):=λx=>⟨eP ns k,Js I (eP ns k)⟩;ext;exfalso;refine⟨b,⟨_,d⟩,λW U=>mU (λj y _=>∃n,ns[j]?=some n/\y=.int (n.fdiv (cs u ns))) U d (by rw[zqe];omega) (λ_ _ _ _ r _=>r) ?_ ?_⟩
    ·intro i x o zs M _ _ a0 S;obtain⟨n,m,rfl⟩:=kU M;subst eB;show tOp _ _ _ [some (.int n),some (.int (cs u ns))] o a0;ext;exact⟨C n,S _ o (Same.refl _) ⟨n,m,rfl⟩⟩
    ·intro o ys L e1 R N;have F:ys=(redT u ns).map V.int:=by
      unfold redT;rw[xK];exact mK (by simpa using R) N
     subst F;refine⟨W,_,rfl,.inl ⟨SqL.of e1,λl O=>?_⟩⟩;ext;refine⟨C u,(by show 2<=sizeLine;decide),λp v=>J k X p _ ((L.trans (Same.new O)).trans (Same.new v)) ⟨l,oP,?_⟩⟩;rw[oT (nY oP v)];exact oP
   ext;unfold cs at c;refine ite2 (λz=>?_) (λz=>?_)
   ·rw[zF (xQ z)]at c;exact c
   ·rw[zD (λq=>z (zP q))]at c;exact c
theorem Vr{H:Hp}{p:Addr}{ns:LI'}{u:Int}{Q:VK}(h:iO H p ns u)(q:∀x,H x=some (.tup (ns.map V.int))->Q (.ref x) H):rIxB K (.ref p) (.int 0) H Q:=let ⟨x,a,b⟩:=h;⟨true,p,_,_,_,rfl,rfl,SqB.tup a,rfl,q x b⟩
theorem Vq{H:Hp}{p:Addr}{ns:LI'}{u:Int}{Q:VK}(h:iO H p ns u)(q:Q (.int u) H):rIxB K (.ref p) (.int 1) H Q:=let ⟨x,a,b⟩:=h;⟨true,p,_,_,_,rfl,rfl,SqB.tup a,rfl,q⟩
theorem ok_n(T:Txt K mg t):FnOk P w K mg base CX0 1 t.a_n t.d_n pG' (sp_n K):=by
 apply T.F_n.ok sc_n
 ·obtain⟨p,ns,u,rfl,d,hl,I,f⟩:=h;refine⟨_,(oM (oU (i:=1) sc_n.nd rfl (Or.inr rfl) (oX (pq 0)))
   (oO (oW (lV (oJ (mB jJ rfl T.z_tuple (nofun) (oJ (nT (sc:=oR aK) (N:=N_n) (fr:=[("under",1)]) (te:=(tOp (rI (λ_ j=>j≠0) λi j=>.int (i.fmod j)) (tVar 0) (tVar 1))) rfl rfl (nofun) rfl (nofun) (nV (oX (pq 0))) (λ_ _ _ G=>(oS kG (pv 0) (pv 1)))) oK)) (oJ (pq 1) oK)))))),?_⟩
  show tSeq _ _ _ [some (.ref p),none] H;right;refine Dw d ?_;symm;exfalso;refine Jp d λx a=>⟨true,x,rfl,⟨_,(show SqB true K H x _ from a)⟩,λF q=>mU (λj y _=>∃n,ns[j]?=some n/\y=.int (n.fmod u)) q ((show SqB true K H x _ from a)) (by rw[zqe];omega) (λ_ _ _ _ r _=>r) ?_ ?_⟩
  ·intro i x b zs a _ _ z o;obtain⟨n,e,rfl⟩:=kU a;subst eB;show tOp _ _ _ [some (.int n),some (.int u)] b z;ext;exact⟨⋯,o _ b (Same.refl _) ⟨n,e,rfl⟩⟩
  ·intro b ys g e1 m v;have k:ys=(nW u ns).map V.int:=by
    unfold nW;rw[xK];exact mK (by simpa using m) v
   subst k;refine⟨F,_,rfl,.inl ⟨SqL.of e1,λl C=>?_⟩⟩;refine⟨(by show 2<=sizeLine;decide),λD c=>f D _ ((g.trans (Same.new C)).trans (Same.new c)) ⟨l,oP,?_⟩⟩;rw[oT (nY oP c)];exact oP
theorem ok_1o(T:Txt K mg t):FnOk P w K mg base CX0 1 t.a_1o t.d_1o py' (sp_1o K):=by
 apply T.F_1o.ok sc_1o
 ·obtain⟨b1,b2,p,q,ms,ns,rfl,l,u,hl,C,G,v⟩:=h;refine⟨_,(oO (oW (lN (bP rfl) rfl T.z_sum (nofun) (oJ (iJ (xs:=["left","right"]) (fr:=[]) (g:=(gTup K 2 (lC (nB 0) (lC (nB 1) gNil)))) (tt:=(tEl (tOp (rI (λi j=>IntMulOk i j) λi j=>.int (i*j)) (tVar 0) (tVar 1)))) (kQ (sc:=oR s_1o) (N:=N_1o) rfl rfl (nofun)) rfl (Ge rfl T.z_zip (oJ (pq 0) (oJ (pq 1) oK))) (λ_ _ _ f=>(gN rfl (lD (jS (N:=["left","right"]) (i:=0) f rfl (nofun)) (lD (jS (N:=["left","right"]) (i:=1) f rfl (nofun)) iU)))) (λ_ _ _ f=>(jI (oS nR (pv 0) (pv 1))))) oK)))),?_⟩;show tRet _ _ [some (.ref p),some (.ref q)] H;ext;refine nN λB eB=>?_;simp only[iZip];ext;refine⟨b1,⟨_,l⟩,b2,⟨_,u⟩,λa D=>?_⟩;refine Gb (λj y _=>∃m n,ms[j]?=some m/\ns[j]?=some n/\y=.int (m*n)) D l u (by simpa using hl) (by simpa using C) (λ_ _ _ _ r _=>r) ?_ ?_
  ·intro i x y g zs I d k o F z;obtain⟨m,c,rfl⟩:=kU I;obtain⟨n,b,rfl⟩:=kU d;subst eB;show tOp _ _ _ [some (.int m),some (.int n)] g F;ext;exact⟨G i m n c b,z _ _ (Same.refl _) ⟨m,n,c,b,rfl⟩⟩
  ·intro g zs k o J L;have d:zs=(List.zipWith (·*·) ms ns).map V.int:=by
    refine mK (by simp at J ⊢;omega) λj y e=>?_;obtain⟨m,n,c,b,rfl⟩:=L j y e;exact⟨m*n,by rw[xY,c,b],rfl⟩
   subst d;exact⟨_,rfl,_,SqL.of o,v g k⟩
theorem ok_1f(T:Txt K mg t):FnOk P w K mg base CX0 1 t.a_1f t.d_1f pE' (sp_1f K):=by
 apply T.F_1f.ok sc_1f
 ·obtain⟨b1,b2,a,b,w,rfl,F,a0,u,a2,a5,R⟩:=h;refine⟨_,(oO (oW (iJ (xs:=["k"]) (fr:=[("rows",0)]) (g:=(nB 0)) (tt:=(tEl (mP (iSeq K (tVar 1)) (nB 0) (tEl (tOp (rIxB K) (tVar 0) (tVar 1))) 1 [("k",0)]))) (kQ (sc:=oR s_1f) (N:=N_1f) rfl rfl (nofun)) rfl (mF rfl T.z_range (oJ (mL T.z_len (oX (pq 0))) oK)) (λ_ _ _ g=>(fV (N:=["k","rows"]) (i:=0) g rfl (nofun) rfl)) (λ_ _ _ g=>(jI (nT (N:=["k","rows"]) (fr:=[("k",0)]) (te:=(tOp (rIxB K) (tVar 0) (tVar 1))) g rfl (nofun) rfl (nofun) (nV (pv 1)) (λ_ _ _ a9=>(nQ ix_B (pv 0) (pv 1) (λ_ _=>rfl))))))))),?_⟩;show tRet _ _ [some (.ref a)] H;ext;refine nN λB eB=>?_;simp only[nU];ext;obtain⟨c,v⟩:∃c,b[0]?=some c:=by cases b with|nil=>exact absurd rfl a0|cons r _=>exact⟨r,rfl⟩
  have L:c.length=w:=u c (zqb v);obtain⟨ps,p,k1,k2,k3,Y⟩:=F.row v;refine⟨b1,a,_,0,_,rfl,rfl,k1,kC k2 rfl,b2,p,_,rfl,Y,?_⟩;rw[zqe,L];refine⟨_,rfl,⋯,⋯,λl C=>?_⟩;rw[zQ];refine kI (RowR l λk=>colI k b) C a2 (RowR.mono (a:=l)) ?_ ?_
  ·intro i n zs hi f N a4 U;subst eB;show mP _ _ _ _ _ [some (.int (0+(i:Int))),some (.ref a)] n a4;exfalso;obtain⟨xs,o,a6,Z⟩:=(F.up f).walk;refine⟨b1,⟨_,o⟩,λI D=>?_⟩;refine mU (λj y _=>∃r,b[j]?=some r/\y=.int (r.getD i 0)) D o ⋯ (λ_ _ _ _ r _=>r) ?_ ?_
   ·intro j x q a8 X m a7 W M;obtain⟨p,r,rfl,d,O⟩:=Z j x X;subst eB;show tOp _ _ _ [some (.ref p),some (.int (0+(i:Int)))] q W;ext;have a1:i<r.length:=by rw[u r (zqb d)];exact hi
    exact⟨b2,p,_,_,_,rfl,rfl,O.up m,kC (iL (getD_at a1)) ⋯,M _ _ (Same.refl _) ⟨r,d,rfl⟩⟩
   ·intro q ys m a3 z S;have G:ys=(colI i b).map V.int:=by
     refine mK (by simp[colI];omega) λj y e=>?_;obtain⟨r,d,rfl⟩:=S j y e;exact⟨r.getD i 0,by unfold colI;rw[zI,d];rfl,rfl⟩
    subst G;exact U _ _ m ⟨I,rfl,yA (nY N D),a3⟩
  ·intro n ys f e1 z J;have:=MatL.of e1 J;rw[z]at this;exact R l n C f this
theorem ok_17(T:Txt K mg t):FnOk P w K mg base CX0 1 t.a_17 t.d_17 pv' (sp_17 K):=by
 apply T.F_17.ok sc_17
 ·obtain⟨b1,b2,a,S,g,k,w,rfl,a9,a3,b8,b9,b7,a2⟩:=h;refine⟨_,(oO (oW (iJ (xs:=["at","row"]) (fr:=[("i",1),("k",2)]) (g:=(gTup K 2 (lC (nB 0) (lC (nB 1) gNil)))) (tt:=(fU (bE (tOp (rI0 λi j=>.bl (!decide (i=j))) (tVar 0) (tVar 2))) (tOp rCat (tCB (gT K) (nF (tSl (rSlB K) (tVar 1) Ah (Ag (tVar 3))) tNil)) (tCB (gT K) (nF (tSl (rSlB K) (tVar 1) (Ag (tOp (rI0 λi j=>.int (i+j)) (tVar 3) (tC (.int 1)))) Ah) tNil))))) (kQ (sc:=oR s_17) (N:=N_17) rfl rfl (nofun)) rfl (bO rfl T.z_enumerate (oJ (pq 0) oK)) (λ_ _ _ J=>(gN rfl (lD (jS (N:=["at","row","i","k"]) (i:=0) J rfl (nofun)) (lD (jS (N:=["at","row","i","k"]) (i:=1) J rfl (nofun)) iU)))) (λ_ _ _ J=>(Qv (nH hJ (pv 0) (pv 2) (nD _)) (oS dO (mB kR rfl T.z_list (nofun) (oJ (bH sl_B (pv 1) Af (dM (pv 3))) oK)) (mB kR rfl T.z_list (nofun) (oJ (bH sl_B (pv 1) (dM (oS mJ (pv 3) oN)) Af) oK)))))))),?_⟩;show tRet _ _ [some (.ref a),some (.int g),some (.int k)] H;ext;refine Qd λb5 b6 b4 eB=>?_;simp only[dU];ext;obtain⟨xs,O,a6,a8⟩:=a9.walk;refine⟨b1,⟨_,O⟩,λX U=>?_⟩;refine Vv (λt zs b=>lW X b zs (((S.take t).eraseIdx g).map λ(r:LI')=>r.eraseIdx k)) U O ⋯ lW.nil ?_ (λ_ _ _ _ r s=>r.mono s) ?_ ?_
  ·intro i zs b p;rw[p.len,zqe,rE];have:=List.length_take_le i S;split <;> omega
  ·intro i x b zs a7 I a1 p C L M;obtain⟨G,r,rfl,W,n⟩:=a8 i x a7;have c0:r.length=w:=a3 r (zqb W);replace n:=n.up I;rw[Vu W]at L M;subst b4 eB;show fU _ _ [some (.int i),some (.ref G),some (.int g),some (.int k)] b C;simp only[fU];ext
   by_cases z:i=g
   ·subst z;rw[zF rfl]at M;rw[zP rfl];exact M b (Same.refl _) p
   ·rw[zD z]at L;rw[zN (show¬ (i:Int)=g by omega)];refine iteT ?_;refine⟨b2,G,_,rfl,n,λ_=>by rw[zqe,HT.sIx_none,HT.sIx_nat];omega,λd b0=>?_⟩;have sq1:SqB b2 K (upd b d (seqO b2 (cutV (r.map V.int) none (some (k:Int))))) d (cutV (r.map V.int) none (some (k:Int))):=SqB.cut;have y:Same b (upd b d (seqO b2 (cutV (r.map V.int) none (some (k:Int))))):=Same.new b0;generalize upd b d _=u at sq1 y;rw[Ry ⋯]at sq1;refine⟨b2,d,_,rfl,sq1,λf b3=>?_⟩;have Y:(upd u f (.lst ((r.take k).map V.int))) f=some (.lst ((r.take k).map V.int)):=oP;have D:Same u (upd u f (.lst ((r.take k).map V.int))):=Same.new b3;generalize upd u f _=q at Y D;refine⟨b2,G,_,rfl,(n.up y).up D,λ_=>by rw[zqe,HT.sIx_none,show(k:Int)+1=((k+1:Nat):Int) by omega,HT.sIx_nat];omega,λc a0=>?_⟩;have sq3:SqB b2 K (upd q c (seqO b2 (cutV (r.map V.int) (some ((k:Int)+1)) none))) c (cutV (r.map V.int) (some ((k:Int)+1)) none):=SqB.cut;have o:Same q (upd q c (seqO b2 (cutV (r.map V.int) (some ((k:Int)+1)) none))):=Same.new a0;generalize upd q c _=m at sq3 o;rw[show(k:Int)+1=((k+1:Nat):Int) by omega,Rx ⋯]at sq3;refine⟨b2,c,_,rfl,sq3,λl Z=>?_⟩;have v:Same m (upd m l (.lst ((r.drop (k+1)).map V.int))):=Same.new Z;have N:(upd m l (.lst ((r.drop (k+1)).map V.int))) l=some (.lst ((r.drop (k+1)).map V.int)):=oP;generalize upd m l _=a4 at N v;refine⟨f,l,_,_,rfl,rfl,v _ _ (o _ _ Y),N,by rw[zqe,zqe,yK,tF];exact vY (iH ⋯),λa5 F=>?_⟩;have R:Same b (upd a4 a5 (.lst ((r.take k).map V.int++(r.drop (k+1)).map V.int))):=(((y.trans D).trans o).trans v).trans (Same.new F);refine L _ _ R ?_;rw[xD];refine(p.mono R.x).snoc (λe=>?_) ?_
    ·subst e;rw[v _ _ (o _ _ (D _ _ (y _ _ a1)))]at F;cases F
    ·rw[oP];dsimp only;rw[List.eraseIdx_eq_take_drop_succ,xD]
  ·intro b ys I e1 p;rw[a6,qV]at p;exact a2 X b U I (lW.mat e1 p)
theorem ok_9(T:Txt K mg t):∀n:Nat,FnOk P w K mg base CX0 (n+1) t.a_9 t.d_9 pE' (sp_9 K n)
 |0=>⟨λ_ _ _ _ h=>h.elim,λ_ _ _ _ _ _ _ _ _ _ _ _ _ h=>h.elim⟩
 | n+1=>by
  apply T.F_9.ok sc_9
  ·obtain⟨b1,b2,a,c,B,rfl,i,d,a4,y,X,I⟩:=h;refine⟨_,(oM (nK (nH lG (mL T.z_len (pq 0)) oN (nD _))
   (oO (oW (oX (oX (pq 0)))))
   nJ)
   (oM (oU (i:=1) sc_9.nd rfl (Or.inl rfl) oN)
   (oM (oU (i:=2) sc_9.nd rfl (Or.inl rfl) oN)
   (oM (mQ yL rfl (bO rfl T.z_enumerate (oJ (oX (pq 0)) oK)) (gN rfl (lD (nX (i:=3) sc_9.nd rfl (Or.inl rfl)) (lD (nX (i:=4) sc_9.nd rfl (Or.inl rfl)) iU)))
   (oM (nK (nH hJ (pq 4) oN (nD _))
   (oO (Fy (i:=1) sc_9.nd rfl (Or.inl rfl) (oS nR (oS nR (pq 2) (pq 4)) (oQ (ok_9 T n) hr.mo T.F_9 (oJ (oQ (ok_17 T) hr.mo T.F_17 (oJ (pq 0) (oJ oN (oJ (pq 3) oK)))) oK))) Fx))
   nJ)
   (oO (oU (i:=2) sc_9.nd rfl (Or.inl rfl) (gO gQ (pq 2))))))
   (oO (oW (pq 1))))))),?_⟩
   show tSeq _ _ _ [some (.ref a),none,none,none,none] H;obtain⟨L,R⟩:=row0 d;have a1:(c.getD 0 []).length=n+1:=d.2 _ R;right;refine hX i ?_;ext;rw[d.1]
   by_cases z:n=0
   ·subst z;rw[zP (by rfl)];exact iteT (gW i L (getD_at (k:=0) ⋯) rfl rfl (I H (Same.refl _)))
   ·rw[zN (show¬ ((n+1:Nat):Int)=1 by omega)];refine iteF ?_;obtain⟨n,rfl⟩:∃m,n=m+1:=⟨n-1,⋯⟩;left;left;subst e1;refine st λN1 e1=>mT λa7 eB=>?_;simp only[dU];ext;refine Rz i L rfl λp G=>⟨b2,_,rfl,⟨_,G⟩,?_⟩;generalize hf:(λk=>(c.getD 0 []).getD k 0*detM (n+1) (lY 0 k c))=f;refine Hv (nx:=N1) (rt:=Q) (λk j e=>∃v3 v,j=[some (.ref a),some (.int (altS f k)),some (.int (sg k)),v3,v]/\Same H e) ⟨_,_,rfl,Same.refl _⟩ (λ_ _ _ _⟨_,_,_,b⟩=>G.up b) ?_ ?_
    ·rintro k x q j e Z ⟨v3,v,rfl,b⟩ Y;obtain⟨x,S,rfl⟩:=kU Z;have O:k<n+2:=by have:=(zqa S).1;omega
     refine⟨q,[.int k,.int x],rfl,SqT.of oP,rfl,_,_,rfl,_,_,rfl,rfl,?_⟩;replace b:=b.trans (Same.new (o:=.tup [.int k,.int x]) Y);generalize upd e q (.tup [.int k,.int x])=J at b;subst eB;show tSeq _ _ _ [some (.ref a),some (.int (altS f k)),some (.int (sg k)),some (.int k),some (.int x)] J;refine st λa2 a3=>?_;have C:∀g(l:Int),Same H g->l=altS f (k+1)->a2 [some (.ref a),some (.int l),some (.int (sg k)),some (.int k),some (.int x)] g:=by
      intro g l u V;subst a3 V;ext;rw[Vw];exact⟨rfl,u⟩
     ext;have D:(c.getD 0 []).getD k 0=x:=Qb S;have M:f k=x*detM (n+1) (lY 0 k c):=by rw[←hf];dsimp only;rw[D]
     have N:=d.minor (i:=0) (k:=k) ⋯ O;have F:nS B (lY 0 k c):=y.minor
     by_cases o:x=0
     ·rw[zP o];refine iteF (C J _ b ?_);show _=altS f k+sg k*f k;rw[M,o];simp
     ·rw[zN o];refine iteT ?_;simp only[tAug,ipI];ext;refine⟨tK (by unfold sg;split <;> decide),b1,b2,a,c,0,k,_,rfl,i.up b,d.2,O,⋯,by rw[d.1];omega,λr g _ u a0=>?_⟩;refine⟨false,false,r,_,B,rfl,a0.b,N,⋯,F,X,λU W=>?_⟩;ext;have a6:=y _ R x (by rw[←D];exact L2.getD_mem ⋯);have a5:=Dx (n+1) _ ⋯ ⋯ N F;refine⟨yQ (m:=B+1) (n:=(n+1)*(B+2)+1) (nL ?_) (nL ?_) ?_,?_⟩
      ·rw[xA,Dy,pU,qP];omega
      ·rw[qP];have:=tR ((n+1)*(B+2));omega
      ·have:(n+1)*(B+2)<=4*1000002:=xZ ⋯ ⋯;omega
      ·refine C U _ ((b.trans u).trans W) ?_;show _=altS f k+sg k*f k;rw[M,Int.mul_assoc]
    ·rintro j e ⟨v3,v,rfl,b⟩;symm;rw[zqe,a1];have:altS f (n+2)=detM (n+2) c:=by rw[←hf];rfl
     rw[this];exact I e b
theorem ok_o(T:Txt K mg t):FnOk P w K mg base CX0 1 t.a_o t.d_o ["size"] sp_o:=by
 apply T.F_o.ok sc_o
 ·obtain⟨n,rfl,f,G⟩:=h;refine⟨_,(oO (oW (iJ (xs:=["i"]) (fr:=[("size",0)]) (g:=(nB 0)) (tt:=(tEl (mP (nU (nF (tVar 1) tNil)) (nB 0) (tEl (tIf (bE (tOp (rI0 λi j=>.bl (decide (i=j))) (tVar 1) (tVar 0))) (tC (.int 1)) (tC (.int 0)))) 1 [("i",0)]))) (kQ (sc:=oR aL) (N:=N_o) rfl rfl (nofun)) rfl (mF rfl T.z_range (oJ (pq 0) oK)) (λ_ _ _ a=>(fV (N:=["i","size"]) (i:=0) a rfl (nofun) rfl)) (λ_ _ _ a=>(jI (nT (N:=["i","size"]) (fr:=[("i",0)]) (te:=(tIf (bE (tOp (rI0 λi j=>.bl (decide (i=j))) (tVar 1) (tVar 0))) (tC (.int 1)) (tC (.int 0)))) a rfl (nofun) rfl (nofun) (mF rfl T.z_range (oJ (pv 1) oK)) (λ_ _ _ W=>(Eb (nH lG (pv 1) (pv 0) (nD _)) oN oN)))))))),?_⟩;show tRet _ _ [some (.int n)] H;ext;refine nN λB eB=>?_;simp only[nU];ext;refine⟨⋯,⋯,λd p=>?_⟩;rw[zQ];refine kI (RowR d λi=>(List.range n).map λk=>if i=k then(1:Int) else 0) p f (RowR.mono (a:=d)) ?_ ?_
  ·intro i b zs hi q F R J;subst eB;show mP _ _ _ _ _ [some (.int (0+(i:Int))),some (.int n)] b R;refine nN λB eB=>?_;simp only[nU];ext;refine⟨⋯,⋯,λC o=>?_⟩;rw[zQ];refine kI (λk y _=>k<n/\y=.int (if i=k then 1 else 0)) o f (λ_ _ _ _ r _=>r) ?_ ?_
   ·intro k l U m v S L g;subst eB;show tIf _ _ _ [some (.int (0+(k:Int))),some (.int (0+(i:Int)))] l L;ext
    by_cases z:i=k
    ·rw[zP ⋯];exact iteT (g _ _ (Same.refl _) ⟨m,by rw[zF z]⟩)
    ·rw[zN ⋯];exact iteF (g _ _ (Same.refl _) ⟨m,by rw[zD z]⟩)
   ·intro l ys v N c D;have x:ys=((List.range n).map λk=>if i=k then(1:Int) else 0).map V.int:=by
     refine mK (by simpa using c) λj y e=>?_;obtain⟨M,rfl⟩:=D j y e;exact⟨_,by rw[zI,yW M];rfl,rfl⟩
    subst x;exact J _ _ v ⟨C,rfl,yA (nY F o),N⟩
  ·intro b ys q O c I;have u:=MatL.of O I;rw[c]at u;exact G d b p q u
theorem Dv{H:Hp}{a f:Addr}{M:LM}{J:St}{Q:VK}{b1 b2:Bool}(F:MatB b1 b2 K H a M)(hl:M.length<=1000)(C:H f=none)
  (u:∀b zs,Same H b->b f=some (.lst zs)->(∀l,b l=none->MatB true true K (upd b l (.tup zs)) l M)->Q (.ref f) b):lO (Its K b1 a) (nB 0) (tEl (tCB (fW K) (nF (tVar 0) tNil))) 1 [] J f H Q:=by
 cases b2 with
 |false =>
  refine Rv F hl C λb c G=>?_;obtain⟨zs,d,_⟩:=id G;refine u b _ c d λl g=>?_;obtain⟨a2,D,N⟩:=G.tuple (K:=K) g;rw[d]at D;cases D;exact N
 | true =>
  obtain⟨xs,L,a1,W⟩:=F.walk;refine mU (λj y _=>∃p r,y=.ref p/\M[j]?=some r/\SqB true K H p (r.map V.int)) C L ⋯ (λ_ _ _ _ r _=>r) ?_ ?_
  ·intro i x b zs R c a0 a3 O;obtain⟨p,r,rfl,S,o⟩:=W i x R;exact⟨_,rfl,p,_,rfl,.inr ⟨o.up c,O _ _ (Same.refl _) ⟨p,r,rfl,S,o⟩⟩⟩
  ·intro b ys c e1 v m;have T:∃ps:LA,ys=ps.map V.ref:=by
    clear e1 v;have:∀(zs:List V),(∀(j:Nat) y,zs[j]?=some y->∃p:Addr,y=.ref p)->∃ps:LA,zs=ps.map V.ref:=by
     intro zs
     induction zs with
     |nil=>intro _;exact⟨[],rfl⟩
     |cons z r Y =>
      intro d;obtain⟨p,e⟩:=d 0 z rfl;obtain⟨ps,k⟩:=Y λj y q=>d (j+1) y (by simpa using q);exact⟨p:: ps,by rw[e,k];rfl⟩
    exact this ys λj y e=>let ⟨p,r,e1,_⟩:=m j y e;⟨p,e1⟩
   obtain⟨ps,rfl⟩:=T;refine u b _ c e1 λl g=>⟨ps,SqB.tup oP,by simp at v;omega,λi p r k U=>?_⟩;obtain⟨a4,Z,I,n,X⟩:=m i (.ref p) (by simp[k]);cases I;rw[U]at n;cases n;exact X.up (c.trans (Same.new g))
theorem ok_1a(T:Txt K mg t):FnOk P w K mg base CX0 1 t.a_1a t.d_1a pz' (sp_1a K):=by
 apply T.F_1a.ok sc_1a
 ·obtain⟨b1,b2,a,p,M,ts,u,rfl,i,f,hl,j⟩:=h;refine⟨_,(oO (oW (lV (oJ (mB jJ rfl T.z_tuple (nofun) (oJ (nT (sc:=oR s_1a) (N:=N_1a) (fr:=[]) (te:=(tCB (fW K) (nF (tVar 0) tNil))) rfl rfl (nofun) rfl (nofun) (nV (pq 0)) (λ_ _ _ y=>(mB jJ rfl T.z_tuple (nofun) (oJ (pv 0) oK)))) oK)) (oJ (oX (pq 1)) (oJ (oX (pq 1)) oK)))))),?_⟩;show tRet _ _ [some (.ref a),some (.ref p)] H;ext;exfalso;obtain⟨xs,k,_⟩:=i.walk;refine⟨b1,⟨_,k⟩,λv r=>?_⟩;subst eB;refine Dv i ⋯ r λe zs m o b=>?_;refine⟨v,_,rfl,.inl ⟨SqL.of o,λl g=>?_⟩⟩;have c:Same H (upd e l (.tup zs)):=m.trans (Same.new g);replace b:=b l g;generalize upd e l (.tup zs)=z at c b;refine Vr (f.up c) λx n=>Vq (f.up c) ⟨(by show 3<=sizeLine;decide),λq d=>j q _ (c.trans (Same.new d)) ⟨l,x,oP,b.up (Same.new d),Same.new d _ _ n⟩⟩
theorem ok_1k(T:Txt K mg t):FnOk P w K mg base CX0 2 t.a_1k t.d_1k pG' (sp_1k K):=by
 apply T.F_1k.ok sc_1k
 ·obtain⟨p,M,ts,u,rfl,a,hl,r,n,e⟩:=h;refine⟨_,(oO (oW (oQ (ok_1a T) hr.mo T.F_1a (oJ (oX (pq 0)) (oJ (oQ (ok_n T) hr.mo T.F_n (oJ (lV (oJ (oX (pq 0)) (oJ (oX (pq 0)) oK))) oK)) oK))))),?_⟩;show tRet _ _ [some (.ref p)] H;ext;refine jK a λx f=>gI a λy d=>kW a ⟨(by show 2<=sizeLine;decide),λl k=>?_⟩;have b:Same H (upd H l (.tup [.ref y,.int u])):=Same.new k;refine⟨l,ts,u,rfl,⟨y,SqT.of oP,lP b _ _ d⟩,r,n,λi v c j=>?_⟩;exact⟨true,true,x,i,M,_,u,rfl,f.up (b.trans c),j,hl,λq m o g=>e q m ((b.trans c).trans o) g⟩
theorem ok_1g(T:Txt K mg t):FnOk P w K mg base CX0 3 t.a_1g t.d_1g ["one","spot"] (sp_1g K):=by
 apply T.F_1g.ok sc_1g
 ·obtain⟨p,q,M,ts,ns,u,v,d,rfl,f,D,a,b5,c0,c2,R,o,g,a2⟩:=h;refine⟨_,(oM (Bw (i:=2) (xs:=["row","top"]) (fr:=[("one",0),("spot",1)]) (g:=(gTup K 2 (lC (nB 0) (lC (nB 1) gNil)))) (tt:=(tEl (tOp (rI0 λi j=>.int (i+j)) (tOp (rI (λi j=>IntMulOk i j) λi j=>.int (i*j)) (mS (sp_1o K) [] E0 (nF (tVar 0) (nF (tOp (rIxB K) (tVar 3) (tC (.int 0))) tNil))) (tOp (rIxB K) (tVar 2) (tC (.int 2)))) (tOp (rI (λi j=>IntMulOk i j) λi j=>.int (i*j)) (tVar 1) (tOp (rIxB K) (tVar 3) (tC (.int 1))))))) (kQ (sc:=oR s_1g) (N:=N_1g) rfl rfl (nofun)) rfl sc_1g.nd rfl rfl (Ge rfl T.z_zip (oJ (oX (pq 0)) (oJ (oX (pq 0)) oK))) (λ_ _ _ k=>(gN rfl (lD (jS (N:=["row","top","one","spot"]) (i:=0) k rfl (nofun)) (lD (jS (N:=["row","top","one","spot"]) (i:=1) k rfl (nofun)) iU)))) (λ_ _ _ k=>(jI (oS mJ (oS nR (oQ (ok_1o T) hr.mo T.F_1o (oJ (pv 0) (oJ (oX (pv 3)) oK))) (oX (pv 2))) (oS nR (pv 1) (oX (pv 3)))))))
   (oO (oW (dL (ok_1b T) hr.mo rfl T.F_1b.m T.F_1b.kp T.F_1b.b .nil fR (oJ (pq 2) (oJ (oS nR (oX (pq 0)) (oX (pq 1))) oK)))))),?_⟩
  show tSeq _ _ _ [some (.ref p),some (.ref q),none] H;right;refine nN λB eB=>?_;simp only[iZip];ext;refine jK f λx a3=>gI f λy J=>?_;obtain⟨xs,N,l,b2⟩:=a3.walk;refine⟨true,true,x,rfl,y,rfl,⟨_,N⟩,⟨_,(J:SqB true K H y _)⟩,λb1 a8=>?_⟩;have a5:∀(i:Nat)(r:LI')(tt:Int),M[i]?=some r->ts[i]?=some tt->(movT M ts u ns v)[i]?=some (dotI r ns*u+tt*v):=λi r tt e1 F=>by
   unfold movT;rw[xY,e1,F]
  refine Gb (λj z _=>∃n,(movT M ts u ns v)[j]?=some n/\z=.int n) a8 N ((J:SqB true K H y _)) (by rw[l,a.sq.1,zqe,a.len]) (by rw[l,a.sq.1];omega) (λ_ _ _ _ r _=>r) ?_ ?_
  ·intro i U c1 G zs a9 a0 b b9 b4 a6;obtain⟨pr,r,rfl,I,a1⟩:=b2 i U a9;obtain⟨tt,L,rfl⟩:=kU a0;have b7:r.length=d:=a.sq.2 r (zqb I);have S:=a.bm r (zqb I);subst eB;show tOp _ _ _ [some (.ref pr),some (.int tt),some (.ref p),some (.ref q)] G b4;ext;refine Jp (D.up b) λz a7=>?_;refine⟨true,true,pr,z,r,ns,rfl,a1.up b,(a7:SqB true K G z _),⋯,⋯,λb6 m n e1 F=>yQ (nL (S m (zqb e1))) (nL (R n (zqb F))) ∅,λO c=>?_⟩;refine kW (f.up (b.trans c)) ?_;ext;have b8:=cK r ns S R;have X:(dotI r ns).natAbs<2^400010:=by
    have:r.length*2^(200000+200000)<=4*2^(200000+200000):=wC _ ⋯;have e:(2:Nat)^400010=1024*2^(200000+200000):=by rw[show(400010:Nat)=10+(200000+200000) from rfl,vG]
    have:=tR (200000+200000);omega
   refine⟨yQ (nL X) (nL (eQ a.pos a.bu)) ∅,?_⟩;refine Dw (D.up (b.trans c)) ?_;ext;refine⟨yQ (nL (a.bt tt (zqb L))) (nL (eQ o g)) ∅,?_⟩;exact a6 _ _ c ⟨_,a5 i r tt I L,rfl⟩
  ·intro G zs b a4 Z Y;have C:(movT M ts u ns v).length=d:=by unfold movT;rw[xX,a.sq.1,a.len];omega
   have W:zs=(movT M ts u ns v).map V.int:=mK (by rw[Z,l,a.sq.1,C]) Y;subst W;symm;refine kW (f.up b) ?_;refine Dw (D.up b) ?_;ext;have b3:=Vt a.pos a.bu o g;refine⟨yQ (nL (eQ a.pos a.bu)) (nL (eQ o g)) ∅,?_⟩;refine⟨false,b1,_,_,rfl,SqB.lst a4,⋯,b3.1,λz=>?_,λ_ _ r O c b0=>a2 r O (b.trans c) b0⟩;rcases z with z|z
   ·omega
   ·rw[z]at C;simp at C;omega
theorem ok_1d(T:Txt K mg t):FnOk P w K mg base CX0 4 t.a_1d t.d_1d py' (sp_1d K):=by
 apply T.F_1d.ok sc_1d
 ·obtain⟨p,q,M,N,ts,ns,u,v,d,rfl,L,a6,a,g,b2,c0,c1⟩:=h;refine⟨_,(oM (oU (i:=2) sc_1d.nd rfl (Or.inr rfl) (oQ (ok_1f T) hr.mo T.F_1f (oJ (oX (pq 0)) oK)))
   (oM (Bw (i:=3) (xs:=["row"]) (fr:=[("columns",2)]) (g:=(nB 0)) (tt:=(tEl (mP (iSeq K (tVar 1)) (nB 0) (tEl (mS (sp_1o K) [] E0 (nF (tVar 1) (nF (tVar 0) tNil)))) 1 [("row",0)]))) (kQ (sc:=oR s_1d) (N:=N_1d) rfl rfl (nofun)) rfl sc_1d.nd rfl rfl (nV (oX (pq 1))) (λ_ _ _ R=>(fV (N:=["row","columns"]) (i:=0) R rfl (nofun) rfl)) (λ_ _ _ R=>(jI (nT (N:=["row","columns"]) (fr:=[("row",0)]) (te:=(mS (sp_1o K) [] E0 (nF (tVar 1) (nF (tVar 0) tNil)))) R rfl (nofun) rfl (nofun) (nV (pv 1)) (λ_ _ _ f1=>(oQ (ok_1o T) hr.mo T.F_1o (oJ (pv 1) (oJ (pv 0) oK))))))))
   (oO (oW (oQ (ok_1a T) hr.mo T.F_1a (oJ (pq 3) (oJ (oQ (ok_1g T) hr.mo T.F_1g (oJ (pq 1) (oJ (lV (oJ (oX (pq 0)) (oJ (oX (pq 0)) oK))) oK))) oK))))))),?_⟩
  show tSeq _ _ _ [some (.ref p),some (.ref q),none,none] H;right;have d9:M≠[]:=λz=>by have:=a.sq.1;rw[z]at this;simp at this;omega
  refine jK L λx c4=>⟨true,true,x,M,d,rfl,c4,d9,a.sq.2,⋯,by rw[a.sq.1];omega,λc e9 e6 Z c2=>?_⟩;left;exfalso;refine jK (a6.up Z) λy a9=>?_;obtain⟨xs,Y,a2,d8⟩:=a9.walk;refine⟨true,y,rfl,⟨_,Y⟩,λU d4=>?_⟩;refine mU (RowR U λj=>(List.range d).map λk=>dotI (N.getD j []) (colI k M)) d4 Y (by rw[a2,g.sq.1];omega) (RowR.mono (a:=U)) ?_ ?_
  ·intro i x D zs d5 G b8 e2 d0;obtain⟨pr,r,rfl,S,b9⟩:=d8 i x d5;have c7:N.getD i []=r:=by rw[zqc,S];rfl
   have b6:r.length=d:=g.sq.2 r (zqb S);have e3:=g.bm r (zqb S);subst eB;show mP _ _ _ _ _ [some (.ref pr),some (.ref c)] D e2;exfalso;obtain⟨e8,a8,f2,c3⟩:=((c2.up G).b (K:=K)).walk;refine⟨false,⟨_,a8⟩,λb3 a5=>?_⟩;have e7:(bV d M).length=d:=by simp[bV]
   refine mU (λj y _=>y=.int (dotI r (colI j M))/\j<d) a5 a8 ⋯ (λ_ _ _ _ r _=>r) ?_ ?_
   ·intro j y a1 e5 J b e4 d2 b7;obtain⟨a3,col,rfl,I,O⟩:=c3 j y J;have o:j<d:=by have:=(zqa I).1;omega
    have c9:col=colI j M:=by
     unfold bV at I;rw[zI,yW o]at I;exact(zW I).symm
    subst eB c9;show mS _ _ _ _ [some (.ref a3),some (.ref pr)] a1 d2;ext;refine⟨true,false,pr,a3,r,colI j M,rfl,(b9.up G).up b,O.up b,by simp[colI,b6,a.sq.1],⋯,λb5 m n e1 f=>?_,λb1 C=>b7 _ _ C ⟨rfl,o⟩⟩;unfold colI at f;rw[zI]at f;cases eb:M[b5]? with
    |none=>rw[eb]at f;cases f
    |some W =>
     rw[eb]at f;have d6:W.getD j 0=n:=zW f;subst d6;have X:=zqb eb;exact yQ (nL (e3 m (zqb e1))) (nL (a.bm W X _ (L2.getD_mem (by rw[a.sq.2 W X];exact o)))) ∅
   ·intro a1 ys b d7 a4 b0;have J:ys=((List.range d).map λk=>dotI r (colI k M)).map V.int:=by
     refine mK (by simp;omega) λj y e=>?_;obtain⟨rfl,o⟩:=b0 j y e;exact⟨_,by rw[zI,yW o];rfl,rfl⟩
    subst J;exact d0 _ _ b ⟨b3,rfl,yA (nY b8 a5),by dsimp only;rw[c7];exact d7⟩
  ·intro D ys G f a4 c5;have a7:=MatL.of f c5;have e:(List.range ys.length).map (λj=>(List.range d).map λk=>dotI (N.getD j []) (colI k M))=mulM d N M:=by
    rw[a4,a2];unfold mulM;refine uB (by simp) λi a0 f0=>?_;simp at a0;simp[a0]
   rw[e]at a7;have F:=Z.trans G;symm;refine gI (L.up F) λz d1=>kW (L.up F) ⟨(by show 2<=sizeLine;decide),λl c6=>?_⟩;have b:Same D (upd D l (.tup [.ref z,.int u])):=Same.new c6;refine⟨q,l,N,ns,ts,v,u,d,rfl,(a6.up F).up b,⟨z,SqT.of oP,lP b _ _ d1⟩,g,b2,c0,a.len,a.bt,a.pos,a.bu,λr b1 C d3=>?_⟩;exact⟨false,false,U,r,_,_,_,rfl,((a7.up b).up C).b,d3,by simp[mulM,g.sq.1];omega,λb4 c8 e0 O=>c1 b4 c8 (((F.trans b).trans C).trans e0) O⟩
def Du(rows:LM)(tops:LI')(u:Int):Prop:=(rows.length=2\/rows.length=3)/\(∀r∈rows,r.length=rows.length)/\tops.length=rows.length/\u≠0/\(detM rows.length rows=1\/detM rows.length rows=-1)
def sp_1j(K:Frag)(C:Addr):Sp:=λvs H Q E=>E9 λ(b1 b2 b3:Bool)(a p:Addr)(rows:LM)(tops:LI')(u:Int)(B:Nat)=>A10 (vs=[.ref a,.ref p,.int u]) (MatB b1 b2 K H a rows) (SqB b3 K H p (tops.map V.int)) (rows.length<=100) (tops.length<=100) (nS B rows) (B<=1000000) (mO u) ((¬ Du rows tops u->∀H',Same H H'->E (.ref C) none H')) ((Du rows tops u->∀q H',Same H H'->mX K H' q rows (redT u tops) (redU u tops)->Q (.ref q) H'))
theorem inV2(L x y:Int):inV (.int L) [.int x,.int y]=decide (L=x\/L=y):=by
 have e:inV (.int L) [.int x,.int y]=(eqV (.int x) (.int L) || (eqV (.int y) (.int L) || false)):=rfl;have f:∀a b:Int,eqV (.int a) (.int b)=decide (a=b):=λa b=>by
  first|rfl|(unfold eqV;rfl)|(simp only[eqV];by_cases h:a=b <;> simp[h])
 rw[e,f,f,Bool.or_false]
 by_cases c:x=L
 ·rw[zP c,zP (p:=L=x\/L=y) (Or.inl c.symm)];rfl
 ·rw[zN c]
  by_cases d:y=L
  ·rw[zP d,zP (p:=L=x\/L=y) (Or.inr d.symm)];rfl
  ·rw[zN d,zN (p:=L=x\/L=y) ⋯];rfl
theorem Vp{H:Hp}{Q:VK}{E:XK}{b1 b2:Bool}{a:Addr}{b:LM}{n B:Nat}(g:1<=n)(d:n<=4)(i:MatB b1 b2 K H a b)(c:Sq n b)(e:nS B b)(f:B<=1000000)(q:∀H',Same H H'->Q (.int (detM n b)) H'):sp_9 K n [.ref a] H Q E:=by
 match n,g,d,c,q with
 |m+1,_,d,c,q=>exact⟨b1,b2,a,b,B,rfl,i,c,⋯,e,f,q⟩
theorem ok_1j(T:Txt K mg t):FnOk P w K mg base (CX1 P w) 6 t.a_1j t.d_1j pr' (sp_1j K t.a_1p):=by
 refine T.F_1j.okX sc_1j (λvs H Q E h=>?_) (λcdv A outer s H vs Q E hr h=>?_)
 ·obtain⟨b1,b2,Z,a,p,c,L,u,B,rfl,_⟩:=h;rfl
 ·obtain⟨b1,b2,Z,a,p,c,L,u,B,rfl,v,X,b4,b5,b0,a6,a5,f,a9⟩:=h;obtain⟨n,d6,D⟩:∃n:Nat,n<=3/\((c.length=2\/c.length=3)->n=c.length):=by
   by_cases z:c.length=2\/c.length=3
   ·exact⟨c.length,⋯,λ_=>rfl⟩
   ·exact⟨0,⋯,λh=>absurd h z⟩
  refine⟨_,(oM (oU (i:=3) sc_1j.nd rfl (Or.inr rfl) (mL T.z_len (pq 0)))
   (oM (nK (nH Ac (pq 3) (lV (oJ oN (oJ oN oK))) rfl)
   (oO (fS rfl fQ rfl T.m_1p T.x_1p xF (oJ gM oK)))
   nJ)
   (oM (nK (PW.pt (kN (lJ (lN (Rt rfl) rfl T.z_any (nofun) (oJ (nT (sc:=oR s_1j) (N:=N_1j) (fr:=[("axes",3)]) (te:=(tOp (rI0 λi j=>.bl (!decide (i=j))) (tCB (dW K) (nF (tVar 0) tNil)) (tVar 1))) rfl rfl (nofun) rfl (nofun) (nV (pq 0)) (λ_ _ _ d2=>(jD hJ (mL T.z_len (pv 0)) (pv 1) (nD _)))) oK))) (jP (nH hJ (mL T.z_len (pq 1)) (pq 3) (nD _)))))
   (oO (fS rfl fQ rfl T.m_1p T.x_1p xF (oJ gM oK)))
   nJ)
   (oM (nK (nH lG (pq 2) oN (nD _))
   (oO (fS rfl fQ rfl T.m_1p T.x_1p xF (oJ gM oK)))
   nJ)
   (oM (nK (nH Ac (oQ (ok_9 T n) hr.mo T.F_9 (oJ (pq 0) oK)) (lV (oJ oN (oJ (gO gQ oN) oK))) rfl)
   (oO (fS rfl fQ rfl T.m_1p T.x_1p xF (oJ gM oK)))
   nJ)
   (oO (oW (oQ (ok_1a T) hr.mo T.F_1a (oJ (pq 0) (oJ (dL (ok_1b T) hr.mo rfl T.F_1b.m T.F_1b.kp T.F_1b.b .nil fR (oJ (pq 1) (oJ (pq 2) oK))) oK)))))))))),?_⟩
  show tSeq _ _ _ [some (.ref a),some (.ref p),some (.int u),none] H;right;refine hX v ?_;subst e1;refine st λN1 e1=>?_;simp only[iI];ext;refine⟨by show 2<=sizeLine;decide,λJ c3=>?_⟩;have l:Same H (upd H J (.tup [.int 2,.int 3])):=Same.new c3;refine⟨J,_,rfl,.inr (SqT.of oP),rfl,rfl,_,rfl,?_⟩;generalize upd H J (.tup [.int 2,.int 3])=d7 at l;rw[inV2]
  by_cases N:c.length=2\/c.length=3
  case neg =>
   rw[zN ⋯];refine iteT ?_;simp only[iI];ext;exact⟨∅,f (λg=>N g.1) _ l⟩
  rw[zP ⋯];refine iteF ?_;replace D:=D N;subst D;left;refine nN λC c7=>?_;simp only[iSeq];ext;obtain⟨xs,R,d4,c4⟩:=(v.up l).walk;refine⟨b1,⟨_,R⟩,λc2 b8=>?_⟩;refine mU (λj y _=>∃r,c[j]?=some r/\y=.bl (!decide (r.length=c.length))) b8 R ⋯ (λ_ _ _ _ r _=>r) ?_ ?_
  ·intro i x U zs b9 M d1 c6 b7;obtain⟨pr,W,rfl,c0,a7⟩:=c4 i x b9;subst c7;show tOp _ _ _ [some (.ref pr),some (.int c.length)] U c6;ext;refine Br (a7.up M) ?_
   try ext
   refine b7 _ _ (Same.refl _) ⟨W,c0,?_⟩
   by_cases z:W.length=c.length
   ·rw[zP z,zP ⋯]
   ·rw[zN z,zN ⋯]
  ·intro U ys M c5 d5 F;have a3:ys=(c.map λr=>!decide (r.length=c.length)).map V.bl:=by
    rw[xK];exact mK ⋯ F
   subst a3;refine⟨c2,rfl,_,SqL.of c5,?_⟩
   try ext
   have d:=l.trans M
   by_cases e:∀r∈c,r.length=c.length
   case neg =>
    have O:(c.map λr=>!decide (r.length=c.length)).any id=true:=by
     rw[List.any_eq_true];obtain⟨r,hr⟩:=Classical.not_forall.mp e;obtain⟨a4,F⟩:=Classical.not_imp.mp hr;exact⟨true,pZ.mpr ⟨r,a4,by rw[zN F];rfl⟩,rfl⟩
    rw[O];refine iteT ?_;simp only[iI];ext;exact⟨∅,f (λg=>e g.2.1) _ d⟩
   have O:(c.map λr=>!decide (r.length=c.length)).any id=false:=by
    rw[List.any_eq_false];intro b a2;obtain⟨r,hr,rfl⟩:=pZ.mp a2;rw[zP (e r hr)]
    decide
   rw[O];refine iteF ?_;refine Br (X.up d) ?_
   try ext
   by_cases o:L.length=c.length
   case neg =>
    rw[zN ⋯];refine iteT ?_;simp only[iI];ext;exact⟨∅,f (λg=>o g.2.2.1) _ d⟩
   rw[zP ⋯];refine iteF ?_;subst e1;refine st λN1 e1=>?_;simp only[iI];ext;refine ite2 (λz=>⟨∅,f (λg=>g.2.2.2.1 (xQ z)) _ d⟩) (λz=>?_);have a0:u≠0:=λq=>z (zP q);left;refine Vp ⋯ ⋯ (v.up d) ⟨rfl,e⟩ b0 a6 λG c8=>?_
   try ext
   refine⟨by show 2<=sizeLine;decide,λI c9=>?_⟩;have S:Same G (upd G I (.tup [.int 1,.int (-1)])):=Same.new c9;refine⟨I,_,rfl,.inr (SqT.of oP),rfl,rfl,_,rfl,?_⟩;generalize upd G I (.tup [.int 1,.int (-1)])=d0 at S;have m:=(d.trans c8).trans S;rw[inV2]
   by_cases k:detM c.length c=1\/detM c.length c=-1
   case neg =>
    rw[zN k];refine iteT ?_;simp only[iI];ext;exact⟨∅,f (λg=>k g.2.2.2.2) _ m⟩
   rw[zP k];refine iteF ?_;symm;refine⟨Z,p,L,u,rfl,X.up m,b5,a5,λz=>?_,λ_ _ b6 d3 Y c1=>⟨b1,b2,a,b6,c,_,_,rfl,v.up (m.trans Y),c1,b4,λq a8 a1 b3=>a9 ⟨N,e,o,a0,k⟩ q a8 ((m.trans Y).trans a1) b3⟩⟩;rcases z with z|z
   ·exact absurd z a0
   ·rw[z]at o;simp at o;omega
def sp_1i(K:Frag):Sp:=λvs H Q _=>E1 λ(d:Nat)=>A3 (vs=[.int d]) ((d=2\/d=3)) (∀q H',Same H H'->mX K H' q (idM d) (List.replicate d 0) 1->Q (.ref q) H')
theorem Vo(ns:LI'):gl 1 ns=1:=Int.eq_one_of_dvd_one (aV 1 ns) (gl_u 1 ns)
theorem Vn{d:Nat}(b:d=2\/d=3):Du (idM d) (List.replicate d 0) 1/\nS 1 (idM d):=by
 rcases b with rfl|rfl
 ·exact⟨⟨.inl rfl,∅,∅,∅,.inl ∅⟩,by intro r hr x a;revert r x;decide⟩
 ·exact⟨⟨.inr rfl,∅,∅,∅,.inl ∅⟩,by intro r hr x a;revert r x;decide⟩
theorem Vm:mO 1:=iP (B:=1) ∅ ∅
theorem ok_1i(T:Txt K mg t):FnOk P w K mg base CX0 8 t.a_1i t.d_1i ["d"] (sp_1i K):=by
 apply T.F_1i.ok sc_1i
 ·obtain⟨d,rfl,m,o⟩:=h;refine⟨_,(oO (oW (dL (ok_1j T) hr.mo rfl T.F_1j.m T.F_1j.kp T.F_1j.b .nil fR (oJ (oQ (ok_o T) hr.mo T.F_o (oJ (pq 0) oK)) (oJ (oS Ab (nI (oJ oN oK)) (pq 0)) (oJ oN oK)))))),?_⟩;show tRet _ _ [some (.int d)] H;ext;refine⟨d,rfl,⋯,λr a _ p x=>?_⟩
  try ext
  refine⟨by show 1<=sizeLine;decide,λl hl=>?_⟩;have c:Same a (upd a l (.lst [.int 0])):=Same.new hl;have i:(upd a l (.lst [.int 0])) l=some (.lst [.int 0]):=oP;generalize upd a l (.lst [.int 0])=b at c i;refine⟨l,d,_,rfl,rfl,i,⋯,⋯,?_,λl2 z=>?_⟩
  ·rw[zQ];show 1*d<=sizeLine;have:3<=sizeLine:=∅
   omega
  have e:Same b (upd b l2 (.lst (List.replicate (d:Int).toNat [V.int 0]).flatten)):=Same.new z;have k:(upd b l2 (.lst (List.replicate (d:Int).toNat [V.int 0]).flatten)) l2=some (.lst ((List.replicate d (0:Int)).map V.int)):=by
   rw[oP,zQ];rcases m with rfl|rfl <;> rfl
  generalize upd b l2 (.lst (List.replicate (d:Int).toNat [V.int 0]).flatten)=D at e k;obtain⟨g,y⟩:=Vn m;have j:=Vz (u:=1) ∅ (Vo (List.replicate d 0));have e1:redT 1 (List.replicate d 0)=List.replicate d 0:=j.1;have v:redU 1 (List.replicate d 0)=1:=j.2;refine⟨false,false,false,r,l2,idM d,List.replicate d 0,1,1,rfl,((x.up c).up e).b,SqB.lst k,by simp[idM];omega,by simp;omega,y,∅,Vm,λn=>absurd g n,λ_ q u C f=>?_⟩;rw[e1,v]at f;exact o q u ((p.trans (c.trans e)).trans C) f
def cL(M:LM)(ts:LI')(u:Int):PyData:=.tuple [matD true true M,fY true ts,.int u]
theorem Vl{M N:LM}{ts ns:LI'}{u v:Int}:cL M ts u=cL N ns v↔(M=N/\ts=ns/\u=v):=by
 unfold cL;simp only[PyData.tuple.injEq,List.cons.injEq,PyData.int.injEq,and_true,Qe,Hw]
theorem Dt.deed{K:Frag}{H:Hp}{p:Addr}{M:LM}{ts:LI'}{u:Int}(h:mX K H p M ts u):Dt K H (.ref p) (cL M ts u):=by
 obtain⟨pr,pt,a,b,c⟩:=h;exact .tup (SqT.of a) (.cons (Dt.matB b) (.cons (Dt.intsB (SqB.tup c)) (.cons (.int u) .nil)))
abbrev Dd:=LM×List Int×Int
def dat(x:Dd):PyData:=cL x.1 x.2.1 x.2.2
theorem eT{x y:Dd}:dat x=dat y↔x=y:=by
 obtain⟨M,ts,u⟩:=x;obtain⟨N,ns,v⟩:=y;unfold dat;rw[Vl];simp
theorem aY{n:Nat}{ds:List PyData}:tT (n+1) (.tuple ds)=ds.all (tT n):=rfl
theorem kL(x:Dd):tT 4 (dat x)=true:=by
 obtain⟨M,ts,u⟩:=x;have hi:∀(n:Nat)(l:LI'),(l.map PyData.int).all (tT n)=true:=λn l=>by
  rw[vE];intro d a;obtain⟨i,_,rfl⟩:=pZ.mp a;cases n <;> rfl
 show tT 4 (.tuple [.tuple (M.map λr=>.tuple (r.map PyData.int)),.tuple (ts.map PyData.int),.int u])=true;rw[aY,xH,xH,xH,aY,aY,hi];have:(M.map λr=>PyData.tuple (r.map PyData.int)).all (tT 2)=true:=by
  rw[vE];intro d a;obtain⟨r,_,rfl⟩:=pZ.mp a;rw[aY];exact hi 1 r
 rw[this];rfl
def DdAt(K:Frag)(H:Hp)(p:Addr)(x:Dd):Prop:=mX K H p x.1 x.2.1 x.2.2
theorem DdAt.up{K:Frag}{H H':Hp}{p:Addr}{x:Dd}(h:DdAt K H p x)(s:Same H H'):DdAt K H' p x:=mX.up h s
theorem DdAt.dt{K:Frag}{H:Hp}{p:Addr}{x:Dd}(h:DdAt K H p x):Dt K H (.ref p) (dat x):=Dt.deed h
abbrev DdS(K:Frag)(H:Hp)(p:Addr)(x:Dd):Prop:=lR K H p x.1 x.2.1 x.2.2
theorem DdS.up{K:Frag}{H H':Hp}{p:Addr}{x:Dd}(h:DdS K H p x)(s:Same H H'):DdS K H' p x:=lR.up h s
theorem DdAt.s{K:Frag}{H:Hp}{p:Addr}{x:Dd}(h:DdAt K H p x):DdS K H p x:=mX.s h
def oV(x:Dd):Dd:=(x.1,nW x.2.2 x.2.1,x.2.2)
def behD(d:Nat)(x s:Dd):Dd:=(mulM d s.1 x.1,redT (s.2.2*x.2.2) (movT s.1 s.2.1 s.2.2 x.2.1 x.2.2),redU (s.2.2*x.2.2) (movT s.1 s.2.1 s.2.2 x.2.1 x.2.2))
def oZ(d:Nat)(x s:Dd):Dd:=oV (behD d x s)
def nE(d:Nat):Dd:=(idM d,List.replicate d 0,1)
abbrev Tb:=List (Dd×List Nat)
def nxt(d:Nat)(x:Dd)(w:List Nat)(tb:Tb)(ks:Dd×Nat):Tb:=if oZ d x ks.1∈tb.map (·.1) then tb else tb++[(oZ d x ks.1,w++[ks.2])]
def kA(d:Nat)(ss:List Dd)(tb:Tb)(i:Nat):Tb:=match tb[i]? with
 |none=>tb
 |some xw=>ss.zipIdx.foldl (nxt d xw.1 xw.2) tb
def nP(d:Nat)(ss:List Dd):Nat->Nat->Tb->Tb
 |0,_,tb=>tb
 |n+1,i,tb=>if i<tb.length then nP d ss n (i+1) (kA d ss tb i) else tb
theorem Vk(d:Nat)(x:Dd)(w:List Nat)(tb:Tb)(ks:Dd×Nat):∃r,nxt d x w tb ks=tb++r:=by
 unfold nxt;split
 ·exact⟨[],by simp⟩
 ·exact⟨_,rfl⟩
theorem cM(d:Nat)(x:Dd)(w:List Nat):∀(l:List (Dd×Nat))(tb:Tb),∃r,l.foldl (nxt d x w) tb=tb++r
 |[],tb=>⟨[],by simp⟩
 |k:: l,tb=>by
  obtain⟨r1,e1⟩:=Vk d x w tb k;obtain⟨r2,a⟩:=cM d x w l (nxt d x w tb k);exact⟨r1++r2,by rw[wN,a,e1,yI]⟩
theorem Jo(d:Nat)(ss:List Dd)(tb:Tb)(i:Nat):∃r,kA d ss tb i=tb++r:=by
 unfold kA;split
 ·exact⟨[],by simp⟩
 ·exact cM ..
theorem Ds(d:Nat)(ss:List Dd):∀(n i:Nat)(tb:Tb),∃r,nP d ss n i tb=tb++r
 |0,i,tb=>⟨[],by simp[nP]⟩
 |n+1,i,tb=>by
  unfold nP;split
  ·obtain⟨r1,e1⟩:=Jo d ss tb i;obtain⟨r2,a⟩:=Ds d ss n (i+1) (kA d ss tb i);exact⟨r1++r2,by rw[a,e1,yI]⟩
  ·exact⟨[],by simp⟩
def mY(d:Nat)(x:Dd):Prop:=Fine d x.1 x.2.1 x.2.2
def TbAt(H0 H:Hp)(tb:Tb)(kvs:List (PyData×V)):Prop:=Paired (λ(x:Dd×List Nat)(kv:PyData×V)=>kv.1=dat x.1/\∃p,kv.2=.ref p/\H0 p=none/\H p=some (.lst (x.2.map λn=>V.int (n:Nat)))) tb kvs
def sp_14(K:Frag)(C:Addr):Sp:=λvs H Q E=>E7 λ(b:Bool)(d:Nat)(a:Addr)(ps:LA)(ms:List Dd)(most:Nat)(G:Dd->Prop)=>A14 (vs=[.int d,.ref a,.int most]) ((d=2\/d=3)) (SqB b K H a (ps.map V.ref)) (Paired (DdS K H) ps ms) (ms.length<=200) ((∀s∈ms,mY d s)) ((∀s∈ms,mY d (oV s))) ((∀x,G x->mY d x)) (G (nE d)) ((∀x s,G x->s∈ms->G (oZ d x (oV s)))) (1<=most) (most<=200) (((nP d (ms.map oV) 201 0 [(nE d,[])]).length<=most->∀w kvs H',Same H H'->H w=none->DTr K H' w kvs->TbAt H H' (nP d (ms.map oV) 201 0 [(nE d,[])]) kvs->Q (.ref w) H')) ((most<(nP d (ms.map oV) 201 0 [(nE d,[])]).length->∀H',Same H H'->E (.ref C) none H'))
def sp_w:Sp:=λvs H Q _=>E1 λ(n:Nat)=>A4 (vs=[.int n]) (1<=n) (n<=200) (Q .non H)
def sp_s(K:Frag):Sp:=λvs H Q _=>E5 λ(b:Bool)(d:Nat)(a:Addr)(ps:LA)(ms:List Dd)=>A6 (vs=[.int d,.ref a]) ((d=2\/d=3)) (SqB b K H a (ps.map V.ref)) (Paired (DdS K H) ps ms) ((∀s∈ms,s.1.length=d)) (∀H',Same H H'->Q .non H')
theorem Vj{prog:Program}{w:World}:∀n,n<=200->cI prog w n:=λn _=>Tu n
theorem Dr{K:Frag}{H:Hp}{a b:Addr}{kvs:List (PyData×V)}{k:PyData}{v:V}{Q:VK}(g:DTr K H a kvs)(t:tT 4 k=true)(d:Dt K H (.ref b) k)(e:vT kvs k=some v)(q:Q v H):bW K (.ref a) (.ref b) H Q:=⟨a,kvs,b,k,v,rfl,rfl,g,t,d,e,q⟩
theorem Vi{K:Frag}{H:Hp}{a b:Addr}{kvs:List (PyData×V)}{k:PyData}{c:Bool}{Q:VK}(g:DTr K H a kvs)(t:tT 4 k=true)(d:Dt K H (.ref b) k)(q:Q (.bl (if c=true then !(vT kvs k).isSome else(vT kvs k).isSome)) H):rInT K c (.ref b) (.ref a) H Q:=⟨a,kvs,b,k,rfl,rfl,g,t,d,q⟩
theorem gJ{a b:Type}{f:a->b}{l:List a}{i:Nat}{y:b}(h:(l.map f)[i]?=some y):∃x,l[i]?=some x/\y=f x:=by
 rw[zI]at h;cases hx:l[i]? with
 |none=>rw[hx]at h;cases h
 |some x=>rw[hx]at h;exact⟨x,rfl,(zW h).symm⟩
def CpOk:Nat->V->Hp->Prop
 |0,x,_=>∃i,x=.int i
 |n+1,x,H=>∃a xs,x=.ref a/\H a=some (.lst xs)/\xs.length<=1000/\∀y∈xs,CpOk n y H
theorem CpOk.up{H H':Hp}(s:Same H H'):∀{n:Nat}{x:V},CpOk n x H->CpOk n x H'
 |0,_,h=>h
 |_+1,_,⟨a,xs,e,h,l,k⟩=>⟨a,xs,e,s _ _ h,l,λy b=>CpOk.up s (k y b)⟩
def sp_18(n:Nat):Sp:=λvs H Q _=>∃x,vs=[x]/\CpOk n x H/\∀y H',Same H H'->Q y H'
def Vh(C:Addr):Sp:=λvs H Q _=>E2 λ(e:Addr)(x:V)=>A4 (vs=[.ref e,x]) (H e=some (XObj e C true)) (CpOk 2 x H) (∀H',(∀b o,b≠e->H b=some o->H' b=some o)->H' e=some (XObj e C false)->Q .non H')
theorem lH{H H':Hp}{b:Addr}(s:Same H H')(h:H' b=none):H b=none:=by
 cases e:H b with
 |none=>rfl
 |some o=>rw[s _ _ e]at h;cases h
structure TK(K:Frag)(H H':Hp):Prop where
 k:∀b xs,H b=some (.tup xs)->H' b=some (.tup xs)
 t:∀b xs,SqT K H b xs->SqT K H' b xs
theorem TK.trans{K:Frag}{H f d:Hp}(a:TK K H f)(b:TK K f d):TK K H d:=⟨λc xs e=>b.k _ _ (a.k _ _ e),λc xs e=>b.t _ _ (a.t _ _ e)⟩
theorem TK.off{K:Frag}{H H':Hp}{a:Addr}{o:HO}(e:H a=some o)(f:∀xs,o≠.tup xs)(g:∀d u,o≠.frz d u)(h:∀c,c≠a->H' c=H c):TK K H H':=by
 have k:∀b xs,H b=some (.tup xs)->H' b=some (.tup xs):=λb xs q=>by
  rw[h b λz=>f xs (by rw[z,e]at q;exact zW q)];exact q
 refine⟨k,λb xs q=>?_⟩;rcases q with(q|⟨d,q⟩)|q
 ·exact .inl (.inl (k _ _ q))
 ·exact .inl (.inr ⟨d,by rw[h b λz=>g _ _ (by rw[z,e]at q;exact zW q)];exact q⟩)
 ·exact .inr q
theorem MatB.tk{K:Frag}{H H':Hp}{a:Addr}{M:LM}(h:MatB true true K H a M)(s:TK K H H'):MatB true true K H' a M:=let ⟨ps,b,d,e⟩:=h;⟨ps,s.t _ _ b,d,λi p r e1 c=>s.t _ _ (e i p r e1 c)⟩
theorem DdAt.tk{K:Frag}{H H':Hp}{p:Addr}{x:Dd}(h:DdAt K H p x)(s:TK K H H'):DdAt K H' p x:=let ⟨pr,pt,a,b,c⟩:=h;⟨pr,pt,s.k _ _ a,MatB.tk b s,s.k _ _ c⟩
theorem DdS.tk{K:Frag}{H H':Hp}{p:Addr}{x:Dd}(h:DdS K H p x)(s:TK K H H'):DdS K H' p x:=let ⟨pr,pt,a,b,c⟩:=h;⟨pr,pt,s.t _ _ a,MatB.tk b s,s.t _ _ c⟩
theorem DTr.tk{K:Frag}{H H':Hp}{a:Addr}{kvs:List (PyData×V)}(h:DTr K H a kvs)(s:TK K H H')(e:H' a=H a):DTr K H' a kvs:=by
 obtain⟨l,y,xs,b,n,r⟩:=h;exact⟨l,y,xs,e.trans b,n,r.keeps s.t⟩
structure CI(K:Frag)(H0:Hp)(qs:LA)(ss:List Dd)(as af aw:Addr)(tb:Tb)(H:Hp):Prop where
 s:∀b o,H0 b=some o->H b=some o
 st:H as=some (.lst (qs.map V.ref))/\Paired (DdAt K H) qs ss
 fo:∃fs,H af=some (.lst (fs.map V.ref))/\Paired (λp(x:Dd×List Nat)=>DdAt K H p x.1) fs tb
 wo:∃kvs,DTr K H aw kvs/\Paired (λ(x:Dd×List Nat)(kv:PyData×V)=>kv.1=dat x.1/\∃p,kv.2=.ref p/\(p≠af/\H0 p=none)/\H p=some (.lst (x.2.map λn=>V.int (n:Nat)))) tb kvs
 n1:H0 as=none
 n2:H0 af=none
 n3:H0 aw=none
 x1:as≠af
theorem CI.up{K:Frag}{H0 H H':Hp}{c:LA}{ss:List Dd}{as d a:Addr}{tb:Tb}(h:CI K H0 c ss as d a tb H)(s:Same H H'):CI K H0 c ss as d a tb H':=by
 obtain⟨q,⟨b1,b2⟩,⟨fs,u,n⟩,⟨kvs,g,m⟩,v,l,j,i⟩:=h;exact⟨λb o e=>s _ _ (q _ _ e),⟨s _ _ b1,Paired.mapP b2 λ_ _ z=>z.up s⟩,⟨fs,s _ _ u,Paired.mapP n λ_ _ z=>z.up s⟩,⟨kvs,g.up s,Paired.mapP m λ_ _ z=>let ⟨r,p,x,k,f⟩:=z;⟨r,p,x,k,s _ _ f⟩⟩,v,l,j,i⟩
theorem Dq{H0 H:Hp}{d:Addr}{x:Dd}:∀{tb:Tb}{kvs:List (PyData×V)},Paired (λ(x:Dd×List Nat)(a:PyData×V)=>a.1=dat x.1/\∃p,a.2=.ref p/\(p≠d/\H0 p=none)/\H p=some (.lst (x.2.map λn=>V.int (n:Nat)))) tb kvs ->
  (x∉tb.map (·.1)/\vT kvs (dat x)=none)\/∃w p,(x,w)∈tb/\vT kvs (dat x)=some (.ref p)/\(p≠d/\H0 p=none)/\H p=some (.lst (w.map λn=>V.int (n:Nat))):=by
 intro tb kvs h
 induction h with
 |nil=>exact .inl ⟨by simp,rfl⟩
 | @cons y a tb kvs e _ i =>
  obtain⟨e1,p,g,j,f⟩:=e
  by_cases z:y.1=x
  ·refine .inr ⟨y.2,p,by rw[←z];exact .head _,?_,j,f⟩;rw[dZ (by rw[e1,z]),g]
  ·have k:¬ a.1=dat x:=λq=>z (eT.mp (e1.symm.trans q));rw[gZ k];rcases i with⟨c,b⟩|⟨w,p,c,b⟩
   ·exact .inl ⟨by rw[zK,xI,not_or];exact⟨λq=>z q.symm,c⟩,b⟩
   ·exact .inr ⟨w,p,.tail _ c,b⟩
theorem Jn{d:Nat}{x:Dd}{w:List Nat}{tb:Tb}{ks:Dd×Nat}(h:(tb.map (·.1)).Nodup):((nxt d x w tb ks).map (·.1)).Nodup:=by
 unfold nxt;split
 ·exact h
 ·next q =>
  rw[xD,qL];refine⟨h,by simp,λy b z a=>?_⟩;simp only[List.map_cons,List.map_nil,List.mem_singleton]at a;rw[a];exactλe=>q (e ▸ b)
theorem Jm{d:Nat}{x:Dd}{w:List Nat}:∀(l:List (Dd×Nat))(tb:Tb),(tb.map (·.1)).Nodup->((l.foldl (nxt d x w) tb).map (·.1)).Nodup
 |[],_,h=>h
 |k:: l,tb,h=>Jm l _ (Jn h)
theorem Jl{d:Nat}{x:Dd}{w:List Nat}{tb:Tb}{ks:Dd×Nat}{b:Dd->Prop}(h:∀y∈tb,b y.1)(c:b (oZ d x ks.1)):∀y∈nxt d x w tb ks,b y.1:=by
 unfold nxt;split
 ·exact h
 ·intro y a;rcases oA.mp a with a|a
  ·exact h y a
  ·rw[pS.mp a];exact c
theorem Vg{tb:Tb}(h:(tb.map (·.1)).Nodup){i:Nat}{x:Dd}{w b:List Nat}(e:tb[i]?=some (x,w))(m:(x,b)∈tb):w=b:=by
 obtain⟨j,a⟩:=xT m;have e1:(tb.map (·.1))[i]?=some x:=by rw[zI,e];rfl
 have c:(tb.map (·.1))[j]?=some x:=by rw[zI,a];rfl
 have hi:i<(tb.map (·.1)).length:=(zqa e1).1;have:i=j:=(List.getElem?_inj hi h).mp (e1.trans c.symm);subst this;rw[e]at a;cases a;rfl
theorem Vf{d:Nat}{ss:List Dd}{n i:Nat}{tb:Tb}(h:tb.length<=i):nP d ss n i tb=tb:=by
 cases n with
 |zero=>rfl
 |succ n=>unfold nP;rw[zD ⋯]
theorem Ve{d:Nat}{ss:List Dd}{n i:Nat}{tb:Tb}(h:i<tb.length)(a:0<n):nP d ss n i tb=nP d ss (n-1) (i+1) (kA d ss tb i):=by
 obtain⟨m,rfl⟩:∃m,n=m+1:=⟨n-1,⋯⟩;show(if i<tb.length then _ else _)=_;rw[zF h];rfl
theorem Vd{d:Nat}{ss:List Dd}{tb:Tb}{i:Nat}{x:Dd}{w:List Nat}(e:tb[i]?=some (x,w)):kA d ss tb i=ss.zipIdx.foldl (nxt d x w) tb:=by
 unfold kA;rw[e]
def part(d:Nat)(x:Dd)(w:List Nat)(ss:List Dd)(tb:Tb)(i:Nat):Tb:=(ss.zipIdx.take i).foldl (nxt d x w) tb
theorem cN{d:Nat}{x s:Dd}{w:List Nat}{ss:List Dd}{tb:Tb}{i:Nat}(e:ss[i]?=some s):part d x w ss tb (i+1)=nxt d x w (part d x w ss tb i) (s,i):=by
 unfold part;rw[wD,rF,e,uQ];simp
theorem Vc{d:Nat}{x:Dd}{w:List Nat}{ss:List Dd}{tb:Tb}:part d x w ss tb ss.length=ss.zipIdx.foldl (nxt d x w) tb:=by
 unfold part;rw[yT (by simp)]
theorem Vb{d:Nat}{x:Dd}{w:List Nat}{ss:List Dd}{tb:Tb}(i:Nat):∃r,part d x w ss tb i=tb++r:=cM ..
theorem Jk{d:Nat}{x:Dd}{w:List Nat}{ss:List Dd}{tb:Tb}(i:Nat):(part d x w ss tb i).length<=(ss.zipIdx.foldl (nxt d x w) tb).length:=by
 have e:ss.zipIdx.foldl (nxt d x w) tb=(ss.zipIdx.drop i).foldl (nxt d x w) (part d x w ss tb i):=by
  unfold part;rw[←uQ,wA]
 obtain⟨r,a⟩:=cM d x w (ss.zipIdx.drop i) (part d x w ss tb i);rw[e,a,yE];omega
def ND(tb:Tb):Prop:=(tb.map (·.1)).Nodup/\∀y∈tb,y.2.length<tb.length
theorem Dp{d:Nat}{x:Dd}{w:List Nat}{tb:Tb}{ks:Dd×Nat}(h:ND tb)(b:(x,w)∈tb):ND (nxt d x w tb ks):=by
 refine⟨Jn h.1,?_⟩;have c:=h.2 _ b;unfold nxt;split
 ·exact h.2
 ·intro y a;rw[yE];rcases oA.mp a with a|a
  ·have:=h.2 y a;simp only[List.length_cons,List.length_nil];omega
  ·rw[pS.mp a];simp only[List.length_append,List.length_cons,List.length_nil];have e:w.length<tb.length:=c;omega
theorem ok_w(T:Txt K mg t):FnOk P w K mg base CX0 2 t.a_w t.d_w ["most"] sp_w:=by
 apply T.F_w.ok sc_w
 ·obtain⟨n,rfl,b,c,a⟩:=h;refine⟨_,(oO (nK (PW.pt (kN (nH bA (pq 0) oN (nD _)) (jP (nH bB (pq 0) (Ru (v:=(.int 200)) rfl T.g_MOST_MEMBERS) (nD _)))))
   (oO An)
   nJ)),?_⟩
  show tIfS _ _ _ _ [some (.int n)] H;ext;rw[zN (show¬ (n:Int)<1 by omega),zN (show¬ (200:Int)<n by omega)];refine iteF (iteF ?_);exact a
theorem kM{a b:Type}{F:a->b->Prop}{xs:List a}{ys:List b}(h:Paired F xs ys):∀{i:Nat}{x:a},xs[i]?=some x->∃y,ys[i]?=some y/\F x y:=by
 induction h with
 |nil=>intro i x e;simp at e
 |cons d _ c =>
  intro i x e;cases i with
  |zero=>cases e;exact⟨_,rfl,d⟩
  |succ i=>exact c (by simpa using e)
theorem ok_s(T:Txt K mg t):FnOk P w K mg base CX0 2 t.a_s t.d_s ["d","makers"] (sp_s K):=by
 apply T.F_s.ok sc_s
 ·obtain⟨b,d,a,ps,ms,rfl,C,l,p,hl,n⟩:=h;refine⟨_,(oM (nK (nH Ac (pq 0) (lV (oJ oN (oJ oN oK))) rfl)
   (oO An)
   nJ)
   (oO (mQ yL rfl (nV (pq 1)) (nX (i:=2) sc_s.nd rfl (Or.inl rfl))
   (oO (nK (nH hJ (mL T.z_len (oX (pq 2))) (pq 0) (nD _))
   (oO An)
   nJ))))),?_⟩
  show tSeq _ _ _ [some (.int d),some (.ref a),none] H;right;refine⟨by show 2<=sizeLine;decide,λk u=>?_⟩;have j:Same H (upd H k (.tup [.int 2,.int 3])):=Same.new u;refine⟨k,_,rfl,.inr (SqT.of oP),rfl,rfl,_,rfl,?_⟩;generalize upd H k (.tup [.int 2,.int 3])=z at j;rw[inV2,zP ⋯];refine iteF ?_;subst e1;refine mT λB eB=>?_;simp only[iSeq];ext;refine⟨b,⟨_,l.up j⟩,?_⟩;refine gU (g:=nB 2) (tb:=B) (nx:=λ_ H'=>Q .non H') (rt:=Q) (λi g e=>∃v,g=[some (.int d),some (.ref a),v]/\Same H e) ⟨_,rfl,j⟩ (λi g e _⟨_,_,c⟩=>l.up c) ?_ ?_
  ·rintro i x g e f ⟨v,rfl,c⟩;rw[zI]at f;cases hp':ps[i]? with
   |none=>rw[hp']at f;cases f
   |some q =>
    rw[hp']at f;cases f;obtain⟨m,y,r⟩:=kM p hp';subst eB;show tIfS _ _ _ _ [some (.int d),some (.ref a),some (.ref q)] e;ext;refine jK (DdS.up r c) λx o=>hX o ?_
    try ext
    rw[hl m (zqb y),zP rfl];refine iteF ?_;exact c
  ·rintro g e ⟨v,rfl,c⟩;exact n e c
theorem ok_18(T:Txt K mg t):∀n:Nat,FnOk P w K mg base CX0 (n+2) t.a_18 t.d_18 ["thing"] (sp_18 n):=by
 intro n
 induction n with
 |zero =>
  apply T.F_18.ok sc_18
  ·obtain⟨x,rfl,⟨i,rfl⟩,d⟩:=h;refine⟨_,(oM (nK (lJ (lN (Jy T.h_k T.h_l) (by rfl) T.z_isinstance (nofun) (oJ (pq 0) (oJ (lV (oJ (fN (v:=.ty "list") rfl T.z_list (nofun) rfl) (oJ (fN (v:=.ty "tuple") rfl T.z_tuple (nofun) rfl) oK))) oK)))) Nx nJ) (oO (oW (pq 0)))),?_⟩;show tSeq _ _ _ [some (.int i)] H;ext;refine⟨by show 2<=sizeLine;decide,λp c=>⟨_,p,false,rfl,oP,.inl ⟨i,rfl,rfl⟩,false,rfl,?_⟩⟩;refine iteF ?_;exact d _ _ (Same.new c)
 | succ n r =>
  have v:=r;apply T.F_18.ok sc_18
  ·obtain⟨x,rfl,⟨a,xs,rfl,e,hl,m⟩,d⟩:=h;refine⟨_,(oM (nK (lJ (lN (Jy T.h_k T.h_l) (by rfl) T.z_isinstance (nofun) (oJ (pq 0) (oJ (lV (oJ (fN (v:=.ty "list") rfl T.z_list (nofun) rfl) (oJ (fN (v:=.ty "tuple") rfl T.z_tuple (nofun) rfl) oK))) oK))))
   (oO (oW (nT (sc:=oR s_18) (N:=N_18) (fr:=[]) (te:=(mS (sp_18 n) [] E0 (nF (tVar 0) tNil))) rfl rfl (nofun) rfl (nofun) (nV (pq 0)) (λ_ _ _ z=>(oQ v hr.mo T.F_18 (oJ (pv 0) oK))))))
   nJ)
   (oO (oW (pq 0)))),?_⟩
   show tSeq _ _ _ [some (.ref a)] H;ext;refine⟨by show 2<=sizeLine;decide,λp c=>⟨_,p,true,rfl,oP,.inr ⟨a,xs,rfl,Same.new c _ _ e,rfl⟩,true,rfl,?_⟩⟩;refine iteT ?_;have b:Same H (upd H p (.tup [.ty "list",.ty "tuple"])):=Same.new c;generalize upd H p (.tup [.ty "list",.ty "tuple"])=C at b;exfalso;refine⟨false,⟨_,SqB.lst (b _ _ e)⟩,λl j=>?_⟩;refine mU (λ_ _ _=>True) j (SqB.lst (b _ _ e)) hl (λ_ _ _ _ _ _=>trivial) ?_ ?_
   ·intro i x g zs q f _ o k;subst eB;show mS _ _ _ _ [some x] g o;ext;exact⟨x,rfl,(m x (zqb q)).up (b.trans f),λy D u=>k _ _ u trivial⟩
   ·intro g ys f _ _ _;exact d _ _ (b.trans f)
theorem ok_6(T:Txt K mg t):FnOk P w K mg base CX0 6 t.a_6 t.d_6 pu' (Vh t.a_1h):=by
 have i:=ok_18 (P:=P) (w:=w) (base:=base) T 2;apply T.F_6.ok sc_6
 ·obtain⟨e,x,rfl,c,g,d⟩:=h;have n:=2;refine⟨_,(oM (lU (Uh rfl T.m_1m T.h_a (oJ (pq 0) (oJ gM oK))))
   (oO (Ug T.h_b (oQ i hr.mo T.F_18 (oJ (pq 1) oK)) (pq 0)))),?_⟩
  show tSeq _ _ _ [some (.ref e),some x] H;unfold Ib Ia;ext;refine⟨true,c,by show 1<=sizeLine;decide,x,rfl,g,λy j a=>⟨a _ _ c,?_⟩⟩;exact d _ (λb o f z=>by rw[oT f];exact a _ _ z) oP
theorem Do{d:Nat}{x:Dd}{w:List Nat}{tb:Tb}{ks:Dd×Nat}:(nxt d x w tb ks).length<=tb.length+1:=by
 unfold nxt;split
 ·omega
 ·rw[yE];exact zE _
def offH(a:Addr)(H:Hp):Hp:=λb=>if b=a then none else H b
theorem Jj{a:Addr}{H:Hp}:Same (offH a H) H:=λb o e=>by
 unfold offH at e
 by_cases z:b=a
 ·rw[zF z]at e;cases e
 ·rw[zD z]at e;exact e
theorem Ji{a:Addr}{d c:Hp}(s:kS a d c):Same (offH a d) (offH a c):=λb o e=>by
 unfold offH at e ⊢
 by_cases z:b=a
 ·rw[zF z]at e;cases e
 ·rw[zD z]at e ⊢;exact s _ _ z e
theorem Dm{K:Frag}{a:Addr}{H:Hp}{xs:List V}(e:H a=some (.lst xs)):TK K H (offH a H):=TK.off e (λ_ z=>by cases z) (λ_ _ z=>by cases z) λc b=>by unfold offH;rw[zD b]
def DdR(K:Frag)(a:Addr)(ms:List Dd)(j:Nat)(y:V)(H:Hp):Prop:=∃q m,y=.ref q/\ms[j]?=some m/\DdAt K (offH a H) q m
theorem DdR.mono{K:Frag}{a:Addr}{ms:List Dd}(i:Nat)(y:V)(c b:Hp)(h:DdR K a ms i y c)(s:kS a c b):DdR K a ms i y b:=let ⟨q,m,e,f,d⟩:=h;⟨q,m,e,f,d.up (Ji s)⟩
theorem Jh{a:Type}{F:Addr->a->Prop}{D:List a}{ys:List V}(hl:ys.length=D.length)(h:∀(j:Nat) y,ys[j]?=some y->∃p e,y=V.ref p/\D[j]?=some e/\F p e):∃ps:LA,ys=ps.map V.ref/\Paired F ps D:=by
 induction D generalizing ys with
 |nil =>
  obtain rfl:=vA hl;exact⟨[],rfl,.nil⟩
 |cons m ms g =>
  obtain⟨y,ys,rfl⟩:=List.exists_cons_of_length_eq_add_one hl;obtain⟨q,l,rfl,k,d⟩:=h 0 y rfl;cases k;obtain⟨c,rfl,b⟩:=g (qW hl) λj f i=>h (j+1) f i;exact⟨q:: c,rfl,.cons d b⟩
theorem Va{K:Frag}{a:Addr}{H:Hp}{ms:List Dd}{ys:List V}(hl:ys.length=ms.length)(h:∀j y,ys[j]?=some y->DdR K a ms j y H):∃c:LA,ys=c.map V.ref/\Paired (DdAt K H) c ms:=Jh hl λj y e=>by
 obtain⟨q,m,a,b,d⟩:=h j y e;exact⟨q,m,a,b,d.up Jj⟩
theorem jL{H:Hp}{p:Addr}{x:V}{xs:List V}{i:Nat}{I:Int}{Q:VK}(e:H p=some (.lst xs))(a:xs[i]?=some x)(hi:I=i)(q:Q x H):rIxB K (.ref p) (.int I) H Q:=⟨false,p,_,_,_,rfl,rfl,SqB.lst e,kC a hi,q⟩
theorem tyL{H:Hp}{p:Addr}{xs:List V}(e:H p=some (.lst xs)):tyV K "list" (.ref p) H:=.inl ⟨rfl,xs,.inl (.inl e)⟩
def CPv(K:Frag)(H0:Hp)(G:Dd->Prop)(qs:LA)(ss:List Dd)(a as af aw:Addr)(d i most:Nat)(f:Nat->Tb)(k:Nat)(σ:St)(H:Hp):Prop:=
 ∃v7 v8 v9,σ=[some (.int d),some (.ref a),some (.int most),some (.ref as),some (.ref af),some (.ref aw),some (.int i),v7,v8,v9]/\CI K H0 qs ss as af aw (f k) H/\ND (f k)/\(∀y∈f k,G y.1)/\(f k).length<=most
theorem ok_14(T:Txt K mg t):FnOk P w K mg base (CX1 P w) 10 t.a_14 t.d_14 pt' (sp_14 K t.a_1h):=by
 refine T.F_14.okX sc_14 (λvs H Q E h=>?_) (λcdv A outer s H vs Q E hr h=>?_)
 ·obtain⟨b,d,a,ps,ms,most,N,rfl,_⟩:=h;rfl
 ·have c6:=hr.units;obtain⟨b,d,a,ps,ms,most,N,rfl,q4,m5,k9,v1,q3,q5,l8,o5,q9,n1,v8,n2,t7⟩:=h;refine⟨_,(oM (Rl (i:=3) (sc:=oR s_14) (N:=N_14) (fr:=[]) (te:=(mS (sp_1k K) [] E0 (nF (tVar 0) tNil))) rfl rfl (nofun) rfl sc_14.nd rfl rfl (nofun) (nV (pq 1)) (λ_ _ _ p3=>(oQ (ok_1k T) hr.mo T.F_1k (oJ (pv 0) oK))))
   (oM (oU (i:=4) sc_14.nd rfl (Or.inl rfl) (nI (oJ (oQ (ok_1i T) hr.mo T.F_1i (oJ (pq 0) oK)) oK)))
   (oM (oU (i:=5) sc_14.nd rfl (Or.inr rfl) (Ra c6 (oX (pq 4)) (nI oK)))
   (oM (oU (i:=6) sc_14.nd rfl (Or.inl rfl) oN)
   (oM (cY PassesOwn.leaving (nH bA (pq 6) (mL T.z_len (pq 4)) (nD _))
   (oM (mQ PassesOwn.leaving rfl (bO rfl T.z_enumerate (oJ (pq 3) oK)) (gN rfl (lD (nX (i:=7) sc_14.nd rfl (Or.inl rfl)) (lD (nX (i:=8) sc_14.nd rfl (Or.inl rfl)) iU)))
   (oM (oU (i:=9) sc_14.nd rfl (Or.inl rfl) (oQ (ok_1k T) hr.mo T.F_1k (oJ (oQ (ok_1d T) hr.mo T.F_1d (oJ (nQ ix_B (pq 4) (pq 6) (λ_ _=>rfl)) (oJ (pq 8) oK))) oK)))
   (oM (nK (nH (Re c6) (pq 9) (pq 5) rfl)
   (oM (iV (oS dO (nQ (ix_T c6) (pq 5) (nQ ix_B (pq 4) (pq 6) (λ_ _=>rfl)) (λ_ _=>rfl)) (nI (oJ (pq 7) oK))) (fO (pq 5) (pq 9) (Hm c6)))
   (oO (lU (jF yM yY yZ jG (pq 4) (oJ (pq 9) oK)))))
   nJ)
   (oO (nK (nH bB (mL T.z_len (pq 4)) (pq 2) (nD _))
   (oO (Uk rfl Uo rfl T.m_1h T.h_a.cl xF (ok_6 T) hr.mo T.b_6 mC (oJ (nT (sc:=oR s_14) (N:=N_14) (fr:=[("words",5)]) (te:=(tOp (bW K) (tVar 1) (tVar 0))) rfl rfl (nofun) rfl (nofun) (nV (pq 4)) (λ_ _ _ p3=>(nQ (ix_T c6) (pv 1) (pv 0) (λ_ _=>rfl)))) oK)))
   nJ)))))
   (oO (Fy (i:=6) sc_14.nd rfl (Or.inl rfl) oN Fx))))
   (oO (oW (pq 5)))))))),?_⟩
  show tSeq _ _ _ [some (.int d),some (.ref a),some (.int most),none,none,none,none,none,none,none] H;have u2:ps.length=ms.length:=mE k9;right;exfalso;refine⟨b,⟨_,m5⟩,λas j2=>?_⟩;refine mU (DdR K as (ms.map oV)) j2 m5 (by rw[zqe];omega) DdR.mono ?_ ?_
  ·intro i x l7 zs f2 c8 i3 g5 g2;obtain⟨q,o3,rfl⟩:=gJ f2;obtain⟨m,m2,p5⟩:=kM k9 o3;have h6:=q3 m (zqb m2);subst eB;show mS _ _ _ _ [some (.ref q)] l7 g5;ext;refine⟨q,m.1,m.2.1,m.2.2,rfl,DdS.up p5 c8,by rw[h6.sq.1];omega,by rw[h6.len];omega,h6.pos,λr J v c9=>?_⟩;refine g2 _ _ v ⟨r,oV m,rfl,by rw[zI,m2];rfl,?_⟩;exact DdAt.tk (show DdAt K J r (oV m) from c9) (Dm (v _ _ i3))
  ·intro l7 ys c8 b7 j8 d8;obtain⟨S,rfl,m8⟩:=Va (by rw[j8,zqe,zqe];omega) d8;left;refine⟨d,rfl,q4,λa3 J v j7=>⟨by show 1<=sizeLine;decide,λg b6=>?_⟩⟩;have d6:Same J (upd J g (.lst [.ref a3])):=Same.new b6;have b0:(upd J g (.lst [.ref a3])) g=some (.lst [.ref a3]):=oP;generalize upd J g (.lst [.ref a3])=b9 at*
   have c3:DdAt K b9 a3 (nE d):=DdAt.up j7 d6;have e4:=d6 _ _ (v _ _ b7);have i5:=Paired.mapP m8 λ_ _ z=>z.up (v.trans d6);have e8:=(c8.trans v).trans d6;have q0:H g=none:=by
    cases z:H g with
    |none=>rfl
    |some o=>rw[v _ _ (c8 _ _ z)]at b6;cases b6
   have r8:as≠g:=λz=>by rw[z]at b7;rw[v _ _ b7]at b6;cases b6
   subst e1;refine st λN1 e1=>?_;simp only[Hi];ext;intro f X;have L:Same b9 (upd b9 f (mH f [])):=Same.new X;have f1:(upd b9 f (mH f [])) f=some (mH f []):=oP;have j6:H f=none:=by
    cases z:H f with
    |none=>rfl
    |some o=>rw[e8 _ _ z]at X;cases X
   generalize upd b9 f (mH f [])=d7 at*;ext;refine jL (i:=0) (L _ _ b0) rfl rfl ?_;refine⟨yB _,λa0 a4=>?_⟩;have R:Same d7 (upd d7 a0 (.lst [])):=Same.new a4;have ep:(upd d7 a0 (.lst [])) a0=some (.lst []):=oP;have j0:a0≠g:=λz=>by rw[z,L _ _ b0]at a4;cases a4
   have e6:a0≠f:=λz=>by rw[z,f1]at a4;cases a4
   generalize upd d7 a0 (.lst [])=q8 at*;refine⟨a3,rfl,dat (nE d),kL _,(DdAt.up c3 (L.trans R)).dt,R _ _ f1,λj5 b8 l0=>?_⟩;have k7:∀b o,H b=some o->b≠f:=λb o e z=>by rw[z,j6]at e;cases e
   have f8:TK K q8 j5:=TK.off (R _ _ f1) (λ_ z=>by cases z) (λ_ _ z=>by cases z) b8;have e3:as≠f:=λz=>by rw[z]at e4;rw[e4]at X;cases X
   have d4:g≠f:=λz=>by rw[z]at b0;rw[b0]at X;cases X
   have O:CI K H S (ms.map oV) as g f [(nE d,[])] j5:=⟨λb o e=>by rw[b8 b (k7 b o e)];exact R _ _ (L _ _ (e8 _ _ e)),⟨by rw[b8 _ e3];exact R _ _ (L _ _ e4),Paired.mapP i5 λ_ _ z=>DdAt.tk (z.up (L.trans R)) f8⟩,
    ⟨[a3],by rw[b8 _ d4];exact R _ _ (L _ _ b0),.cons (DdAt.tk (DdAt.up c3 (L.trans R)) f8) .nil⟩,⟨_,l0,.cons ⟨rfl,a0,rfl,⟨j0,lH (e8.trans L) a4⟩,by rw[b8 _ e6];exact ep⟩ .nil⟩,j2,q0,j6,r8⟩
   clear l0 f8 ep j0 e6 a4 R f1 L X i5 e4 c3 b0 d6 b6 j7 v m8 d8 j8 b7 c8 e8 d4 e3 k7 b8;left;subst e1;refine st λN1 e1=>Gm λB eB=>?_;refine⟨λm c2 H'=>∃(i:Nat)(tb:Tb)(D F C:Option V),c2=[some (.int d),some (.ref a),some (.int most),some (.ref as),some (.ref g),some (.ref f),some (.int i),D,F,C]/\CI K H S (ms.map oV) as g f tb H'/\nP d (ms.map oV) (201-i) i tb=nP d (ms.map oV) 201 0 [(nE d,[])]/\ND tb/\(∀y∈tb,N y.1)/\tb.length<=most/\m=201-i,
    ⟨201,0,_,none,none,none,rfl,O,rfl,⟨by simp,λy h1=>by rw[List.mem_singleton.mp h1];exact Nat.zero_lt_one⟩,λy h1=>by rw[pS.mp h1];exact o5,n1,rfl⟩,?_⟩
   clear O;rintro m c2 p6 ⟨i,tb,D,F,C,rfl,O,U,nd,n7,i8,rfl⟩;ext;obtain⟨fs,s8,t2⟩:=O.fo;have fl:fs.length=tb.length:=mE t2;refine⟨false,g,_,rfl,SqB.lst s8,?_⟩
   try ext
   rw[zqe,fl]
   by_cases hi:i<tb.length
   case neg =>
    rw[zN ⋯];refine iteF ?_;symm;rw[Vf ⋯]at U;obtain⟨kvs,c1,b4⟩:=O.wo;refine n2 (by rw[←U];exact i8) f kvs p6 O.s O.n3 c1 ?_;rw[←U];exact Paired.mapP b4 λ_ _ z=>let ⟨a9,p,Y,f0,e2⟩:=z;⟨a9,p,Y,f0.2,e2⟩
   rw[zP (show(i:Int)<tb.length by omega)];obtain⟨⟨x,u⟩,f2⟩:∃e6,tb[i]?=some e6:=⟨_,zqd hi⟩;have t9:0<201-i:=⋯
   rw[Ve hi t9,Vd f2]at U;have v4:((ms.map oV).zipIdx.foldl (nxt d x u) tb).length<=(nP d (ms.map oV) 201 0 [(nE d,[])]).length:=by
    obtain⟨r,t6⟩:=Ds d (ms.map oV) (201-i-1) (i+1) ((ms.map oV).zipIdx.foldl (nxt d x u) tb);rw[←U,t6,yE];omega
   refine iteT ⟨λl1 H'=>∃(a5:Tb)(D F C:Option V),l1=[some (.int d),some (.ref a),some (.int most),some (.ref as),some (.ref g),some (.ref f),some (.int (i+1:Nat)),D,F,C]/\CI K H S (ms.map oV) as g f a5 H'/\nP d (ms.map oV) (201-(i+1)) (i+1) a5=nP d (ms.map oV) 201 0 [(nE d,[])]/\ND a5/\(∀y∈a5,N y.1)/\a5.length<=most,?_,?_⟩
   ·rintro l1 H' ⟨a5,D,F,C,rfl,k1,k2,k3,g4,k5⟩;exact⟨201-(i+1),⋯,i+1,a5,D,F,C,rfl,k1,k2,k3,g4,k5,rfl⟩
   subst eB;refine st λu8 b3=>mT λB eB=>?_;simp only[dU];ext;refine⟨false,⟨_,SqB.lst O.st.1⟩,?_⟩;refine Hv (g:=gTup K 2 (lC (nB 7) (lC (nB 8) gNil))) (tb:=B) (CPv K H N S (ms.map oV) a as g f d i most (part d x u (ms.map oV) tb))
    ⟨_,_,_,rfl,O,nd,n7,i8⟩ (λk c2 H' _⟨_,_,_,_,c,_⟩=>SqB.lst c.st.1) ?_ ?_
   ·rintro k y p c2 j9 o6 ⟨D,F,C,rfl,a6,a8,c5,g8⟩ n9;obtain⟨q,i6,rfl⟩:=gJ o6;obtain⟨l,a1,_⟩:=kM a6.st.2 i6;have n6:=Same.new (o:=.tup [.int (k:Int),.ref q]) n9;refine⟨p,[.int k,.ref q],rfl,SqT.of oP,rfl,_,[.ref q],rfl,_,[],rfl,rfl,?_⟩;have f5:=a6.up n6;generalize upd j9 p (.tup [.int (k:Int),.ref q])=q6 at*
    clear a6;obtain⟨v7,p1⟩:=Vb (d:=d) (x:=x) (w:=u) (ss:=ms.map oV) (tb:=tb) k;have M:(part d x u (ms.map oV) tb k)[i]?=some (x,u):=by rw[p1,yD hi];exact f2
    have u9:=Jk (d:=d) (x:=x) (w:=u) (ss:=ms.map oV) (tb:=tb) k;have s5:=Jk (d:=d) (x:=x) (w:=u) (ss:=ms.map oV) (tb:=tb) (k+1);have o9:∀D F C H',CI K H S (ms.map oV) as g f (nxt d x u (part d x u (ms.map oV) tb k) (l,k)) H'->N (oZ d x l)->(nxt d x u (part d x u (ms.map oV) tb k) (l,k)).length<=most->CPv K H N S (ms.map oV) a as g f d i most (part d x u (ms.map oV) tb) (k+1) [some (.int d),some (.ref a),some (.int most),some (.ref as),some (.ref g),some (.ref f),some (.int i),D,F,C] H':=λD F C H' c gs s9=>⟨D,F,C,rfl,by rw[cN a1];exact c,by rw[cN a1];exact Dp a8 (zqb M),by rw[cN a1];exact Jl c5 gs,by rw[cN a1];exact s9⟩;rw[cN a1]at s5;generalize CPv K H N S (ms.map oV) a as g f d i most (part d x u (ms.map oV) tb) (k+1)=u6 at*
    generalize part d x u (ms.map oV) tb k=tk at*;obtain⟨k8,m6,k6⟩:∃m∈ms,oV m=l:=by
     have:=zqb a1;obtain⟨m,s6,s1⟩:=pZ.mp this;exact⟨m,s6,s1⟩
    have i4:N x:=c5 _ (zqb M);have gs:N (oZ d x l):=by rw[←k6];exact q9 x k8 i4 m6
    have o2:=l8 x i4;have fs':mY d l:=by rw[←k6];exact q5 k8 m6
    have f6:=l8 _ gs;subst eB;show tSeq _ _ _ [some (.int d),some (.ref a),some (.int most),some (.ref as),some (.ref g),some (.ref f),some (.int i),some (.int k),some (.ref q),C] q6;refine st λu4 g9=>?_;ext;obtain⟨t5,p0,i1⟩:=f5.fo;obtain⟨f7,i7⟩:∃f7,t5[i]?=some f7:=⟨_,zqd (by rw[mE i1];exact(zqa M).1)⟩;obtain⟨w1,j3,o8⟩:=kM i1 i7;rw[M]at j3;cases j3;obtain⟨u7,l4,t4⟩:=kM f5.st.2 i6;rw[a1]at l4;cases l4;refine jL (i:=i) p0 (by rw[zI,i7];rfl) rfl ?_;refine⟨f7,q,x.1,l.1,x.2.1,l.2.1,x.2.2,l.2.2,d,rfl,mX.s o8,mX.s t4,o2,fs',⋯,⋯,λr1 s3 t1 d8=>?_⟩;have r6:DdAt K s3 r1 (behD d x l):=d8;refine⟨r1,_,_,_,rfl,mX.s r6,?_,?_,f6.pos,λr2 Z p2 c9=>?_⟩
    ·have:=f6.sq.1;show(mulM d l.1 x.1).length<=100;have:(mulM d l.1 x.1).length=d:=this;omega
    ·have:=f6.len;have e:(nW (behD d x l).2.2 (behD d x l).2.1).length=(behD d x l).2.1.length:=by unfold nW;simp
     have:(nW (behD d x l).2.2 (behD d x l).2.1).length=d:=this;omega
    have j4:DdAt K Z r2 (oZ d x l):=c9;have d2:=f5.up (t1.trans p2);subst g9;show tSeq _ _ _ [some (.int d),some (.ref a),some (.int most),some (.ref as),some (.ref g),some (.ref f),some (.int i),some (.int k),some (.ref q),some (.ref r2)] Z;refine st λr4 c7=>?_;have h9:∀H',CI K H S (ms.map oV) as g f (nxt d x u tk (l,k)) H'->r4 [some (.int d),some (.ref a),some (.int most),some (.ref as),some (.ref g),some (.ref f),some (.int i),some (.int k),some (.ref q),some (.ref r2)] H':=by
     intro H' e5;subst c7;ext;obtain⟨u5,h7,e0⟩:=e5.fo;refine⟨false,g,_,rfl,SqB.lst h7,?_⟩
     try ext
     rw[zqe,mE e0]
     by_cases o7:(nxt d x u tk (l,k)).length<=most
     ·rw[zN ⋯];refine iteF ?_;exact o9 _ _ _ H' e5 gs o7
     ·rw[zP ⋯];refine iteT ?_;have r9:=t7 ⋯;obtain⟨v6,t8,r0⟩:=e5.wo;exfalso;refine⟨false,⟨_,SqB.lst h7⟩,λh3 f9=>?_⟩;refine mU (λ_ y J=>∃p,y=.ref p/\p≠h3/\∃d5:List Nat,d5.length<=201/\J p=some (.lst (d5.map λn=>V.int (n:Nat)))) f9 (SqB.lst h7) (by rw[zqe,mE e0];have:=Do (d:=d) (x:=x) (w:=u) (tb:=tk) (ks:=(l,k));omega) (λ_ _ _ _⟨p,e1,b3,d5,g9,c7⟩q7=>⟨p,e1,b3,d5,g9,q7 _ _ b3 c7⟩) ?_ ?_
      ·intro j i9 J zs s4 v i3 g5 g2;obtain⟨m9,q1,rfl⟩:=gJ s4;obtain⟨s7,p7,c3⟩:=kM e0 q1;subst eB;show tOp _ _ _ [some (.ref m9),some (.ref f)] J g5;ext;rcases Dq (x:=s7.1) r0 with⟨a7,_⟩|⟨g7,e9,a7,h0,n4,d0⟩
       ·exact absurd (pZ.mpr ⟨_,zqb p7,rfl⟩) a7
       refine Dr (t8.up v) (kL _) (DdAt.dt (c3.up v)) h0 ?_;refine g2 _ _ (Same.refl _) ⟨e9,rfl,(λz=>by rw[z]at d0;rw[d0]at f9;cases f9),g7,?_,v _ _ d0⟩;have n0:=(Dp (d:=d) (ks:=(l,k)) a8 (zqb M)).2 _ a7;have:=Do (d:=d) (x:=x) (w:=u) (tb:=tk) (ks:=(l,k));exact yG (vY n0) ⋯
      ·intro J ys v b3 t3 c9;refine⟨by show 1<=sizeLine;decide,λe m0=>⟨e,.ref h3,rfl,oP,?_,λb9 k3 g4=>⟨rfl,g4,?_⟩⟩⟩
       ·have m4:=Same.new (o:=XObj e t.a_1h true) m0;refine⟨h3,ys,rfl,m4 _ _ b3,by rw[t3,zqe,mE e0];have:=Do (d:=d) (x:=x) (w:=u) (tb:=tk) (ks:=(l,k));omega,λi9 u1=>?_⟩;obtain⟨j,r3⟩:=xT u1;obtain⟨o4,b7,_,d5,w0,c7⟩:=c9 j i9 r3;refine⟨o4,_,b7,m4 _ _ c7,by rw[zqe];omega,λz n8=>?_⟩;obtain⟨n,_,rfl⟩:=pZ.mp n8;exact⟨_,rfl⟩
       ·refine r9 _ λb o n3=>?_;have h4:=v _ _ (e5.s b o n3);have h8:b≠e:=λz=>by rw[z,m0]at h4;cases h4
        rw[gF h8];exact k3 b o h8 (by rw[oT h8];exact h4)
    ext;obtain⟨kvs,c1,b4⟩:=d2.wo;refine Vi c1 (kL _) j4.dt ?_;rcases Dq (x:=oZ d x l) b4 with⟨a9,Y⟩|⟨g7,e9,a9,Y,f0,e2⟩
    case inr =>
     rw[Y]
     try ext
     refine h9 Z ?_;have g1:nxt d x u tk (l,k)=tk:=zF (pZ.mpr ⟨_,a9,rfl⟩);rw[g1];exact d2
    rw[Y]
    try ext
    rw[zF (by rfl)];obtain⟨a2,h2,d9⟩:=d2.fo;obtain⟨l2,i0⟩:∃l2,a2[i]?=some l2:=⟨_,zqd (by rw[mE d9];exact(zqa M).1)⟩;obtain⟨v0,k4,r7⟩:=kM d9 i0;rw[M]at k4;cases k4;refine jL (i:=i) h2 (by rw[zI,i0];rfl) rfl ?_;rcases Dq (x:=x) b4 with⟨a7,_⟩|⟨g7,e9,a7,h0,n4,d0⟩
    ·exact absurd (pZ.mpr ⟨_,zqb M,rfl⟩) a7
    have p4:=Vg a8.1 M a7;subst p4;have v5:u.length<tk.length:=a8.2 _ (zqb M);have v9:tk.length=kvs.length:=mE b4;have hsz:1000<=sizeLine:=∅
    refine Dr c1 (kL _) (DdAt.dt r7) h0 ?_;refine⟨by show 1<=sizeLine;decide,λd1 o1=>?_⟩;have d3:Same Z (upd Z d1 (.lst [.int k])):=Same.new o1;have o0:(upd Z d1 (.lst [.int k])) d1=some (.lst [.int k]):=oP;generalize upd Z d1 (.lst [.int k])=f3 at*
    refine⟨e9,d1,_,_,rfl,rfl,d3 _ _ d0,o0,by rw[zqe];show u.length+1<=sizeLine;omega,λG f4=>?_⟩;have m3:Same f3 (upd f3 G (.lst ((u.map λn=>V.int (n:Nat))++[.int k]))):=Same.new f4;have k0:(upd f3 G (.lst ((u.map λn=>V.int (n:Nat))++[.int k]))) G=some (.lst ((u.map λn=>V.int (n:Nat))++[.int k])):=oP;have I:=d2.up (d3.trans m3);have m7:G≠g:=λz=>by rw[z,d3 _ _ h2]at f4;cases f4
    generalize upd f3 G (.lst ((u.map λn=>V.int (n:Nat))++[.int k]))=g3 at*;have c4:=d3.trans m3;have l6:=c1.up c4;have s2:=Paired.mapP b4 λ_ _ z=>(let ⟨a9,p,Y,f0,e2⟩:=z;⟨a9,p,Y,f0,c4 _ _ e2⟩:_/\∃p,_/\(p≠g/\H p=none)/\g3 p=_);have m1:=DdAt.up j4 c4;have g0:=c4 _ _ h2;have u0:=Paired.mapP d9 λ_ _ z=>DdAt.up z c4;simp only[gSub];ext;have g1:nxt d x u tk (l,k)=tk++[(oZ d x l,u++[k])]:=zD a9;have t0:pT kvs (dat (oZ d x l)) (.ref G)=kvs++[(dat (oZ d x l),.ref G)]:=by
     unfold pT;rw[Y];rfl
    obtain⟨u3,e7,_,_⟩:=l6.ex;have d4:g≠f:=λz=>by rw[z,e7]at g0;cases g0
    have e3:as≠f:=λz=>by have:=I.st.1;rw[z,e7]at this;cases this
    refine⟨f,kvs,r2,dat (oZ d x l),rfl,rfl,l6,kL _,m1.dt,⋯,λW _ b5 l5=>?_⟩;rw[t0]at l5;have p8:DTr K W f (kvs++[(dat (oZ d x l),V.ref G)]):=l5;have tk1:TK K g3 W:=TK.off e7 (λ_ z=>by cases z) (λ_ _ z=>by cases z) b5;have g6:W g=some (.lst (a2.map V.ref)):=by rw[b5 g d4];exact g0
    refine⟨tyL g6,g,_,_,rfl,rfl,g6,by rw[zqe,mE d9];omega,h9 _ ?_⟩;rw[g1];have c0:∀c,c≠g->upd W g (.lst (a2.map V.ref++[.ref r2])) c=W c:=λc U=>oT U;have p9:upd W g (.lst (a2.map V.ref++[.ref r2])) g=some (.lst (a2.map V.ref++[.ref r2])):=oP;generalize upd W g (.lst (a2.map V.ref++[.ref r2]))=q2 at*
    have i2:TK K W q2:=TK.off g6 (λ_ z=>by cases z) (λ_ _ z=>by cases z) c0;have h5:=tk1.trans i2;have l9:∀p xs,g3 p=some (.lst xs)->p≠f:=λp xs e z=>by rw[z,e7]at e;cases e
    refine⟨λb o e=>?_,⟨?_,Paired.mapP I.st.2 λ_ _ z=>DdAt.tk z h5⟩,⟨a2++[r2],by rw[p9];simp,Paired.snoc (Paired.mapP u0 λ_ _ z=>DdAt.tk z h5) (DdAt.tk m1 h5)⟩,⟨kvs++[(dat (oZ d x l),V.ref G)],DTr.tk p8 i2 (c0 f (yA d4)),Paired.snoc (Paired.mapP s2 λ_ _ z=>?_) ⟨rfl,G,rfl,⟨m7,lH (λb o e=>d3 _ _ (d2.s b o e)) f4⟩,?_⟩⟩,I.n1,I.n2,I.n3,I.x1⟩
    ·have b1:b≠g:=λz=>by rw[z,I.n2]at e;cases e
     have b2:b≠f:=λz=>by rw[z,I.n3]at e;cases e
     rw[c0 b b1,b5 b b2];exact I.s b o e
    ·rw[c0 as I.x1,b5 as e3];exact I.st.1
    ·obtain⟨n5,p,s0,l3,j1⟩:=z;refine⟨n5,p,s0,l3,?_⟩;rw[c0 p l3.1,b5 p (l9 _ _ j1)];exact j1
    ·rw[c0 G m7,b5 G (l9 _ _ k0),k0];simp
   ·rintro c2 j9 ⟨D,F,C,rfl,a6,a8,c5,g8⟩;have r5:(S.map V.ref).length=(ms.map oV).length:=by rw[zqe];exact mE a6.st.2
    rw[r5,Vc]at a6 a8 c5 g8;subst b3;refine⟨.int i,rfl,?_⟩;unfold tC ipI;refine⟨i,1,rfl,rfl,?_⟩;refine⟨_,D,F,C,rfl,a6,?_,a8,c5,g8⟩;rw[show 201-(i+1)=201-i-1 by omega];exact U
theorem Dl:∀{l a:LI'},l.length=a.length->smA (l.map PyData.int) (a.map PyData.int)=true
 |[],[],_=>rfl
 |_:: l,_:: a,h=>by
  show(sm (.int _) (.int _) && smA (l.map PyData.int) (a.map PyData.int))=true;rw[Dl (by simpa using h)];rfl
theorem Jg{d:Nat}:∀{M a:LM},M.length=a.length->(∀r∈M,r.length=d)->(∀r∈a,r.length=d)->smA (M.map λr=>PyData.tuple (r.map PyData.int)) (a.map λr=>PyData.tuple (r.map PyData.int))=true
 |[],[],_,_,_=>rfl
 |r:: M,c:: a,h,e,f=>by
  show(smA (r.map PyData.int) (c.map PyData.int) && smA (M.map λr=>PyData.tuple (r.map PyData.int)) (a.map λr=>PyData.tuple (r.map PyData.int)))=true;rw[Dl ((e r (.head _)).trans (f c (.head _)).symm),Jg (by simpa using h) (λx b=>e x (.tail _ b)) λx b=>f x (.tail _ b)];rfl
theorem Wz{d:Nat}{x y:Dd}(a:mY d x)(b:mY d y):sm (dat x) (dat y)=true:=by
 show(smA (x.1.map λr=>PyData.tuple (r.map PyData.int)) (y.1.map λr=>PyData.tuple (r.map PyData.int)) && (smA (x.2.1.map PyData.int) (y.2.1.map PyData.int) && (sm (.int _) (.int _) && true)))=true;rw[Jg (a.sq.1.trans b.sq.1.symm) a.sq.2 b.sq.2,Dl (a.len.trans b.len.symm)];rfl
def Wy(d:Nat)(lg lo ls ln:Addr):List (Str×V):=[(Str.ofString "dimension",.int d),(Str.ofString "given",.ref lg),(Str.ofString "ordered",.ref lo),(Str.ofString "shortest",.ref ls),(Str.ofString "numbers",.ref ln)]
abbrev fG1(d:Nat):List (Str×V):=[(Str.ofString "dimension",.int d)]
abbrev fG2(d:Nat)(lg:Addr):List (Str×V):=[(Str.ofString "dimension",.int d),(Str.ofString "given",.ref lg)]
abbrev fG3(d:Nat)(lg lo:Addr):List (Str×V):=[(Str.ofString "dimension",.int d),(Str.ofString "given",.ref lg),(Str.ofString "ordered",.ref lo)]
abbrev fG4(d:Nat)(lg lo ls:Addr):List (Str×V):=[(Str.ofString "dimension",.int d),(Str.ofString "given",.ref lg),(Str.ofString "ordered",.ref lo),(Str.ofString "shortest",.ref ls)]
abbrev fG5(d:Nat)(lg lo ls ln:Addr):List (Str×V):=[(Str.ofString "dimension",.int d),(Str.ofString "given",.ref lg),(Str.ofString "ordered",.ref lo),(Str.ofString "shortest",.ref ls),(Str.ofString "numbers",.ref ln)]
def numT(srt:Tb)(n:Nat):List (PyData×V):=(srt.zipIdx n).map λp=>(dat p.1.1,V.int ((p.2:Nat):Int))
structure GrpF(K:Frag)(t:Adr)(H:Hp)(g:Addr)(d:Nat)(ms:List Dd)(srt:Tb):Prop where
 ex:∃dx lg lo ls ln,H g=some (.ins t.a_2 dx (Wy d lg lo ls ln))/\(∃gs:LA,H lg=some (.lst (gs.map V.ref))/\Paired (DdS K H) gs ms) /\
  (∃os:LA,H lo=some (.lst (os.map V.ref))/\Paired (λp x=>Dt K H (.ref p) (dat x.1)) os srt) /\
  (∃ws:LA,H ls=some (.lst (ws.map V.ref))/\Paired (λp(x:Dd×List Nat)=>H p=some (.lst (x.2.map λn=>V.int (n:Nat)))) ws srt)/\DTr K H ln (numT srt 0)
def Jf(K:Frag)(t:Adr):Sp:=λvs H Q E=>E9 λ(b:Bool)(d:Nat)(a x dx:Addr)(ps:LA)(ms:List Dd)(G:Dd->Prop)(most:Nat)=>A17 (vs=[.ref x,.int d,.ref a,.int most]) (H x=some (.ins t.a_2 dx [])) ((d=2\/d=3)) (SqB b K H a (ps.map V.ref)) (Paired (DdS K H) ps ms) (ms.length<=200) ((∀s∈ms,mY d s)) ((∀s∈ms,mY d (oV s))) ((∀x,G x->mY d x)) (G (nE d)) ((∀x s,G x->s∈ms->G (oZ d x (oV s)))) (1<=most) (most<=200) ((∀y∈nP d (ms.map oV) 201 0 [(nE d,[])],mY d y.1)) (((nP d (ms.map oV) 201 0 [(nE d,[])]).map (·.1)).Nodup) (((nP d (ms.map oV) 201 0 [(nE d,[])]).length<=most->∀srt H',(∀b o,b≠x->H b=some o->H' b=some o)->GrpF K t H' x d ms srt->(∀a l,H a=some (.lst l)->GrpF K t (offH a H') x d ms srt)->srt.Perm (nP d (ms.map oV) 201 0 [(nE d,[])])->srt.Pairwise (λp q=>lx (fl (dat q.1)) (fl (dat p.1))=false)->Q .non H')) ((most<(nP d (ms.map oV) 201 0 [(nE d,[])]).length->∀H',Same H H'->E (.ref t.a_1h) none H'))
theorem Je{c d:Type}{f:c->d}:∀{l:List d}{tb:List c},l.Perm (tb.map f)->∃srt:List c,srt.Perm tb/\srt.map f=l
 |[],tb,h=>by
  have:=h.length_eq;rw[zqe]at this;exact⟨[],by rw[List.length_eq_zero_iff.mp this.symm],rfl⟩
 | b:: l,tb,h=>by
  obtain⟨a,i,e⟩:=pZ.mp (h.mem_iff.mp (zZ));obtain⟨s,r,rfl⟩:=List.append_of_mem i;have g:(b:: l).Perm (b:: (s++r).map f):=by
   refine h.trans ?_;rw[xD,zK,e,xD];exact List.perm_middle
  obtain⟨srt,p,q⟩:=Je (List.Perm.cons_inv g);exact⟨a:: srt,(List.Perm.cons a p).trans List.perm_middle.symm,by rw[zK,e,q]⟩
def KX(x:Addr)(H H':Hp):Prop:=∀b o,b≠x->H b=some o->H' b=some o
theorem KX.same{x:Addr}{H H':Hp}(s:Same H H'):KX x H H':=λb o _ e=>s b o e
theorem KX.put{x:Addr}{H:Hp}{o:HO}:KX x H (upd H x o):=λb c a e=>by rw[oT a];exact e
theorem KX.trans{x:Addr}{H g f:Hp}(a:KX x H g)(b:KX x g f):KX x H f:=λc o d e=>b c o d (a c o d e)
theorem KX.tk{K:Frag}{x C d:Addr}{fs:List (Str×V)}{H H':Hp}(k:KX x H H')(e:H x=some (.ins C d fs)):TK K H H':=by
 have a:∀b xs,H b=some (.tup xs)->H' b=some (.tup xs):=λb xs q=>k b _ (λz=>by rw[z,e]at q;cases q) q;refine⟨a,λb xs q=>?_⟩;rcases q with(q|⟨c,q⟩)|q
 ·exact .inl (.inl (a _ _ q))
 ·exact .inl (.inr ⟨c,k b _ (λz=>by rw[z,e]at q;cases q) q⟩)
 ·exact .inr q
theorem Wx{H0 H:Hp}{x:Dd}{w:List Nat}{p:Addr}:∀{tb:Tb}{kvs:List (PyData×V)},TbAt H0 H tb kvs->(tb.map (·.1)).Nodup->(x,w)∈tb->vT kvs (dat x)=some (.ref p)->H0 p=none/\H p=some (.lst (w.map λn=>V.int (n:Nat))):=by
 intro tb kvs h
 induction h with
 |nil=>intro _ a;cases a
 |@cons y d tb kvs c _ g =>
  intro nd a e;obtain⟨e1,q,f,b⟩:=c;rw[zK,tS]at nd;rcases xI.mp a with a|a
  ·rw[←a]at e1 b;rw[dZ e1,f]at e;cases e;exact b
  ·have i:¬ d.1=dat x:=λq=>nd.1 (by rw[eT.mp (e1.symm.trans q)];exact pZ.mpr ⟨_,a,rfl⟩);rw[gZ i]at e;exact g nd.2 a e
theorem Ww{K:Frag}{H:Hp}{C x d a:Addr}{fs:List (Str×V)}{o:HO}{b:Bool}{xs:List V}(e:H x=some (.ins C d fs))(h:SqB b K H a xs):SqB b K (upd H x o) a xs:=by
 cases b with
 |false =>
  rcases(show SqL K H a xs from h) with(h|⟨c,h⟩)|h
  ·exact(.inl (.inl (by rw[oT (λz=>by rw[z,e]at h;cases h)];exact h)):SqL K (upd H x o) a xs)
  ·exact(.inl (.inr ⟨c,by rw[oT (λz=>by rw[z,e]at h;cases h)];exact h⟩):SqL K (upd H x o) a xs)
  ·exact(.inr h:SqL K (upd H x o) a xs)
 |true =>
  rcases(show SqT K H a xs from h) with(h|⟨c,h⟩)|h
  ·exact(.inl (.inl (by rw[oT (λz=>by rw[z,e]at h;cases h)];exact h)):SqT K (upd H x o) a xs)
  ·exact(.inl (.inr ⟨c,by rw[oT (λz=>by rw[z,e]at h;cases h)];exact h⟩):SqT K (upd H x o) a xs)
  ·exact(.inr h:SqT K (upd H x o) a xs)
theorem Wv{H:Hp}{v:V}{ds:List PyData}(h:Dt K H v (.tuple ds)):∃q,v=V.ref q:=by
 cases h;exact⟨_,rfl⟩
theorem fG{H:Hp}{a:St}{i:Nat}{C x b:Addr}{fs:List (Str×V)}{f:Str}{v:V}{Q:VK}(d:a[i]?=some (some (V.ref x)))(e:H x=some (.ins C b fs))(c:Cls K C)(n:gR K C f)(l:fs.lookup f=some v)(q:Q v H):tFld K (tVar i) f a H Q:=⟨_,d,x,C,b,fs,v,rfl,e,c,n,l,q⟩
theorem Wu{H0 H:Hp}:∀{tb:Tb}{kvs:List (PyData×V)},TbAt H0 H tb kvs->∀y∈tb,∃p,vT kvs (dat y.1)=some (V.ref p):=by
 intro tb kvs h
 induction h with
 |nil=>intro y a;cases a
 | @cons z b tb kvs c _ e =>
  intro y a;obtain⟨e1,p,d,_⟩:=c
  by_cases q:b.1=dat y.1
  ·exact⟨p,by rw[dZ q,d]⟩
  ·rw[gZ q];rcases xI.mp a with a|a
   ·exact absurd (by rw[e1,a]) q
   ·exact e y a
theorem Ws{K:Frag}{H:Hp}{ps:List (V×PyData)}{zs:List V}{n:Nat}(hl:zs.length=ps.length)(c:∀p∈ps,tT 4 p.2=true/\Dt K H p.1 p.2/\∃q,p.1=V.ref q)(d:∀j y,zs[j]?=some y->∃p m,y=V.ref p/\ps[j]?=some m/\H p=some (.tup [m.1,.int ((n+j:Nat):Int)])):
  ∃ts:List (Addr×PyData×Addr×V),zs=ts.map (λt=>V.ref t.1)/\(ts.map (·.2.1)=ps.map (·.2)/\ts.map (λt=>(t.2.1,t.2.2.2))=(ps.zipIdx n).map λp=>(p.1.2,V.int ((p.2:Nat):Int)))/\∀t∈ts,SqT K H t.1 [.ref t.2.2.1,t.2.2.2]/\tT 4 t.2.1=true/\Dt K H (.ref t.2.2.1) t.2.1:=by
 induction ps generalizing zs n with
 |nil =>
  obtain rfl:=vA hl;exact⟨[],rfl,⟨rfl,rfl⟩,λ_ h=>nomatch h⟩
 | cons p ps L =>
  obtain⟨z,zs,rfl⟩:=List.exists_cons_of_length_eq_add_one hl;obtain⟨a,m,e1,I,e⟩:=d 0 z rfl;cases I;obtain⟨o,f,q,l⟩:=c p (.head _);obtain⟨ts,D,⟨g,u⟩,F⟩:=L (zs:=zs) (n:=n+1) (qW hl) (λx k=>c x (.tail _ k)) λj y r=>by
   obtain⟨J,G,i,v,C⟩:=d (j+1) y r;exact⟨J,G,i,v,by rw[C,show n+(j+1)=n+1+j by omega]⟩
  rw[l]at e f;refine⟨(a,p.2,q,.int ((n+0:Nat):Int)):: ts,by rw[e1,D];rfl,⟨by rw[zK,zK,g],by rw[zK,vW,zK,u];rfl⟩,λt b=>?_⟩;rcases xI.mp b with b|b
  ·rw[b];exact⟨SqT.of e,o,f⟩
  ·exact F t b
theorem ord_of{K:Frag}{H:Hp}:∀{ps:List (V×PyData)}{srt:Tb},(srt.map λy=>dat y.1)=ps.map (·.2)->(∀p∈ps,Dt K H p.1 p.2/\(∃q,p.1=V.ref q))->∃a:LA,ps.map (·.1)=a.map V.ref/\Paired (λp(x:Dd×List Nat)=>Dt K H (.ref p) (dat x.1)) a srt
 |[],[],_,_=>⟨[],rfl,.nil⟩
 |[],_:: _,h,_=>by simp at h
 |_:: _,[],h,_=>by simp at h
 |p:: ps,y:: srt,e,h=>by
  rw[zK,zK,yR]at e;obtain⟨a,e1,f⟩:=ord_of (ps:=ps) (srt:=srt) e.2 λx d=>h x (.tail _ d);obtain⟨c,q,b⟩:=h p (.head _);rw[b,←e.1]at c;exact⟨q:: a,by rw[zK,zK,e1,b],.cons c f⟩
theorem Wq{H:Hp}{kvs:List (PyData×V)}{srt:Tb}{ys:List V}(hl:ys.length=srt.length)(h:∀(j:Nat) y,ys[j]?=some y->∃p m,y=V.ref p/\srt[j]?=some m/\vT kvs (dat m.1)=some (V.ref p))
  (f:∀m∈srt,∀p,vT kvs (dat m.1)=some (V.ref p)->H p=some (.lst (m.2.map λn=>V.int (n:Nat)))):∃d:LA,ys=d.map V.ref/\Paired (λp(x:Dd×List Nat)=>H p=some (.lst (x.2.map λn=>V.int (n:Nat)))) d srt:=Jh hl λj y e=>by
 obtain⟨p,m,a,b,c⟩:=h j y e;exact⟨p,m,a,b,f m (zqb b) p c⟩
theorem Jd:∀{srt:Tb}{ps:List (V×PyData)},(srt.map λy=>dat y.1)=ps.map (·.2)->∀n,((srt.zipIdx n).map λp=>(dat p.1.1,V.int ((p.2:Nat):Int)))=(ps.zipIdx n).map λp=>(p.1.2,V.int ((p.2:Nat):Int))
 |[],[],_,_=>rfl
 |[],_:: _,h,_=>by simp at h
 |_:: _,[],h,_=>by simp at h
 |y:: srt,p:: ps,e,n=>by
  rw[zK,zK,yR]at e;rw[vW,vW,zK,zK,Jd e.2 (n+1),e.1]
structure GI(K:Frag)(H0:Hp)(C x dx wd:Addr)(fs:List (Str×V))(tb:Tb)(kvs:List (PyData×V))(H:Hp):Prop where
 hx:H x=some (.ins C dx fs)
 s:∀b o,b≠x->H0 b=some o->H b=some o
 D:DTr K H wd kvs
 T:TbAt H0 H tb kvs
theorem GI.up{K:Frag}{H0 H H':Hp}{C x c a:Addr}{fs:List (Str×V)}{tb:Tb}{kvs:List (PyData×V)}(h:GI K H0 C x c a fs tb kvs H)(s:Same H H'):GI K H0 C x c a fs tb kvs H':=
 ⟨s _ _ h.hx,λb o f e=>s _ _ (h.s b o f e),h.D.up s,Paired.mapP h.T λ_ _ z=>let ⟨i,p,j,d,g⟩:=z;⟨i,p,j,d,s _ _ g⟩⟩
theorem aZ{K:Frag}{H:Hp}{C x a:Addr}{fs fs':List (Str×V)}(e:H x=some (.ins C a fs)):TK K H (upd H x (.ins C a fs')):=TK.off e (λ_ z=>by cases z) (λ_ _ z=>by cases z) λ_ b=>oT b
theorem GI.put{K:Frag}{H0 H:Hp}{C x d c:Addr}{fs:List (Str×V)}{tb:Tb}{kvs:List (PyData×V)}(h:GI K H0 C x d c fs tb kvs H)(fs':List (Str×V)):GI K H0 C x d c fs' tb kvs (upd H x (.ins C d fs')):=by
 have i:c≠x:=λz=>by
  obtain⟨_,_,xs,e,_⟩:=h.D;rw[z,h.hx]at e;cases e
 refine⟨oP,λb o f e=>?_,DTr.tk h.D (aZ h.hx) (oT i),Paired.mapP h.T λ_ _ z=>?_⟩
 ·rw[oT f];exact h.s b o f e
 ·obtain⟨j,p,k,g,a⟩:=z;have:p≠x:=λq=>by rw[q,h.hx]at a;cases a
  exact⟨j,p,k,g,by rw[oT this];exact a⟩
theorem GI.non{K:Frag}{H0 H:Hp}{C x c a b:Addr}{fs:List (Str×V)}{tb:Tb}{kvs:List (PyData×V)}(h:GI K H0 C x c a fs tb kvs H)(e:H b=none):H0 b=none:=by
 cases z:H0 b with
 |none=>rfl
 |some o =>
  by_cases q:b=x
  ·rw[q,h.hx]at e;cases e
  ·rw[h.s b o q z]at e;cases e
theorem ok_0(T:Txt K mg t):FnOk P w K mg base (CX1 P w) 12 t.a_0 t.d_0 pm' (Jf K t):=by
 refine T.F_0.okX sc_0 (λvs H Q E h=>?_) (λcdv A outer s H vs Q E hr h=>?_)
 ·obtain⟨b,d,a,x,g,ps,ms,e9,most,rfl,_⟩:=h;rfl
 ·have c7:=hr.units;obtain⟨b,d,a,x,g,ps,ms,e9,most,rfl,b7,g1,e2,d2,d6,g0,k9,g7,f1,l6,e6,e0,m2,g8,b6,h1⟩:=h;refine⟨_,(oM (lU (oQ (ok_w T) hr.mo T.F_w (oJ (pv 3) oK)))
   (oM (lU (oQ (ok_s T) hr.mo T.F_s (oJ (pv 1) (oJ (pv 2) oK))))
   (oM (oU (i:=4) sc_0.nd rfl (Or.inr rfl) (Pf (ok_14 T) hr.mo rfl T.F_14.m T.F_14.kp T.F_14.b .nil Pi (oJ (pv 1) (oJ (pv 2) (oJ (pv 3) oK)))))
   (oM (dJ (pv 0) (pv 1) rfl)
   (oM (dJ (pv 0) (mB kR rfl T.z_list (nofun) (oJ (pv 2) oK)) rfl)
   (oM (dJ (pv 0) (lN (Tf (N:=200) Vj c7 rfl) rfl T.z_sorted (nofun) (oJ (pv 4) oK)) rfl)
   (oM (dJ (pv 0) (nT (sc:=oR s_0) (N:=N_0) (fr:=[("words",4)]) (te:=(tOp (bW K) (tVar 1) (tVar 0))) rfl rfl (nofun) rfl (nofun) (nV (iE (pv 0) rfl)) (λ_ _ _ a7=>(nQ (ix_T c7) (pv 1) (pv 0) (λ_ _=>rfl)))) rfl)
   (oO (dJ (pv 0) (mB (Uv c7 rfl) rfl T.z_dict (nofun) (oJ (iJ (xs:=["number","member"]) (fr:=[]) (g:=(gTup K 2 (lC (nB 0) (lC (nB 1) gNil)))) (tt:=(tEl (tTup (nF (tVar 1) (nF (tVar 0) tNil))))) (kQ (sc:=oR s_0) (N:=N_0) rfl rfl (nofun)) rfl (bO rfl T.z_enumerate (oJ (iE (pv 0) rfl) oK)) (λ_ _ _ a7=>(gN rfl (lD (jS (N:=["number","member"]) (i:=0) a7 rfl (nofun)) (lD (jS (N:=["number","member"]) (i:=1) a7 rfl (nofun)) iU)))) (λ_ _ _ a7=>(jI (lV (oJ (pv 1) (oJ (pv 0) oK)))))) oK)) rfl))))))))),?_⟩
  show tSeq _ _ _ [some (.ref x),some (.int d),some (.ref a),some (.int most),none] H;right;refine⟨most,rfl,e6,e0,?_⟩;left;refine⟨b,d,a,ps,ms,rfl,g1,e2,d2,λs k4=>(g0 s k4).sq.1,λo6 Z=>?_⟩;left;refine⟨b,d,a,ps,ms,most,e9,rfl,g1,e2.up Z,Paired.mapP d2 λ_ _ z=>z.up Z,d6,g0,k9,g7,f1,l6,e6,e0,λa4 c1 kvs S e4 o1 k6 l8=>?_,λa4 S e4=>h1 a4 S (Z.trans e4)⟩;have b6:=b6 a4;have o8:=yG a4 e0;clear h1;generalize nP d (ms.map oV) 201 0 [(nE d,[])]=tb at*
  have d4:=Z.trans e4;have d5:=d4 _ _ b7;subst e1;refine st λN1 e1=>?_;simp only[sFld];ext;have e5:GI K H t.a_2 x g c1 [] tb kvs S:=⟨d5,λb o _ e=>d4 _ _ e,k6,Paired.mapP l8 λ_ _ z=>let ⟨n7,p,i2,m5,i8⟩:=z;⟨n7,p,i2,lH Z m5,i8⟩⟩;refine⟨_,_,_,d5,T.cl_2,T.h_5,∅,?_⟩;have e3:=e5.put (fG1 d);have sq3:SqB b K (upd S x (.ins t.a_2 g (fG1 d))) a (ps.map V.ref):=Ww d5 (e2.up d4);show N1 _ (upd S x (.ins t.a_2 g (fG1 d)));generalize upd S x (.ins t.a_2 g (fG1 d))=b3 at*
  clear e5;subst e1;refine st λN1 e1=>?_;simp only[sFld];ext;refine⟨b,a,_,rfl,sq3,λf a5=>?_⟩;have h7:Same b3 (upd b3 f (.lst (ps.map V.ref))):=Same.new a5;have j9:(upd b3 f (.lst (ps.map V.ref))) f=some (.lst (ps.map V.ref)):=oP;have m7:f≠x:=λz=>by rw[z,e3.hx]at a5;cases a5
  have j7:=e3.non a5;have f0:=e3.up h7;generalize upd b3 f (.lst (ps.map V.ref))=D at*
  refine⟨_,_,_,f0.hx,T.cl_2,T.h_h,by show 1<1000;decide,?_⟩;have a2:=f0.put (fG2 d f);have h3:KX x D (upd D x (.ins t.a_2 g (fG2 d f))):=KX.put;show N1 _ (upd D x (.ins t.a_2 g (fG2 d f)));generalize upd D x (.ins t.a_2 g (fG2 d f))=o5 at*
  subst e1;refine st λN1 e1=>?_;simp only[sFld];ext;have o7:tb.length=kvs.length:=mE a2.T;have g4:∀F∈kvs,∃y∈tb,F.1=dat y.1:=λF X=>by
   obtain⟨y,a1,z⟩:=Ct a2.T F X;exact⟨y,a1,z.1⟩
  have i3:=g7 _ f1;refine⟨c1,kvs,[.tuple ((List.replicate d (0:Int)).map PyData.int),.int 1],(idM d).map (λr=>PyData.tuple (r.map PyData.int)),rfl,⋯,a2.D,λF X=>?_,λlo u Y c9 n5 b5 b1 a6 h8=>?_⟩
  ·obtain⟨y,a1,e⟩:=g4 F X;rw[e];exact Wz i3 (m2 y a1)
  have l0:=a2.non n5;have a3:=a2.up c9;have m0:=h3.trans (KX.same c9);refine⟨_,_,_,a3.hx,T.cl_2,T.h_8,by show 2<1000;decide,?_⟩;have pl:u.length<=200:=by
   have:=a6.length_eq;rw[zqe,zqe]at this;omega
  have o2:=b5;have O:=a3.put (fG3 d f lo);have d0:lo≠x:=λz=>by rw[z,a3.hx]at b5;cases b5
  have n8:KX x D (upd Y x (.ins t.a_2 g (fG3 d f lo))):=m0.trans KX.put;have d3:(upd Y x (.ins t.a_2 g (fG3 d f lo))) lo=some (.lst (u.map (·.1))):=by rw[oT d0];exact b5
  have R:∀p∈u,tT 4 p.2=true/\Dt K (upd Y x (.ins t.a_2 g (fG3 d f lo))) p.1 p.2:=λp c=>⟨(b1 p c).1,kJ (aZ a3.hx).t 4 (b1 p c).1 (kJ (lP c9) 4 (b1 p c).1 (b1 p c).2)⟩;show N1 _ (upd Y x (.ins t.a_2 g (fG3 d f lo)));generalize upd Y x (.ins t.a_2 g (fG3 d f lo))=o3 at*
  -- every member is a reference to one of the dict's keys
  have mem:∀p∈u,∃y∈tb,p.2=dat y.1:=λp c=>by
   have:p.2∈kvs.map (·.1):=a6.mem_iff.mp (pZ.mpr ⟨p,c,rfl⟩);obtain⟨F,X,e⟩:=pZ.mp this;obtain⟨y,a1,c0⟩:=g4 F X;exact⟨y,a1,by rw[←e,c0]⟩
  have f3:kvs.map (·.1)=tb.map λy=>dat y.1:=by
   have:∀{H0 H':Hp}{tb:Tb}{kvs:List (PyData×V)},TbAt H0 H' tb kvs->kvs.map (·.1)=tb.map λy=>dat y.1:=by
    intro H0 H' tb kvs h
    induction h with
    |nil=>rfl
    |cons b9 _ n6=>rw[zK,zK,n6,b9.1]
   exact this O.T
  obtain⟨srt,h2,a0⟩:=Je (f:=λy:Dd×List Nat=>dat y.1) (l:=u.map (·.2)) (tb:=tb) (by rw[←f3];exact a6);have k7:srt.length=u.length:=by have:=wH List.length a0;simpa using this
  have c2:∀p∈u,∃q,p.1=V.ref q:=λp c=>by
   obtain⟨y,_,e⟩:=mem p c;have g2:=(R p c).2;rw[e]at g2;exact Wv g2
  subst e1;refine st λN1 e1=>?_;simp only[sFld];refine nN λB eB=>?_;simp only[iSeq];refine fG rfl O.hx T.cl_2 T.h_8 rfl ?_;refine⟨false,lo,rfl,⟨_,SqB.lst d3⟩,λk a9=>?_⟩;refine mU (λj y _=>∃(p:Addr)(m:Dd×List Nat),y=V.ref p/\srt[j]?=some m/\vT kvs (dat m.1)=some (V.ref p)) a9 (SqB.lst d3) (by rw[zqe];omega) (λ_ _ _ _ h _=>h) ?_ ?_
  ·intro i y C zs c3 G e7 c6 c5;obtain⟨p,c,rfl⟩:=gJ c3;have d9:=zqb c;obtain⟨q,k8⟩:=c2 p d9;obtain⟨n9,n1,j8⟩:=mem p d9;obtain⟨f9,f5⟩:=R p d9;subst eB;show tOp _ _ _ [some p.1,some (.ref c1)] C c6;ext;rw[k8]at f5 ⊢;have L:=O.up G;obtain⟨i0,c4⟩:=Wu L.T n9 n1;rw[←j8]at c4;refine Dr L.D f9 (kJ (lP G) 4 f9 f5) c4 ?_;have n0:∃m,srt[i]?=some m/\dat m.1=p.2:=by
    have e:=wH (λl=>l[i]?) a0;simp only[List.getElem?_map,c,Option.map_some]at e;cases hm2:srt[i]? with
    |none=>rw[hm2]at e;cases e
    |some m=>rw[hm2]at e;exact⟨m,rfl,zW e⟩
   obtain⟨m,d8,i9⟩:=n0;exact c5 _ _ (Same.refl _) ⟨i0,m,rfl,d8,by rw[i9];exact c4⟩
  ·intro C ys G j0 m6 l7;have j5:=O.non a9;have L:=O.up G;have f7:k≠x:=λz=>by rw[z,O.hx]at a9;cases a9
   have j4:=n8.trans (KX.same G);have i1:KX x D (upd C x (.ins t.a_2 g (fG4 d f lo k))):=j4.trans KX.put;have o0:(upd C x (.ins t.a_2 g (fG4 d f lo k))) k=some (.lst ys):=by rw[oT f7];exact j0
   refine⟨.ref x,rfl,x,_,_,_,rfl,L.hx,T.cl_2,T.h_6,by show 3<1000;decide,?_⟩;have g5:=L.put (fG4 d f lo k);have c8:(upd C x (.ins t.a_2 g (fG4 d f lo k))) lo=some (.lst (u.map (·.1))):=by rw[oT d0];exact G _ _ d3
   have I:∀p∈u,tT 4 p.2=true/\Dt K (upd C x (.ins t.a_2 g (fG4 d f lo k))) p.1 p.2:=λp c=>⟨(R p c).1,kJ (aZ L.hx).t 4 (R p c).1 (kJ (lP G) 4 (R p c).1 (R p c).2)⟩;show N1 _ (upd C x (.ins t.a_2 g (fG4 d f lo k)));generalize upd C x (.ins t.a_2 g (fG4 d f lo k))=o4 at*
   subst e1;simp only[sFld];ext;refine nN λB eB=>?_;simp only[dU];ext;refine fG rfl g5.hx T.cl_2 T.h_8 rfl ?_;refine⟨false,lo,rfl,⟨_,SqB.lst c8⟩,λf4 i5=>?_⟩;refine Qf (λj y H=>∃p m,y=V.ref p/\p≠f4/\u[j]?=some m/\H p=some (.tup [m.1,.int (j:Int)])) i5 (SqB.lst c8) (by rw[zqe];omega) (λ_ _ _ _⟨p,m,e,n,d8,h⟩l1=>⟨p,m,e,n,d8,l1 _ _ n h⟩) ?_ ?_
   ·intro i y d7 zs c3 b4 e7 c6 c5;obtain⟨p,c,rfl⟩:=gJ c3;subst eB;show tTup _ [some (.int i),some p.1] d7 c6;ext;refine⟨by show 2<=sizeLine;decide,λq b8=>?_⟩;refine c5 _ _ (Same.new b8) ⟨q,p,rfl,(λz=>by rw[z,e7]at b8;cases b8),c,oP⟩
   ·intro d7 zs b4 j2 h6 b9;obtain⟨ts,l4,⟨k5,j3⟩,n2⟩:=Ws (K:=K) (H:=d7) (ps:=u) (zs:=zs) (n:=0) (by rw[h6,zqe]) (λp c=>⟨(I p c).1,kJ (lP b4) 4 (I p c).1 (I p c).2,c2 p c⟩) λj y l2=>by
     obtain⟨p,m,m4,_,m8,m9⟩:=b9 j y l2;exact⟨p,m,m4,m8,by rw[xO];exact m9⟩
    have e8:=g5.up b4;have k0:(u.map (·.2)).Nodup:=a6.nodup_iff.mpr (by
     rw[f3,show(tb.map λy=>dat y.1)=(tb.map (·.1)).map dat by rw[xK];rfl];exact List.Pairwise.map dat (λa b h e=>h (eT.mp e)) g8)
    refine⟨f4,ts,rfl,by rw[←l4];exact .inl (.inl j2),n2,by rw[k5];exact k0,λv J f8 m3 f6=>?_⟩;have i6:=e8.non m3;have a8:=e8.up f8;refine⟨_,_,_,a8.hx,T.cl_2,T.h_9,by show 4<1000;decide,?_⟩;have b0:=b4.trans f8;have g3:=aZ (K:=K) (fs':=(fG5 d f lo k v)) a8.hx;have W:=a8.put (fG5 d f lo k v);show Q .non (upd J x (.ins t.a_2 g (fG5 d f lo k v)));have j1:KX x J (upd J x (.ins t.a_2 g (fG5 d f lo k v))):=KX.put;have l5:(upd J x (.ins t.a_2 g (fG5 d f lo k v))) k=some (.lst ys):=by rw[oT f7];exact b0 _ _ o0
    have i4:v≠x:=λz=>by
     obtain⟨_,_,xs,e,_⟩:=f6;rw[z,a8.hx]at e;cases e
    have h5:=DTr.tk f6 g3 (oT i4);have h4:(upd J x (.ins t.a_2 g (fG5 d f lo k v))) lo=some (.lst (u.map (·.1))):=by rw[oT d0];exact b0 _ _ c8
    generalize upd J x (.ins t.a_2 g (fG5 d f lo k v))=U at*;have j6:KX x D U:=((i1.trans (KX.same b0)).trans j1);have k3:TK K H U:=KX.tk (λb o i7 e=>W.s b o i7 e) b7;have f2:∀M:Hp,TK K U M->(∀p,H p=none\/p=x->M p=U p)->GrpF K t M x d ms srt:=by
     intro M d1 N;refine⟨g,f,lo,k,v,by rw[N x (.inr rfl)];exact W.hx,⟨ps,by rw[N f (.inl j7)];exact j6 _ _ m7 j9,Paired.mapP d2 λ_ _ z=>DdS.tk (DdS.tk z k3) d1⟩,?_,?_,?_⟩
     ·obtain⟨n4,l3,m1⟩:=ord_of (K:=K) (H:=M) (ps:=u) (srt:=srt) a0 λp c=>⟨kJ d1.t 4 (I p c).1 (kJ g3.t 4 (I p c).1 (kJ (lP b0) 4 (I p c).1 (I p c).2)),c2 p c⟩;exact⟨n4,by rw[N lo (.inl l0),h4,l3],m1⟩
     ·obtain⟨n3,h9,l9⟩:=Wq (H:=M) (srt:=srt) (kvs:=kvs) (ys:=ys) (by rw[m6,zqe,k7]) l7 λm d6 p e=>(by
       obtain⟨k1,k2⟩:=Wx (x:=m.1) (w:=m.2) W.T g8 (h2.mem_iff.mp d6) e;rw[N p (.inl k1)];exact k2)
      exact⟨n3,by rw[N k (.inl j5),←h9];exact l5,l9⟩
     ·have c0:numT srt 0=ts.map λt=>(t.2.1,t.2.2.2):=by
       rw[j3];unfold numT;exact Jd a0 0
      rw[c0];exact DTr.tk h5 d1 (N v (.inl i6))
    refine b6 srt U W.s (f2 U ⟨λ_ _ e=>e,λ_ _ e=>e⟩ λ_ _=>rfl) (λh0 o9 b2=>?_) h2 ?_
    ·have g6:h0≠x:=λz=>by rw[z,b7]at b2;cases b2
     refine f2 _ (Dm (W.s h0 _ g6 b2)) λp c=>zD λz=>?_;rcases c with c|c
     ·rw[z,b2]at c;cases c
     ·exact g6 (z.symm.trans c)
    ·have g9:(u.map (·.2)).Pairwise λp q=>lx (fl q) (fl p)=false:=List.pairwise_map.mpr h8;rw[←a0]at g9;exact List.pairwise_map.mp g9
theorem Jc{e d c:Type}{F:e->c->Prop}{f:d->c}:∀{xs:List e}{ys:List d},Paired (λa b=>F a (f b)) xs ys->Paired F xs (ys.map f)
 |_,_,.nil=>.nil
 |_,_,.cons h hh=>.cons h (Jc hh)
theorem GrpF.up{H H':Hp}{g:Addr}{d:Nat}{ms:List Dd}{srt:Tb}(h:GrpF K t H g d ms srt)(s:Same H H'):GrpF K t H' g d ms srt:=by
 obtain⟨p,o,lo,b,f,k,⟨gs,n,i⟩,⟨m,q,e⟩,⟨j,l,c⟩,a⟩:=h;exact⟨p,o,lo,b,f,s _ _ k,⟨gs,s _ _ n,Paired.mapP i λ_ _ z=>DdS.up z s⟩,⟨m,s _ _ q,Paired.mapP e λ_ x z=>kJ (lP s) 4 (kL x.1) z⟩,⟨j,s _ _ l,Paired.mapP c λ_ _ z=>s _ _ z⟩,a.up s⟩
def sp_5(K:Frag)(t:Adr):Sp:=λvs H Q _=>E4 λ(g:Addr)(d:Nat)(ms:List Dd)(srt:Tb)=>A3 (vs=[.ref g]) (GrpF K t H g d ms srt) (∀l gs H',Same H H'->H l=none->H' l=some (.lst (gs.map V.ref))->Paired (DdS K H') gs ms->Q (.ref l) H')
def sp_3(K:Frag)(t:Adr):Sp:=λvs H Q _=>E4 λ(g:Addr)(d:Nat)(ms:List Dd)(srt:Tb)=>A3 (vs=[.ref g]) (GrpF K t H g d ms srt) (∀l os H',Same H H'->H l=none->H' l=some (.lst (os.map V.ref))->Paired (λp x=>Dt K H' (.ref p) (dat x.1)) os srt->Q (.ref l) H')
def wV(w:List Nat):List V:=w.map λn=>V.int (n:Nat)
def WlN(H0 H:Hp)(l:Addr)(W:List (List Nat)):Prop:=H0 l=none/\∃ps:LA,H l=some (.lst (ps.map V.ref))/\Paired (λp(w:List Nat)=>H0 p=none/\p≠l/\H p=some (.lst (wV w))) ps W
def sp_4(K:Frag)(t:Adr):Sp:=λvs H Q _=>E4 λ(g:Addr)(d:Nat)(ms:List Dd)(srt:Tb)=>A4 (vs=[.ref g]) (GrpF K t H g d ms srt) (srt.length<=200) (∀l H',Same H H'->WlN H H' l (srt.map (·.2))->Q (.ref l) H')
theorem ok_5(T:Txt K mg t):FnOk P w K mg base CX0 2 t.a_5 t.d_5 pF' (sp_5 K t):=by
 apply T.F_5.ok sc_5
 ·obtain⟨g,d,ms,srt,rfl,⟨k,e,lo,i,j,c,⟨gs,f,b⟩,_⟩,a⟩:=h;refine⟨_,(oO (oW (mB kR rfl T.z_list (nofun) (oJ (iE (pv 0) rfl) oK)))),?_⟩;show tRet _ _ [some (.ref g)] H;simp only[tRet,tCB,nF,tNil];refine fG rfl c T.cl_2 T.h_h rfl ?_;refine⟨false,e,_,rfl,SqB.lst f,λl hl=>?_⟩;exact a l gs _ (Same.new hl) hl oP (Paired.mapP b λ_ _ z=>DdS.up z (Same.new hl))
theorem ok_3(T:Txt K mg t):FnOk P w K mg base CX0 2 t.a_3 t.d_3 pF' (sp_3 K t):=by
 apply T.F_3.ok sc_3
 ·obtain⟨g,d,ms,srt,rfl,⟨m,k,lo,i,j,c,_,⟨e,f,b⟩,_⟩,a⟩:=h;refine⟨_,(oO (oW (mB kR rfl T.z_list (nofun) (oJ (iE (pv 0) rfl) oK)))),?_⟩;show tRet _ _ [some (.ref g)] H;simp only[tRet,tCB,nF,tNil];refine fG rfl c T.cl_2 T.h_8 rfl ?_;refine⟨false,lo,_,rfl,SqB.lst f,λl hl=>?_⟩;exact a l e _ (Same.new hl) hl oP (Paired.mapP b λ_ x z=>kJ (lP (Same.new hl)) 4 (kL x.1) z)
def WdR(H0:Hp)(a:Addr)(W:List (List Nat))(j:Nat)(y:V)(H:Hp):Prop:=∃p m,y=V.ref p/\p≠a/\W[j]?=some m/\H0 p=none/\H p=some (.lst (wV m))
theorem Jb{H0:Hp}{a:Addr}{H:Hp}:∀{W:List (List Nat)}{ys:List V},ys.length=W.length->(∀(j:Nat) y,ys[j]?=some y->WdR H0 a W j y H)->∃b:LA,ys=b.map V.ref/\Paired (λp(w:List Nat)=>H0 p=none/\p≠a/\H p=some (.lst (wV w))) b W
 |[],[],_,_=>⟨[],rfl,.nil⟩
 | m:: W,y:: ys,hl,h=>by
  obtain⟨p,c,e1,q,g,d,n⟩:=h 0 y rfl;cases g;obtain⟨b,v,o⟩:=Jb (H0:=H0) (a:=a) (H:=H) (W:=W) (ys:=ys) (by simpa using hl) λj i l=>by
   obtain⟨p,c,e,k,r,f,u⟩:=h (j+1) i (by simpa using l);exact⟨p,c,e,k,by simpa using r,f,u⟩
  exact⟨p:: b,by rw[e1,v];rfl,.cons ⟨d,q,n⟩ o⟩
theorem Dk{fr:List (Str×Nat)}{j:St}{o a:Addr}{H:Hp}{Q:VK}{l:LA}{W:List (List Nat)}(r:H a=none)(L:H o=some (.lst (l.map V.ref)))(k:Paired (λp(w:List Nat)=>H p=some (.lst (wV w))) l W)(hl:W.length<=1000)(x:∀g,Same H g->WlN H g a W->Q (.ref a) g):lO (Its K false o) (nB 0) (tEl (tCB (gT K) (nF (tVar 0) tNil))) 1 fr j a H Q:=by
 have D:=mE k;refine mU (WdR H a W) r (SqB.lst L) (by rw[zqe];omega) (λ_ _ _ _⟨p,m,e,n,d,z,h⟩G=>⟨p,m,e,n,d,z,G _ _ n h⟩) ?_ ?_
 ·intro i y f zs u c v R J;obtain⟨p,O,rfl⟩:=gJ u;obtain⟨m,d,S⟩:=kM k O;show tCB _ _ (some (.ref p):: mI fr j) f R;simp only[tCB,nF,tNil,tVar];refine⟨_,rfl,false,p,_,rfl,SqB.lst (c _ _ S),λq b=>?_⟩;exact J _ _ (Same.new b) ⟨q,m,rfl,(λz=>by rw[z,v]at b;cases b),d,lH c b,oP⟩
 ·intro f ys c C F N;obtain⟨M,I,T⟩:=Jb (by rw[F,zqe,D]) N;exact x f c ⟨r,M,by rw[C,I],T⟩
theorem ok_4(T:Txt K mg t):FnOk P w K mg base CX0 2 t.a_4 t.d_4 pF' (sp_4 K t):=by
 apply T.F_4.ok sc_4
 ·obtain⟨g,d,ms,srt,rfl,⟨r,q,lo,c,n,j,_,_,⟨p,a,f⟩,_⟩,o,b⟩:=h;refine⟨_,(oO (oW (nT (sc:=oR s_4) (N:=N_4) (fr:=[]) (te:=(tCB (gT K) (nF (tVar 0) tNil))) rfl rfl (nofun) rfl (nofun) (nV (iE (pv 0) rfl)) (λ_ _ _ m=>(mB kR rfl T.z_list (nofun) (oJ (pv 0) oK)))))),?_⟩;show tRet _ _ [some (.ref g)] H;simp only[tRet];refine nN λB eB=>?_;simp only[iSeq];refine fG rfl j T.cl_2 T.h_6 rfl ?_;refine⟨false,c,rfl,⟨_,SqB.lst a⟩,λl hl=>?_⟩;subst eB;exact Dk hl a (Jc f) (by rw[zqe];omega) λi e k=>b l i e k
def cofM(d:Nat)(rows:LM)(i k:Nat):Int:=sg (i+k)*detM d (lY i k rows)
def invR(n:Nat)(rows:LM):LM:=(List.range n).map λi=>(List.range n).map λk=>detM n rows*cofM (n-1) rows k i
def crsM(n:Nat)(rows:LM):LM:=(List.range n).map λi=>(List.range n).map λk=>cofM (n-1) rows k i
def lT(n:Nat)(M:LM)(ts:LI'):LI':=(invR n M).map λr=>-(dotI r ts)
def sp_12(K:Frag):Sp:=λvs H Q _=>E7 λ(b1 b2:Bool)(a:Addr)(rows:LM)(i k n:Nat)=>A9 (vs=[.ref a,.int i,.int k]) (MatB b1 b2 K H a rows) (Sq (n+1) rows) (i<n+1) (k<n+1) (1<=n) (n<=3) (nS 1000 rows) (∀H',Same H H'->Q (.int (cofM n rows i k)) H')
def sp_1c(K:Frag):Sp:=λvs H Q _=>E5 λ(b1 b2:Bool)(a:Addr)(rows:LM)(n:Nat)=>A7 (vs=[.ref a]) (MatB b1 b2 K H a rows) (Sq n rows) (2<=n) (n<=4) (nS 1000 rows) (∀r H',H r=none->Same H H'->MatL H' r (invR n rows)->Q (.ref r) H')
def sp_1e(K:Frag):Sp:=λvs H Q _=>E5 λ(b1 b2:Bool)(a:Addr)(rows:LM)(c:Int)=>A6 (vs=[.ref a,.int c]) (MatB b1 b2 K H a rows) (rows.length<1000) ((∀r∈rows,r.length<1000)) ((∀r∈rows,∀x∈r,IntMulOk c x)) (∀q H',H q=none->Same H H'->MatL H' q (rows.map λr=>r.map (c*·))->Q (.ref q) H')
def sp_19(K:Frag):Sp:=λvs H Q _=>E5 λ(b1 b2:Bool)(a:Addr)(rows:LM)(n:Nat)=>A7 (vs=[.ref a]) (MatB b1 b2 K H a rows) (Sq n rows) (2<=n) (n<=4) (nS 1000 rows) (∀r H',H r=none->Same H H'->MatL H' r (crsM n rows)->Q (.ref r) H')
def sp_1l(K:Frag):Sp:=λvs H Q _=>E5 λ(p:Addr)(M:LM)(ts:LI')(u:Int)(n:Nat)=>A11 (vs=[.ref p]) (lR K H p M ts u) (Sq n M) (ts.length=n) (0<u) (mO u) (nS 1000 M) (kX 1000 ts) (2<=n) (n<=4) (∀r H',Same H H'->mX K H' r (invR n M) (redT u (lT n M ts)) (redU u (lT n M ts))->Q (.ref r) H')
theorem Dj{n B C:Nat}{a:LM}(d:1<=n)(e:n<=4)(f:Sq n a)(c:nS B a)(b:n*(B+2)<C):(detM n a).natAbs<2^C:=wX (Dx n a d e f c) (Nat.pow_lt_pow_right ∅ b)
theorem Ja{n:Nat}{a:LM}{i k:Nat}(d:1<=n)(e:n<=3)(f:Sq (n+1) a)(hi:i<n+1)(c:k<n+1)(b:nS 1000 a):(cofM n a i k).natAbs<2^4000:=by
 unfold cofM;rw[xA,Dy,pU];have:n*(1000+2)<=3*1002:=xZ e ⋯;exact Dj d ⋯ (f.minor hi c) b.minor ⋯
theorem eW{n:Nat}{a:LM}:Sq n (invR n a):=⟨by simp[invR],λr hr=>by
 obtain⟨i,_,rfl⟩:=pZ.mp hr;simp⟩
theorem Wp{n:Nat}{a:LM}(p:2<=n)(d:n<=4)(b:Sq n a)(c:nS 1000 a):nS 9000 (invR n a):=λr hr x f=>by
 obtain⟨i,hi,rfl⟩:=pZ.mp hr;obtain⟨k,e,rfl⟩:=pZ.mp f;have hi':=oC.mp hi;have o:=oC.mp e;obtain⟨m,rfl⟩:∃m,n=m+1:=⟨n-1,⋯⟩;have q:(m+1)*(1000+2)<=4*1002:=xZ d ⋯;have l:(detM (m+1) a).natAbs<2^4500:=Dj ⋯ d b c ⋯;have j:(cofM m a k i).natAbs<2^4000:=Ja ⋯ ⋯ b o hi' c;show(detM (m+1) a*cofM m a k i).natAbs<_;rw[xA,show(9000:Nat)=4500+4500 from rfl,vG];have g:(cofM m a k i).natAbs<2^4500:=zJ j (yC ∅ ∅);exact tH l g
theorem Wo{n:Nat}{a:LM}:Sq n (crsM n a):=⟨by simp[crsM],λr hr=>by
 obtain⟨i,_,rfl⟩:=pZ.mp hr;simp⟩
theorem Wn{n:Nat}{a:LM}(g:2<=n)(j:n<=4)(f:Sq n a)(b:nS 1000 a):nS 4000 (crsM n a):=λr hr x d=>by
 obtain⟨i,hi,rfl⟩:=pZ.mp hr;obtain⟨k,c,rfl⟩:=pZ.mp d;have hi':=oC.mp hi;have e:=oC.mp c;obtain⟨m,rfl⟩:∃m,n=m+1:=⟨n-1,⋯⟩;exact Ja ⋯ ⋯ f e hi' b
theorem Wm{n:Nat}{a:LM}:(crsM n a).map (λr=>r.map (detM n a*·))=invR n a:=by
 unfold crsM invR;rw[xK];refine wE λi _=>?_;exact xK ..
theorem ok_12(T:Txt K mg t):FnOk P w K mg base CX0 5 t.a_12 t.d_12 pv' (sp_12 K):=by
 apply T.F_12.ok sc_12
 ·obtain⟨b1,b2,a,e,i,k,n,rfl,o,c,hi,d,v,y,g,f⟩:=h;refine⟨_,(oM (oU (i:=3) sc_12.nd rfl (Or.inl rfl) (Eb (nH lG (oS kG (oS mJ (pq 1) (pq 2)) oN) oN (nD _)) oN (gO gQ oN)))
   (oO (oW (oS nR (pq 3) (oQ (ok_9 T n) hr.mo T.F_9 (oJ (oQ (ok_17 T) hr.mo T.F_17 (oJ (pq 0) (oJ (pq 1) (oJ (pq 2) oK)))) oK)))))),?_⟩
  show tSeq _ _ _ [some (.ref a),some (.int i),some (.int k),none] H;obtain⟨m,rfl⟩:∃m,n=m+1:=⟨n-1,⋯⟩;refine st λN1 e1=>?_;have b:N1 [some (.ref a),some (.int i),some (.int k),some (.int (sg (i+k)))] H:=by
   symm;refine⟨b1,b2,a,e,i,k,_,rfl,o,c.2,d,⋯,by rw[c.1];omega,λr x _ j p=>?_⟩;refine⟨false,false,r,_,1000,rfl,p.b,c.minor hi d,⋯,g.minor,∅,λq l=>?_⟩;ext;exact⟨tK (by unfold sg;split <;> decide),f q (j.trans l)⟩
  ext;refine⟨∅,?_⟩;have u:((i:Int)+k).fmod 2=((i+k)%2:Nat):=by
   rw[xS _ ∅];omega
  rw[u];unfold sg at b
  by_cases z:(i+k)%2=0
  ·rw[zF z]at b;rw[zP (show(((i+k)%2:Nat):Int)=0 by omega)];exact iteT b
  ·rw[zD z]at b;rw[zN (show¬ (((i+k)%2:Nat):Int)=0 by omega)];exact iteF b
theorem ok_1e(T:Txt K mg t):FnOk P w K mg base CX0 1 t.a_1e t.d_1e pw' (sp_1e K):=by
 apply T.F_1e.ok sc_1e
 ·obtain⟨b1,b2,a,b,c,rfl,a0,hl,a2,a4,N⟩:=h;refine⟨_,(oO (oW (nT (sc:=oR s_1e) (N:=N_1e) (fr:=[("count",1)]) (te:=(mP (iSeq K (tVar 0)) (nB 0) (tEl (tOp (rI (λi j=>IntMulOk i j) λi j=>.int (i*j)) (tVar 1) (tVar 0))) 1 [("count",1)])) rfl rfl (nofun) rfl (nofun) (nV (pq 0)) (λ_ _ _ O=>(nT (N:=["row","count"]) (fr:=[("count",1)]) (te:=(tOp (rI (λi j=>IntMulOk i j) λi j=>.int (i*j)) (tVar 1) (tVar 0))) O rfl (nofun) rfl (nofun) (nV (pv 0)) (λ_ _ _ a8=>(oS nR (pv 1) (pv 0)))))))),?_⟩;show tRet _ _ [some (.ref a),some (.int c)] H;ext;exfalso;obtain⟨xs,o,S,Y⟩:=a0.walk;refine⟨b1,⟨_,o⟩,λk v=>?_⟩;refine mU (RowR k λj=>(b.getD j []).map (c*·)) v o ⋯ (RowR.mono (a:=k)) ?_ ?_
  ·intro i x l zs X f M a3 U;obtain⟨p,r,rfl,C,q⟩:=Y i x X;have D:=zqb C;subst eB;show mP _ _ _ _ _ [some (.ref p),some (.int c)] l a3;exfalso;refine⟨b2,⟨_,q.up f⟩,λI z=>?_⟩;refine mU (λj y _=>∃m,r[j]?=some m/\y=.int (c*m)) z (q.up f) (by have:=a2 r D;rw[zqe];omega) (λ_ _ _ _ r _=>r) ?_ ?_
   ·intro j x u a7 a5 F a6 W L;obtain⟨m,d,rfl⟩:=kU a5;subst eB;show tOp _ _ _ [some (.int m),some (.int c)] u W;ext;exact⟨a4 r D m (zqb d),L _ _ (Same.refl _) ⟨m,d,rfl⟩⟩
   ·intro u ys F a1 g R;have G:ys=(r.map (c*·)).map V.int:=by
     refine mK (by simp at g ⊢;omega) λj y e=>?_;obtain⟨m,d,rfl⟩:=R j y e;exact⟨c*m,by rw[zI,d];rfl,rfl⟩
    subst G;refine U _ _ F ⟨I,rfl,yA (nY M z),?_⟩;show _=some (HO.lst (((b.getD i []).map (c*·)).map V.int));rw[a1,zqc,C];rfl
  ·intro l ys f e1 g J;have n:=MatL.of e1 J;rw[g,S]at n;have Z:((List.range b.length).map λj=>(b.getD j []).map (c*·))=b.map λr=>r.map (c*·):=by
    refine List.ext_getElem? λi=>?_;rw[zI,zI]
    by_cases hi:i<b.length
    ·rw[yW hi,zqd hi];simp[zqc,hi]
    ·rw[wF (by simp;omega),wF ⋯];rfl
   rw[Z]at n;exact N k l v f n
theorem ok_19(T:Txt K mg t):FnOk P w K mg base CX0 6 t.a_19 t.d_19 pE' (sp_19 K):=by
 apply T.F_19.ok sc_19
 ·obtain⟨b1,b2,a,b,n,rfl,x,C,a4,a2,D,O⟩:=h;refine⟨_,(oM (oU (i:=1) sc_19.nd rfl (Or.inr rfl) (mL T.z_len (pq 0)))
   (oO (oW (iJ (xs:=["i"]) (fr:=[("rows",0),("size",1)]) (g:=(nB 0)) (tt:=(tEl (mP (nU (nF (tVar 2) tNil)) (nB 0) (tEl (mS (sp_12 K) [] E0 (nF (tVar 2) (nF (tVar 0) (nF (tVar 1) tNil))))) 1 [("i",0),("rows",1)]))) (kQ (sc:=oR s_19) (N:=N_19) rfl rfl (nofun)) rfl (mF rfl T.z_range (oJ (pq 1) oK)) (λ_ _ _ c=>(fV (N:=["i","rows","size"]) (i:=0) c rfl (nofun) rfl)) (λ_ _ _ c=>(jI (nT (N:=["i","rows","size"]) (fr:=[("i",0),("rows",1)]) (te:=(mS (sp_12 K) [] E0 (nF (tVar 2) (nF (tVar 0) (nF (tVar 1) tNil))))) c rfl (nofun) rfl (nofun) (mF rfl T.z_range (oJ (pv 2) oK)) (λ_ _ _ a5=>(oQ (ok_12 T) hr.mo T.F_12 (oJ (pv 2) (oJ (pv 0) (oJ (pv 1) oK)))))))))))),?_⟩
  show tSeq _ _ _ [some (.ref a),none] H;obtain⟨m,rfl⟩:∃m,n=m+1:=⟨n-1,⋯⟩;right;refine hX x ?_;rw[C.1];symm;refine nN λB eB=>?_;simp only[nU];ext;refine⟨⋯,⋯,λg u=>?_⟩;rw[zQ];refine kI (RowR g λi=>(List.range (m+1)).map λk=>cofM m b k i) u ⋯ (RowR.mono (a:=g)) ?_ ?_
  ·intro i d zs hi l M Z S;subst eB;show mP _ _ _ _ _ [some (.int (0+(i:Int))),some (.ref a),some (.int ((m+1:Nat):Int))] d Z;refine nN λB eB=>?_;simp only[nU];ext;refine⟨⋯,⋯,λF v=>?_⟩;rw[zQ];refine kI (λk y _=>k<m+1/\y=.int (cofM m b k i)) v ⋯ (λ_ _ _ _ r _=>r) ?_ ?_
   ·intro k p a3 q o a1 U L;subst eB;have J:=l.trans o;show mS _ _ _ _ [some (.int (0+(k:Int))),some (.int (0+(i:Int))),some (.ref a)] p U;ext;refine⟨b1,b2,a,b,k,i,m,by rw[sG,sG],x.up J,C,q,hi,⋯,⋯,D,λa0 N=>?_⟩;exact L _ _ N ⟨q,rfl⟩
   ·intro p ys o X f G;have I:ys=((List.range (m+1)).map λk=>cofM m b k i).map V.int:=by
     refine mK (by simpa using f) λj y e=>?_;obtain⟨W,rfl⟩:=G j y e;exact⟨_,by rw[zI,yW W];rfl,rfl⟩
    subst I;exact S _ _ o ⟨F,rfl,yA (nY M v),X⟩
  ·intro d ys l Y f R;have z:=MatL.of Y R;rw[f]at z;exact O g d u l z
theorem ok_1c(T:Txt K mg t):FnOk P w K mg base CX0 7 t.a_1c t.d_1c pE' (sp_1c K):=by
 apply T.F_1c.ok sc_1c
 ·obtain⟨b1,b2,a,b,n,rfl,y,f,v,d,c,z⟩:=h;refine⟨_,(oO (oW (oQ (ok_1e T) hr.mo T.F_1e (oJ (oQ (ok_19 T) hr.mo T.F_19 (oJ (pq 0) oK)) (oJ (oQ (ok_9 T n) hr.mo T.F_9 (oJ (pq 0) oK)) oK))))),?_⟩;show tRet _ _ [some (.ref a)] H;obtain⟨m,rfl⟩:∃m,n=m+1:=⟨n-1,⋯⟩;ext;refine⟨b1,b2,a,b,m+1,rfl,y,f,v,d,c,λr N J j F=>?_⟩;refine⟨b1,b2,a,b,1000,rfl,y.up j,f,⋯,c,∅,λL k=>?_⟩;have u:Sq (m+1) (crsM (m+1) b):=Wo;refine⟨false,false,r,crsM (m+1) b,detM (m+1) b,rfl,(F.up k).b,by rw[u.1];omega,λg i=>by rw[u.2 g i];omega,λg i x C=>?_,λq D l I p=>?_⟩
  ·have M:(m+1)*(1000+2)<=4*1002:=xZ d ⋯;exact yQ (nL (Dj (C:=4500) ⋯ d f c ⋯)) (nL (Wn v d f c g i x C)) ∅
  ·have e:(crsM (m+1) b).map (λr=>r.map (detM (m+1) b*·))=invR (m+1) b:=Wm;rw[e]at p;have G:H q=none:=by cases w:H q with|none=>rfl|some o=>rw[(j.trans k) _ _ w]at l;cases l
   exact z q D G ((j.trans k).trans I) p
theorem ok_1l(T:Txt K mg t):FnOk P w K mg base CX0 8 t.a_1l t.d_1l pG' (sp_1l K):=by
 apply T.F_1l.ok sc_1l
 ·obtain⟨p,M,ts,u,n,rfl,e,L,lt,b4,S,bm,a3,J,C,Y⟩:=h;refine⟨_,(oM (oU (i:=1) sc_1l.nd rfl (Or.inl rfl) (oQ (ok_1c T) hr.mo T.F_1c (oJ (oX (pq 0)) oK)))
   (oO (oW (oQ (ok_1a T) hr.mo T.F_1a (oJ (pq 1) (oJ (dL (ok_1b T) hr.mo rfl T.F_1b.m T.F_1b.kp T.F_1b.b .nil fR (oJ (nT (sc:=oR s_1l) (N:=N_1l) (fr:=[("one",0)]) (te:=(tUn (rU λi=>.int (-i)) (mS (sp_1o K) [] E0 (nF (tVar 0) (nF (tOp (rIxB K) (tVar 1) (tC (.int 1))) tNil))))) rfl rfl (nofun) rfl (nofun) (nV (pq 1)) (λ_ _ _ b7=>(gO gQ (oQ (ok_1o T) hr.mo T.F_1o (oJ (pv 0) (oJ (oX (pv 1)) oK)))))) (oJ (oX (pq 0)) oK))) oK)))))),?_⟩
  show tSeq _ _ _ [some (.ref p),none] H;right;refine jK e λx Z=>⟨true,true,x,M,n,rfl,Z,L,J,C,bm,λr b8 _ D I=>?_⟩;symm;exfalso;obtain⟨xs,v,F,b1⟩:=(I.b (K:=K)).walk;have a:Sq n (invR n M):=eW;refine⟨false,⟨_,v⟩,λb0 a7=>?_⟩;refine mU (λj y _=>∃z,(lT n M ts)[j]?=some z/\y=.int z) a7 v (by rw[F,a.1];omega) (λ_ _ _ _ r _=>r) ?_ ?_
  ·intro i x f zs a8 b b6 b2 a5;obtain⟨pr,c,rfl,l,W⟩:=b1 i x a8;have U:c.length=n:=a.2 c (zqb l);have b3:=Wp J C L bm c (zqb l);subst eB;show tUn _ _ [some (.ref pr),some (.ref p)] f b2;ext;refine gI (lR.up e (D.trans b)) λz a6=>?_;refine⟨false,true,pr,z,c,ts,rfl,W.up b,(a6:SqB true K f z _),by rw[U,lt],⋯,λb5 m k e1 o=>yQ (nL (b3 m (zqb e1))) (nL (a3 k (zqb o))) ∅,λa2 d=>?_⟩;ext;exact a5 _ _ d ⟨_,by unfold lT;rw[zI,l];rfl,rfl⟩
  ·intro f ys b o a4 a1;have g:(lT n M ts).length=n:=by unfold lT;rw[zqe,a.1]
   have N:ys=(lT n M ts).map V.int:=mK (by rw[a4,F,a.1,g]) a1;subst N;have G:=D.trans b;refine kW (lR.up e G) ?_;refine⟨false,b0,_,u,rfl,SqB.lst o,⋯,S,λz=>?_,λ_ _ q a2 d a9=>?_⟩
   ·rcases z with z|z
    ·omega
    ·rw[z]at g;simp at g;omega
   ·exact⟨false,false,r,q,_,_,_,rfl,((I.up b).up d).b,a9,by rw[a.1];omega,λR O X a0=>Y R O ((G.trans d).trans X) a0⟩
theorem sq1{b:LM}(h:Sq 1 b):∃a,b=[[a]]:=by
 obtain⟨hl,hr⟩:=h
 match b,hl with
 |[r],_ =>
  have:=hr r (by simp)
  match r,this with
  |[a],_=>exact⟨a,rfl⟩
theorem len2{r:LI'}(h:r.length=2):∃a b,r=[a,b]:=by match r,h with|[a,b],_=>exact⟨a,b,rfl⟩
theorem len3{r:LI'}(h:r.length=3):∃a b c,r=[a,b,c]:=by match r,h with|[a,b,c],_=>exact⟨a,b,c,rfl⟩
theorem len4{r:LI'}(h:r.length=4):∃a b c d,r=[a,b,c,d]:=by match r,h with|[a,b,c,d],_=>exact⟨a,b,c,d,rfl⟩
theorem sq2{e:LM}(h:Sq 2 e):∃a b c d,e=[[a,b],[c,d]]:=by
 obtain⟨hl,hr⟩:=h
 match e,hl with
 |[r,s],_ =>
  obtain⟨a,b,rfl⟩:=len2 (hr r (by simp));obtain⟨c,d,rfl⟩:=len2 (hr s (by simp));exact⟨a,b,c,d,rfl⟩
theorem sq3{k:LM}(h:Sq 3 k):∃a b c d e f g i j,k=[[a,b,c],[d,e,f],[g,i,j]]:=by
 obtain⟨hl,hr⟩:=h
 match k,hl with
 |[r,s,t],_ =>
  obtain⟨a,b,c,rfl⟩:=len3 (hr r (by simp));obtain⟨d,e,f,rfl⟩:=len3 (hr s (by simp));obtain⟨g,i,j,rfl⟩:=len3 (hr t (by simp));exact⟨a,b,c,d,e,f,g,i,j,rfl⟩
theorem sq4{v:LM}(h:Sq 4 v):∃a b c d e f g i j k l m n o p q,v=[[a,b,c,d],[e,f,g,i],[j,k,l,m],[n,o,p,q]]:=by
 obtain⟨hl,hr⟩:=h
 match v,hl with
 |[r,s,t,u],_ =>
  obtain⟨a,b,c,d,rfl⟩:=len4 (hr r (by simp));obtain⟨e,f,g,i,rfl⟩:=len4 (hr s (by simp));obtain⟨j,k,l,m,rfl⟩:=len4 (hr t (by simp));obtain⟨n,o,p,q,rfl⟩:=len4 (hr u (by simp));exact⟨a,b,c,d,e,f,g,i,j,k,l,m,n,o,p,q,rfl⟩
theorem id2:idM 2=[[1,0],[0,1]]:=nofun
theorem id3:idM 3=[[1,0,0],[0,1,0],[0,0,1]]:=nofun
theorem Wl(a b v:Int)(c:0<v):gcdI (a*v) (b*v)=gcdI a b*v:=by
 unfold gcdI;rw[Int.gcd_mul_right];have:((v.natAbs:Nat):Int)=v:=⋯
 rw[Int.natCast_mul,this]
theorem Wk{u v:Int}(b:0<v)(ts:LI'):gl (u*v) (ts.map (·*v))=gl u ts*v:=by
 have d:∀(ts:LI')(a:Int),(ts.map (·*v)).foldl gcdI (a*v)=ts.foldl gcdI a*v:=by
  intro ts
  induction ts with
  |nil=>intro a;rfl
  |cons t r e=>intro a;rw[zK,wN,wN,Wl _ _ _ b,e]
 unfold gl;have:absI (u*v)=absI u*v:=by
  unfold absI;rcases Int.lt_or_le u 0 with l|l
  ·have c:u*v<0:=Int.mul_neg_of_neg_of_pos l b;rw[zF l,zF c,Int.neg_mul]
  ·have c:0<=u*v:=Int.mul_nonneg l (wZ b);rw[zD ⋯,zD ⋯]
 rw[this,d]
def Cong(u:Int)(xs ys:LI'):Prop:=xs.length=ys.length/\∀(i:Nat)(x y:Int),xs[i]?=some x->ys[i]?=some y->u∣x-y
theorem Kz{u x y:Int}(a:0<u)(h:u∣x-y):x.fmod u=y.fmod u:=by
 rw[xS _ (wZ a),xS _ (wZ a)];exact Int.emod_eq_emod_iff_emod_sub_eq_zero.mpr (Int.emod_eq_zero_of_dvd h)
theorem Cong.rest{u:Int}(b:0<u)(ns:LI'):Cong u ns (nW u ns):=by
 refine⟨by simp[nW],λi x y e1 a=>?_⟩;unfold nW at a;rw[zI,e1]at a;cases zW a;have:=Vy b x;have c:=xS (x.fmod u-x) (wZ b);rw[c]at this;have d:=Int.dvd_of_emod_eq_zero this;have:=Int.dvd_neg.mpr d
 rwa[Int.neg_sub]at this
theorem Cong.gl{u:Int}{xs ys:LI'}(h:Cong u xs ys):Cw.gl u xs=Cw.gl u ys:=by
 have f:∀{xs ys:LI'}{d:Int},Cong u xs ys->d∣u->(∀t∈xs,d∣t)->∀t∈ys,d∣t:=λ{xs ys d}h m g t l=>by
  obtain⟨i,hi,e⟩:=wO l;have c:i<xs.length:=by rw[h.1];exact hi
  have a:=h.2 i xs[i] t (by simp[c]) (by simp[hi,e]);have b:=g _ (vF c);have k:=Int.dvd_sub b (Int.dvd_trans m a)
  rwa[show xs[i]-(xs[i]-t)=t by omega]at k
 have n:Cong u ys xs:=⟨h.1.symm,λi x y e1 j=>by
  have:=Int.dvd_neg.mpr (h.2 i y x j e1)
  rwa[Int.neg_sub]at this⟩
 exact Uc λd=>⟨λ⟨a,b⟩=>⟨a,f h a b⟩,λ⟨a,b⟩=>⟨a,f n a b⟩⟩
theorem Cong.red{u:Int}{xs ys:LI'}(q:0<u)(h:Cong u xs ys):redU u xs=redU u ys/\nW (redU u xs) (redT u xs)=nW (redU u ys) (redT u ys):=by
 have g:=h.gl;have e:cs u xs=cs u ys:=by unfold cs;rw[g]
 have a:=eP xs (show u≠0 by omega);have f:redU u xs=redU u ys:=by unfold redU;rw[e]
 refine⟨f,?_⟩;have n:0<redU u xs:=gH xs ⋯;have p:redU u xs*cs u xs=u:=gG a (jX (gl_u u xs));rw[←f];unfold nW redT;refine uB (by simp[h.1]) λi b c=>?_;simp at b c;simp only[List.getElem_map];have l:=h.2 i xs[i] ys[i] (by simp[b]) (by simp[c]);have k:∀x y:Int,u∣x-y->cs u xs∣x->cs u ys∣y->redU u xs∣x.fdiv (cs u xs)-y.fdiv (cs u ys):=λx y o j d=>by
  have e1:x.fdiv (cs u xs)*cs u xs=x:=gG a j;rw[←e]at d ⊢;have m:y.fdiv (cs u xs)*cs u xs=y:=gG a d;refine Int.dvd_of_mul_dvd_mul_right a ?_;rw[p,Int.sub_mul,e1,m];exact o
 exact Kz n (k _ _ l (jX (aW (vF b))) (jX (aW (vF c))))
theorem Ky{u:Int}:∀(r ts c:LI'),Cong u ts c->u∣dotI r ts-dotI r c
 |[],ts,c,_=>by simp[dotI]
 |x:: r,[],c,h=>by
  have:c=[]:=vA h.1.symm;subst this;simp[dotI]
 |x:: r,t:: ts,[],h=>by have:=h.1;simp at this
 |x:: r,t:: ts,t':: c,h=>by
  have f:=Ky r ts c ⟨by have:=h.1;simpa using this,λi a b e1 d=>h.2 (i+1) a b (by simpa using e1) (by simpa using d)⟩;have e:=h.2 0 t t' rfl rfl;have e1:dotI (x:: r) (t:: ts)=x*t+dotI r ts:=by simp[dotI]
  have d:dotI (x:: r) (t':: c)=x*t'+dotI r c:=by simp[dotI]
  rw[e1,d,show x*t+dotI r ts-(x*t'+dotI r c)=x*(t-t')+(dotI r ts-dotI r c) by rw[Int.mul_sub];omega];exact Int.dvd_add (Int.dvd_mul_of_dvd_right e) f
theorem Kx{N:LM}{ns ts c b:LI'}{v u:Int}(e:Cong v ns c)(j:Cong u ts b):Cong (v*u) (movT N ns v ts u) (movT N c v b u):=by
 refine⟨by unfold movT;rw[xX,xX,e.1],λi x y e1 a=>?_⟩;unfold movT at e1 a;rw[xY]at e1 a;cases en:N[i]? with
 |none=>rw[en]at e1;cases e1
 | some r =>
  rw[en]at e1 a;cases e3:ns[i]? with
  |none=>rw[e3]at e1;cases e1
  | some n =>
   cases e4:c[i]? with
   |none=>rw[e4]at a;cases a
   |some d =>
    rw[e3]at e1;rw[e4]at a;cases zW e1;cases zW a;obtain⟨k,l⟩:=Ky r ts b j;obtain⟨m,o⟩:=e.2 i n d e3 e4;refine⟨k+m,?_⟩;have g:dotI r ts=dotI r b+u*k:=⋯
    have f:n=d+v*m:=⋯
    rw[g,f];grind
theorem Cong.rest_eq{u:Int}{xs ys:LI'}(c:0<u)(h:Cong u xs ys):nW u xs=nW u ys:=by
 unfold nW;refine uB (by simp[h.1]) λi a b=>?_;simp at a b;simp only[List.getElem_map];exact Kz c (h.2 i xs[i] ys[i] (by simp[a]) (by simp[b]))
theorem Wj{d:Nat}{x s:Dd}(a:0<x.2.2)(b:0<s.2.2):oV (behD d x s)=oZ d (oV x) (oV s):=by
 obtain⟨c,e⟩:=Cong.red (xE b a) (Kx (N:=s.1) (Cong.rest b s.2.1) (Cong.rest a x.2.1));unfold oZ oV behD;show(_,_,_)=(_,_,_);rw[Prod.mk.injEq,Prod.mk.injEq];exact⟨rfl,e,c⟩
theorem Sq.mul{n:Nat}{A B:LM}(a:Sq n A):Sq n (mulM n A B):=by
 refine⟨by simp[mulM,a.1],λr hr=>?_⟩;obtain⟨z,_,rfl⟩:=pZ.mp hr;simp
theorem jY{d:Nat}:Sq d (idM d):=⟨by simp[idM],λr hr=>by
 obtain⟨i,_,rfl⟩:=pZ.mp hr;simp⟩
theorem mul2(a b c d g e f d':Int):mulM 2 [[a,b],[c,d]] [[g,e],[f,d']]=[[a*g+b*f,a*e+b*d'],[c*g+d*f,c*e+d*d']]:=by simp[mulM,dotI,colI,List.range,List.range.loop]
theorem mul3(a b c d e f g i j n m q d' p l g' o k:Int):mulM 3 [[a,b,c],[d,e,f],[g,i,j]] [[n,m,q],[d',p,l],[g',o,k]]=[[a*n+(b*d'+c*g'),a*m+(b*p+c*o),a*q+(b*l+c*k)],[d*n+(e*d'+f*g'),d*m+(e*p+f*o),d*q+(e*l+f*k)],[g*n+(i*d'+j*g'),g*m+(i*p+j*o),g*q+(i*l+j*k)]]:=by
 simp[mulM,dotI,colI,List.range,List.range.loop]
theorem mul_assoc{d:Nat}(p:d=2\/d=3){A B C:LM}(m:Sq d A)(l:Sq d B)(k:Sq d C):mulM d (mulM d A B) C=mulM d A (mulM d B C):=by
 rcases p with e|e <;> subst e
 ·obtain⟨a,b,c,d,rfl⟩:=sq2 m;obtain⟨r,q,u,d',rfl⟩:=sq2 l;obtain⟨n,b2,v,o,rfl⟩:=sq2 k;simp only[mul2,List.cons.injEq,and_true];refine⟨⟨?_,?_⟩,?_,?_⟩ <;> grind
 ·obtain⟨a,b,c,d,e,f,g,i,j,rfl⟩:=sq3 m;obtain⟨r,q,u,d',G,x,g',F,J,rfl⟩:=sq3 l;obtain⟨n,b2,v,o,L,I,y,z,D,rfl⟩:=sq3 k;simp only[mul3,List.cons.injEq,and_true];refine⟨⟨?_,?_,?_⟩,⟨?_,?_,?_⟩,?_,?_,?_⟩ <;> grind
theorem jM{d:Nat}(l:d=2\/d=3){A:LM}(k:Sq d A):mulM d (idM d) A=A/\mulM d A (idM d)=A:=by
 rcases l with e|e <;> subst e
 ·obtain⟨a,b,c,d,rfl⟩:=sq2 k;rw[id2,mul2,mul2];simp
 ·obtain⟨a,b,c,d,e,f,g,i,j,rfl⟩:=sq3 k;rw[id3,mul3,mul3];simp
theorem v2{v:LI'}(h:v.length=2):∃x y,v=[x,y]:=len2 h
theorem v3{v:LI'}(h:v.length=3):∃x y z,v=[x,y,z]:=len3 h
def mv(M:LM)(v:LI'):LI':=M.map λr=>dotI r v
def va(v w:LI'):LI':=List.zipWith (·+·) v w
theorem Di{d:Nat}{A:LM}{v:LI'}(h:Sq d A):(mv A v).length=d:=by unfold mv;rw[zqe];exact h.1
theorem mv2(a b c e x y:Int):mv [[a,b],[c,e]] [x,y]=[a*x+b*y,c*x+e*y]:=by simp[mv,dotI]
theorem mv3(a b c f e j i g d x y z:Int):mv [[a,b,c],[f,e,j],[i,g,d]] [x,y,z]=[a*x+(b*y+c*z),f*x+(e*y+j*z),i*x+(g*y+d*z)]:=by simp[mv,dotI]
theorem Wi{d:Nat}(j:d=2\/d=3){A B:LM}(i:Sq d A)(f:Sq d B){v:LI'}(g:v.length=d):mv (mulM d A B) v=mv A (mv B v):=by
 rcases j with rfl|rfl
 ·obtain⟨a,b,c,e,rfl⟩:=sq2 i;obtain⟨q,p,J,D,rfl⟩:=sq2 f;obtain⟨x,y,rfl⟩:=v2 g;rw[mul2,mv2,mv2,mv2];simp only[List.cons.injEq,and_true];refine⟨?_,?_⟩ <;> grind
 ·obtain⟨I,k,r,n,L,u,l,o,m,rfl⟩:=sq3 i;obtain⟨b1,b2,M,C,R,O,N,F,G,rfl⟩:=sq3 f;obtain⟨x,y,z,rfl⟩:=v3 g;rw[mul3,mv3,mv3,mv3];simp only[List.cons.injEq,and_true];refine⟨?_,?_,?_⟩ <;> grind
theorem Kw{d:Nat}(b:d=2\/d=3){v:LI'}(a:v.length=d):mv (idM d) v=v:=by
 rcases b with rfl|rfl
 ·obtain⟨x,y,rfl⟩:=v2 a;rw[id2,mv2];simp
 ·obtain⟨x,y,z,rfl⟩:=v3 a;rw[id3,mv3];simp
def smul(k:Int)(T:LI'):LI':=T.map λt=>k*t
theorem Kv{k:Int}{T:LI'}:(smul k T).length=T.length:=by unfold smul;rw[zqe]
theorem Ku(c a b:Int):smul c [a,b]=[c*a,c*b]:=rfl
theorem Kt(c a b e:Int):smul c [a,b,e]=[c*a,c*b,c*e]:=rfl
theorem Wh{d:Nat}(i:d=2\/d=3){A:LM}(g:Sq d A){v:LI'}(f:v.length=d)(c:Int):mv A (smul c v)=smul c (mv A v):=by
 rcases i with rfl|rfl
 ·obtain⟨a,b,c,e,rfl⟩:=sq2 g;obtain⟨x,y,rfl⟩:=v2 f;rw[Ku,mv2,mv2,Ku];simp only[List.cons.injEq,and_true];refine⟨?_,?_⟩ <;> grind
 ·obtain⟨q,k,p,o,m,r,l,j,n,rfl⟩:=sq3 g;obtain⟨x,y,z,rfl⟩:=v3 f;rw[Kt,mv3,mv3,Kt];simp only[List.cons.injEq,and_true];refine⟨?_,?_,?_⟩ <;> grind
structure Chg(d:Nat)(P P':LM):Prop where
 p:Sq d P
 q:Sq d P'
 l:mulM d P' P=idM d
 r:mulM d P P'=idM d
theorem Chg.id{d:Nat}(a:d=2\/d=3):Chg d (idM d) (idM d):=⟨jY,jY,(jM a jY).1,(jM a jY).1⟩
theorem Chg.then{d:Nat}(a:d=2\/d=3){P c R b:LM}(h:Chg d P c)(g:Chg d R b):Chg d (mulM d R P) (mulM d c b):=by
 refine⟨g.p.mul,h.q.mul,?_,?_⟩
 ·rw[mul_assoc a h.q g.q g.p.mul,←mul_assoc a g.q g.p h.p,g.l,(jM a h.p).1,h.l]
 ·rw[mul_assoc a g.p h.p h.q.mul,←mul_assoc a h.p h.q g.q,h.r,(jM a g.q).1,g.r]
def cjM(d:Nat)(P P' M:LM):LM:=mulM d (mulM d P M) P'
theorem fH{d:Nat}{P a:LM}(h:Chg d P a)(M:LM):Sq d (cjM d P a M):=h.p.mul.mul
theorem Wg{d:Nat}(b:d=2\/d=3){P c R a M:LM}(h:Chg d P c)(g:Chg d R a)(e:Sq d M):cjM d R a (cjM d P c M)=cjM d (mulM d R P) (mulM d c a) M:=by
 unfold cjM;rw[mul_assoc b g.p h.p e,←mul_assoc b (g.p.mul) h.q g.q,mul_assoc b g.p (h.p.mul) h.q]
def vs(v w:LI'):LI':=List.zipWith (· - ·) v w
theorem Ks{d:Nat}{v w:LI'}(b:v.length=d)(a:w.length=d):(va v w).length=d:=by unfold va;rw[xX,b,a,pR]
def cjT(d:Nat)(P P' M:LM)(ts S:LI'):LI':=vs (va (mv P ts) S) (mv (cjM d P P' M) S)
theorem Dh{d:Nat}(a:d=2\/d=3){P c A B:LM}(h:Chg d P c)(b:Sq d A)(e:Sq d B):mulM d (cjM d P c B) (cjM d P c A)=cjM d P c (mulM d B A):=by
 unfold cjM;rw[mul_assoc a h.p.mul h.q h.p.mul.mul,mul_assoc a h.p b h.q,←mul_assoc a h.q h.p b.mul,h.l,(jM a b.mul).1,←mul_assoc a h.p.mul b h.q,mul_assoc a h.p e b]
def stE(i j:Nat)(m:Int)(a b:Nat):Int:=if a=b then 1 else if a=i/\b=j then m else 0
def stM(d i j:Nat)(m:Int):LM:=(List.range d).map λa=>(List.range d).map λb=>if a=b then 1 else if a=i/\b=j then m else 0
def vst(i j:Nat)(m:Int)(v:LI'):LI':=v.set i (v.getD i 0+m*v.getD j 0)
def mixR(d:Nat)(x y:LI')(m:Int):LI':=(List.range d).map λk=>x.getD k 0+m*y.getD k 0
def colR(d i j:Nat)(m:Int)(row:LI'):LI':=(List.range d).map λk=>row.getD k 0-(if k=j then 1 else 0)*m*row.getD i 0
def Az(d i j:Nat)(m:Int)(A:LM):LM:=(A.set i (mixR d (A.getD i []) (A.getD j []) m)).map (colR d i j m)
theorem cO{d i j:Nat}{m:Int}:Sq d (stM d i j m):=⟨by simp[stM],λr hr=>by
 obtain⟨a,_,rfl⟩:=pZ.mp hr;simp⟩
theorem cP{a:Type}{d k:Nat}{f:Nat->a}{z:a}(h:k<d):((List.range d).map f).getD k z=f k:=by
 rw[zqc,zI,yW h];rfl
theorem eY{a:Type}{d:Nat}{l:List a}{z:a}(h:l.length=d):l=(List.range d).map λk=>l.getD k z:=by
 refine uB (by simp[h]) λk b c=>?_;rw[uE,qC,zqc,zqd b];rfl
theorem Dg{b:Type}{d i:Nat}{f:Nat->b}{v:b}:((List.range d).map f).set i v=(List.range d).map λa=>if a=i then v else f a:=by
 refine uB (by simp) λk c g=>?_;rw[uE,qC,List.getElem_set]
 by_cases e:i=k
 ·rw[zF e,zF e.symm]
 ·rw[zD e,zD (yA e),uE,qC]
theorem kY{a:Type}{d:Nat}{f g:Nat->a}(h:∀k,k<d->f k=g k):(List.range d).map f=(List.range d).map g:=wE λk b=>h k (oC.mp b)
theorem eZ{x y:Int}{r c:LI'}:dotI (x:: r) (y:: c)=x*y+dotI r c:=by simp[dotI]
theorem Df{n:Int}{a:Nat}:∀{c:LI'}{s:Nat},dotI ((List.range' s c.length).map λb=>if a=b then n else 0) c=if s<=a then n*c.getD (a-s) 0 else 0
 |[],s=>by simp[dotI]
 | x:: c,s=>by
  rw[zU,List.range'_succ,zK,eZ,Df]
  by_cases h:a=s
  ·subst h;rw[zF rfl,zD ⋯,zF (zE _),vI,wY];rfl
  ·rw[zD h,uF,sG]
   by_cases d:s<=a
   ·rw[zF d,zF ⋯,show a-s=(a-(s+1))+1 by omega];rfl
   ·rw[zD d,zD ⋯]
theorem Kr{f g:Nat->Int}:∀{l:List Nat}{c:LI'},dotI (l.map λb=>f b+g b) c=dotI (l.map f) c+dotI (l.map g) c
 |[],c=>by simp[dotI]
 |b:: l,[]=>by simp[dotI]
 |b:: l,x:: c=>by
  rw[zK,zK,zK,eZ,eZ,eZ,Kr,Int.add_mul];omega
theorem De{d a i j:Nat}(l:i≠j){m:Int}{c:LI'}(n:c.length=d):dotI ((List.range d).map (stE i j m a)) c=c.getD a 0+if a=i then m*c.getD j 0 else 0:=by
 have e:stE i j m a=λb=>(if a=b then(1:Int) else 0)+if j=b then(if a=i then m else 0) else 0:=funext λb=>by
  unfold stE
  by_cases k:a=b
  ·subst k;rw[zF rfl,zF rfl]
   by_cases f:j=a
   ·rw[zF f,zD (λz=>l ⋯),wY]
   ·rw[zD f,wY]
  ·rw[zD k,zD k,sG]
   by_cases f:j=b
   ·by_cases g:a=i
    ·rw[zF ⟨g,f.symm⟩,zF f,zF g]
    ·rw[zD (λz=>g z.1),zF f,zD g]
   ·rw[zD (λz=>f z.2.symm),zD f]
 subst n;rw[e,Kr,List.range_eq_range',Df,Df,zF (yB _),zF (yB _),pG];show c.getD a 0+_*c.getD j 0=_
 by_cases h:a=i
 ·rw[zF h,zF h]
 ·rw[zD h,zD h,uF]
theorem Kq{A:LM}{a k:Nat}:(colI k A).getD a 0=(A.getD a []).getD k 0:=by
 unfold colI;rw[zqc,zI,zqc (l:=A)];cases A[a]? <;> rfl
theorem Kp:∀{r c:LI'},dotI r c=dotI c r
 |[],c=>by cases c <;> rfl
 |x:: r,[]=>rfl
 |x:: r,y:: c=>by rw[eZ,eZ,Kp,wR]
theorem Wf{i j a k:Nat}{n:Int}:stE i j n a k=stE j i n k a:=by
 unfold stE
 by_cases h:a=k
 ·rw[zF h,zF h.symm]
 ·rw[zD h,zD (yA h)]
  by_cases z:a=i/\k=j
  ·rw[zF z,zF z.symm]
  ·rw[zD z,zD (λw=>z w.symm)]
theorem Ko{d i j:Nat}{m:Int}(b:i≠j){A:LM}(c:A.length=d):mulM d (stM d i j m) A=(List.range d).map λa=>(List.range d).map λk=>(A.getD a []).getD k 0+if a=i then m*(A.getD j []).getD k 0 else 0:=by
 unfold mulM stM;rw[xK];refine kY λa _=>kY λk _=>?_;have e:(colI k A).length=d:=by unfold colI;rw[zqe,c]
 have:=De (a:=a) (m:=m) b e;rw[Kq,Kq]at this;exact this
theorem We{d i j:Nat}{n:Int}(b:i≠j){B:LM}(c:∀r∈B,r.length=d):mulM d B (stM d i j n)=B.map λr=>(List.range d).map λk=>r.getD k 0+if k=j then n*r.getD i 0 else 0:=by
 unfold mulM;refine wE λr hr=>kY λk f=>?_;have e:colI k (stM d i j n)=(List.range d).map (stE j i n k):=by
  unfold colI stM;rw[xK];refine kY λa _=>?_;show((List.range d).map (stE i j n a)).getD k 0=_;rw[cP f,Wf]
 rw[e,Kp,De (yA b) (c r hr)]
theorem Kn{d i j:Nat}{m:Int}(n:i≠j)(o:j<d):mulM d (stM d i j m) (stM d i j (-m))=idM d:=by
 rw[Ko n cO.1];unfold idM;refine kY λa g=>kY λk l=>?_;have e:∀a,a<d->(((stM d i j (-m)).getD a []).getD k 0)=stE i j (-m) a k:=λa g=>by
  unfold stM;rw[cP g];exact cP l
 rw[e a g,e j o];unfold stE
 by_cases f:a=k
 ·rw[zF f,zF f]
  by_cases b:a=i
  ·rw[zF b,zD ⋯,zD ⋯,pO,wY]
  ·rw[zD b,wY]
 ·rw[zD f,zD f]
  by_cases b:a=i
  ·rw[zF b]
   by_cases c:k=j
   ·rw[zF ⟨b,c⟩,zF c.symm,rT,Int.add_left_neg]
   ·rw[zD (λz=>c z.2),zD (yA c),zD (λz=>c z.2),pO,wY]
  ·rw[zD (λz=>b z.1),zD b,wY]
theorem Km{d i j:Nat}{m:Int}(n:d=2\/d=3)(hi:i<d)(g:j<d)(b:i≠j):Chg d (stM d i j m) (stM d i j (-m))/\(∀v:LI',v.length=d->mv (stM d i j m) v=vst i j m v)/\∀A,Sq d A->Az d i j m A=cjM d (stM d i j m) (stM d i j (-m)) A:=by
 refine⟨⟨cO,cO,?_,Kn b g⟩,λv f=>?_,λA c=>?_⟩
 ·have:=Kn (d:=d) (m:=-m) b g;rw[Int.neg_neg]at this;exact this
 ·unfold mv stM vst;rw[xK]
  conv=>rhs;rw[eY (z:=0) f,Dg,←eY f]
  refine kY λa _=>?_;show dotI ((List.range d).map (stE i j m a)) v=_;rw[De b f]
  by_cases h:a=i
  ·rw[zF h,zF h,h]
  ·rw[zD h,zD h,wY]
 ·unfold cjM;rw[We b cO.mul.2,Ko b c.1];unfold Az;have e:A.set i (mixR d (A.getD i []) (A.getD j []) m)=(List.range d).map λa=>(List.range d).map λk=>(A.getD a []).getD k 0+if a=i then m*(A.getD j []).getD k 0 else 0:=by
   conv=>lhs;rw[eY (l:=A) (z:=[]) c.1,Dg,←eY c.1]
   refine kY λa l=>?_
   by_cases h:a=i
   ·rw[zF h];unfold mixR;refine kY λk _=>?_;rw[zF h,h]
   ·rw[zD h];have hr:(A.getD a []).length=d:=c.2 _ (by rw[zqc,zqd (by rw[c.1];exact l)];exact vF _)
    conv=>lhs;rw[eY (z:=0) hr]
    exact kY λk _=>by rw[zD h,wY]
  rw[e];refine wE λr _=>kY λk _=>?_
  by_cases h:k=j
  ·rw[zF h,zF h,pG,Int.neg_mul,Int.sub_eq_add_neg]
  ·rw[zD h,zD h,uF,uF,Int.sub_zero,wY]
structure Stp where
 i:Nat
 j:Nat
 m:Int
structure Stp.Ok(d:Nat)(s:Stp):Prop where
 hi:s.i<d
 hj:s.j<d
 ne:s.i≠s.j
 m2:s.m.natAbs<=1000000
def chP(d:Nat):List Stp->LM
 |[]=>idM d
 |s:: L=>mulM d (stM d s.i s.j s.m) (chP d L)
def chQ(d:Nat):List Stp->LM
 |[]=>idM d
 |s:: L=>mulM d (chQ d L) (stM d s.i s.j (-s.m))
theorem kE{d:Nat}(a:d=2\/d=3):∀{L:List Stp},(∀s∈L,s.Ok d)->Chg d (chP d L) (chQ d L)
 |[],_=>Chg.id a
 |s:: L,h=>by
  have o:=h s (zZ ..);exact(kE a λz b=>h z (zO _ b)).then a (Km a o.hi o.hj o.ne).1
theorem Wd{d:Nat}(a:d=2\/d=3){L:List Stp}(h:∀s∈L,s.Ok d){s:Stp}(o:s.Ok d){A:LM}(b:Sq d A):Az d s.i s.j s.m (cjM d (chP d L) (chQ d L) A)=cjM d (chP d (s:: L)) (chQ d (s:: L)) A:=by
 have g:=(Km (m:=s.m) a o.hi o.hj o.ne);rw[g.2.2 _ (fH (kE a h) A),Wg a (kE a h) g.1 b];rfl
theorem Wc{d:Nat}(a:d=2\/d=3){A:LM}(b:Sq d A){v:LI'}(c:v.length=d):cjM d (chP d []) (chQ d []) A=A/\mv (chP d []) v=v:=by
 refine⟨?_,Kw a c⟩;unfold chP chQ cjM;rw[(jM a b).1,(jM a b).2]
def LeM(N:Nat)(A:LM):Prop:=∀r∈A,∀z∈r,z.natAbs<=N
theorem Kl{d i j:Nat}{m:Int}{N:Nat}(h:m.natAbs<=N)(e:1<=N):LeM N (stM d i j m):=λr hr z c=>by
 obtain⟨a,_,rfl⟩:=pZ.mp hr;obtain⟨b,_,rfl⟩:=pZ.mp c;split
 ·exact e
 ·split
  ·exact h
  ·omega
theorem Kk{A B:Nat}:∀(r ns:LI'),(∀z∈r,z.natAbs<=A)->(∀z∈ns,z.natAbs<=B)->(dotI r ns).natAbs<=r.length*(A*B)
 |[],ns,_,_=>by simp[dotI]
 |_:: _,[],_,_=>by simp[dotI]
 |a:: r,b:: ns,d,e=>by
  have g:=Kk r ns (λz c=>d z (zO _ c)) λz c=>e z (zO _ c);unfold dotI at g ⊢;rw[yX,List.sum_cons,zU,qX];have e1:(a*b).natAbs<=A*B:=by rw[xA];exact xZ (d a zZ) (e b zZ)
  have j:=uR (a*b) (List.zipWith (λf i=>f*i) r ns).sum;omega
theorem Wb{N:Nat}{A:LM}(h:LeM N A)(k:Nat):∀z∈colI k A,z.natAbs<=N:=λz a=>by
 unfold colI at a;obtain⟨r,hr,rfl⟩:=pZ.mp a;rw[zqc];cases e:r[k]? with
 |none=>exact yB _
 |some y=>exact h r hr y (zqb e)
theorem dA{d A B:Nat}{M N:LM}(e:Sq d M)(f:LeM A M)(b:LeM B N):LeM (d*(A*B)) (mulM d M N):=λr hr z c=>by
 obtain⟨x,a,rfl⟩:=pZ.mp hr;obtain⟨k,_,rfl⟩:=pZ.mp c;have:=Kk x (colI k N) (f x a) (Wb b k);rw[e.2 x a]at this;exact this
theorem Kj{c:Int}:∀{r v:LI'},dotI r (smul c v)=c*dotI r v
 |[],v=>by simp[dotI]
 |_:: _,[]=>by simp[dotI,smul]
 |a:: r,x:: v=>by
  have:=Kj (c:=c) (r:=r) (v:=v);unfold dotI smul at this ⊢;simp only[List.map_cons,List.zipWith_cons_cons,List.sum_cons];rw[this];grind
def canD(M:LM)(ts:LI')(U:Int):Dd:=(M,nW (redU U ts) (redT U ts),redU U ts)
theorem Dc{M:LM}{ts b:LI'}{U:Int}(c:0<U)(h:Cong U ts b):canD M ts U=canD M b U:=by
 obtain⟨a,d⟩:=h.red c;unfold canD;rw[a,←a,d,a]
theorem Ay{U:Int}{ts:LI'}(a:0<U):cs U ts=gl U ts/\0<cs U ts:=by
 have:=Ca ts (show U≠0 by omega);unfold cs;rw[zD ⋯];exact⟨rfl,this⟩
theorem dB{U:Int}{ts:LI'}(a:0<U):∃c,0<c/\ts=smul c (redT U ts)/\U=c*redU U ts/\0<redU U ts:=by
 obtain⟨e,d⟩:=Ay (ts:=ts) a;refine⟨cs U ts,d,?_,?_,gH ts ⋯⟩
 ·unfold smul redT;rw[xK]
  conv=>lhs;rw[←List.map_id ts]
  refine wE λt b=>?_;show t=cs U ts*t.fdiv (cs U ts);rw[wR];exact(gG ⋯ (jX (aW b))).symm
 ·rw[wR];exact(gG ⋯ (jX (gl_u U ts))).symm
theorem Ax{U k:Int}{ts:LI'}(b:0<U)(a:0<k):redT (k*U) (smul k ts)=redT U ts/\redU (k*U) (smul k ts)=redU U ts:=by
 have d:0<k*U:=xE a b;have c:cs (k*U) (smul k ts)=k*cs U ts:=by
  rw[(Ay d).1,(Ay b).1,wR k U,wR k (gl U ts),←Wk a];unfold smul;congr 1;exact wE λt _=>wR k t
 have e:=(Ay (ts:=ts) b).2;refine⟨?_,?_⟩
 ·unfold redT;rw[c];unfold smul;rw[xK];exact wE λt f=>by
   show(k*t).fdiv (k*cs U ts)=_;exact Int.mul_fdiv_mul_of_pos _ _ a
 ·unfold redU;rw[c];exact Int.mul_fdiv_mul_of_pos _ _ a
theorem cQ{M:LM}{U k:Int}{ts:LI'}(b:0<U)(d:0<k):canD M (smul k ts) (k*U)=canD M ts U:=by
 obtain⟨a,c⟩:=Ax (ts:=ts) b d;unfold canD;rw[a,c]
theorem Ki{N:LM}{ns ts:LI'}{c e u v:Int}:movT N (smul e ns) (e*v) (smul c ts) (c*u)=smul (e*c) (movT N ns v ts u):=by
 unfold movT
 induction N generalizing ns with
 |nil=>rfl
 | cons r N b =>
  cases ns with
  |nil=>rfl
  |cons n ns =>
   have:=b (ns:=ns);unfold smul at this ⊢;rw[zK,yX,yX,zK,this];have a:=Kj (c:=c) (r:=r) (v:=ts);unfold smul at a;rw[a];congr 1;grind
theorem iQ{d:Nat}{M N:LM}{ts ns:LI'}{U V:Int}(k:0<U)(n:0<V):oZ d (canD M ts U) (canD N ns V)=canD (mulM d N M) (movT N ns V ts U) (V*U):=by
 obtain⟨c,j,e1,g,b⟩:=dB (ts:=ts) k;obtain⟨e,l,m,f,a⟩:=dB (ts:=ns) n;have k1:canD (mulM d N M) (movT N ns V ts U) (V*U)=canD (mulM d N M) (movT N (redT V ns) (redU V ns) (redT U ts) (redU U ts)) (redU V ns*redU U ts):=by
  have hh:V*U=(e*c)*(redU V ns*redU U ts):=by
   conv=>lhs;rw[g,f]
   grind
  have i:movT N ns V ts U=smul (e*c) (movT N (redT V ns) (redU V ns) (redT U ts) (redU U ts)):=by
   rw[←Ki,←e1,←g,←m,←f]
  rw[hh,i,cQ (xE a b) (xE l j)]
 rw[k1];exact Dc (xE a b) (Kx (Cong.rest a _) (Cong.rest b _)) |>.symm
def frD(d:Nat)(P P':LM)(s:LI')(su p:Int)(R:LM)(t:LI'):Dd:=canD (cjM d P P' R) (cjT d P P' R (smul su t) (smul p s)) (p*su)
theorem Kh{N:LM}{ns ts:LI'}{U:Int}:movT N ns U ts U=smul U (va (mv N ts) ns):=by
 unfold movT va mv
 induction N generalizing ns with
 |nil=>rfl
 | cons r N a =>
  cases ns with
  |nil=>rfl
  |cons n ns =>
   have:=a (ns:=ns);unfold smul at this ⊢;rw[yX,zK,yX,zK,this];congr 1;grind
theorem Kg{f:Type}:∀{l L:List f},l.Nodup->(∀x∈l,x∈L)->l.length<=L.length
 |[],L,_,_=>yB _
 | a:: l,L,nd,h=>by
  obtain⟨s,t,e⟩:=List.append_of_mem (h a zZ);have d:=tS.mp nd;have:=Kg (L:=s++t) d.2 λx c=>by
   have b:=h x (zO _ c);rw[e]at b;rcases oA.mp b with b|b
   ·exact xU _ b
   ·rcases xI.mp b with rfl|b
    ·exact absurd c d.1
    ·exact yO _ b
  rw[e];simp only[List.length_append,List.length_cons]at this ⊢;omega
theorem Kf{d:Nat}{x:Dd}{w:List Nat}{a:Dd->Prop}:∀(l:List (Dd×Nat))(tb:Tb),(∀k∈l,a (oZ d x k.1))->(∀y∈tb,a y.1)->∀y∈l.foldl (nxt d x w) tb,a y.1
 |[],_,_,h=>h
 |k:: l,tb,b,h=>Kf l _ (λc e=>b c (zO _ e)) (Jl h (b k zZ))
theorem Ke{ss:List Dd}{k:Dd×Nat}(h:k∈ss.zipIdx):k.1∈ss/\ss[k.2]?=some k.1:=by
 obtain⟨i,hi⟩:=xT h;rw[rF]at hi;cases e:ss[i]? with
 |none=>rw[e]at hi;cases hi
 |some s =>
  rw[e]at hi;cases hi;exact⟨zqb e,by simpa using e⟩
theorem Wa{d:Nat}{ss:List Dd}{a:Dd->Prop}(b:∀x,a x->∀s∈ss,a (oZ d x s)){tb:Tb}{i:Nat}(h:∀y∈tb,a y.1):∀y∈kA d ss tb i,a y.1:=by
 unfold kA;cases e:tb[i]? with
 |none=>exact h
 |some f=>exact Kf _ _ (λk c=>b _ (h _ (zqb e)) _ (Ke c).1) h
theorem Kd{d:Nat}{ss:List Dd}{a:Dd->Prop}(b:∀x,a x->∀s∈ss,a (oZ d x s)):∀(n i:Nat)(tb:Tb),(∀y∈tb,a y.1)->∀y∈nP d ss n i tb,a y.1
 |0,_,_,h=>h
 |n+1,i,tb,h=>by
  unfold nP;split
  ·exact Kd b n (i+1) _ (Wa b h)
  ·exact h
theorem Xz{d:Nat}{ss:List Dd}{tb:Tb}{i:Nat}(h:(tb.map (·.1)).Nodup):((kA d ss tb i).map (·.1)).Nodup:=by
 unfold kA;split
 ·exact h
 ·exact Jm _ _ h
theorem Kc{d:Nat}{ss:List Dd}:∀(n i:Nat)(tb:Tb),(tb.map (·.1)).Nodup->((nP d ss n i tb).map (·.1)).Nodup
 |0,_,_,h=>h
 |n+1,i,tb,h=>by
  unfold nP;split
  ·exact Kc n (i+1) _ (Xz h)
  ·exact h
abbrev tab(d:Nat)(ss:List Dd)(N:Nat):Tb:=nP d ss N 0 [(nE d,[])]
theorem Aw{d:Nat}{ss:List Dd}{N:Nat}:((tab d ss N).map (·.1)).Nodup:=Kc N 0 _ (by simp)
theorem Db{d:Nat}{ss:List Dd}{N:Nat}{a:Dd->Prop}(c:a (nE d))(e:∀x,a x->∀s∈ss,a (oZ d x s)):∀y∈tab d ss N,a y.1:=Kd e N 0 _ λy b=>by rw[pS.mp b];exact c
theorem Kb{d:Nat}{x:Dd}{w:List Nat}:∀(l:List (Dd×Nat))(tb:Tb),∀k∈l,oZ d x k.1∈(l.foldl (nxt d x w) tb).map (·.1)
 | k:: l,tb,a,b=>by
  rw[wN];rcases xI.mp b with rfl|b
  ·have h:oZ d x a.1∈(nxt d x w tb a).map (·.1):=by
    unfold nxt;split
    ·assumption
    ·simp
   obtain⟨r,e⟩:=cM d x w l (nxt d x w tb a);rw[e,xD];exact xU _ h
  ·exact Kb l _ a b
theorem Xy{d:Nat}{ss:List Dd}{tb:Tb}{i:Nat}{a:Dd×List Nat}(e:tb[i]?=some a){s:Dd}(c:s∈ss):oZ d a.1 s∈(kA d ss tb i).map (·.1):=by
 unfold kA;rw[e];obtain⟨j,b⟩:=xT c;exact Kb ss.zipIdx tb (s,j) (zqb (i:=j) (by rw[rF,b];simp))
theorem Ka{d:Nat}{ss:List Dd}:∀(n i:Nat)(tb:Tb),(∀j,j<i->∀a,tb[j]?=some a->∀s∈ss,oZ d a.1 s∈tb.map (·.1))->(nP d ss n i tb).length<=n+i->∀a∈nP d ss n i tb,∀s∈ss,oZ d a.1 s∈(nP d ss n i tb).map (·.1)
 |0,i,tb,h,hl=>λa f s c=>by
  obtain⟨j,b⟩:=xT f;have:=(zqa b).1;unfold nP at hl this b ⊢;exact h j ⋯ _ b s c
 | n+1,i,tb,h,hl=>by
  unfold nP at hl ⊢;split
  ·next q =>
   rw[zF q]at hl;obtain⟨r,g⟩:=Jo d ss tb i;refine Ka n (i+1) _ (λj b a e s c=>?_) ⋯;rcases uD j i with l|l
   ·rw[g,yD ⋯]at e;rw[g,xD];exact xU _ (h j l a e s c)
   ·have:j=i:=⋯
    subst this;rw[g,yD ⋯]at e;exact Xy e c
  ·next q =>
   intro a f s c;obtain⟨j,b⟩:=xT f;have:=(zqa b).1;exact h j ⋯ _ b s c
theorem Lz{d:Nat}{ss:List Dd}{N:Nat}(h:(tab d ss N).length<=N):∀b∈tab d ss N,∀s∈ss,oZ d b.1 s∈(tab d ss N).map (·.1):=Ka N 0 _ (λj a=>absurd a (Nat.not_lt_zero j)) h
theorem Xx{d:Nat}{ss:List Dd}{N:Nat}:(nE d,[])∈tab d ss N:=by
 obtain⟨r,e⟩:=Ds d ss N 0 [(nE d,[])];unfold tab;rw[e];simp
def Av(d:Nat)(ss:List Dd)(w:List Nat):Dd:=w.foldl (λx k=>oZ d x (ss.getD k (nE d))) (nE d)
def WdOk(d:Nat)(ss:List Dd)(y:Dd×List Nat):Prop:=y.1=Av d ss y.2/\∀k∈y.2,k<ss.length
theorem Ly{d:Nat}{ss:List Dd}{x:Dd}{w:List Nat}(c:WdOk d ss (x,w)):∀(l:List (Dd×Nat))(tb:Tb),(∀k∈l,ss[k.2]?=some k.1)->(∀y∈tb,WdOk d ss y)->∀y∈l.foldl (nxt d x w) tb,WdOk d ss y
 |[],_,_,h=>h
 | k :: l,tb,hl,h=>by
  refine Ly c l _ (λg f=>hl g (zO _ f)) λy a=>?_;unfold nxt at a;split at a
  ·exact h y a
  ·rcases oA.mp a with a|a
   ·exact h y a
   ·rw[pS.mp a];have e:=hl k zZ;refine⟨?_,λj b=>?_⟩
    ·show oZ d x k.1=Av d ss (w++[k.2]);unfold Av;rw[uQ,wN,List.foldl_nil];show _=oZ d (Av d ss w) _;rw[←c.1,zqc,e];rfl
    ·rcases oA.mp b with b|b
     ·exact c.2 j b
     ·rw[pS.mp b];exact(zqa e).1
theorem Lx{d:Nat}{ss:List Dd}:∀(n i:Nat)(tb:Tb),(∀y∈tb,WdOk d ss y)->∀y∈nP d ss n i tb,WdOk d ss y
 |0,_,_,h=>h
 | n+1,i,tb,h=>by
  unfold nP;split
  ·refine Lx n (i+1) _ ?_;unfold kA;cases e:tb[i]? with
   |none=>exact h
   |some b=>exact Ly (h _ (zqb e)) _ _ (λk a=>(Ke a).2) h
  ·exact h
theorem Xw{d:Nat}{ss:List Dd}{N:Nat}:∀y∈tab d ss N,WdOk d ss y:=Lx N 0 _ λy a=>by rw[pS.mp a];exact⟨rfl,λk b=>by cases b⟩
def famG:Nat->List LM
 |0=>[[[0,-1],[1,0]],[[-1,0],[0,1]]]
 |1=>[[[1,-1],[1,0]],[[0,1],[1,0]]]
 |2=>[[[0,-1,0],[1,0,0],[0,0,1]],[[0,0,1],[1,0,0],[0,1,0]],[[-1,0,0],[0,-1,0],[0,0,-1]]]
 |_=>[[[1,-1,0],[1,0,0],[0,0,1]],[[0,1,0],[1,0,0],[0,0,1]],[[1,0,0],[0,1,0],[0,0,-1]]]
def famD(k:Nat):Nat:=if k<2 then 2 else 3
def Xv(d:Nat)(gs l:List LM):List LM:=(l.flatMap λA=>gs.map λg=>mulM d g A).foldl (λacc M=>if acc.contains M then acc else acc++[M]) l
def Da(d:Nat)(gs:List LM):Nat->List LM->List LM
 |0,l=>l
 |n+1,l=>Da d gs n (Xv d gs l)
def pgL(k:Nat):List LM:=Da (famD k) (famG k) 10 [idM (famD k)]
def invM(d:Nat)(A:LM):LM:=mulM d A (mulM d (mulM d A A) (mulM d (mulM d (mulM d A A) (mulM d A A)) (mulM d (mulM d A A) (mulM d A A))))
def Lw(k:Nat):Bool:=
 (pgL k).contains (idM (famD k)) && (famG k).all (λg=>(pgL k).contains g) &&
 (pgL k).all (λA=>(famG k).all λg=>(pgL k).contains (mulM (famD k) g A)) &&
 (pgL k).all (λA=>decide (mulM (famD k) A (invM (famD k) A)=idM (famD k)) && decide (mulM (famD k) (invM (famD k) A) A=idM (famD k))) &&
 (pgL k).all (λA=>decide (A.length=famD k) && A.all λr=>decide (r.length=famD k) && r.all λz=>decide (z.natAbs<=1))
theorem Xu:(List.range 4).all Lw=true:=nofun
theorem kZ(k:Nat):famD k=2\/famD k=3:=by unfold famD;split <;> simp
theorem Lv{M:LM}:∀(xs acc:List LM),M∈xs.foldl (λacc M=>if acc.contains M then acc else acc++[M]) acc->M∈acc\/M∈xs
 |[],_,h=>.inl h
 | x:: xs,acc,h=>by
  rcases Lv xs _ h with q|q
  ·dsimp only at q;split at q
   ·exact .inl q
   ·rcases oA.mp q with q|q
    ·exact .inl q
    ·exact .inr (by rw[pS.mp q];exact .head _)
  ·exact .inr (.tail _ q)
theorem Lu{P:LM->Prop}{d:Nat}{gs:List LM}(a:∀A,P A->∀g∈gs,P (mulM d g A)):∀(n:Nat)(l:List LM),(∀A∈l,P A)->∀M∈Da d gs n l,P M
 |0,_,h=>h
 |n+1,l,h=>Lu a n _ λM c=>by
  rcases Lv _ _ c with q|q
  ·exact h M q
  ·obtain⟨A,e,q⟩:=List.mem_flatMap.mp q;obtain⟨g,b,rfl⟩:=pZ.mp q;exact a A (h A e) g b
structure Fam(k:Nat):Prop where
 one:idM (famD k)∈pgL k
 gen:∀g∈famG k,g∈pgL k
 mul:∀A∈pgL k,∀B∈pgL k,mulM (famD k) A B∈pgL k
 inv:∀A∈pgL k,∃B∈pgL k,mulM (famD k) A B=idM (famD k)/\mulM (famD k) B A=idM (famD k)
 sq:∀A∈pgL k,Sq (famD k) A
 wee:∀A∈pgL k,∀r∈A,∀z∈r,z.natAbs<=1
theorem jZ{k:Nat}(l:k<4):Fam k:=by
 have h:=vE.mp Xu k (oC.mpr l);simp only[Lw,Bool.and_eq_true,List.all_eq_true,decide_eq_true_eq,List.contains_iff_mem]at h;obtain⟨⟨⟨⟨o,f⟩,n⟩,q⟩,e⟩:=h;have i:=kZ k;have c:∀A∈pgL k,Sq (famD k) A:=λA a=>⟨(e A a).1,λr hr=>((e A a).2 r hr).1⟩;have mul:∀A∈pgL k,∀B∈pgL k,mulM (famD k) A B∈pgL k:=λA a=>(Lu (P:=λA=>Sq (famD k) A/\∀B∈pgL k,mulM (famD k) A B∈pgL k) (gs:=famG k) (λA⟨p,j⟩g d=>⟨(c g (f g d)).mul,λB b=>by
  rw[mul_assoc i (c g (f g d)) p (c B b)];exact n _ (j B b) g d⟩) 10 [idM (famD k)] (λA a=>by
   rw[pS.mp a];exact⟨jY,λB b=>by rw[(jM i (c B b)).1];exact b⟩) A a).2
 have sq2:=λA a=>mul A a A a;have sq4:=λA a=>mul _ (sq2 A a) _ (sq2 A a);exact⟨o,f,mul,λA a=>⟨invM (famD k) A,mul A a _ (mul _ (sq2 A a) _ (mul _ (sq4 A a) _ (sq4 A a))),q A a⟩,c,λA a r hr z m=>((e A a).2 r hr).2 z m⟩
theorem Xt{d:Nat}{c:Int}:smul c (List.replicate d 0)=List.replicate d 0:=by
 unfold smul;rw[List.map_replicate,pO]
theorem cR{d:Nat}(b:d=2\/d=3){M:LM}{U:Int}(a:0<U):canD M (List.replicate d 0) U=(M,List.replicate d 0,1):=by
 have h:=cQ (M:=M) (ts:=List.replicate d 0) (U:=1) (k:=U) ⋯ a;rw[Xt,rT]at h;rw[h];have:nW (redU 1 (List.replicate d 0)) (redT 1 (List.replicate d 0))=List.replicate d 0/\redU 1 (List.replicate d 0)=1:=by
  rcases b with rfl|rfl <;> decide +kernel
 unfold canD;rw[this.1,this.2]
def Rs(d:Nat)(x:Dd):Prop:=∃M ts U,Sq d M/\ts.length=d/\0<U/\x=canD M ts U
theorem Ez{d:Nat}{N:LM}{ns ts:LI'}{u v:Int}(b:Sq d N)(a:ns.length=d):(movT N ns v ts u).length=d:=by
 unfold movT;rw[xX,b.1,a,pR]
theorem Rs.step{d:Nat}{x y:Dd}(f:Rs d x)(e:Rs d y):Rs d (oZ d x y):=by
 obtain⟨M,ts,U,i,lt,a,rfl⟩:=f;obtain⟨N,ns,V,c,g,b,rfl⟩:=e;exact⟨_,_,_,c.mul,Ez c g,xE b a,iQ a b⟩
theorem Xs{d:Nat}(m:d=2\/d=3){N O:LM}(i:Sq d N)(j:Sq d O){ts ns f:LI'}(lt:ts.length=d)(g:ns.length=d)(lo:f.length=d){U V W:Int}:
  movT O f W (movT N ns V ts U) (V*U)=movT (mulM d O N) (movT O f W ns V) (W*V) ts U:=by
 rcases m with rfl|rfl
 ·obtain⟨a,b,c,e,rfl⟩:=sq2 i;obtain⟨F,D,T,L,rfl⟩:=sq2 j;obtain⟨p,l,rfl⟩:=v2 lt;obtain⟨q,n,rfl⟩:=v2 g;obtain⟨k,o,rfl⟩:=v2 lo;rw[mul2];simp only[movT,dotI,List.zipWith_cons_cons,List.zipWith_nil_left,List.sum_cons,List.sum_nil,List.cons.injEq,and_true];refine⟨?_,?_⟩ <;> grind
 ·obtain⟨S,r,G,x,X,I,u,y,v,rfl⟩:=sq3 i;obtain⟨b1,b2,Y,J,a2,a1,Z,M,R,rfl⟩:=sq3 j;obtain⟨p,l,a0,rfl⟩:=v3 lt;obtain⟨q,n,C,rfl⟩:=v3 g;obtain⟨k,o,z,rfl⟩:=v3 lo;rw[mul3];simp only[movT,dotI,List.zipWith_cons_cons,List.zipWith_nil_left,List.sum_cons,List.sum_nil,List.cons.injEq,and_true];refine⟨?_,?_,?_⟩ <;> grind
theorem Ey{d:Nat}(g:d=2\/d=3){x y z:Dd}(j:Rs d x)(i:Rs d y)(k:Rs d z):oZ d (oZ d x y) z=oZ d x (oZ d y z):=by
 obtain⟨M,ts,U,m,lt,b,rfl⟩:=j;obtain⟨N,ns,V,f,l,a,rfl⟩:=i;obtain⟨O,n,W,e,lo,c,rfl⟩:=k;rw[iQ b a,iQ (xE a b) c,iQ a c,iQ b (xE c a),mul_assoc g e f m,Xs g f e lt l lo,Int.mul_assoc]
theorem Xr{d:Nat}(a:d=2\/d=3):Rs d (nE d):=⟨idM d,List.replicate d 0,1,jY,by simp,⋯,(cR a ⋯).symm⟩
theorem Xq{d:Nat}(a:d=2\/d=3):nE d=canD (idM d) (List.replicate d 0) 1:=(cR a ⋯).symm
theorem Ls{d:Nat}(j:d=2\/d=3){N:LM}(g:Sq d N){ns:LI'}(f:ns.length=d){V:Int}:movT N ns V (List.replicate d 0) 1=ns/\movT (idM d) (List.replicate d 0) 1 ns V=ns:=by
 rcases j with rfl|rfl
 ·obtain⟨a,b,c,e,rfl⟩:=sq2 g;obtain⟨k,i,rfl⟩:=v2 f;rw[id2];simp[movT,dotI,List.replicate]
 ·obtain⟨v,n,u,r,p,x,o,l,q,rfl⟩:=sq3 g;obtain⟨k,i,m,rfl⟩:=v3 f;rw[id3];simp[movT,dotI,List.replicate]
theorem gK{d:Nat}(a:d=2\/d=3){x:Dd}(e:Rs d x):oZ d (nE d) x=x/\oZ d x (nE d)=x:=by
 obtain⟨M,ts,U,b,lt,c,rfl⟩:=e;rw[Xq a];refine⟨?_,?_⟩
 ·rw[iQ ⋯ c,(Ls a b lt).1,(jM a b).2,rT]
 ·rw[iQ c ⋯,(Ls a b lt).2,(jM a b).1,pG]
theorem Ex{d:Nat}:∀{v:LI'},v.length=d->va v (smul (-1) v)=List.replicate d 0/\va (smul (-1) v) v=List.replicate d 0
 |[],h=>by subst h;exact⟨rfl,rfl⟩
 |a:: v,h=>by
  obtain⟨m,rfl⟩:∃m,d=m+1:=⟨v.length,by rw[←h];rfl⟩;have:=Ex (v:=v) (d:=m) (by simpa using h);unfold va smul at this ⊢;rw[zK,yX,yX,this.1,this.2,wP,show a+-1*a=0 by omega,show -1*a+a=0 by omega];exact⟨rfl,rfl⟩
structure Grp(d:Nat)(T:List Dd):Prop where
 dim:d=2\/d=3
 nd:T.Nodup
 rs:∀x∈T,Rs d x
 one:nE d∈T
 mul:∀x∈T,∀y∈T,oZ d x y∈T
 inv:∀x∈T,∃y∈T,oZ d x y=nE d/\oZ d y x=nE d
theorem Lr{d:Nat}(m:d=2\/d=3){ss T:List Dd}(i:∀x∈T,Rs d x)(a:∀s∈ss,Rs d s)(f:∀x∈T,∀s∈ss,oZ d x s∈T){x:Dd}(e:x∈T):∀(w:List Nat),(∀k∈w,k<ss.length)->∀y,Rs d y->oZ d x y∈T->oZ d x (w.foldl (λx k=>oZ d x (ss.getD k (nE d))) y)∈T
 |[],_,y,_,h=>h
 | k:: w,l,y,g,h=>by
  rw[wN];have c:=l k zZ;have b:ss.getD k (nE d)∈ss:=by
   rw[zqc,zqd c];exact vF c
  refine Lr m i a f e w (λj n=>l j (zO _ n)) _ (g.step (a _ b)) ?_;rw[←Ey m (i x e) g (a _ b)];exact f _ h _ b
theorem Xp{c:Type}{l L:List c}(nd:l.Nodup)(sub:∀x∈l,x∈L)(hl:L.length<=l.length){a:c}(e:a∈L):a∈l:=by
 refine Classical.byContradiction λd=>?_;have:=Kg (l:=a:: l) (L:=L) (tS.mpr ⟨d,nd⟩) λx b=>by
  rcases xI.mp b with rfl|b
  ·exact e
  ·exact sub x b
 rw[zU]at this;omega
theorem Lq{c j:Type}{f:c->j}:∀{l:List c},l.Nodup->(∀x∈l,∀y∈l,f x=f y->x=y)->(l.map f).Nodup
 |[],_,_=>by simp
 |a:: l,nd,h=>by
  rw[zK,tS];have g:=tS.mp nd;refine⟨λm=>?_,Lq g.2 λx k y i=>h x (zO _ k) y (zO _ i)⟩;obtain⟨b,d,e⟩:=pZ.mp m;exact g.1 ((h b (zO _ d) a zZ e) ▸ d)
theorem LeM.le{A B:Nat}{M:LM}(h:LeM A M)(b:A<=B):LeM B M:=λr hr z a=>yG (h r hr z a) b
theorem Lp{d:Nat}:LeM 1 (idM d):=λr hr z a=>by
 obtain⟨i,_,rfl⟩:=pZ.mp hr;obtain⟨j,_,rfl⟩:=pZ.mp a;split <;> decide
theorem cS{U:Int}{ts:LI'}(i:0<U):(∀z∈redT U ts,∃t∈ts,z.natAbs<=t.natAbs)/\0<redU U ts/\redU U ts<=U:=by
 have d:=eP ts (show U≠0 by omega);have g:0<redU U ts:=gH ts ⋯;refine⟨λz b=>?_,g,?_⟩
 ·unfold redT at b;obtain⟨t,c,rfl⟩:=pZ.mp b;refine⟨t,c,?_⟩;have e:t.fdiv (cs U ts)*cs U ts=t:=gG d (jX (aW c));have a:=wH Int.natAbs e;rw[xA]at a;have:1<=(cs U ts).natAbs:=⋯
  rw[←a];exact Nat.le_mul_of_pos_right _ this
 ·have e:redU U ts*cs U ts=U:=gG d (jX (gl_u U ts));have a:=wH Int.natAbs e;rw[xA]at a;have f:1<=(cs U ts).natAbs:=⋯
  have:=Nat.le_mul_of_pos_right (redU U ts).natAbs f;omega
theorem fms(x y:Int)(h:0<y):0<=x.fmod y/\x.fmod y<y:=⟨uL x h,tX x h⟩
structure Amb(d:Nat)(G:Dd->Prop):Prop where
 dim:d=2\/d=3
 rs:∀x,G x->Rs d x
 fine:∀x,G x->mY d x
 one:G (nE d)
 mul:∀x y,G x->G y->G (oZ d x y)
 inv:∀x,G x->∃y,G y/\oZ d x y=nE d/\oZ d y x=nE d
theorem Xo{d:Nat}{k:Dd->Prop}(A:Amb d k){ss:List Dd}(q:∀s∈ss,k s){N:Nat}(u:(tab d ss N).length<=N):Grp d ((tab d ss N).map (·.1)):=by
 have c:=A.dim;have I:=Db (N:=N) A.one λx a s g=>A.mul x s a (q s g);have p:∀x∈(tab d ss N).map (·.1),k x:=λx a=>by
  obtain⟨y,b,rfl⟩:=pZ.mp a;exact I y b
 have f:∀x∈(tab d ss N).map (·.1),Rs d x:=λx a=>A.rs x (p x a);have v:∀s∈ss,Rs d s:=λs g=>A.rs s (q s g);have F:∀x∈(tab d ss N).map (·.1),∀s∈ss,oZ d x s∈(tab d ss N).map (·.1):=λx a s g=>by
  obtain⟨y,b,rfl⟩:=pZ.mp a;exact Lz u y b s g
 have mul:∀x∈(tab d ss N).map (·.1),∀y∈(tab d ss N).map (·.1),oZ d x y∈(tab d ss N).map (·.1):=λx a y b=>by
  obtain⟨z,i,rfl⟩:=pZ.mp b;obtain⟨e,D⟩:=Xw z i;rw[e];exact Lr c f v F a z.2 D _ (Xr c) (by rw[(gK c (f x a)).2];exact a)
 have one:nE d∈(tab d ss N).map (·.1):=pZ.mpr ⟨_,Xx,rfl⟩;refine⟨c,Aw,f,one,mul,λm l=>?_⟩;obtain⟨n,r,e1,G⟩:=A.inv m (p m l);have o:=A.rs n r;have j:∀x∈(tab d ss N).map (·.1),oZ d (oZ d x m) n=x:=λx a=>by
  rw[Ey c (f x a) (f m l) o,e1,(gK c (f x a)).2]
 have nd:(((tab d ss N).map (·.1)).map λx=>oZ d x m).Nodup:=Lq Aw λx a y b e=>by rw[←j x a,←j y b,e]
 have i:nE d∈((tab d ss N).map (·.1)).map λx=>oZ d x m:=Xp nd (λz i=>by
  obtain⟨x,a,rfl⟩:=pZ.mp i;exact mul x a m l) (tZ (zqe ..).symm) one
 obtain⟨y,b,e⟩:=pZ.mp i;have C:y=n:=by
  have:=j y b;rw[e,(gK c o).1]at this;exact this.symm
 subst C;exact⟨y,b,e1,G⟩
theorem Ew{d:Nat}(b:d=2\/d=3):∀{L:List Stp},(∀s∈L,s.Ok d)->LeM (3000000^L.length) (chP d L)/\LeM (3000000^L.length) (chQ d L)
 |[],_=>⟨Lp,Lp⟩
 | s:: L,h=>by
  obtain⟨g,i⟩:=Ew b (L:=L) λz a=>h z (zO _ a);have o:=h s zZ;have c:=kE b (L:=L) λz a=>h z (zO _ a);have f:=o.m2;rw[zU,qP];have e:d*(1000000*3000000^L.length)<=3000000^L.length*3000000:=by
   have:d*(1000000*3000000^L.length)<=3*(1000000*3000000^L.length):=wC _ ⋯;omega
  refine⟨(dA cO (Kl f ∅) g).le e,?_⟩;have:=dA c.q i (Kl (d:=d) (i:=s.i) (j:=s.j) (m:=-s.m) (N:=1000000) ⋯ ∅);rw[sE (3000000^L.length) 1000000]at this;exact this.le e
structure Fr4 where
 k:Nat
 L:List Stp
 U:Int
structure Fr4.Ok(F:Fr4):Prop where
 k:F.k<4
 ok:∀s∈F.L,s.Ok (famD F.k)
 l3:F.L.length<=3
 u0:0<F.U
 u1:F.U<2^100
def Fr4.cj(F:Fr4)(R:LM):LM:=cjM (famD F.k) (chP (famD F.k) F.L) (chQ (famD F.k) F.L) R
def InG(F:Fr4)(x:Dd):Prop:=∃R∈pgL F.k,∃ts:LI',ts.length=famD F.k/\x=canD (F.cj R) ts F.U
theorem Au{F:Fr4}(h:F.Ok){R:LM}(g:R∈pgL F.k):nS 140 (F.cj R):=by
 have M:=jZ h.k;have a:=kZ F.k;have c:=kE a h.ok;obtain⟨i,j⟩:=Ew a h.ok;have b:3000000^F.L.length<=3000000^3:=yC ∅ h.l3;have w:LeM 1 R:=M.wee R g;have k:=dA c.p (i.le b) w;have f:=dA (c.p.mul (B:=R)) k (j.le b);intro r hr z d;have:=f r hr z d;have e:famD F.k*(famD F.k*(3000000^3*1)*3000000^3)<=3*(3*(3000000^3*1)*3000000^3):=xZ ⋯ (wC _ (wC _ ⋯));have l:3*(3*(3000000^3*1)*3000000^3)<2^140:=∅
 omega
theorem Xn{d:Nat}{C:LM}{ts:LI'}{U:Int}(c:Sq d C)(e:nS 140 C)(hl:ts.length=d)(b:0<U)(f:U<2^100):mY d (canD C ts U):=by
 obtain⟨_,r2,g⟩:=cS (ts:=ts) b;refine⟨c,by show(nW _ (redT _ ts)).length=_;unfold nW redT;rw[zqe,zqe];exact hl,r2,λr hr z a=>zJ (e r hr z a) (yC ∅ ∅),λz a=>?_,?_⟩
 ·obtain⟨y,_,rfl⟩:=pZ.mp a;have:=fms y _ r2;exact zJ (show _<2^100 by omega) (yC ∅ ∅)
 ·show redU U ts<_;exact Int.lt_of_lt_of_le (show redU U ts<2^100 by omega) ∅
theorem Xm{C:LM}{ts:LI'}{U:Int}:oV (canD C ts U)=canD C ts U:=by
 unfold canD oV nW;show(_,_,_)=(_,_,_);rw[xK];congr 2;exact wE λy _=>Int.fmod_fmod _ _
theorem Ev{F:Fr4}(h:F.Ok):F.cj (idM (famD F.k))=idM (famD F.k):=by
 have c:=kE (kZ F.k) h.ok;unfold Fr4.cj cjM;rw[(jM (kZ F.k) c.p).2,c.r]
theorem Eu{F:Fr4}(h:F.Ok){a R2:LM}(b:a∈pgL F.k)(c:R2∈pgL F.k){ts ns:LI'}:oZ (famD F.k) (canD (F.cj a) ts F.U) (canD (F.cj R2) ns F.U)=canD (F.cj (mulM (famD F.k) R2 a)) (va (mv (F.cj R2) ts) ns) F.U:=by
 have M:=jZ h.k;rw[iQ h.u0 h.u0,Kh,cQ h.u0 h.u0];unfold Fr4.cj;rw[Dh (kZ F.k) (kE (kZ F.k) h.ok) (M.sq _ b) (M.sq _ c)]
theorem cT{F:Fr4}(h:F.Ok):Amb (famD F.k) (InG F):=by
 have M:=jZ h.k;have d:=kZ F.k;have c:=kE d h.ok;have b:∀R,Sq (famD F.k) (F.cj R):=λR=>fH c R;have f:canD (F.cj (idM (famD F.k))) (List.replicate (famD F.k) 0) F.U=nE (famD F.k):=by rw[Ev h,cR d h.u0];rfl
 refine⟨d,?_,?_,⟨_,M.one,List.replicate (famD F.k) 0,by simp,f.symm⟩,?_,?_⟩
 ·rintro x ⟨R,a,ts,hl,rfl⟩;exact⟨_,_,_,b R,hl,h.u0,rfl⟩
 ·rintro x ⟨R,a,ts,hl,rfl⟩;exact Xn (b R) (Au h a) hl h.u0 h.u1
 ·rintro x y ⟨m,i,ts,l1,rfl⟩ ⟨R2,j,ns,l2,rfl⟩;exact⟨_,M.mul _ j _ i,_,Ks (Di (b R2)) l2,Eu h i j⟩
 ·rintro x ⟨R,a,ts,hl,rfl⟩;obtain⟨B,e,e1,k⟩:=M.inv R a;have g:(mv (F.cj B) ts).length=famD F.k:=Di (b B);refine⟨canD (F.cj B) (smul (-1) (mv (F.cj B) ts)) F.U,⟨B,e,_,by rw[Kv];exact g,rfl⟩,?_,?_⟩
  ·rw[Eu h a e,k,(Ex g).1,f]
  ·have l:mv (F.cj R) (mv (F.cj B) ts)=ts:=by
    rw[←Wi d (b R) (b B) hl];show mv (mulM _ (cjM _ _ _ R) (cjM _ _ _ B)) ts=ts;rw[Dh d c (M.sq B e) (M.sq R a),e1];show mv (F.cj (idM _)) ts=ts;rw[Ev h,Kw d hl]
   rw[Eu h e a,e1,Wh d (b R) g,l,(Ex hl).2,f]
structure Fr5 where
 d:Nat
 L:List Stp
 U:Int
structure Fr5.Ok(F:Fr5):Prop where
 d:F.d=2\/F.d=3
 ok:∀s∈F.L,s.Ok F.d
 l3:F.L.length<=3
 u0:0<F.U
 u1:F.U<2^100
def Fr5.cj(F:Fr5)(R:LM):LM:=cjM F.d (chP F.d F.L) (chQ F.d F.L) R
def Wr(d:Nat)(R:LM):Prop:=Sq d R/\LeM 27 R
theorem Xl{k:Nat}(a:k<4){R:LM}(h:R∈pgL k):Wr (famD k) R:=⟨(jZ a).sq R h,λr hr z b=>yG ((jZ a).wee R h r hr z b) ∅⟩
theorem ac5(A N:Nat):3*(3*(A*N)*A)=N*(3*(3*A*A)):=by
 rw[sE N,qF 3 (3*A*A) N,qF (3*A) A N,qF 3 A (A*N),qF 3 (A*N) A,sE (A*N) A]
theorem Lo{F:Fr5}(h:F.Ok){R:LM}{N:Nat}(f:LeM N R):LeM (N*2^140) (F.cj R):=by
 have a:=h.d;have c:=kE a h.ok;obtain⟨g,i⟩:=Ew a h.ok;have b:3000000^F.L.length<=3000000^3:=yC ∅ h.l3;have j:=dA c.p (g.le b) f;have d:=dA (c.p.mul (B:=R)) j (i.le b);refine LeM.le d ?_;have e:F.d*(F.d*(3000000^3*N)*3000000^3)<=3*(3*(3000000^3*N)*3000000^3):=xZ ⋯ (wC _ (wC _ ⋯));rw[ac5]at e;exact yG e (Nat.mul_le_mul_left N ∅)
theorem Ln{K:Frag}{H:Hp}{ns:LI'}{xs:List V}(h:Dts K H xs (ns.map PyData.int)):xs=ns.map V.int:=by
 induction ns generalizing xs with
 |nil=>cases h;rfl
 |cons n ns b=>cases h with|cons a h=>cases a;rw[b h];rfl
theorem Lm{K:Frag}{H:Hp}:∀{M:LM}{xs:List V},Dts K H xs (M.map λr=>PyData.tuple (r.map PyData.int))->∃ps:LA,xs=ps.map V.ref/\ps.length=M.length/\∀(i:Nat) p r,ps[i]?=some p->M[i]?=some r->SqT K H p (r.map V.int)
 |[],_,.nil=>⟨[],rfl,rfl,λi p r e=>by cases e⟩
 | r:: M,_,.cons (x:=x) f d=>by
  obtain⟨ps,e,l,h⟩:=Lm d;cases f with
  |tup a b =>
   rename_i q ys;rw[Ln b]at a;refine⟨q:: ps,by rw[e];rfl,by rw[zU,zU,l],λi p s e1 c=>?_⟩;cases i with
   |zero=>cases e1;cases c;exact a
   |succ i=>exact h i p s e1 c
theorem Ll{K:Frag}{H:Hp}{p:Addr}{x:Dd}(h:Dt K H (.ref p) (dat x)):DdS K H p x:=by
 obtain⟨M,ts,u⟩:=x;have h':Dt K H (.ref p) (.tuple [.tuple (M.map λr=>.tuple (r.map PyData.int)),.tuple (ts.map PyData.int),.int u]):=h;cases h' with
 | tup a b =>
  cases b with
  | cons b1 b =>
   cases b with
   | cons b2 b =>
    cases b with
    | cons d b =>
     cases b;cases d;cases b1 with
     | tup f e =>
      cases b2 with
      |tup e1 c =>
       rw[Ln c]at e1;obtain⟨ps,rfl,l,g⟩:=Lm e;exact⟨_,_,a,⟨ps,f,l,g⟩,e1⟩
structure Told(d:Nat)(ss:List Dd)(srt:Tb):Prop where
 p:srt.Perm (tab d ss 201)
 o:srt.Pairwise λp q=>lx (fl (dat q.1)) (fl (dat p.1))=false
 l:(tab d ss 201).length<=200
section
variable {d:Nat} {G:Dd->Prop} {ss ss':List Dd} {srt srt':Tb}
theorem Told.mem(h:Told d ss srt){x:Dd}:x∈srt.map (·.1)↔x∈(tab d ss 201).map (·.1):=(h.p.map _).mem_iff
theorem Told.nd(h:Told d ss srt):(srt.map (·.1)).Nodup:=(h.p.map _).nodup_iff.mpr Aw
theorem Told.len(h:Told d ss srt):srt.length<=200:=by rw[h.p.length_eq];exact h.l
theorem Told.good(A:Amb d G)(c:∀s∈ss,G s)(h:Told d ss srt):∀x∈srt.map (·.1),G x:=λx a=>by
 obtain⟨y,b,rfl⟩:=pZ.mp (h.mem.mp a);exact Db A.one (λx a s h=>A.mul x s a (c s h)) y b
theorem Grp.perm{T c:List Dd}(g:Grp d T)(p:c.Perm T):Grp d c:=by
 have m:∀{x},x∈c↔x∈T:=p.mem_iff;exact⟨g.dim,p.nodup_iff.mpr g.nd,λx a=>g.rs x (m.mp a),m.mpr g.one,λx a y b=>m.mpr (g.mul x (m.mp a) y (m.mp b)),λx a=>let ⟨y,b,e⟩:=g.inv x (m.mp a);⟨y,m.mpr b,e⟩⟩
theorem Told.grp(A:Amb d G)(a:∀s∈ss,G s)(h:Told d ss srt):Grp d (srt.map (·.1)):=(Xo A a (yG h.l ∅)).perm (h.p.map _)
end
section
variable {d:Nat} {T L:List Dd}
def cut(d:Nat)(L R:List Dd)(y:Dd)(n:Nat):List Dd:=R.filter λx=>decide (x∉(L.take n).map λl=>oZ d l y)
structure Cos(d:Nat)(T L R:List Dd)(c:Nat):Prop where
 nd:R.Nodup
 sub:∀x∈R,x∈T
 cl:∀x∈R,∀l∈L,oZ d l x∈R
 len:c*L.length+R.length=T.length
def run(d:Nat)(L:List Dd):List Dd->List Dd×Nat->List Dd×Nat
 |[],s=>s
 |y:: ys,(R,c)=>if y∈R then run d L ys (cut d L R y L.length,c+1) else run d L ys (R,c)
end
structure Rw(H0 H:Hp)(a:Addr)(M:LM):Prop where
 s:Same H0 H
 n:H0 a=none
 m:MatD H0 H a M
theorem Rw.up{H0 H H':Hp}{a:Addr}{M:LM}(h:Rw H0 H a M)(s:Same H H'):Rw H0 H' a M:=⟨h.s.trans s,h.n,h.m.up s⟩
def sp_q:Sp:=λvs H Q _=>E1 λ(n:Nat)=>A3 (vs=[.int n]) (n<=4) (∀r H',Rw H H' r (idM n)->Q (.ref r) H')
def sp_m(K:Frag):Sp:=λvs H Q _=>E9 λ(b1 b2 b3 b4:Bool)(a b:Addr)(A B:LM)(d:Nat)=>A9 (vs=[.ref a,.ref b]) (MatB b1 b2 K H a A) (MatB b3 b4 K H b B) (Sq d A) (Sq d B) ((d=2\/d=3)) (nS 1500 A) (nS 1500 B) (∀r H',Rw H H' r (mulM d A B)->Q (.ref r) H')
def sp_x(K:Frag):Sp:=λvs H Q _=>E8 λ(b1 b2 b3:Bool)(a l:Addr)(M:LM)(ns:LI')(u:Int)=>A8 (vs=[.ref a,.ref l,.int u]) (MatB b1 b2 K H a M) (SqB b3 K H l (ns.map V.int)) (M.length<=100) (ns.length<=100) (0<u) (mO u) (∀r H',Same H H'->DdAt K H' r (canD M ns u)->Q (.ref r) H')
def sp_10(K:Frag):Sp:=λvs H Q _=>E8 λ(b1 b2 b3:Bool)(a l:Addr)(M:LM)(ns:LI')(u:Int)=>A8 (vs=[.ref a,.ref l,.int u]) (MatB b1 b2 K H a M) (SqB b3 K H l (ns.map V.int)) (M.length<=100) (ns.length<=100) (0<u) (mO u) (∀r H',Same H H'->DdAt K H' r (M,redT u ns,redU u ns)->Q (.ref r) H')
def famK(so:Int)(d:Nat):Nat:=if d=2 then(if 0<so/\so<3 then 1 else 0) else if 0<so/\so<3 then 3 else 2
theorem At{so:Int}{d:Nat}(a:d=2\/d=3):famD (famK so d)=d/\famK so d<4:=by
 rcases a with rfl|rfl <;> by_cases h:0<so/\so<3 <;> simp[famK,famD,h]
def Mkr(k:Nat)(L:List Stp)(su:Int)(x:Dd):Prop:=∃R∈pgL k,∃(ts:LI')(u:Int),ts.length=famD k/\kX 250 ts/\0<u/\u<=200/\x=(cjM (famD k) (chP (famD k) L) (chQ (famD k) L) R,redT (u*su) ts,redU (u*su) ts)
structure MsOk(d:Nat)(G:Dd->Prop)(ms:List Dd):Prop where
 f:∀s∈ms,mY d s
 g:∀s∈ms,G (oV s)
 l:ms.length<=200
def sp_y(K:Frag)(t:Adr):Sp:=λvs H Q _=>E5 λ(d:Nat)(a:Addr)(ps:LA)(ms:List Dd)(G:Dd->Prop)=>A7 (vs=[.int d,.ref a]) (H a=some (.lst (ps.map V.ref))) (Paired (DdS K H) ps ms) (Amb d G) (MsOk d G ms) ((200<(tab d (ms.map oV) 201).length->∀H',Same H H'->Q .non H')) (∀g srt H',Same H H'->GrpF K t H' g d ms srt->Told d (ms.map oV) srt->Q (.ref g) H')
theorem dvs(x y:Int)(a:y≠0)(b:y.natAbs<1073741824):iY x y:=⟨a,zJ ((pV ⋯).mpr (show y.natAbs<2^30 from b)) ∅⟩
theorem dC{H H':Hp}{b:Addr}(s:Same H H')(h:H' b=none):H b=none:=by
 cases q:H b with
 |none=>rfl
 |some o=>rw[s _ _ q]at h;cases h
theorem MatD.app{H0 H c:Hp}{a l:Addr}{M:LM}{r:LI'}(h:MatD H0 H a M)(s:Same H c)(hl:H l=none)(D:H0 l=none)(e:c l=some (.lst (r.map V.int))):∃zs,c a=some (.lst zs)/\zs.length=M.length/\MatD H0 (upd c a (.lst (zs++[.ref l]))) a (M++[r]):=by
 obtain⟨ps,k,d,n,g⟩:=h;have f:l≠a:=λz=>by rw[z,k]at hl;cases hl
 refine⟨ps.map V.ref,s _ _ k,by rw[zqe,d],ps++[l],by rw[oP,xD];rfl,by simp[d],?_,λi p q e1 b=>?_⟩
 ·rw[qL];refine⟨n,by simp,λz u w C=>?_⟩;rw[pS.mp C];obtain⟨j,x,y⟩:=wO u;exact nY (g j z M[j] (by simp[x,y]) (by simp[show j<M.length by omega])).2.2 hl
 ·by_cases hi:i<ps.length
  ·rw[yD hi]at e1;rw[yD ⋯]at b;obtain⟨m,v,o⟩:=g i p q e1 b;exact⟨m,v,by rw[oT m];exact s _ _ o⟩
  ·have F:i=ps.length:=by have:=(zqa e1).1;simp at this;omega
   subst F;rw[zV (zE _)]at e1;rw[d,zV (zE _)]at b;simp at e1 b;subst e1 b;exact⟨f,D,by rw[oT f];exact e⟩
theorem MatD.nil{H0 H:Hp}{a:Addr}(e:H a=some (.lst [])):MatD H0 H a []:=⟨[],e,rfl,uY,λi p r e1=>by simp at e1⟩
theorem Xk{lo:Int}{n:Nat}{H:Hp}{a:Addr}{fr:List (Str×Nat)}{I:St}{te:TE}{Q:VK}(f:Nat->LI')(Z:H a=none)(F:n<=1000)
  (O:∀(i:Nat) b zs,i<n->Same H b->b a=some (.lst zs)->∀L:VK,(∀p d,Same b d->b p=none->d p=some (.lst ((f i).map V.int))->L (.ref p) d)->te (some (.int (lo+i)):: mI fr I) b L)
  (R:∀b,Same H b->MatD H b a ((List.range n).map f)->Q (.ref a) b):lO (Itr lo n) (nB 0) (tEl te) 1 fr I a H Q:=by
 refine Bu n (λi zs b=>∃ps:LA,zs=ps.map V.ref/\ps.length=i/\ps.Nodup/\∀(j:Nat)(p:Addr),ps[j]?=some p->p≠a/\H p=none/\b p=some (.lst ((f j).map V.int))) Z F ⟨[],rfl,rfl,uY,λj p e=>by simp at e⟩
  (λi zs b⟨ps,e,l,_⟩=>by rw[e,zqe,l];exact zE _) (λi zs b d⟨ps,e,l,n,q⟩s=>⟨ps,e,l,n,λj p e1=>⟨(q j p e1).1,(q j p e1).2.1,s _ _ (q j p e1).1 (q j p e1).2.2⟩⟩)
  (λi b hi s=>hi) (λb s=>zE _) ?_ ?_
 ·rintro i b zs hi m J ⟨ps,rfl,k,G,u⟩ ys x W Y N C S _;obtain⟨e1,v⟩:=N;subst e1 v
  match ys,Y with
  | [o],_ =>
   refine⟨⟨[_],rfl,rfl⟩,O i W _ hi m J _ λp d M y e=>S _ _ M ⟨ps++[p],by simp,by simp[k],?_,λj q c=>?_⟩⟩
   ·rw[qL];refine⟨G,by simp,λz F w X=>?_⟩;rw[pS.mp X];obtain⟨j,g,D⟩:=wO F;exact nY (u j z (by simp[g,D])).2.2 y
   ·by_cases g:j<ps.length
    ·rw[yD g]at c;obtain⟨a0,U,T⟩:=u j q c;exact⟨a0,U,M _ _ T⟩
    ·have D:j=ps.length:=by have:=(zqa c).1;simp at this;omega
     subst D;rw[zV (zE _)]at c;simp at c;subst c;rw[k];exact⟨yA (nY J y),dC m y,e⟩
 ·rintro b ys m e1 ⟨ps,rfl,k,G,u⟩;refine R b m ⟨ps,e1,by simp[k],G,λj p r v c=>?_⟩;have g:j<n:=by have:=(zqa v).1;omega
  rw[zI,yW g]at c;cases c;exact u j p v
theorem ok_q(T:Txt K mg t):FnOk P w K mg base CX0 1 t.a_q t.d_q ["_law_d"] sp_q:=by
 apply T.F_q.ok sc_q
 ·obtain⟨n,rfl,M,o⟩:=h;refine⟨_,(oO (oW (iJ (xs:=["_law_i"]) (fr:=[("_law_d",0)]) (g:=(nB 0)) (tt:=(tEl (mP (nU (nF (tVar 1) tNil)) (nB 0) (tEl (tCB (λxs H Q=>(∃i,xs=[.int i]/\Q (.int i) H)\/∃k,xs=[.bl k]/\Q (.int (if k then 1 else 0)) H) (nF (tOp (rI0 λi j=>.bl (decide (i=j))) (tVar 1) (tVar 0)) tNil))) 1 [("_law_i",0)]))) (kQ (sc:=oR aM) (N:=N_q) rfl rfl (nofun)) rfl (mF rfl T.z_range (oJ (pq 0) oK)) (λ_ _ _ a=>(fV (N:=["_law_i","_law_d"]) (i:=0) a rfl (nofun) rfl)) (λ_ _ _ a=>(jI (nT (N:=["_law_i","_law_d"]) (fr:=[("_law_i",0)]) (te:=(tCB (λxs H Q=>(∃i,xs=[.int i]/\Q (.int i) H)\/∃k,xs=[.bl k]/\Q (.int (if k then 1 else 0)) H) (nF (tOp (rI0 λi j=>.bl (decide (i=j))) (tVar 1) (tVar 0)) tNil))) a rfl (nofun) rfl (nofun) (mF rfl T.z_range (oJ (pv 1) oK)) (λ_ _ _ W=>(mB Fs rfl T.z_int (nofun) (oJ (jD lG (pv 1) (pv 0) (nD _)) oK))))))))),?_⟩;show tRet _ _ [some (.int n)] H;ext;refine nN λB eB=>?_;simp only[nU];ext;refine⟨⋯,⋯,λF d=>?_⟩;rw[zQ];refine Xk (λi=>(List.range n).map λk=>if i=k then(1:Int) else 0) d ⋯ ?_ λL p I=>o F L ⟨p,d,I⟩;intro i q zs hi U R J v;subst eB;show mP _ _ _ _ _ [some (.int (0+(i:Int))),some (.int n)] q J;refine nN λB eB=>?_;simp only[nU];ext;refine⟨⋯,⋯,λN c=>?_⟩;rw[zQ];refine kI (λk y _=>k<n/\y=.int (if i=k then 1 else 0)) c ⋯ (λ_ _ _ _ r _=>r) ?_ ?_
  ·intro k b S x f O C m;subst eB;show tCB _ _ [some (.int (0+(k:Int))),some (.int (0+(i:Int)))] b C;ext;refine .inr (m _ _ (Same.refl _) ⟨x,?_⟩)
   by_cases z:i=k
   ·rw[zF z,zP ⋯];rfl
   ·rw[zD z,zN ⋯];rfl
  ·intro b ys f G u l;have g:ys=((List.range n).map λk=>if i=k then(1:Int) else 0).map V.int:=by
    refine mK (by simpa using u) λj y e=>?_;obtain⟨D,rfl⟩:=l j y e;exact⟨_,by rw[zI,yW D];rfl,rfl⟩
   subst g;exact v _ _ f c G
theorem ok_m(T:Txt K mg t):FnOk P w K mg base CX0 1 t.a_m t.d_m po' (sp_m K):=by
 apply T.F_m.ok sc_m
 ·obtain⟨b1,b2,d3,c9,a,b,f,c,d,rfl,X,a3,u,L,c5,b5,c0,q⟩:=h;refine⟨_,(oM (oU (i:=2) sc_m.nd rfl (Or.inr rfl) (mL T.z_len (pq 0)))
   (oM (oU (i:=3) sc_m.nd rfl (Or.inl rfl) (nI oK))
   (oM (mQ yL rfl (mF rfl T.z_range (oJ (pq 2) oK)) (nX (i:=4) sc_m.nd rfl (Or.inr rfl))
   (oO (lU (jF yM yY yZ jG (pq 3) (oJ (iJ (xs:=["_law_k"]) (fr:=[("_law_one",0),("_law_other",1),("_law_d",2),("_law_i",4)]) (g:=(nB 0)) (tt:=(tEl (tCB (λxs H Q=>∃(p:Addr)(ns:LI'),xs=[.ref p]/\SqL K H p (ns.map V.int)/\Q (.int ns.sum) H) (nF (mP (nU (nF (tVar 3) tNil)) (nB 0) (tEl (tOp (rI (λi j=>IntMulOk i j) λi j=>.int (i*j)) (tOp (rIxB K) (tOp (rIxB K) (tVar 2) (tVar 4)) (tVar 0)) (tOp (rIxB K) (tOp (rIxB K) (tVar 3) (tVar 0)) (tVar 1)))) 1 [("_law_k",0),("_law_one",1),("_law_other",2),("_law_i",4)]) tNil)))) (kQ (sc:=oR aN) (N:=N_m) rfl rfl (nofun)) rfl (mF rfl T.z_range (oJ (pq 2) oK)) (λ_ _ _ I=>(fV (N:=["_law_k","_law_one","_law_other","_law_d","_law_i"]) (i:=0) I rfl (nofun) rfl)) (λ_ _ _ I=>(jI (lN (bP rfl) rfl T.z_sum (nofun) (oJ (nT (N:=["_law_k","_law_one","_law_other","_law_d","_law_i"]) (fr:=[("_law_k",0),("_law_one",1),("_law_other",2),("_law_i",4)]) (te:=(tOp (rI (λi j=>IntMulOk i j) λi j=>.int (i*j)) (tOp (rIxB K) (tOp (rIxB K) (tVar 2) (tVar 4)) (tVar 0)) (tOp (rIxB K) (tOp (rIxB K) (tVar 3) (tVar 0)) (tVar 1)))) I rfl (nofun) rfl (nofun) (mF rfl T.z_range (oJ (pv 3) oK)) (λ_ _ _ c6=>(oS nR (nQ ix_B (nQ ix_B (pv 2) (pv 4) (λ_ _=>rfl)) (pv 0) (λ_ _=>rfl)) (nQ ix_B (nQ ix_B (pv 3) (pv 0) (λ_ _=>rfl)) (pv 1) (λ_ _=>rfl))))) oK))))) oK)))))
   (oO (oW (pq 3)))))),?_⟩
  show tSeq _ _ _ [some (.ref a),some (.ref b),none,none,none] H;right;refine hX X ?_
  try ext
  rw[u.1];left;refine⟨yB _,λm O=>?_⟩;subst e1;refine st λN1 e1=>mT λG eB=>?_;simp only[nU];ext;have a7:Same H (upd H m (.lst [])):=Same.new O;refine⟨⋯,⋯,?_⟩;rw[zQ];refine iM (n:=d) (g:=nB 4) (tb:=G) (λi D g=>∃R,D=[some (.ref a),some (.ref b),some (.int d),some (.ref m),R]/\Same H g/\MatD H g m ((mulM d f c).take i)) ⟨_,rfl,a7,MatD.nil oP⟩ ?_ ?_
  ·rintro i D g hi ⟨R,rfl,l,n⟩;have z:f[i]?=some (f.getD i []):=by have:=u.1;simp[show i<f.length by omega]
   have c3:(f.getD i []).length=d:=u.2 _ (zqb z);have a1:=Qa (w:=d) (B:=c) z;subst eB;show Ea _ _ [some (.ref a),some (.ref b),some (.int d),some (.ref m),some (.int (0+(i:Int)))] g;ext;obtain⟨c7,b3⟩:∃zs,g m=some (.lst zs):=let ⟨ps,h,_⟩:=n;⟨_,h⟩
   refine⟨.inl ⟨rfl,_,SqL.of b3⟩,?_⟩;refine nN λG eB=>?_;simp only[nU];ext;refine⟨⋯,⋯,λd2 J=>?_⟩;rw[zQ];refine kI (len:=d) (λj y _=>j<d/\y=.int (dotI (f.getD i []) (colI j c))) J ⋯ (λ_ _ _ _ r _=>r) ?_ ?_
   ·intro j S zs M o c4 b7 a6;subst eB;show tCB _ _ [some (.int (0+(j:Int))),some (.ref a),some (.ref b),some (.int d),some (.int (0+(i:Int)))] S b7;ext;refine nN λG eB=>?_;simp only[nU];ext;refine⟨⋯,⋯,λZ a9=>?_⟩;rw[zQ];refine kI (len:=d) (λk y _=>∃x,(List.zipWith (·*·) (f.getD i []) (colI j c))[k]?=some x/\y=.int x) a9 ⋯ (λ_ _ _ _ r _=>r) ?_ ?_
    ·intro k U c8 d1 C c2 a8 a0;have v:c[k]?=some (c.getD k []):=by have:=L.1;simp[show k<c.length by omega]
     have d0:(c.getD k []).length=d:=L.2 _ (zqb v);have N:k<(f.getD i []).length:=⋯
     subst eB;show tOp _ _ _ [some (.int (0+(k:Int))),some (.int (0+(j:Int))),some (.ref a),some (.ref b),some (.int (0+(i:Int)))] U a8;ext;refine gW (((X.up l).up o).up C) z (L2.getD_at N) ⋯ ⋯ ?_;refine gW (((a3.up l).up o).up C) v (getD_at (k:=j) ⋯) ⋯ ⋯ ?_;ext;refine⟨yQ (nL (b5 _ (zqb z) _ (L2.getD_mem N))) (nL (c0 _ (zqb v) _ (L2.getD_mem ⋯))) ∅,a0 _ _ (Same.refl _) ⟨_,?_,rfl⟩⟩;have b9:(colI j c)[k]?=some ((c.getD k []).getD j 0):=by unfold colI;rw[zI,v];rfl
     rw[xY,L2.getD_at N,b9]
    ·intro U ys C b4 W Y;have F:ys=(List.zipWith (·*·) (f.getD i []) (colI j c)).map V.int:=by
      refine mK (by have:=L.1;simp only[zqe,List.length_zipWith,colI];omega) λk y e=>?_;obtain⟨x,b0,rfl⟩:=Y k y e;exact⟨x,b0,rfl⟩
     subst F;exact⟨Z,rfl,_,SqL.of b4,a6 _ _ C ⟨M,rfl⟩⟩
   ·intro S ys o b6 W a5;have F:ys=((List.range d).map λk=>dotI (f.getD i []) (colI k c)).map V.int:=by
     refine mK (by simpa using W) λj y e=>?_;obtain⟨M,rfl⟩:=a5 j y e;exact⟨_,by rw[zI,yW M];rfl,rfl⟩
    subst F;obtain⟨zs,b8,c1,a4⟩:=MatD.app n o J (dC l J) b6;refine⟨m,zs,_,rfl,rfl,b8,iH (by rw[c1,yK];omega),?_⟩;have a2:(mulM d f c).take (i+1)=(mulM d f c).take i++[(List.range d).map λk=>dotI (f.getD i []) (colI k c)]:=by rw[wD,a1];rfl
    refine⟨Same.over O (l.trans o),?_⟩;rw[a2];exact a4
  ·rintro D g ⟨R,rfl,l,n⟩;symm;rw[yT (by simp[mulM,u.1])]at n;exact q m g ⟨l,O,n⟩
theorem dvL(x y:Int)(a:y≠0)(b:y.natAbs<100000000000000000000000000000000000000000000000000000000000000000000000000000000000000000000000):iY x y:=⟨a,zJ ((pV ⋯).mpr (Nat.lt_trans b (show 100000000000000000000000000000000000000000000000000000000000000000000000000000000000000000000000<2^400 by decide +kernel))) ∅⟩
abbrev Box:=Int×Int×Int
def bxO(b:Box):HO:=.lst [.int b.1,.int b.2.1,.int b.2.2]
structure BxOk(B:Nat)(b:Box):Prop where
 x0:0<=b.1
 y0:0<=b.2.1
 y1:b.2.1<2147483647
 z0:0<=b.2.2
 z1:b.2.2<=B
theorem BxOk.le{b:Box}{B a:Nat}(h:BxOk B b)(l:B<=a):BxOk a b:=⟨h.x0,h.y0,h.y1,h.z0,by have:=h.z1;omega⟩
def tkN(b:Box):Int:=(b.2.1*48271+12347+(b.2.2+1)*7919+(b.2.2+1)*(b.2.2+1)*39373).fmod 2147483563
def tkV(b:Box)(many:Int):Int:=if 0<b.1 then b.1.fmod many else(((tkN b*tkN b).fmod 2147483549).fdiv 7).fmod many
def tkB(b:Box)(many:Int):Box:=if 0<b.1 then(b.1.fdiv many,b.2) else(b.1,b.2.1,b.2.2+1)
def bxF(ns:LI')(k:Nat):Box:=(if 1000000000000000000<=ns.getD k 0 then ns.getD k 0 else 0,(ns.getD k 0).fmod 2147483647,100*(k:Int))
def sp_11(K:Frag):Sp:=λvs H Q _=>E3 λ(p:Addr)(ns:LI')(k:Nat)=>A4 (vs=[.ref p,.int k]) (SqL K H p (ns.map V.int)) (k<=1000) (∀r H',Same H H'->H r=none->H' r=some (bxO (bxF ns k))->Q (.ref r) H')
def sp_1:Sp:=λvs H Q _=>E4 λ(a:Addr)(many:Int)(b:Box)(B:Nat)=>A7 (vs=[.ref a,.int many]) (H a=some (bxO b)) (BxOk B b) (B<=1000000) (1<=many) (many<100000000000000000000000000000000000000000000000000000000000000000000000000000000000000000000000) (∀H',(∀c,c≠a->H' c=H c)->H' a=some (bxO (tkB b many))->Q (.int (tkV b many)) H')
theorem Xj{x y:Int}(a:0<=x)(b:0<y):0<=x.fdiv y:=by
 rw[Int.fdiv_eq_ediv_of_nonneg _ ⋯];exact Int.ediv_nonneg a ⋯
theorem fms1(x y:Int)(h:0<y):0<=x.fmod y/\x.fmod y<y:=⟨uL x h,tX x h⟩
theorem m40{x y:Int}(a:x.natAbs<1099511627776)(b:y.natAbs<1099511627776):IntMulOk x y:=yQ (nL (B:=40) a) (nL (B:=40) b) ∅
theorem nM{b:Box}{B:Nat}{many:Int}(h:BxOk B b)(f:1<=many):(0<=tkV b many/\tkV b many<many)/\BxOk (B+1) (tkB b many):=by
 obtain⟨c,d,a,e,g⟩:=h;unfold tkV tkB;split
 ·exact⟨fms1 _ _ ⋯,⟨Xj c ⋯,d,a,e,by show b.2.2<=_;omega⟩⟩
 ·exact⟨fms1 _ _ ⋯,⟨c,d,a,by show 0<=b.2.2+1;omega,by show b.2.2+1<=_;omega⟩⟩
theorem jA{ns:LI'}{k:Nat}:BxOk (100*k) (bxF ns k):=by
 have f:=fms1 (ns.getD k 0) 2147483647 ∅;refine⟨?_,f.1,f.2,?_,?_⟩
 ·show 0<=(if 1000000000000000000<=ns.getD k 0 then ns.getD k 0 else 0);split <;> omega
 ·show 0<=100*(k:Int);omega
 ·show 100*(k:Int)<=_;omega
theorem ok_1(T:Txt K mg t):FnOk P w K mg base CX0 1 t.a_1 t.d_1 pk' sp_1:=by
 apply T.F_1.ok sc_1
 ·obtain⟨a,many,⟨x,y,z⟩,B,rfl,d,⟨k,l,m,j,n⟩,u,D,q,e⟩:=h;replace d:H a=some (.lst [.int x,.int y,.int z]):=d;replace k:0<=x:=k;replace l:0<=y:=l;replace m:y<2147483647:=m;replace j:0<=z:=j;replace n:z<=B:=n;refine⟨_,(oM (nK (nH bB (oX (pq 0)) oN (nD _))
   (oM (oU (i:=2) sc_1.nd rfl (Or.inl rfl) (oS kG (oX (pq 0)) (pq 1)))
   (oM (iV (oS iZ (oX (pq 0)) (pq 1)) (fO (pq 0) oN bI))
   (oO (oW (pq 2)))))
   nJ)
   (oM (iV (oS mJ (oX (pq 0)) oN) (fO (pq 0) oN bI))
   (oM (oU (i:=3) sc_1.nd rfl (Or.inl rfl) (oS mJ (oS mJ (oS nR (oX (pq 0)) oN) oN) (oS nR (oX (pq 0)) oN)))
   (oM (oU (i:=3) sc_1.nd rfl (Or.inl rfl) (oS kG (oS mJ (pq 3) (oS nR (oS nR (oX (pq 0)) (oX (pq 0))) oN)) oN))
   (oO (oW (oS kG (oS iZ (oS kG (oS nR (pq 3) (pq 3)) oN) oN) (pq 1)))))))),?_⟩
  show tSeq _ _ _ [some (.ref a),some (.int many),none,none] H;right;refine⟨false,a,_,_,_,rfl,rfl,SqB.lst d,rfl,?_⟩
  try ext
  refine ite2 (λc=>?_) (λc=>?_)
  ·have c:=xQ c;have i:tkV (x,y,z) many=x.fmod many:=zF c;have eB:tkB (x,y,z) many=(x.fdiv many,y,z):=zF c;rw[i,eB]at e;refine⟨false,a,_,_,_,rfl,rfl,SqB.lst d,rfl,?_⟩
   try ext
   refine⟨⋯,false,a,_,_,_,rfl,rfl,SqB.lst d,rfl,?_⟩
   try ext
   refine⟨dvL _ _ ⋯ ⋯,?_⟩;simp only[gSub,dN];ext;refine⟨_,d,0,rfl,?_⟩;exact e _ (λb g=>oT g) oP
  ·have c:¬ 0<x:=by simpa using c
   have i:tkV (x,y,z) many=(((tkN (x,y,z)*tkN (x,y,z)).fmod 2147483549).fdiv 7).fmod many:=zD c;have eB:tkB (x,y,z) many=(x,y,z+1):=zD c;rw[i,eB]at e;subst e1;refine st λN1 e1=>?_;simp only[tAsg,gSub,dN];ext;refine⟨false,a,_,_,_,rfl,rfl,SqB.lst d,rfl,?_⟩
   try ext
   refine⟨_,d,2,rfl,?_⟩;have o:∀b,b≠a->(upd H a (.lst [V.int x,V.int y,V.int (z+1)])) b=H b:=λb g=>oT g;have f:(upd H a (.lst [V.int x,V.int y,V.int (z+1)])) a=some (.lst [V.int x,V.int y,V.int (z+1)]):=oP;show N1 _ (upd H a (.lst [V.int x,V.int y,V.int (z+1)]));generalize upd H a (.lst [V.int x,V.int y,V.int (z+1)])=F at*
   left;refine⟨false,a,_,_,_,rfl,rfl,SqB.lst f,rfl,?_⟩
   try ext
   refine⟨m40 ⋯ ∅,false,a,_,_,_,rfl,rfl,SqB.lst f,rfl,?_⟩
   try ext
   refine⟨m40 ⋯ ∅,?_⟩;left;refine⟨false,a,_,_,_,rfl,rfl,SqB.lst f,rfl,false,a,_,_,_,rfl,rfl,SqB.lst f,rfl,?_⟩
   try ext
   have v:((z+1)*(z+1)).natAbs<1099511627776*2:=by
    rw[xA];have:(z+1).natAbs*(z+1).natAbs<=1000001*1000001:=xZ ⋯ ⋯;omega
   refine⟨m40 ⋯ ⋯,yQ (nL (B:=42) (show _<2^42 by omega)) (nL (B:=40) ∅) ∅,∅,?_⟩;have C:=fms1 (y*48271+12347+(z+1)*7919+(z+1)*(z+1)*39373) 2147483563 ∅;have p:tkN (x,y,z)=(y*48271+12347+(z+1)*7919+(z+1)*(z+1)*39373).fmod 2147483563:=rfl;rw[p]at e;generalize (y*48271+12347+(z+1)*7919+(z+1)*(z+1)*39373).fmod 2147483563=r at*
   symm;refine⟨m40 ⋯ ⋯,∅,dvs _ _ ∅ ∅,⋯,?_⟩;exact e _ o f
theorem Xi{H H':Hp}{b:Addr}(s:Same H H')(h:H' b=none):H b=none:=by
 cases e:H b with
 |none=>rfl
 |some o=>rw[s _ _ e]at h;cases h
theorem ok_11(T:Txt K mg t):FnOk P w K mg base CX0 1 t.a_11 t.d_11 pp' (sp_11 K):=by
 apply T.F_11.ok sc_11
 ·obtain⟨p,ns,k,rfl,L,Y,C⟩:=h;have y:SqB false K H p (ns.map V.int):=L;refine⟨_,(oM (oU (i:=2) sc_11.nd rfl (Or.inl rfl) (oS dO (bH sl_B (pq 0) (dM (pq 1)) (dM (oS mJ (pq 1) oN))) (nI (oJ oN oK))))
   (oM (nK (nH Nh (oX (pq 2)) (oS gP oN oN) (nD _))
   (oO (oW (nI (oJ (oX (pq 2)) (oJ (oS kG (oX (pq 2)) oN) (oJ (oS nR oN (pq 1)) oK))))))
   nJ)
   (oO (oW (nI (oJ oN (oJ (oS kG (oX (pq 2)) oN) (oJ (oS nR oN (pq 1)) oK)))))))),?_⟩
  show tSeq _ _ _ [some (.ref p),some (.int k),none] H;right;refine⟨false,p,_,rfl,y,(by intro z;cases z),λd R=>?_⟩;have D:=Same.new (o:=seqO false (cutV (ns.map V.int) (some (k:Int)) (some ((k:Int)+1)))) R;have J:(upd H d (seqO false (cutV (ns.map V.int) (some (k:Int)) (some ((k:Int)+1))))) d=some (.lst (cutV (ns.map V.int) (some (k:Int)) (some ((k:Int)+1)))):=oP;obtain⟨c,r,⟨U,F⟩,N⟩:∃(c:Int)(r:List V),(cutV (ns.map V.int) (some (k:Int)) (some ((k:Int)+1))++[V.int 0]=.int c:: r/\c=ns.getD k 0)/\(cutV (ns.map V.int) (some (k:Int)) (some ((k:Int)+1))).length<=1:=by
   rw[Bq,HT.sIx_nat,show(k:Int)+1=((k+1:Nat):Int) by omega,HT.sIx_nat];have l1:((ns.drop (min k ns.length)).take (min (k+1) ns.length-min k ns.length)).length<=1:=by
    rw[yK];omega
   have l2:((ns.drop (min k ns.length)).take (min (k+1) ns.length-min k ns.length)).getD 0 0=ns.getD k 0:=by
    rw[zqc,zqc]
    by_cases h:k<ns.length
    ·rw[uA ⋯,vJ,tU ⋯];rfl
    ·rw[wF (show ns.length<=k by omega),wF (by rw[yK];omega)]
   generalize (ns.drop (min k ns.length)).take (min (k+1) ns.length-min k ns.length)=l at l1 l2;cases l with
   |nil=>exact⟨0,[],⟨rfl,l2⟩,by simp⟩
   |cons c l=>exact⟨c,l.map V.int++[V.int 0],⟨rfl,l2⟩,by rw[zqe];exact l1⟩
  generalize cutV (ns.map V.int) (some (k:Int)) (some ((k:Int)+1))=v at*;generalize upd H d (seqO false v)=u at*
  refine⟨by show 1<=sizeLine;decide,λe W=>?_⟩;have o:=Same.new (o:=.lst [V.int 0]) W;have M:(upd u e (.lst [V.int 0])) e=some (.lst [V.int 0]):=oP;generalize upd u e (.lst [V.int 0])=n at*
  have X:2<=sizeLine:=∅
  refine⟨d,e,_,_,rfl,rfl,o _ _ J,M,yG (qT N) X,λa O=>?_⟩;rw[U];have S:=Same.new (o:=.lst (V.int c:: r)) O;have g:(upd n a (.lst (V.int c:: r))) a=some (.lst (V.int c:: r)):=oP;generalize upd n a (.lst (V.int c:: r))=m at*
  have i:=(D.trans o).trans S;left;have f:=fms1 c 2147483647 ∅;have a0:atI (V.int c:: r) 0=some (V.int c):=kC (k:=0) rfl rfl;refine⟨false,a,_,_,_,rfl,rfl,SqB.lst g,a0,⟨∅,∅,∅⟩,?_⟩
  try ext
  have ok:IntMulOk 100 (k:Int):=m40 ∅ ⋯;have j:∀(x:Int)(q:Addr),x=(if 1000000000000000000<=c then c else 0)->m q=none->Q (.ref q) (upd m q (.lst [V.int x,V.int (c.fmod 2147483647),V.int (100*(k:Int))])):=λx q G b=>C q _ (i.trans (Same.new b)) (Xi i b) (by
   rw[oP];unfold bxO bxF;rw[←F,←G])
  refine ite2 (λz=>?_) (λz=>?_)
  ·have z:=xQ z;have I:(10:Int)^Int.toNat 18=1000000000000000000:=nofun
   refine⟨false,a,_,_,_,rfl,rfl,SqB.lst g,a0,false,a,_,_,_,rfl,rfl,SqB.lst g,a0,?_⟩
   try ext
   exact⟨∅,ok,by show 3<=sizeLine;decide,λq b=>j c q (by rw[zF ⋯]) b⟩
  ·have z:¬ (10:Int)^Int.toNat 18<=c:=by simpa using z
   have I:(10:Int)^Int.toNat 18=1000000000000000000:=nofun
   symm;refine⟨false,a,_,_,_,rfl,rfl,SqB.lst g,a0,?_⟩
   try ext
   exact⟨∅,ok,by show 3<=sizeLine;decide,λq b=>j 0 q (by rw[zD ⋯]) b⟩
structure Rk(a:Addr)(H H':Hp)(r:Addr)(R:LM):Prop where
 k:KX a H H'
 n:H r=none
 m:MatD H H' r R
theorem fJ{a b:Addr}{H H':Hp}(k:KX a H H'){o:HO}(d:H' a=some o)(h:H' b=none):H b=none:=by
 cases e:H b with
 |none=>rfl
 |some c =>
  by_cases z:b=a
  ·rw[z,d]at h;cases h
  ·rw[k b c z e]at h;cases h
theorem KX.tk1{a:Addr}{H g d:Hp}(k:KX a H g)(o:∀c,c≠a->d c=g c):KX a H d:=λb x f e=>by rw[o b f];exact k b x f e
theorem Rk.of{a r:Addr}{H b d:Hp}{R:LM}{o:HO}(h:Rw b d r R)(k:KX a H b)(c:b a=some o):Rk a H d r R:=
 ⟨k.trans (KX.same h.s),fJ k c h.n,let ⟨ps,j,q,n,g⟩:=h.m;⟨ps,j,q,n,λi p r e1 f=>let ⟨e,m,l⟩:=g i p r e1 f;⟨e,fJ k c m,l⟩⟩⟩
theorem Rk.up{a r:Addr}{H c b:Hp}{R:LM}(h:Rk a H c r R)(s:Same c b):Rk a H b r R:=⟨h.k.trans (KX.same s),h.n,h.m.up s⟩
theorem Rk.tk{a r:Addr}{H b d:Hp}{R:LM}{o:HO}(h:Rk a H b r R)(j:H a=some o)(k:∀c,c≠a->d c=b c):Rk a H d r R:=by
 have f:∀{c},H c=none->c≠a:=λ{c}z q=>by rw[q,j]at z;cases z
 refine⟨h.k.tk1 k,h.n,?_⟩;obtain⟨ps,u,x,n,m⟩:=h.m;refine⟨ps,by rw[k _ (f h.n)];exact u,x,n,λi p r e1 l=>?_⟩;obtain⟨g,e,v⟩:=m i p r e1 l;exact⟨g,e,by rw[k _ (f e)];exact v⟩
def Drw(K:Frag)(H:Hp)(Q:VK)(a:Addr)(B:Nat)(P:LM->Prop):Prop:=∀r H' R b',Rk a H H' r R->H' a=some (bxO b')->BxOk (B+100) b'->P R->Q (.ref r) H'
def sp_v(K:Frag):Sp:=λvs H Q _=>∃(a:Addr)(d:Nat)(b:Box)(B:Nat),vs=[.ref a,.int d]/\H a=some (bxO b)/\BxOk B b/\B<=900000/\(d=2\/d=3)/\Drw K H Q a B λR=>R∈pgL (if d=2 then 1 else 3)
def sp_h(K:Frag):Sp:=λvs H Q _=>∃(a:Addr)(d:Nat)(b:Box)(B:Nat),vs=[.ref a,.int d]/\H a=some (bxO b)/\BxOk B b/\B<=900000/\(d=2\/d=3)/\Drw K H Q a B λR=>R∈pgL (if d=2 then 0 else 2)
def sp_15(K:Frag):Sp:=λvs H Q _=>∃(a:Addr)(so:Int)(d:Nat)(b:Box)(B:Nat),vs=[.int so,.ref a,.int d]/\H a=some (bxO b)/\BxOk B b/\B<=900000/\(d=2\/d=3)/\0<=so/\Drw K H Q a B λR=>R∈pgL (famK so d)
theorem Et{H d e k:Hp}{c b p:Addr}{r1 r2:LI'}(x:H c=none)(e1:d=upd H c (.lst (r1.map V.int)))(o:d b=none)(v:e=upd d b (.lst (r2.map V.int)))(j:e p=none)(y:k=upd e p (.lst [.ref c,.ref b])):Rw H k p [r1,r2]:=by
 have l:Same H d:=e1 ▸ Same.new x;have g:Same d e:=v ▸ Same.new o;have n:Same e k:=y ▸ Same.new j;have m:d c=some (.lst (r1.map V.int)):=by rw[e1,oP]
 have u:e b=some (.lst (r2.map V.int)):=by rw[v,oP]
 have z:k p=some (.lst [.ref c,.ref b]):=by rw[y,oP]
 refine⟨(l.trans g).trans n,dC (l.trans g) j,[c,b],z,rfl,?_,λi q r a f=>?_⟩
 ·simp only[List.nodup_cons,List.mem_singleton,List.not_mem_nil,not_false_eq_true,List.nodup_nil,and_true];exact nY m o
 ·match i,a,f with
  |0,a,f=>cases a;cases f;exact⟨nY (g _ _ m) j,x,n _ _ (g _ _ m)⟩
  |1,a,f=>cases a;cases f;exact⟨nY u j,dC l o,n _ _ u⟩
  |i+2,a,f=>simp at a
theorem As{k:Nat}(c:k<4){R:LM}(b:R∈pgL k):nS 1500 R:=λr hr z a=>wX ((jZ c).wee R b r hr z a) (Nat.one_lt_two_pow ∅)
def Es(R:LM)(z:Int):LM:=[R.getD 0 []++[0],R.getD 1 []++[0],[0,0,z]]
theorem Xh:(pgL 1).all (λR=>(pgL 3).contains (Es R 1) && (pgL 3).contains (Es R (-1)))=true:=nofun
theorem Xg{R:LM}(h:R∈pgL 1){z:Int}(a:z=1\/z=-1):Es R z∈pgL 3:=by
 have:=vE.mp Xh R h;rw[zR,sW,sW]at this;rcases a with rfl|rfl
 ·exact this.1
 ·exact this.2
theorem rk3{a r e f d:Addr}{H g:Hp}{r1 r2 j:LI'}(k:KX a H g)(n:H r=none)(y:g r=some (.lst [.ref e,.ref f,.ref d]))(m:H e=none)(u:H f=none)(o:H d=none)(e1:g e=some (.lst (r1.map V.int)))(D:g f=some (.lst (r2.map V.int)))(z:g d=some (.lst (j.map V.int)))
  (l:e≠r)(v:f≠r)(C:d≠r)(F:e≠f)(x:e≠d)(G:f≠d):Rk a H g r [r1,r2,j]:=by
 refine⟨k,n,[e,f,d],y,rfl,by simp[F,x,G],λi p q b c=>?_⟩
 match i,b,c with
 |0,b,c=>cases b;cases c;exact⟨l,m,e1⟩
 |1,b,c=>cases b;cases c;exact⟨v,u,D⟩
 |2,b,c=>cases b;cases c;exact⟨C,o,z⟩
 |i+3,b,c=>simp at b
theorem ok_v(T:Txt K mg t):FnOk P w K mg base CX0 2 t.a_v t.d_v pn' (sp_v K):=by
 apply T.F_v.ok sc_v
 ·obtain⟨c,d,b,B,rfl,a5,e6,h8,g3,c3⟩:=h;refine⟨_,(oM (oU (i:=2) sc_v.nd rfl (Or.inl rfl) (nI (oJ (nI (oJ oN (oJ oN oK))) (oJ (nI (oJ oN (oJ oN oK))) oK))))
   (oM (mQ yL rfl (mF rfl T.z_range (oJ (oQ (ok_1 T) hr.mo T.F_1 (oJ (pq 0) (oJ oN oK))) oK)) (nX (i:=3) sc_v.nd rfl (Or.inl rfl))
   (oO (oU (i:=2) sc_v.nd rfl (Or.inl rfl) (oQ (ok_m T) hr.mo T.F_m (oJ (nI (oJ (nI (oJ oN (oJ (gO gQ oN) oK))) (oJ (nI (oJ oN (oJ oN oK))) oK))) (oJ (pq 2) oK))))))
   (oM (nK (nH lG (oQ (ok_1 T) hr.mo T.F_1 (oJ (pq 0) (oJ oN oK))) oN (nD _))
   (oO (oU (i:=2) sc_v.nd rfl (Or.inl rfl) (oQ (ok_m T) hr.mo T.F_m (oJ (nI (oJ (nI (oJ oN (oJ oN oK))) (oJ (nI (oJ oN (oJ oN oK))) oK))) (oJ (pq 2) oK)))))
   nJ)
   (oM (nK (nH lG (pq 1) oN (nD _))
   (oO (oW (pq 2)))
   nJ)
   (oO (oW (nI (oJ (oS dO (oX (pq 2)) (nI (oJ oN oK))) (oJ (oS dO (oX (pq 2)) (nI (oJ oN oK))) (oJ (nI (oJ oN (oJ oN (oJ (oS kO oN (oS nR oN (oQ (ok_1 T) hr.mo T.F_1 (oJ (pq 0) (oJ oN oK))))) oK)))) oK)))))))))),?_⟩
  show tSeq _ _ _ [some (.ref c),some (.int d),none,none] H;have l:=jZ (show 1<4 by decide);right;refine⟨by show 2<=sizeLine;decide,λd9 N=>⟨by show 2<=sizeLine;decide,λc6 S=>⟨by show 2<=sizeLine;decide,λp O=>?_⟩⟩⟩;have e3:=Et (r1:=[1,0]) (r2:=[0,1]) N rfl S rfl O rfl;generalize hH1:upd (upd (upd H d9 (.lst [.int 1,.int 0])) c6 (.lst [.int 0,.int 1])) p (.lst [.ref d9,.ref c6])=e2;have b5:Rw H e2 p [[1,0],[0,1]]:=hH1 ▸ e3;have f4:=b5.s _ _ a5;have g6:Rk c H e2 p [[1,0],[0,1]]:=Rk.of b5 (λ_ _ _ e=>e) a5;clear b5;have f8:[[1,0],[0,1]]∈pgL 1:=by rw[←id2];exact l.one
  clear e3 N S O hH1;subst e1;refine st λN1 e1=>mT λh2 eB=>?_;simp only[nU];ext;refine⟨c,6,b,B,rfl,f4,e6,⋯,∅,∅,λh4 f0 f6=>?_⟩;obtain⟨i0,c4⟩:=nM (many:=6) e6 ∅;have g5:=g6.tk a5 f0;generalize tkB b 6=b1 at*
  generalize tkV b 6=h5 at*
  try ext
  refine⟨⋯,⋯,?_⟩;refine iM (g:=nB 3) (tb:=h2) (λ_ b8 J=>∃(r:Addr)(R:LM)(v:Option V),b8=[some (.ref c),some (.int d),some (.ref r),v]/\Rk c H J r R/\R∈pgL 1/\J c=some (bxO b1)) ⟨p,_,none,rfl,g5,f8,f6⟩ ?_ ?_
  ·rintro k b8 J h7 ⟨r,R,v,rfl,a4,x,b3⟩;subst eB;show tAsg _ _ _ [some (.ref c),some (.int d),some (.ref r),some (.int (0+(k:Int)))] J;ext;refine⟨by show 2<=sizeLine;decide,λf N=>⟨by show 2<=sizeLine;decide,λW S=>⟨by show 2<=sizeLine;decide,λq O=>?_⟩⟩⟩;have c1:=Et (r1:=[1,-1]) (r2:=[1,0]) N rfl S rfl O rfl;generalize hH3:upd (upd (upd J f (.lst [.int 1,.int (-1)])) W (.lst [.int 1,.int 0])) q (.lst [.ref f,.ref W])=g;have l1:Rw J g q [[1,-1],[1,0]]:=hH3 ▸ c1;have mg:[[1,-1],[1,0]]∈pgL 1:=l.gen _ ∅;have m:=a4.up l1.s;refine⟨false,false,false,false,q,r,_,_,2,rfl,l1.m.l.b,m.m.l.b,l.sq _ mg,l.sq _ x,.inl rfl,As ∅ mg,As ∅ x,λc8 a1 U=>?_⟩;have i:=l1.s _ _ b3;exact⟨c8,rfl,_,Rk.of U m.k i,l.mul _ mg _ x,U.s _ _ i⟩
  ·rintro b8 J ⟨r,R,v,rfl,a4,x,b3⟩;subst e1;refine st λd4 b7=>?_;have nx:∀g m a6 L,Rk c H g m a6->a6∈pgL 1->g c=some (bxO L)->BxOk (B+2) L->d4 [some (.ref c),some (.int d),some (.ref m),v] g:=by
    intro g m a6 L X c0 i b9;subst b7;refine st λd4 b7=>?_;ext;rcases g3 with rfl|rfl
    ·rw[zP ∅];refine iteT ?_;exact c3 m g a6 L X i (b9.le ⋯) c0
    ·rw[zN ∅];refine iteF ?_;subst b7;ext;obtain⟨ps,k1,k2,k3,d3⟩:=X.m;obtain⟨a,b,I,F,rfl⟩:=sq2 (l.sq _ c0);obtain⟨D,f,rfl⟩:∃D f,ps=[D,f]:=by
      match ps,k2 with
      |[D,f],_=>exact⟨D,f,rfl⟩
     have h0:g D=some (.lst [.int a,.int b]):=(d3 0 D _ rfl rfl).2.2;have e8:g f=some (.lst [.int I,.int F]):=(d3 1 f _ rfl rfl).2.2;refine jL (i:=0) k1 rfl rfl ⟨by show 1<=sizeLine;decide,λb4 e9=>?_⟩;have j:=Same.new (o:=.lst [V.int 0]) e9;have e7:(upd g b4 (.lst [.int 0])) b4=some (.lst [V.int 0]):=oP;generalize upd g b4 (.lst [.int 0])=a1 at j e7;refine⟨D,b4,_,_,rfl,rfl,j _ _ h0,e7,by show 3<=sizeLine;decide,λn b0=>?_⟩;have C:=Same.new (o:=.lst ([V.int a,.int b]++[.int 0])) b0;have a9:(upd a1 n (.lst ([V.int a,.int b]++[.int 0]))) n=some (.lst ([a,b,0].map V.int)):=oP;generalize upd a1 n (.lst ([V.int a,.int b]++[.int 0]))=d8 at C a9;refine jL (i:=1) (C _ _ (j _ _ k1)) rfl rfl ⟨by show 1<=sizeLine;decide,λa3 g9=>?_⟩;have y:=Same.new (o:=.lst [V.int 0]) g9;have c5:(upd d8 a3 (.lst [.int 0])) a3=some (.lst [V.int 0]):=oP;generalize upd d8 a3 (.lst [.int 0])=d0 at y c5;refine⟨f,a3,_,_,rfl,rfl,y _ _ (C _ _ (j _ _ e8)),c5,by show 3<=sizeLine;decide,λo M=>?_⟩;have b6:=Same.new (o:=.lst ([V.int I,.int F]++[.int 0])) M;have d6:(upd d0 o (.lst ([V.int I,.int F]++[.int 0]))) o=some (.lst ([I,F,0].map V.int)):=oP;generalize upd d0 o (.lst ([V.int I,.int F]++[.int 0]))=f9 at b6 d6;have c2:=((j.trans C).trans y).trans b6;have g1:=c2 _ _ i;refine⟨c,2,L,B+2,rfl,g1,b9,⋯,∅,∅,λa2 ok c9=>?_⟩;obtain⟨h9,g2⟩:=nM (many:=2) b9 ∅;generalize tkB L 2=h1 at*
     generalize tkV L 2=v2 at*
     try ext
     have h3:KX c H f9:=X.k.trans (KX.same c2);have e4:=h3.tk1 ok;have g4:n≠c:=λq=>by rw[q,j _ _ i]at b0;cases b0
     have f3:o≠c:=λq=>by rw[q,y _ _ (C _ _ (j _ _ i))]at M;cases M
     have g8:H n=none:=fJ (X.k.trans (KX.same j)) (j _ _ i) b0;have f5:H o=none:=fJ (X.k.trans (KX.same ((j.trans C).trans y))) (y _ _ (C _ _ (j _ _ i))) M;have Z:a2 n=some (.lst ([a,b,0].map V.int)):=by rw[ok _ g4];exact b6 _ _ (y _ _ a9)
     have Y:a2 o=some (.lst ([I,F,0].map V.int)):=by rw[ok _ f3];exact d6
     have f2:n≠o:=λq=>by rw[q]at a9;rw[y _ _ a9]at M;cases M
     refine⟨tK ∅,by show 3<=sizeLine;decide,λG a7=>⟨by show 3<=sizeLine;decide,λr u=>?_⟩⟩;have z:=Same.new (o:=.lst [V.int 0,.int 0,.int (1-2*v2)]) a7;have a8:(upd a2 G (.lst [.int 0,.int 0,.int (1-2*v2)])) G=some (.lst ([0,0,1-2*v2].map V.int)):=oP;have g0:n≠G:=λq=>by rw[q,a7]at Z;cases Z
     have f7:o≠G:=λq=>by rw[q,a7]at Y;cases Y
     have f1:H G=none:=fJ e4 c9 a7;generalize upd a2 G (.lst [.int 0,.int 0,.int (1-2*v2)])=h6 at z a8 u ⊢;have a0:=Same.new (o:=.lst [V.ref n,.ref o,.ref G]) u;have d2:=e4.trans (KX.same z);have d7:=z _ _ c9;have g7:Rk c H _ r [[a,b,0],[I,F,0],[0,0,1-2*v2]]:=rk3 (d2.trans (KX.same a0)) (fJ d2 d7 u) oP g8 f5 f1 (a0 _ _ (z _ _ Z)) (a0 _ _ (z _ _ Y)) (a0 _ _ a8)
      (λq=>by rw[q]at Z;rw[z _ _ Z]at u;cases u) (λq=>by rw[q]at Y;rw[z _ _ Y]at u;cases u) (λq=>by rw[q]at a8;rw[a8]at u;cases u) f2 g0 f7
     exact c3 r _ _ h1 g7 (a0 _ _ d7) (g2.le ⋯) (Xg c0 (z:=1-2*v2) ⋯)
   ext;refine⟨c,2,b1,B+1,rfl,b3,c4,⋯,∅,∅,λe5 e0 d1=>?_⟩;obtain⟨_,c7⟩:=nM (many:=2) c4 ∅;have d5:=a4.tk a5 e0;generalize tkB b1 2=b2 at*
   generalize tkV b1 2=v2 at*;clear a4 b3 e0
   try ext
   refine ite2 (λ_=>?_) (λ_=>nx _ _ _ _ d5 x d1 c7);refine⟨by show 2<=sizeLine;decide,λf N=>⟨by show 2<=sizeLine;decide,λW S=>⟨by show 2<=sizeLine;decide,λq O=>?_⟩⟩⟩;have c1:=Et (r1:=[0,1]) (r2:=[1,0]) N rfl S rfl O rfl;generalize hH3:upd (upd (upd e5 f (.lst [.int 0,.int 1])) W (.lst [.int 1,.int 0])) q (.lst [.ref f,.ref W])=g;have l1:Rw e5 g q [[0,1],[1,0]]:=hH3 ▸ c1;have mg:[[0,1],[1,0]]∈pgL 1:=l.gen _ ∅;have m:=d5.up l1.s;have i:=l1.s _ _ d1;exact⟨false,false,false,false,q,r,_,_,2,rfl,l1.m.l.b,m.m.l.b,l.sq _ mg,l.sq _ x,.inl rfl,As ∅ mg,As ∅ x,λc8 a1 U=>nx _ _ _ _ (Rk.of U m.k i) (l.mul _ mg _ x) (U.s _ _ i) c7⟩
def cU(d x:Nat)(s:Int):LI':=(List.range d).map λj=>s*(if j=x then 1 else 0)
def sgR(d:Nat):List (Nat×Int)->List Nat->LM
 |[],_=>[]
 |(c,s):: r,l=>cU d (l.getD c 0) s:: sgR d r (l.eraseIdx c)
def sgL:List (Nat×Int)->List Nat->List Nat
 |[],l=>l
 |(c,_):: r,l=>sgL r (l.eraseIdx c)
theorem Lk{d:Nat}{x:Nat×Int}:∀{r:List (Nat×Int)}{l:List Nat},sgR d (r++[x]) l=sgR d r l++[cU d ((sgL r l).getD x.1 0) x.2]/\sgL (r++[x]) l=(sgL r l).eraseIdx x.1
 |[],_=>⟨rfl,rfl⟩
 |(c,s):: r,l=>by
  obtain⟨a,b⟩:=Lk (d:=d) (x:=x) (r:=r) (l:=l.eraseIdx c);exact⟨by show _:: sgR d (r++[x]) _=_;rw[a];rfl,b⟩
theorem Lj{d:Nat}:∀{r:List (Nat×Int)}{l:List Nat},(sgR d r l).length=r.length
 |[],_=>rfl
 |(c,s):: r,l=>by show(sgR d r _).length+1=_;rw[Lj];rfl
def Chs:Nat->List (Nat×Int)->Prop
 |_,[]=>True
 |m,(c,s):: r=>c<m/\(s=1\/s=-1)/\Chs (m-1) r
theorem Li{x:Nat×Int}:∀{r:List (Nat×Int)}{m:Nat},Chs m r->x.1<m-r.length->(x.2=1\/x.2=-1)->Chs m (r++[x])
 |[],m,_,d,e=>⟨by simpa using d,e,trivial⟩
 |(c,s):: r,m,⟨a,b,k⟩,d,e=>⟨a,b,Li k (by rw[zU]at d;omega) e⟩
theorem Lh:∀{r:List (Nat×Int)}{l:List Nat},Chs l.length r->r.length<=l.length->(sgL r l).length=l.length-r.length
 |[],_,_,_=>rfl
 |(c,s):: r,l,⟨a,_,k⟩,h=>by
  have e:(l.eraseIdx c).length=l.length-1:=List.length_eraseIdx_of_lt a;rw[zU]at h ⊢;show(sgL r (l.eraseIdx c)).length=_;rw[Lh (by rw[e];exact k) (by rw[e];omega),e];omega
def allC:Nat->Nat->List (List (Nat×Int))
 |0,_=>[[]]
 |n+1,m=>(List.range m).flatMap λc=>[1,-1].flatMap λs=>(allC n (m-1)).map λr=>(c,s):: r
theorem Er:∀{n m:Nat}{r:List (Nat×Int)},Chs m r->r.length=n->r∈allC n m
 |0,_,[],_,_=>.head _
 |n+1,m,(c,s):: r,⟨a,b,k⟩,h=>List.mem_flatMap.mpr ⟨c,oC.mpr a,List.mem_flatMap.mpr ⟨s,by rcases b with rfl|rfl <;> decide,pZ.mpr ⟨r,Er k (by simpa using h),rfl⟩⟩⟩
theorem Xf:(allC 2 2).all (λr=>(pgL 0).contains (sgR 2 r (List.range 2)))=true:=nofun
theorem Xe:(allC 3 3).all (λr=>(pgL 2).contains (sgR 3 r (List.range 3)))=true:=nofun
theorem Xd{d:Nat}(a:d=2\/d=3){r:List (Nat×Int)}(h:Chs d r)(hl:r.length=d):sgR d r (List.range d)∈pgL (if d=2 then 0 else 2):=by
 rcases a with rfl|rfl
 ·exact sW.mp (vE.mp Xf r (Er h hl))
 ·exact sW.mp (vE.mp Xe r (Er h hl))
theorem ok_h(T:Txt K mg t):FnOk P w K mg base CX0 2 t.a_h t.d_h pn' (sp_h K):=by
 apply T.F_h.ok sc_h
 ·obtain⟨f,d,b,b1,rfl,Z,f8,g2,e9,d2⟩:=h;refine⟨_,(oM (oU (i:=2) sc_h.nd rfl (Or.inl rfl) (Rn rfl rfl T.z_list rfl T.z_range (oJ (pq 1) oK)))
   (oM (oU (i:=3) sc_h.nd rfl (Or.inl rfl) (nI oK))
   (oM (mQ yL rfl (mF rfl T.z_range (oJ (pq 1) oK)) (nX (i:=4) sc_h.nd rfl (Or.inl rfl))
   (oM (oU (i:=5) sc_h.nd rfl (Or.inr rfl) (jF yM PySem.F.slot_list_pop PySem.F.type_list_pop Pq (pq 2) (oJ (oQ (ok_1 T) hr.mo T.F_1 (oJ (pq 0) (oJ (mL T.z_len (pq 2)) oK))) oK)))
   (oM (oU (i:=6) sc_h.nd rfl (Or.inr rfl) (oS kO oN (oS nR oN (oQ (ok_1 T) hr.mo T.F_1 (oJ (pq 0) (oJ oN oK))))))
   (oO (lU (jF yM yY yZ jG (pq 3) (oJ (nT (sc:=oR aO) (N:=N_h) (fr:=[("_law_at",5),("_law_sign",6)]) (te:=(tOp (rI (λi j=>IntMulOk i j) λi j=>.int (i*j)) (tVar 2) (tCB (λxs H Q=>(∃i,xs=[.int i]/\Q (.int i) H)\/∃k,xs=[.bl k]/\Q (.int (if k then 1 else 0)) H) (nF (tOp (rI0 λi j=>.bl (decide (i=j))) (tVar 0) (tVar 1)) tNil)))) rfl rfl (nofun) rfl (nofun) (mF rfl T.z_range (oJ (pq 1) oK)) (λ_ _ _ g3=>(oS nR (pv 2) (mB Fs rfl T.z_int (nofun) (oJ (jD lG (pv 0) (pv 1) (nD _)) oK))))) oK)))))))
   (oO (oW (pq 3)))))),?_⟩
  show tSeq _ _ _ [some (.ref f),some (.int d),none,none,none,none,none] H;right;refine⟨d,rfl,⋯,λl hl=>?_⟩;have S:Same H (upd H l (.lst ((List.range d).map λ(i:Nat)=>V.int (i:Int)))):=Same.new hl;have R:(upd H l (.lst ((List.range d).map λ(i:Nat)=>V.int (i:Int)))) l=some (.lst ((List.range d).map λ(i:Nat)=>V.int (i:Int))):=oP;have b6:l≠f:=λz=>by rw[z,Z]at hl;cases hl
  show N1 _ (upd H l (.lst ((List.range d).map λ(i:Nat)=>V.int (i:Int))));generalize upd H l (.lst ((List.range d).map λ(i:Nat)=>V.int (i:Int)))=v at S R ⊢;have a0:=S _ _ Z;left;refine⟨yB _,λm O=>?_⟩;have a8:Same v (upd v m (.lst [])):=Same.new O;have d0:(upd v m (.lst [])) m=some (.lst []):=oP;have c6:l≠m:=λz=>by rw[z,O]at R;cases R
  have b5:m≠f:=λz=>by rw[z,a0]at O;cases O
  generalize upd v m (.lst [])=g5 at a8 d0;subst e1;refine st λN1 e1=>mT λf7 eB=>?_;simp only[nU];ext;refine⟨⋯,⋯,?_⟩;rw[zQ];refine iM (g:=nB 4) (tb:=f7) (λi b0 D=>∃(r:List (Nat×Int))(b3 X a1:Option V)(x:Box),b0=[some (.ref f),some (.int d),some (.ref l),some (.ref m),b3,X,a1]/\(∀b o,b≠l->b≠f->v b=some o->D b=some o)/\D l=some (.lst ((sgL r (List.range d)).map λ(i:Nat)=>V.int (i:Int)))/\MatD v D m (sgR d r (List.range d))/\Chs d r/\r.length=i/\D f=some (bxO x)/\BxOk (b1+2*i) x)
   ⟨[],none,none,none,b,rfl,λb o _ _ e=>a8 _ _ e,a8 _ _ R,MatD.nil d0,trivial,rfl,a8 _ _ a0,f8⟩ ?_ ?_
  ·rintro i b0 D hi ⟨r,b3,X,a1,x,rfl,k3,U,a4,Y,rfl,a3,a2⟩;have f1:(sgL r (List.range d)).length=d-r.length:=by
    have:=Lh (r:=r) (l:=List.range d) (by rw[uS];exact Y) (by rw[uS];omega);rw[uS]at this;exact this
   generalize hL:sgL r (List.range d)=L at*;subst eB;show tSeq _ _ _ [some (.ref f),some (.int d),some (.ref l),some (.ref m),some (.int (0+(r.length:Int))),X,a1] D;refine st λe4 a9=>?_;ext;refine⟨.inl ⟨rfl,_,SqL.of U⟩,?_⟩;refine⟨false,l,_,rfl,SqB.lst U,?_⟩
   try ext
   rw[zqe,f1];refine⟨f,((d-r.length:Nat):Int),x,b1+2*r.length,rfl,a3,a2,⋯,⋯,⋯,λG ok e8=>?_⟩;obtain⟨d4,c3⟩:=nM (many:=((d-r.length:Nat):Int)) a2 ⋯;generalize tkB x ((d-r.length:Nat):Int)=a7 at*
   generalize tkV x ((d-r.length:Nat):Int)=d3 at*;have c8:G l=some (.lst (L.map λ(i:Nat)=>V.int (i:Int))):=by rw[ok _ b6];exact U
   have c4:∀b o,b≠l->b≠f->v b=some o->G b=some o:=λb o u n e=>by rw[ok b n];exact k3 b o u n e
   have b9:MatD v G m (sgR d r (List.range d)):=by
    obtain⟨ps,u,n,I,M⟩:=a4;refine⟨ps,by rw[ok m b5];exact u,n,I,λj p q a b=>?_⟩;obtain⟨J,g,F⟩:=M j p q a b;exact⟨J,g,by rw[ok p (λz=>by rw[z,a0]at g;cases g)];exact F⟩
   clear a4 k3 U ok a3;obtain⟨c,f4⟩:∃c:Nat,d3=c:=⟨_,(Int.toNat_of_nonneg d4.1).symm⟩;subst f4;have e6:c<L.length:=⋯
   refine⟨l,_,_,c,.int ((L.getD c 0:Nat):Int),rfl,rfl,c8,⋯,⋯,?_,?_,?_⟩
   ·rw[pI ⋯ (by rw[zqe];omega)];rfl
   ·rw[zI,zqc,zqd e6];rfl
   have e5:(L.map λ(i:Nat)=>V.int (i:Int)).eraseIdx c=(L.eraseIdx c).map λ(i:Nat)=>V.int (i:Int):=Jz _ _ _;rw[e5];have N:∀b,b≠l->upd G l (.lst ((L.eraseIdx c).map λ(i:Nat)=>V.int (i:Int))) b=G b:=λb Z=>oT Z;have b4:upd G l (.lst ((L.eraseIdx c).map λ(i:Nat)=>V.int (i:Int))) l=some (.lst ((L.eraseIdx c).map λ(i:Nat)=>V.int (i:Int))):=oP;generalize upd G l (.lst ((L.eraseIdx c).map λ(i:Nat)=>V.int (i:Int)))=b8 at N b4;have d1:MatD v b8 m (sgR d r (List.range d)):=by
    obtain⟨ps,u,n,I,M⟩:=b9;refine⟨ps,by rw[N m (yA c6)];exact u,n,I,λj p q a b=>?_⟩;obtain⟨J,g,F⟩:=M j p q a b;exact⟨J,g,by rw[N p (λz=>by rw[z,R]at g;cases g)];exact F⟩
   have c7:b8 f=some (bxO a7):=by rw[N f (yA b6)];exact e8
   subst a9;refine st λe4 a9=>?_;ext;refine⟨f,2,a7,b1+2*r.length+1,rfl,c7,c3,⋯,∅,∅,λa5 ok c0=>?_⟩;obtain⟨g6,f6⟩:=nM (many:=2) c3 ∅;generalize tkB a7 2=d5 at*
   generalize tkV a7 2=v2 at*
   try ext
   refine⟨tK ∅,?_⟩;have c2:a5 l=some (.lst ((L.eraseIdx c).map λ(i:Nat)=>V.int (i:Int))):=by rw[ok _ b6];exact b4
   have c9:∀b o,b≠l->b≠f->v b=some o->a5 b=some o:=λb o u n e=>by rw[ok b n,N b u];exact c4 b o u n e
   have c1:MatD v a5 m (sgR d r (List.range d)):=by
    obtain⟨ps,u,n,I,M⟩:=d1;refine⟨ps,by rw[ok m b5];exact u,n,I,λj p q a b=>?_⟩;obtain⟨J,g,F⟩:=M j p q a b;exact⟨J,g,by rw[ok p (λz=>by rw[z,a0]at g;cases g)];exact F⟩
   clear d1 b9 c4 N b4 ok c7 c8;have sg:1-2*v2=1\/1-2*v2=-1:=⋯
   generalize 1-2*v2=sn at*;subst a9;ext;obtain⟨g4,e3⟩:∃zs,a5 m=some (.lst zs):=let ⟨ps,h,_⟩:=c1;⟨_,h⟩
   refine⟨.inl ⟨rfl,_,SqL.of e3⟩,?_⟩;refine nN λB eB=>?_;simp only[nU];ext;refine⟨⋯,⋯,λa6 C=>?_⟩;rw[zQ];refine kI (λj y _=>j<d/\y=.int (sn*(if j=L.getD c 0 then 1 else 0))) C ⋯ (λ_ _ _ _ r _=>r) ?_ ?_
   ·intro j c5 zs b7 W g1 e7 e2;subst eB;show tOp _ _ _ [some (.int (0+(j:Int))),some (.int ((L.getD c 0:Nat):Int)),some (.int sn)] c5 e7;ext;refine .inr ⟨(show CMul _ _ from .inl ⟨⋯,⋯⟩).ok,e2 _ _ (Same.refl _) ⟨b7,?_⟩⟩
    by_cases z:j=L.getD c 0
    ·rw[zF z,zP ⋯];rfl
    ·rw[zD z,zN ⋯];rfl
   ·intro c5 ys W f3 e0 f2;have d6:ys=(cU d (L.getD c 0) sn).map V.int:=by
     refine mK (by simpa [cU]using e0) λj y e=>?_;obtain⟨b7,rfl⟩:=f2 j y e;exact⟨_,by unfold cU;rw[zI,yW b7];rfl,rfl⟩
    subst d6;obtain⟨zs,f9,g0,f5⟩:=MatD.app c1 W C (by
     cases q:v a6 with
     |none=>rfl
     | some o =>
      by_cases z:a6=l
      ·rw[z,c2]at C;cases C
      ·by_cases y:a6=f
       ·rw[y,c0]at C;cases C
       ·rw[c9 a6 o z y q]at C;cases C) f3
    refine⟨m,zs,_,rfl,rfl,f9,iH (by rw[g0,Lj];omega),?_⟩;have b2:=Lk (d:=d) (x:=(c,sn)) (r:=r) (l:=List.range d);rw[hL]at b2;refine⟨λb o d7 f0 e=>?_,r++[(c,sn)],?_,?_,Li Y (by show c<d-r.length;omega) sg,by simp,d5,?_,?_⟩
    ·have bm:b≠m:=λz=>by rw[z,O]at e;cases e
     rw[oT bm];exact W _ _ (c9 b o d7 f0 e)
    ·rw[oT c6,b2.2];exact W _ _ c2
    ·rw[b2.1];exact f5
    ·rw[oT (yA b5)];exact W _ _ c0
    ·exact f6.le ⋯
  ·rintro b0 D ⟨r,b3,X,a1,x,rfl,k3,U,a4,Y,d9,a3,a2⟩;symm;refine d2 m D _ x ⟨λb o d8 e=>k3 b o (λz=>by rw[z,hl]at e;cases e) d8 (S _ _ e),dC S O,?_⟩ a3 (a2.le ⋯) (Xd e9 Y d9);obtain⟨ps,u,n,I,M⟩:=a4;exact⟨ps,u,n,I,λj p q a b=>let ⟨J,g,F⟩:=M j p q a b;⟨J,dC S g,F⟩⟩
theorem ok_15(T:Txt K mg t):FnOk P w K mg base CX0 3 t.a_15 t.d_15 ph' (sp_15 K):=by
 apply T.F_15.ok sc_15
 ·obtain⟨a,so,d,b,l,rfl,c,g,n,j,o,f⟩:=h;refine⟨_,(oM (nK (nH lG (pq 0) oN (nD _))
   (oO (oW (oQ (ok_q T) hr.mo T.F_q (oJ (pq 2) oK))))
   nJ)
   (oM (nK (nH bA (pq 0) oN (nD _))
   (oO (oW (oQ (ok_v T) hr.mo T.F_v (oJ (pq 1) (oJ (pq 2) oK)))))
   nJ)
   (oO (oW (oQ (ok_h T) hr.mo T.F_h (oJ (pq 1) (oJ (pq 2) oK))))))),?_⟩
  show tSeq _ _ _ [some (.int so),some (.ref a),some (.int d)] H;obtain⟨k1,k2⟩:=At (so:=so) j;ext;refine ite2 (λz=>?_) (λz=>ite2 (λy=>?_) (λy=>?_))
  ·refine⟨d,rfl,⋯,λr H' k=>f r H' _ b (Rk.of k (λ_ _ _ e=>e) c) (k.s _ _ c) (g.le ⋯) ?_⟩;have:=(jZ k2).one;rw[k1]at this;exact this
  ·have z:=vK (oF.mpr z);have y:=xQ y;have e:famK so d=if d=2 then 1 else 3:=by
    unfold famK;have q:0<so/\so<3:=⟨⋯,y⟩;simp only[q,and_self,if_true]
   exact⟨a,d,b,l,rfl,c,g,n,j,λr H' R i k1 k2 k3 m=>f r H' R i k1 k2 k3 (by rw[e];exact m)⟩
  ·have y:=vK (oF.mpr y);have e:famK so d=if d=2 then 0 else 2:=by
    unfold famK;have q:¬ (0<so/\so<3):=λq=>y q.2;simp only[q,if_false]
   exact⟨a,d,b,l,rfl,c,g,n,j,λr H' R i k1 k2 k3 m=>f r H' R i k1 k2 k3 (by rw[e];exact m)⟩
theorem Lg{n k:Nat}(h:k<n):ixN n (k:Int)=some k:=by
 unfold ixN;rw[zF ⋯,zF ⋯];simp
theorem Xc{c:Int}{d:Nat}(h:0<d):∃n:Nat,c.fmod d=n/\n<d:=by
 have:=fms c d ⋯;exact⟨(c.fmod d).toNat,⋯,⋯⟩
def colU(d i j:Nat)(m:Int)(R:LM)(u:Nat):LM:=(R.take u).map (colR d i j m)++R.drop u
theorem Xb{d i j:Nat}{m:Int}{r:LI'}(hl:r.length=d)(b:j<d):r.set j (r.getD j 0-m*r.getD i 0)=colR d i j m r:=by
 unfold colR
 conv=>lhs;rw[eY (z:=(0:Int)) hl]
 rw[Dg];refine kY λk a=>?_
 by_cases h:k=j
 ·subst h;rw[zF rfl,zF rfl,cP a,pG]
  by_cases hi:i<d
  ·rw[cP hi]
  ·congr 1;rw[zqc,wF (by simp;omega),zqc,wF ⋯]
 ·rw[zD h,zD h,uF,uF,Int.sub_zero]
theorem Xa{d i j u:Nat}{m:Int}{R:LM}{r:LI'}(e:R[u]?=some r):(colU d i j m R u)[u]?=some r/\(colU d i j m R u).set u (colR d i j m r)=colU d i j m R (u+1):=by
 have b:=(zqa e).1;have a:((R.take u).map (colR d i j m)).length=u:=by rw[zqe,yK];omega
 unfold colU;refine⟨?_,?_⟩
 ·rw[zV ⋯,a,vI,vJ,sF];exact e
 ·rw[List.set_append,zD ⋯,a,vI,wD,e,xD,yI,vR b];rfl
theorem Yz{d i:Nat}{A:LM}{r:LI'}(a:Sq d A)(hr:r.length=d):Sq d (A.set i r):=⟨by rw[List.length_set];exact a.1,λz b=>by
 rcases tW b with h|h
 ·exact a.2 z h
 ·rw[h];exact hr⟩
theorem Lf{x:Addr}:∀{l:LA}{i:Nat},l.Nodup->x∉l->(l.set i x).Nodup
 |[],_,_,_=>by simp
 |a:: l,0,nd,h=>tS.mpr ⟨λq=>h (.tail _ q),(tS.mp nd).2⟩
 |a:: l,i+1,nd,h=>by
  have b:=tS.mp nd;refine tS.mpr ⟨λq=>?_,Lf b.2 λq=>h (.tail _ q)⟩;rcases tW q with q|q
  ·exact b.1 q
  ·exact h (q ▸ .head _)
theorem MatD.put{H0 H c:Hp}{a l:Addr}{M:LM}{r:LI'}{i:Nat}(h:MatD H0 H a M)(s:Same H c)(hl:H l=none)(F:H0 l=none)(e:c l=some (.lst (r.map V.int))):∃zs,c a=some (.lst zs)/\zs.length=M.length/\MatD H0 (upd c a (.lst (zs.set i (.ref l)))) a (M.set i r):=by
 obtain⟨ps,k,n,o,g⟩:=h;have f:l≠a:=λz=>by rw[z,k]at hl;cases hl
 have D:l∉ps:=λx=>by
  obtain⟨j,d,C⟩:=wO x;rw[(g j l M[j] (by simp[d,C]) (by simp[show j<M.length by omega])).2.2]at hl;cases hl
 refine⟨ps.map V.ref,s _ _ k,by rw[zqe,n],ps.set i l,by rw[oP,List.map_set],by simp[n],?_,λj p q e1 b=>?_⟩
 ·exact Lf o D
 ·by_cases d:j=i
  ·subst d;have y:j<ps.length:=by have:=(zqa e1).1;simpa using this
   rw[wQ y]at e1;rw[wQ ⋯]at b;cases e1;cases b;exact⟨f,F,by rw[oT f];exact e⟩
  ·rw[tG (yA d)]at e1 b;obtain⟨m,v,u⟩:=g j p q e1 b;exact⟨m,v,by rw[oT m];exact s _ _ u⟩
def sxI(d:Nat)(b:Box):Int:=tkV b d
def sxJ(d:Nat)(b:Box):Int:=(tkV b d+1+tkV (tkB b d) ((d:Int)-1)).fmod d
def b3B(d:Nat)(b:Box):Box:=tkB (tkB b d) ((d:Int)-1)
def b5B(d:Nat)(b:Box):Box:=tkB (tkB (b3B d b) 5) 4
def sxM(d:Nat)(b:Box):Int:=if tkV (tkB (b3B d b) 5) 4=1 then tkV (b5B d b) 2000001-1000000 else tkV (b3B d b) 5-2
def nxB(d:Nat)(b:Box):Box:=if tkV (tkB (b3B d b) 5) 4=1 then tkB (b5B d b) 2000001 else b5B d b
def sxS(d:Nat)(b:Box):Stp:=⟨(sxI d b).toNat,(sxJ d b).toNat,sxM d b⟩
def bxS(d:Nat):Nat->Box->Box
 |0,b=>b
 |n+1,b=>nxB d (bxS d n b)
def stB(d:Nat):Nat->Box->List Stp
 |0,_=>[]
 |n+1,b=>sxS d (bxS d n b):: stB d n b
def stL(d:Nat)(b:Box):List Stp:=stB d (tkV b 4).toNat (tkB b 4)
theorem Le{d:Nat}{b:Box}{B:Nat}(j:d=2\/d=3)(h:BxOk B b):(0<=sxI d b/\sxI d b<d)/\(0<=sxJ d b/\sxJ d b<d)/\(sxS d b).Ok d/\BxOk (B+5) (nxB d b):=by
 obtain⟨f,m⟩:=nM (many:=(d:Int)) h ⋯;obtain⟨v,r⟩:=nM (many:=(d:Int)-1) m ⋯;obtain⟨n,l⟩:=nM (many:=5) r ∅;obtain⟨y,c⟩:=nM (many:=4) l ∅;obtain⟨i,p⟩:=nM (many:=2000001) c ∅;have a:=fms1 (tkV b d+1+tkV (tkB b d) ((d:Int)-1)) d ⋯;have g:sxJ d b=(tkV b d+1+tkV (tkB b d) ((d:Int)-1)).fmod d:=rfl;have e:sxI d b=tkV b d:=rfl;have x:sxI d b≠sxJ d b:=by
  rw[g,e,xS _ ⋯];rcases j with rfl|rfl <;> omega
 have q:(sxM d b).natAbs<=1000000:=by
  have u:0<=tkV (b3B d b) 5/\tkV (b3B d b) 5<5:=n;have z:0<=tkV (b5B d b) 2000001/\tkV (b5B d b) 2000001<2000001:=i;unfold sxM;split <;> omega
 rw[←g]at a;rw[←e]at f;refine⟨f,a,⟨?_,?_,?_,q⟩,?_⟩
 ·show(sxI d b).toNat<d;omega
 ·show(sxJ d b).toNat<d;omega
 ·show(sxI d b).toNat≠(sxJ d b).toNat;omega
 ·have k:BxOk (B+4) (b5B d b):=c;have o:BxOk (B+5) (tkB (b5B d b) 2000001):=p;unfold nxB;split
  ·exact o
  ·exact k.le ⋯
theorem Ep{d:Nat}{b:Box}{B:Nat}(c:d=2\/d=3)(h:BxOk B b):∀n,(∀s∈stB d n b,s.Ok d)/\(stB d n b).length=n/\BxOk (B+5*n) (bxS d n b)
 |0=>⟨λ_ h=>(by cases h),rfl,h⟩
 |n+1=>by
  obtain⟨f,i,e⟩:=Ep c h n;obtain⟨_,_,g,j⟩:=Le c e;refine⟨λs a=>?_,by show(stB d n b).length+1=_;rw[i],j.le ⋯⟩;rcases xI.mp a with rfl|a
  ·exact g
  ·exact f s a
theorem Eo{d:Nat}{b:Box}{B:Nat}(e:d=2\/d=3)(h:BxOk B b):(∀s∈stL d b,s.Ok d)/\(stL d b).length<=3:=by
 obtain⟨g,a⟩:=nM (many:=4) h ∅;obtain⟨c,f,_⟩:=Ep e a (tkV b 4).toNat;exact⟨c,by show(stB _ _ _).length<=3;rw[f];omega⟩
theorem KX.over{a r:Addr}{D H:Hp}{o:HO}(k:KX a D H)(n:D r=none):KX a D (upd H r o):=λb x c e=>by
 rw[oT (λz=>by rw[z,n]at e;cases e)];exact k b x c e
def sp_l:Sp:=λvs H Q _=>E8 λ(a bx:Addr)(b:Box)(Z d:Nat)(R:LM)(D:Hp)(o:HO)=>A9 (vs=[.ref a,.ref bx]) ((d=2\/d=3)) (Wr d R) (Rk bx D H a R) (D bx=some o) (H bx=some (bxO b)) (BxOk Z b) (Z<=900000) (∀H' b',Rk bx D H' a (cjM d (chP d (stL d b)) (chQ d (stL d b)) R)->H' bx=some (bxO b')->Q (.ref a) H')
theorem ok_l(T:Txt K mg t):FnOk P w K mg base CX0 2 t.a_l t.d_l pj' sp_l:=by
 apply T.F_l.ok sc_l
 ·obtain⟨a,m,b,U,d,R,D,o,rfl,W,e0,b9,L,d8,f1,j0,d6⟩:=h;refine⟨_,(oM (oU (i:=2) sc_l.nd rfl (Or.inl rfl) (mL T.z_len (pq 0)))
   (oM (mQ yL rfl (mF rfl T.z_range (oJ (oQ (ok_1 T) hr.mo T.F_1 (oJ (pq 1) (oJ oN oK))) oK)) (nX (i:=3) sc_l.nd rfl (Or.inl rfl))
   (oM (oU (i:=4) sc_l.nd rfl (Or.inr rfl) (oQ (ok_1 T) hr.mo T.F_1 (oJ (pq 1) (oJ (pq 2) oK))))
   (oM (oU (i:=5) sc_l.nd rfl (Or.inr rfl) (oS kG (oS mJ (oS mJ (pq 4) oN) (oQ (ok_1 T) hr.mo T.F_1 (oJ (pq 1) (oJ (oS kO (pq 2) oN) oK)))) (pq 2)))
   (oM (oU (i:=6) sc_l.nd rfl (Or.inr rfl) (oS kO (oQ (ok_1 T) hr.mo T.F_1 (oJ (pq 1) (oJ oN oK))) oN))
   (oM (nK (nH lG (oQ (ok_1 T) hr.mo T.F_1 (oJ (pq 1) (oJ oN oK))) oN (nD _))
   (oO (oU (i:=6) sc_l.nd rfl (Or.inr rfl) (oS kO (oQ (ok_1 T) hr.mo T.F_1 (oJ (pq 1) (oJ (oS mJ (oS nR oN (oS gP oN oN)) oN) oK))) (oS gP oN oN))))
   nJ)
   (oM (iV (nT (sc:=oR aP) (N:=N_l) (fr:=[("_law_rows_here",0),("_law_i",4),("_law_j",5),("_law_by",6)]) (te:=(tOp (rI0 λi j=>.int (i+j)) (tOp (rIxB K) (tOp (rIxB K) (tVar 1) (tVar 2)) (tVar 0)) (tOp (rI (λi j=>IntMulOk i j) λi j=>.int (i*j)) (tVar 4) (tOp (rIxB K) (tOp (rIxB K) (tVar 1) (tVar 3)) (tVar 0))))) rfl rfl (nofun) rfl (nofun) (mF rfl T.z_range (oJ (pq 2) oK)) (λ_ _ _ j2=>(oS mJ (nQ ix_B (nQ ix_B (pv 1) (pv 2) (λ_ _=>rfl)) (pv 0) (λ_ _=>rfl)) (oS nR (pv 4) (nQ ix_B (nQ ix_B (pv 1) (pv 3) (λ_ _=>rfl)) (pv 0) (λ_ _=>rfl)))))) (fO (pq 0) (pq 4) bI))
   (oO (mQ yL rfl (nV (pq 0)) (nX (i:=7) sc_l.nd rfl (Or.inl rfl))
   (oO (iV (oS kO (nQ ix_B (pq 7) (pq 5) (λ_ _=>rfl)) (oS nR (pq 6) (nQ ix_B (pq 7) (pq 4) (λ_ _=>rfl)))) (fO (pq 7) (pq 5) bI)))))))))))
   (oO (oW (pq 0))))),?_⟩
  show tSeq _ _ _ [some (.ref a),some (.ref m),none,none,none,none,none,none] H;have c3:=e0.1;right;refine hX (b1:=false) (b2:=false) b9.m.l.b ?_
  try ext
  rw[c3.1];subst e1;refine st λN1 e1=>mT λB eB=>?_;simp only[nU];ext;refine⟨m,4,b,U,rfl,d8,f1,⋯,∅,∅,λj8 d5 g0=>?_⟩;obtain⟨i9,f5⟩:=nM (many:=4) f1 ∅;have f7:=b9.tk L d5;have d4:stL d b=stB d (tkV b 4).toNat (tkB b 4):=rfl;rw[d4]at d6;clear d4 b9 d8 d5;generalize tkB b 4=v at*
  generalize tkV b 4=c at*
  try ext
  refine⟨⋯,⋯,?_⟩;have d7:∀{q},D q=none->q≠m:=λ{q}z y=>by rw[y,L]at z;cases z
  refine iM (g:=nB 3) (tb:=B) (λn J C=>∃v3 b4 a5 a8 F,J=[some (.ref a),some (.ref m),some (.int (d)),v3,b4,a5,a8,F]/\Rk m D C a (cjM (d) (chP (d) (stB (d) n v)) (chQ (d) (stB (d) n v)) R)/\C m=some (bxO (bxS d n v))) ⟨none,none,none,none,none,rfl,by rw[show stB (d) 0 v=[] from rfl,(Wc W c3 (v:=List.replicate (d) 0) (by simp)).1];exact f7,g0⟩ ?_ ?_
  ·rintro n J C k0 ⟨v3,b4,a5,a8,F,rfl,g,N⟩;obtain⟨ok,i5,a6⟩:=Ep W f5 n;have es:stB (d) (n+1) v=sxS (d) (bxS d n v):: stB (d) n v:=rfl;have a3:bxS d (n+1) v=nxB d (bxS d n v):=rfl;rw[es,a3];generalize bxS d n v=x at*
   obtain⟨h5,g1,so,h4⟩:=Le W a6;have i7:n<=3:=⋯
   have S:=fH (kE W ok) R;have b8:nS 145 (cjM (d) (chP (d) (stB (d) n v)) (chQ (d) (stB (d) n v)) R):=λr hr z a0=>wX (Lo (F:=⟨d,stB d n v,1⟩) ⟨W,ok,by show(stB _ n v).length<=3;omega,by show(0:Int)<1;decide,by show(1:Int)<2^100;decide⟩ e0.2 r hr z a0) ∅;have nx:=Wd W ok so c3;rw[←nx];generalize cjM (d) (chP (d) (stB (d) n v)) (chQ (d) (stB (d) n v)) R=f at*
   subst eB;show tSeq _ _ _ [some (.ref a),some (.ref m),some (.int d),some (.int (0+(n:Int))),b4,a5,a8,F] C;obtain⟨hi,j5,j6,j9⟩:=so;have d9:tkV x d=((sxS d x).i:Int):=by
    show _=(((sxI d x).toNat:Nat):Int);have:sxI d x=tkV x d:=rfl;omega
   have c7:(tkV x d+1+tkV (tkB x d) ((d:Int)-1)).fmod d=((sxS d x).j:Int):=by
    show _=(((sxJ d x).toNat:Nat):Int);have:sxJ d x=(tkV x d+1+tkV (tkB x d) ((d:Int)-1)).fmod d:=rfl;omega
   have b7:(sxS d x).m=if tkV (tkB (b3B d x) 5) 4=1 then tkV (b5B d x) 2000001-1000000 else tkV (b3B d x) 5-2:=rfl
   have b6:b3B d x=tkB (tkB x d) ((d:Int)-1):=rfl;have g9:b5B d x=tkB (tkB (b3B d x) 5) 4:=rfl;have b3:nxB d x=if tkV (tkB (b3B d x) 5) 4=1 then tkB (b5B d x) 2000001 else b5B d x:=rfl
   clear h5 g1 h4;generalize nxB d x=c0 at*
   generalize b5B d x=i1 at*;generalize b3B d x=h7 at*
   generalize (sxS d x).i=i at*;generalize (sxS d x).j=j at*
   generalize (sxS d x).m=l at*;refine st λa1 G=>?_;ext;refine⟨m,d,x,U+1+5*n,rfl,N,a6,⋯,⋯,⋯,λY e6 e2=>?_⟩;obtain⟨_,c1⟩:=nM (many:=(d:Int)) a6 ⋯;replace g:=g.tk L e6;rw[d9]at c7 ⊢;clear N e6 a6 d9;generalize tkB x d=f4 at*
   subst G;refine st λa1 G=>?_;ext;refine⟨m,(d:Int)-1,f4,U+1+5*n+1,rfl,e2,c1,⋯,⋯,⋯,λd3 e9 X=>?_⟩;obtain⟨_,b5⟩:=nM (many:=(d:Int)-1) c1 ⋯;replace g:=g.tk L e9
   try ext
   refine⟨⋯,?_⟩;rw[c7];rw[←b6]at X b5;clear e2 e9 c1 c7 b6;subst G;refine st λa1 G=>?_;ext;refine⟨m,5,h7,U+1+5*n+2,rfl,X,b5,⋯,∅,∅,λM e3 a2=>?_⟩;obtain⟨_,e8⟩:=nM (many:=5) b5 ∅;replace g:=g.tk L e3
   try ext
   clear X e3 b5;subst G;refine st λa1 G=>?_;have d2:∀C,Rk m D C a f->C m=some (bxO c0)->a1 [some (.ref a),some (.ref m),some (.int d),some (.int (0+(n:Int))),some (.int i),some (.int j),some (.int l),F] C:=λC g N=>by
    subst G;refine st λa1 G=>?_;simp only[tAsg,gSub,dN];refine nN λB eB=>?_;simp only[nU];ext;refine⟨⋯,⋯,λc8 c2=>?_⟩;rw[zQ];have d0:f[i]?=some (f.getD i []):=by have:=S.1;simp[show i<f.length by omega]
    have a9:f[j]?=some (f.getD j []):=by have:=S.1;simp[show j<f.length by omega]
    have j3:=S.2 _ (zqb d0);have j7:=S.2 _ (zqb a9);have c5:l.natAbs<2^20:=by
     have:(2:Nat)^20=1048576:=∅
     omega
    refine kI (λu y _=>u<d/\y=.int ((f.getD i []).getD u 0+l*(f.getD j []).getD u 0)) c2 ⋯ (λ_ _ _ _ r _=>r) ?_ ?_
    ·intro u Y zs I Z i6 g8 g5;subst eB;show tOp _ _ _ [some (.int (0+(u:Int))),some (.ref a),some (.int i),some (.int j),some (.int l)] Y g8;ext;refine gW (b1:=false) (b2:=false) (g.up Z).m.l.b d0 (L2.getD_at (k:=u) ⋯) rfl ⋯ ?_;refine gW (b1:=false) (b2:=false) (g.up Z).m.l.b a9 (L2.getD_at (k:=u) ⋯) rfl ⋯ ?_;ext;exact⟨yQ (nL c5) (nL (b8 _ (zqb a9) _ (L2.getD_mem ⋯))) ∅,g5 _ _ (Same.refl _) ⟨I,rfl⟩⟩
    ·intro Y ys Z b6 g4 h2;have a7:ys=(mixR d (f.getD i []) (f.getD j []) l).map V.int:=by
      refine mK (by simpa [mixR]using g4) λu y e=>?_;obtain⟨I,rfl⟩:=h2 u y e;exact⟨_,by unfold mixR;rw[zI,yW I];rfl,rfl⟩
     subst a7;obtain⟨zs,i3,i4,i0⟩:=MatD.put (i:=i) g.m Z c2 (fJ g.k N c2) b6
     try ext
     refine⟨_,i3,i,Lg (by rw[i4,S.1];omega),?_⟩;have c9:Rk m D (upd Y a (.lst (zs.set i (.ref c8)))) a (f.set i (mixR d (f.getD i []) (f.getD j []) l)):=⟨KX.over (g.k.trans (KX.same Z)) g.n,g.n,i0⟩;have X:(upd Y a (.lst (zs.set i (.ref c8)))) m=some (bxO c0):=by rw[oT (yA (d7 g.n))];exact Z _ _ N
     generalize upd Y a (.lst (zs.set i (.ref c8)))=d3 at c9 X;have h0:(mixR d (f.getD i []) (f.getD j []) l).length=d:=by simp[mixR]
     have a4:=Yz (i:=i) S h0;have f8:nS 170 (f.set i (mixR d (f.getD i []) (f.getD j []) l)):=λr hr z a0=>by
      rcases tW hr with h|h
      ·exact zJ (b8 r h z a0) (yC ∅ ∅)
      ·rw[h]at a0;obtain⟨u,I,rfl⟩:=pZ.mp a0;have I:=oC.mp I;have b1:=b8 _ (zqb d0) _ (L2.getD_mem (k:=u) ⋯);have b2:=b8 _ (zqb a9) _ (L2.getD_mem (k:=u) ⋯);have k2:(l*(f.getD j []).getD u 0).natAbs<2^20*2^145:=by rw[xA];exact tH c5 b2
       have k1:=uR ((f.getD i []).getD u 0) (l*(f.getD j []).getD u 0);have j1:(2:Nat)^140+2^20*2^145<=2^170:=∅
       omega
     have g2:Az d i j l f=(f.set i (mixR d (f.getD i []) (f.getD j []) l)).map (colR d i j l):=rfl;generalize f.set i (mixR d (f.getD i []) (f.getD j []) l)=b0 at*
     obtain⟨zs,f3,i2⟩:∃zs,d3 a=some (.lst zs)/\zs.length=d:=by
      obtain⟨ps,h,hl,_⟩:=c9.m;exact⟨_,h,by rw[zqe,hl,a4.1]⟩
     subst G;refine mT λB eB=>?_;simp only[iSeq];ext;refine⟨false,⟨_,SqB.lst f3⟩,?_⟩;refine gU (g:=nB 7) (tb:=B) (λu J M=>∃F,J=[some (.ref a),some (.ref m),some (.int d),some (.int (0+(n:Int))),some (.int i),some (.int j),some (.int l),F]/\Rk m D M a (colU d i j l b0 u)/\M a=some (.lst zs)/\M m=some (bxO c0)) ⟨_,rfl,by unfold colU;rw[pM];exact c9,f3,X⟩ (λ_ _ _ _⟨_,_,_,h,_⟩=>SqB.lst h) ?_ ?_
     ·rintro u y J M a7 ⟨F,rfl,O,a3,a2⟩;have I:u<d:=by have:=(zqa a7).1;omega
      obtain⟨rt,c4⟩:∃rt,b0[u]?=some rt:=⟨_,zqd (by rw[a4.1];exact I)⟩;obtain⟨f6,h8⟩:=Xa (d:=d) (i:=i) (j:=j) (m:=l) c4;have g6:=a4.2 _ (zqb c4);obtain⟨j4,p,f2,e5,i8,h9,e4,c6,h3⟩:=O.m.row f6;rw[a3]at f2;cases f2;rw[a7]at e5;cases e5;subst eB;show tAsg _ _ _ [some (.ref a),some (.ref m),some (.int d),some (.int (0+(n:Int))),some (.int i),some (.int j),some (.int l),some (.ref p)] M;simp only[tAsg,gSub,dN];ext;refine⟨false,p,_,_,_,rfl,rfl,SqB.lst c6,kC (iL (getD_at (k:=j) ⋯)) rfl,false,p,_,_,_,rfl,rfl,SqB.lst c6,kC (iL (getD_at (k:=i) ⋯)) rfl,?_⟩;ext;refine⟨yQ (nL c5) (nL (f8 rt (zqb c4) _ (L2.getD_mem ⋯))) ∅,?_⟩;refine⟨_,c6,j,Lg (by rw[zqe];omega),?_⟩;have f0:=h3 (colR d i j l rt);rw[h8]at f0;have e:(rt.map V.int).set j (.int (rt.getD j 0-l*rt.getD i 0))=(colR d i j l rt).map V.int:=by rw[←Xb g6 ⋯,List.map_set]
      rw[e];refine⟨⟨KX.over O.k e4,O.n,f0⟩,?_,?_⟩
      ·rw[oT (yA h9)];exact a3
      ·rw[oT (yA (d7 e4))];exact a2
     ·rintro J M ⟨F,rfl,O,a3,a2⟩;rw[i2]at O;have e:colU d i j l b0 d=b0.map (colR d i j l):=by
       unfold colU;rw[yT (by rw[a4.1];exact zE _),List.drop_of_length_le (by rw[a4.1];exact zE _),wM]
      rw[g2,←e];exact⟨_,_,_,_,_,rfl,O,a2⟩
   ext;refine⟨m,4,_,U+1+5*n+3,rfl,a2,e8,⋯,∅,∅,λg3 f9 d1=>?_⟩;obtain⟨_,e7⟩:=nM (many:=4) e8 ∅;replace g:=g.tk L f9;rw[←g9]at d1 e7
   try ext
   refine ite2 (λz=>?_) (λz=>?_)
   ·rw[zF (xQ z)]at b7 b3;refine⟨⟨∅,∅,∅⟩,tK ∅,?_⟩;refine⟨m,2000001,i1,U+1+5*n+4,rfl,d1,e7,⋯,∅,∅,λg7 h6 h1=>?_⟩;replace g:=g.tk L h6
    try ext
    refine⟨⟨∅,∅,∅⟩,?_⟩;have k:=d2 g7 g (by rw[h1,b3]);rw[b7]at k;exact k
   ·rw[zD (by simpa using z)]at b7 b3;have k:=d2 g3 g (by rw[d1,b3]);rw[b7]at k;exact k
  ·rintro J C ⟨v3,b4,a5,a8,F,rfl,g,N⟩;symm;exact d6 C _ g N
theorem ok_k(T:Txt K mg t):FnOk P w K mg base CX0 1 t.a_k t.d_k po' sp_k:=by
 apply T.F_k.ok sc_k
 ·obtain⟨a,b,rfl,k⟩:=h;refine⟨_,(oM (oU (i:=0) sc_k.nd rfl (Or.inl rfl) (lN dI rfl T.z_abs (nofun) (oJ (pq 0) oK)))
   (oM (oU (i:=1) sc_k.nd rfl (Or.inl rfl) (lN dI rfl T.z_abs (nofun) (oJ (pq 1) oK)))
   (oM (cY yL (nH bB (pq 1) oN (nD _))
   (oO (Nw (i:=0) (j:=1) rfl sc_k.nd rfl rfl ∅ rfl rfl (oJ (pq 1) (oJ (oS kG (pq 0) (pq 1)) oK)) rfl)))
   (oO (oW (pq 0)))))),?_⟩
  show tSeq _ _ _ [some (.int a),some (.int b)] H;ext;refine⟨λm d c=>∃g l,d=[some (.int g),some (.int l)]/\c=H/\0<=g/\0<=l/\Int.gcd g l=Int.gcd a b/\m=l.toNat,
   ⟨_,_,_,rfl,rfl,aX a,aX b,Ju a b,rfl⟩,?_⟩
  rintro m d c ⟨g,l,rfl,rfl,i,hl,e,rfl⟩;ext
  by_cases z:0<l
  ·rw[zP z];refine iteT ⟨λf H'=>f=[some (.int l),some (.int (g.fmod l))]/\H'=c,?_,⋯,rfl,rfl⟩;rintro f H' ⟨rfl,rfl⟩;have l1:=tX g z;have l2:=uL g z;exact⟨(g.fmod l).toNat,⋯,_,_,rfl,rfl,hl,l2,by rw[Jv];exact e,rfl⟩
  ·rw[zN z];refine iteF ?_;rw[Jt e i ⋯];exact k
theorem Ld{u:Int}{ns:LI'}{i:Nat}{x:Int}(e:ns[i]?=some x):gcdI (gl u (ns.take i)) x=gl u (ns.take (i+1)):=by
 unfold gl;rw[wD,e,uQ];rfl
theorem Lc{u:Int}{ns:LI'}(a:0<u):gl u ns=cs u ns:=by
 unfold cs;rw[zD ⋯]
theorem Lb{u:Int}{ns:LI'}(b:0<u)(a:mO u)(x:Int):iY x (cs u ns):=by
 have h:=eP ns (show u≠0 by omega);exact⟨h,Js (Jr a ⋯ (jX (gl_u u ns))) h⟩
theorem ok_10(T:Txt K mg t):FnOk P w K mg base CX0 2 t.a_10 t.d_10 pi' (sp_10 K):=by
 apply T.F_10.ok sc_10
 ·obtain⟨b1,b2,F,a,l,M,ns,u,rfl,D,f,a8,b0,G,R,U⟩:=h;refine⟨_,(oM (oU (i:=3) sc_10.nd rfl (Or.inr rfl) (pq 2))
   (oM (mQ yL rfl (nV (pq 1)) (nX (i:=4) sc_10.nd rfl (Or.inl rfl))
   (oO (oU (i:=3) sc_10.nd rfl (Or.inr rfl) (oQ (ok_k T) hr.mo T.F_k (oJ (pq 3) (oJ (pq 4) oK))))))
   (oO (oW (lV (oJ (mB jJ rfl T.z_tuple (nofun) (oJ (nT (sc:=oR s_10) (N:=N_10) (fr:=[]) (te:=(tCB (fW K) (nF (tVar 0) tNil))) rfl rfl (nofun) rfl (nofun) (nV (pq 0)) (λ_ _ _ W=>(mB jJ rfl T.z_tuple (nofun) (oJ (pv 0) oK)))) oK)) (oJ (mB jJ rfl T.z_tuple (nofun) (oJ (nT (sc:=oR s_10) (N:=N_10) (fr:=[("_law_by",3)]) (te:=(tOp (rI iY λi j=>.int (i.fdiv j)) (tVar 0) (tVar 1))) rfl rfl (nofun) rfl (nofun) (nV (pq 1)) (λ_ _ _ W=>(oS iZ (pv 0) (pv 1)))) oK)) (oJ (oS iZ (pq 2) (pq 3)) oK)))))))),?_⟩
  show tSeq _ _ _ [some (.ref a),some (.ref l),some (.int u),none,none] H;right;subst e1;refine st λN1 e1=>mT λB eB=>?_;simp only[iSeq];ext;refine⟨F,⟨_,f⟩,?_⟩;refine gU (g:=nB 4) (tb:=B) (λi g b=>∃v,g=[some (.ref a),some (.ref l),some (.int u),some (.int (gl u (ns.take i))),v]/\b=H) ⟨none,by rw[pM];show _=[_,_,_,some (V.int (absI u)),_];unfold absI;rw[zD ⋯],rfl⟩ (λ_ _ _ _⟨_,_,e⟩=>e ▸ f) ?_ ?_
  ·rintro i y g b k ⟨v,rfl,rfl⟩;obtain⟨x,a3,rfl⟩:=kU k;subst eB;show tAsg _ _ _ [some (.ref a),some (.ref l),some (.int u),some (.int (gl u (ns.take i))),some (.int x)] b;ext;refine⟨_,_,rfl,?_⟩;rw[Ld a3];exact⟨rfl,rfl⟩
  ·rintro g b ⟨v,rfl,rfl⟩;rw[zqe,yT (zE _),Lc G];have p:=Lb (ns:=ns) G R;symm;exfalso;obtain⟨xs,L,_⟩:=D.walk;refine⟨b1,⟨_,L⟩,λa4 a1=>?_⟩;subst eB;refine Dv D ⋯ a1 λz zs a7 Z d=>?_;refine⟨a4,_,rfl,.inl ⟨SqL.of Z,λl1 q=>?_⟩⟩;have c:Same b (upd z l1 (.tup zs)):=a7.trans (Same.new q);replace d:=d l1 q;generalize upd z l1 (.tup zs)=a9 at c d;exfalso;refine⟨F,⟨_,f.up c⟩,λN a2=>?_⟩;refine mU (λj y _=>∃n,ns[j]?=some n/\y=.int (n.fdiv (cs u ns))) a2 (f.up c) (by rw[zqe];omega) (λ_ _ _ _ r _=>r) ?_ ?_
   ·intro j y C b3 I _ _ a6 a0;obtain⟨n,J,rfl⟩:=kU I;subst eB;show tOp _ _ _ [some (.int n),some (.int (cs u ns))] C a6;ext;exact⟨p n,a0 _ _ (Same.refl _) ⟨n,J,rfl⟩⟩
   ·intro C ys a5 S Y O;have k:ys=(redT u ns).map V.int:=by
     unfold redT;rw[xK];exact mK (by simpa using Y) O
    subst k;refine⟨N,_,rfl,.inl ⟨SqL.of S,λl2 X=>?_⟩⟩;refine⟨p u,by show 3<=sizeLine;decide,λr m=>?_⟩;have o:=a5.trans (Same.new (o:=.tup ((redT u ns).map V.int)) X);exact U r _ ((c.trans o).trans (Same.new m)) ⟨l1,l2,oP,(d.up o).up (Same.new m),Same.new m _ _ oP⟩
theorem ok_x(T:Txt K mg t):FnOk P w K mg base CX0 2 t.a_x t.d_x pi' (sp_x K):=by
 apply T.F_x.ok sc_x
 ·obtain⟨b1,b2,F,a,l,M,ns,u,rfl,D,f,b0,b4,G,R,U⟩:=h;refine⟨_,(oM (oU (i:=3) sc_x.nd rfl (Or.inr rfl) (pq 2))
   (oM (mQ yL rfl (nV (pq 1)) (nX (i:=4) sc_x.nd rfl (Or.inl rfl))
   (oO (oU (i:=3) sc_x.nd rfl (Or.inr rfl) (oQ (ok_k T) hr.mo T.F_k (oJ (pq 3) (oJ (pq 4) oK))))))
   (oM (oU (i:=2) sc_x.nd rfl (Or.inr rfl) (oS iZ (pq 2) (pq 3)))
   (oO (oW (lV (oJ (mB jJ rfl T.z_tuple (nofun) (oJ (nT (sc:=oR cJ) (N:=N_x) (fr:=[]) (te:=(tCB (fW K) (nF (tVar 0) tNil))) rfl rfl (nofun) rfl (nofun) (nV (pq 0)) (λ_ _ _ W=>(mB jJ rfl T.z_tuple (nofun) (oJ (pv 0) oK)))) oK)) (oJ (mB jJ rfl T.z_tuple (nofun) (oJ (nT (sc:=oR cJ) (N:=N_x) (fr:=[("_law_under",2),("_law_by",3)]) (te:=(tOp (rI (λ_ j=>j≠0) λi j=>.int (i.fmod j)) (tOp (rI iY λi j=>.int (i.fdiv j)) (tVar 0) (tVar 2)) (tVar 1))) rfl rfl (nofun) rfl (nofun) (nV (pq 1)) (λ_ _ _ W=>(oS kG (oS iZ (pv 0) (pv 2)) (pv 1)))) oK)) (oJ (pq 2) oK))))))))),?_⟩
  show tSeq _ _ _ [some (.ref a),some (.ref l),some (.int u),none,none] H;right;subst e1;refine st λN1 e1=>mT λB eB=>?_;simp only[iSeq];ext;refine⟨F,⟨_,f⟩,?_⟩;refine gU (g:=nB 4) (tb:=B) (λi g b=>∃v,g=[some (.ref a),some (.ref l),some (.int u),some (.int (gl u (ns.take i))),v]/\b=H) ⟨none,by rw[pM];show _=[_,_,_,some (V.int (absI u)),_];unfold absI;rw[zD ⋯],rfl⟩ (λ_ _ _ _⟨_,_,e⟩=>e ▸ f) ?_ ?_
  ·rintro i y g b k ⟨v,rfl,rfl⟩;obtain⟨x,a3,rfl⟩:=kU k;subst eB;show tAsg _ _ _ [some (.ref a),some (.ref l),some (.int u),some (.int (gl u (ns.take i))),some (.int x)] b;ext;refine⟨_,_,rfl,?_⟩;rw[Ld a3];exact⟨rfl,rfl⟩
  ·rintro g b ⟨v,rfl,rfl⟩;rw[zqe,yT (zE _),Lc G];have p:=Lb (ns:=ns) G R;have up:0<redU u ns:=gH ns ⋯;subst e1;refine st λa5 a7=>?_;ext;refine⟨p u,?_⟩;show a5 [some (.ref a),some (.ref l),some (.int (redU u ns)),some (.int (cs u ns)),v] b;subst a7;ext;exfalso;obtain⟨xs,L,_⟩:=D.walk;refine⟨b1,⟨_,L⟩,λa4 a1=>?_⟩;subst eB;refine Dv D ⋯ a1 λz zs a9 Z d=>?_;refine⟨a4,_,rfl,.inl ⟨SqL.of Z,λl1 q=>?_⟩⟩;have c:Same b (upd z l1 (.tup zs)):=a9.trans (Same.new q);replace d:=d l1 q;generalize upd z l1 (.tup zs)=b3 at c d;exfalso;refine⟨F,⟨_,f.up c⟩,λN a2=>?_⟩;refine mU (λj y _=>∃n,ns[j]?=some n/\y=.int ((n.fdiv (cs u ns)).fmod (redU u ns))) a2 (f.up c) (by rw[zqe];omega) (λ_ _ _ _ r _=>r) ?_ ?_
   ·intro j y C b5 I _ _ a8 a0;obtain⟨n,J,rfl⟩:=kU I;subst eB;show tOp _ _ _ [some (.int n),some (.int (redU u ns)),some (.int (cs u ns))] C a8;ext;exact⟨p n,⋯,a0 _ _ (Same.refl _) ⟨n,J,rfl⟩⟩
   ·intro C ys a6 S Y O;have k:ys=(nW (redU u ns) (redT u ns)).map V.int:=by
     unfold nW redT;rw[xK,xK];exact mK (by simpa using Y) O
    subst k;refine⟨N,_,rfl,.inl ⟨SqL.of S,λl2 X=>?_⟩⟩;refine⟨by show 3<=sizeLine;decide,λr m=>?_⟩;have o:=a6.trans (Same.new (o:=.tup ((nW (redU u ns) (redT u ns)).map V.int)) X);exact U r _ ((c.trans o).trans (Same.new m)) ⟨l1,l2,oP,(d.up o).up (Same.new m),Same.new m _ _ oP⟩
theorem Yy{lo:Int}{len:Nat}{H:Hp}{a:Addr}{fr:List (Str×Nat)}{f:St}{te:TE}{Q:VK}(P:Nat->List V->Hp->Prop)(D:len<=1000)(v:P 0 [] (upd H a (.lst [])))(hl:∀i zs b,P i zs b->zs.length<=i)
  (u:∀(i:Nat) b zs,i<len->P i zs b->∀g:VK,(∀y c,c a=some (.lst zs)->P (i+1) (zs++[y]) (upd c a (.lst (zs++[y])))->g y c)->te (some (.int (lo+i)):: mI fr f) b g)
  (C:∀b ys,P len ys b->Q (.ref a) b):lO (Itr lo len) (nB 0) (tEl te) 1 fr f a H Q:=by
 refine⟨λi m b=>m=len-i/\i<=len/\∃zs,P i zs b,⟨len,by simp,Nat.zero_le _,[],v⟩,?_⟩;rintro i m b ⟨rfl,hi,zs,p⟩
 by_cases d:i<len
 ·refine .inr ⟨d,λH'=>i+1<=len/\∃zs,P (i+1) zs H',λH' q=>⟨len-(i+1),⋯,rfl,q⟩,λys x j z k=>?_⟩;obtain⟨e1,r⟩:=k;subst e1 r
  match ys,z with
  |[o],_=>exact⟨⟨[_],rfl,rfl⟩,u i j zs d p _ λy c l n=>⟨zs,l,iH (by have:=hl i zs j p;omega),d,_,n⟩⟩
 ·have e:i=len:=⋯
  subst e;exact .inl ⟨zE _,C b zs p⟩
theorem iA{a:Addr}{H d c:Hp}(s:Same H d)(n:H a=none)(k:KX a d c):Same H c:=λb o e=>k b o (λz=>by rw[z,n]at e;cases e) (s b o e)
theorem Rk.kx{a r:Addr}{H b d:Hp}{R:LM}{o:HO}(h:Rk a H b r R)(j:H a=some o)(k:KX a b d):Rk a H d r R:=by
 have f:∀{c},H c=none->c≠a:=λ{c}z q=>by rw[q,j]at z;cases z
 refine⟨h.k.trans k,h.n,?_⟩;obtain⟨ps,u,x,n,m⟩:=h.m;refine⟨ps,k _ _ (f h.n) u,x,n,λi p r e1 l=>?_⟩;obtain⟨g,e,v⟩:=m i p r e1 l;exact⟨g,e,k _ _ (f e) v⟩
theorem Yx{l d a:Addr}{g k f:Hp}{R:LM}{o I V:HO}(h:Rk l g k a R)(G:g l=some o)(O:k l=some I)(s:Same k f)(W:k d=none)(S:f d=some V):∃D:Hp,Rk d D f a R/\D d=some V/\∀v M,Rk d D v a M->Rk l g v a M/\v l=some I:=by
 have L:∀{c o},k c=some o->c≠d:=λ{c o}e z=>by rw[z,W]at e;cases e
 have up:∀{c o},g c=some o->∃m,k c=some m:=λ{c o}e=>by
  by_cases z:c=l
  ·exact⟨I,by rw[z];exact O⟩
  ·exact⟨o,h.k _ _ z e⟩
 refine⟨λc=>match g c with|none=>if c=d then f d else none|some _=>f c,⟨?_,?_,?_⟩,?_,?_⟩
 ·intro b x _ e;replace e:(match g b with|none=>if b=d then f d else none|some _=>f b)=_:=e;split at e
  ·split at e
   ·rename_i q;rw[q];exact e
   ·cases e
  ·exact e
 ·show(match g a with|none=>if a=d then f d else none|some _=>f a)=none;rw[h.n];obtain⟨ps,y,_⟩:=h.m;exact zD (L y)
 ·obtain⟨ps,y,N,n,J⟩:=h.m;refine⟨ps,s _ _ y,N,n,λi p r e1 u=>?_⟩;obtain⟨F,j,C⟩:=J i p r e1 u;refine⟨F,?_,s _ _ C⟩;show(match g p with|none=>if p=d then f d else none|some _=>f p)=none;rw[j];exact zD (L C)
 ·show(match g d with|none=>if d=d then f d else none|some _=>f d)=_;split
  ·exact(zF rfl).trans S
  ·exact S
 ·intro v M U;have T:∀{c o m},g c=some o->k c=some m->v c=some m:=λ{c o m}e u=>by
   refine U.k _ _ (L u) ?_;show(match g c with|none=>if c=d then f d else none|some _=>f c)=_;rw[e];exact s _ _ u
  refine⟨⟨λb x G e=>T e (h.k _ _ G e),h.n,?_⟩,T G O⟩;obtain⟨ps,y,N,n,J⟩:=U.m;refine⟨ps,y,N,n,λi p r e1 u=>?_⟩;obtain⟨F,j,C⟩:=J i p r e1 u;refine⟨F,?_,C⟩;replace j:(match g p with|none=>if p=d then f d else none|some _=>f p)=none:=j;cases q:g p with
  |none=>rfl
  |some o =>
   obtain⟨m,X⟩:=up q;rw[q]at j;replace j:f p=none:=j;rw[s _ _ X]at j;cases j
def sp_z(K:Frag):Sp:=λvs H Q _=>E3 λ(p:Addr)(ns:LI')(d:Nat)=>A4 (vs=[.ref p,.int d]) (SqL K H p (ns.map V.int)) ((d=2\/d=3)) (∀q l(S:LI') su H',Same H H'->H' q=some (.tup [.ref l,.int su])->H' l=some (.lst (S.map V.int))->S.length=d->(∀z∈S,0<=z/\z<1000)->0<su->su<=1000->Q (.ref q) H')
def sp_g(K:Frag):Sp:=λvs H Q _=>E9 λ(p q l:Addr)(ns S:LI')(at':Nat)(d:Nat)(su so:Int)=>A12 (vs=[.ref p,.int at',.int d,.ref q,.int so]) (SqL K H p (ns.map V.int)) (at'<=10) ((d=2\/d=3)) (H q=some (.tup [.ref l,.int su])) (H l=some (.lst (S.map V.int))) (S.length=d) ((∀z∈S,0<=z/\z<1000)) (0<su) (su<=1000) (0<=so) (∀r H' x,Same H H'->DdAt K H' r x->Mkr (famK so d) (stL d (bxF ns 2)) su x->Q (.ref r) H')
def dmF(ns:LI'):Nat:=(2+tkV (bxF ns 0) 2).toNat
def mnF(ns:LI'):Nat:=(3-tkV (tkB (bxF ns 0) 2) 4).toNat
def soF(ns:LI'):Int:=tkV (tkB (tkB (bxF ns 0) 2) 4) 5
theorem La(ns:LI'):dmF ns=2\/dmF ns=3:=by
 obtain⟨f,_⟩:=nM (many:=2) (jA (ns:=ns) (k:=0)) ∅;unfold dmF;omega
theorem Yw(ns:LI'):mnF ns<=3:=by
 obtain⟨_,o⟩:=nM (many:=2) (jA (ns:=ns) (k:=0)) ∅;obtain⟨f,_⟩:=nM (many:=4) o ∅;unfold mnF;omega
theorem Mz(ns:LI'):0<=soF ns:=by
 obtain⟨_,o⟩:=nM (many:=2) (jA (ns:=ns) (k:=0)) ∅;obtain⟨_,a⟩:=nM (many:=4) o ∅;exact(nM (many:=5) a ∅).1.1
def sp_13(K:Frag):Sp:=λvs H Q _=>E2 λ(p:Addr)(ns:LI')=>A3 (vs=[.ref p]) (SqL K H p (ns.map V.int)) (∀r H',Same H H'->H' r=some (.lst [.int (dmF ns:Nat),.int (mnF ns:Nat),.int (soF ns)])->Q (.ref r) H')
def sp_j(K:Frag):Sp:=λvs H Q _=>E2 λ(p:Addr)(ns:LI')=>A3 (vs=[.ref p]) (SqL K H p (ns.map V.int)) (∀r l qs ms su H',Same H H'->H' r=some (.lst [.int (dmF ns:Nat),.ref l])->H' l=some (.lst (qs.map V.ref))->Paired (DdAt K H') qs ms->0<su->su<=1000->ms.length<=3->(∀m∈ms,Mkr (famK (soF ns) (dmF ns)) (stL (dmF ns) (bxF ns 2)) su m)->Q (.ref r) H')
theorem jB{K:Frag}{H H':Hp}{p:Addr}{xs:List V}(h:SqL K H p xs)(s:Same H H'):SqL K H' p xs:=SqB.up (b:=false) h s
theorem My{P:Int->Prop}:∀{ys:List V}{H:Hp},(∀(j:Nat) y,ys[j]?=some y->∃v:Int,y=.int v/\P v)->∃S:LI',ys=S.map V.int/\∀z∈S,P z
 |[],_,_=>⟨[],rfl,λ_ h=>(by cases h)⟩
 |y:: ys,H,h=>by
  obtain⟨v,rfl,p⟩:=h 0 y rfl;obtain⟨S,rfl,k⟩:=My (P:=P) (ys:=ys) (H:=H) λj y e=>h (j+1) y (by simpa using e);exact⟨v:: S,rfl,λz a=>by rcases xI.mp a with rfl|a;exact p;exact k z a⟩
theorem Mx{a:Addr}{H:Hp}{F:Dd->Prop}:∀{ys:List V},(∀(j:Nat) y,ys[j]?=some y->∃q m,y=.ref q/\DdAt K (offH a H) q m/\F m)->∃(b:LA)(ms:List Dd),ys=b.map V.ref/\Paired (DdAt K H) b ms/\∀m∈ms,F m
 |[],_=>⟨[],[],rfl,.nil,λ_ h=>(by cases h)⟩
 |y:: ys,h=>by
  obtain⟨q,m,rfl,k,f⟩:=h 0 y rfl;obtain⟨b,ms,rfl,g,d⟩:=Mx (ys:=ys) λj y e=>h (j+1) y (by simpa using e);exact⟨q:: b,m:: ms,rfl,.cons (k.up Jj) g,λz c=>by rcases xI.mp c with rfl|c;exact f;exact d z c⟩
theorem ok_z(T:Txt K mg t):FnOk P w K mg base CX0 2 t.a_z t.d_z pq' (sp_z K):=by
 apply T.F_z.ok sc_z
 ·obtain⟨p,ns,d,rfl,b5,b9,a1⟩:=h;refine⟨_,(oM (oU (i:=2) sc_z.nd rfl (Or.inr rfl) (oQ (ok_11 T) hr.mo T.F_11 (oJ (pq 0) (oJ oN oK))))
   (oM (oU (i:=3) sc_z.nd rfl (Or.inr rfl) (oS mJ oN (oQ (ok_1 T) hr.mo T.F_1 (oJ (pq 2) (oJ oN oK)))))
   (oM (nK (nH lG (oQ (ok_1 T) hr.mo T.F_1 (oJ (pq 2) (oJ oN oK))) oN (nD _))
   (oO (oU (i:=3) sc_z.nd rfl (Or.inr rfl) (oS mJ oN (oQ (ok_1 T) hr.mo T.F_1 (oJ (pq 2) (oJ oN oK))))))
   nJ)
   (oO (oW (lV (oJ (nT (sc:=oR aR) (N:=N_z) (fr:=[("_law_box_here",2),("_law_under",3)]) (te:=(mS (sp_1) [] E0 (nF (tVar 1) (nF (tVar 2) tNil)))) rfl rfl (nofun) rfl (nofun) (mF rfl T.z_range (oJ (pq 1) oK)) (λ_ _ _ c1=>(oQ (ok_1 T) hr.mo T.F_1 (oJ (pv 1) (oJ (pv 2) oK))))) (oJ (pq 3) oK)))))))),?_⟩
  show tSeq _ _ _ [some (.ref p),some (.int d),none,none] H;right;refine⟨p,ns,3,rfl,b5,∅,λa J a4 Z U=>?_⟩;have M:BxOk 300 (bxF ns 3):=jA (k:=3);generalize bxF ns 3=b1 at*
  left;refine⟨a,12,b1,300,rfl,U,M,∅,∅,∅,λa6 b6 Y=>?_⟩;obtain⟨c0,N⟩:=nM (many:=12) M ∅;have k2:KX a J a6:=λb x f e=>by rw[b6 b f];exact e
  generalize tkB b1 12=b2 at*;generalize tkV b1 12=c3 at*
  try ext
  subst e1;refine st λN1 e1=>?_;have L:∀(u:Int)(b:Box) g,0<u->u<=1000->KX a J g->g a=some (bxO b)->BxOk 310 b->N1 [some (.ref p),some (.int d),some (.ref a),some (.int u)] g:=by
   intro u b g X a9 k3 o m;symm;refine nN λB eB=>?_;simp only[nU];ext;refine⟨⋯,⋯,λl hl=>?_⟩;rw[zQ];have G:l≠a:=λz=>by rw[z,o]at hl;cases hl
   refine Yy (len:=d) (λi zs c=>KX a g c/\c l=some (.lst zs)/\(∃n,c a=some (bxO n)/\BxOk (310+i) n)/\zs.length=i/\∀(j:Nat) y,zs[j]?=some y->∃v:Int,y=.int v/\0<=v/\v<u) ⋯ ⟨KX.same (Same.new hl),oP,⟨b,by rw[oT (yA G)];exact o,m⟩,rfl,λj y e=>by simp at e⟩ (λi zs c p=>tZ p.2.2.2.1) ?_ ?_
   ·rintro i c zs hi ⟨I,F,⟨n,C,k⟩,r,D⟩ b7 b3;subst eB;show mS _ _ _ _ [some (.int (0+(i:Int))),some (.ref a),some (.int u)] c b7;ext;refine⟨a,u,n,310+i,rfl,C,k,⋯,⋯,⋯,λc2 R W=>?_⟩;obtain⟨a0,a8⟩:=nM (many:=u) k ⋯;refine b3 _ _ (by rw[R _ G];exact F) ⟨?_,oP,⟨_,by rw[oT (yA G)];exact W,a8.le ⋯⟩,by simp[r],λj y e=>?_⟩
    ·exact KX.over (λb x f e=>by rw[R b f];exact I b x f e) hl
    ·rcases uD j zs.length with h|h
     ·rw[yD h]at e;exact D j y e
     ·rw[zV h]at e;have:j-zs.length=0:=by
       have:=(zqa e).1;simp at this;omega
      rw[this]at e;cases e;exact⟨_,rfl,a0⟩
   ·rintro c ys ⟨I,F,⟨n,C,k⟩,r,D⟩;obtain⟨S,a3,a7⟩:∃S:LI',ys=S.map V.int/\∀z∈S,0<=z/\z<u:=My (H:=H) D;subst a3;have b4:S.length=d:=by simpa using r
    refine⟨by show 2<=sizeLine;decide,λq a5=>?_⟩;have O:=Same.new (o:=.tup [V.ref l,.int u]) a5;refine a1 q l S u _ ((iA a4 Z (k3.trans I)).trans O) oP (O _ _ F) b4 (λz r=>?_) X a9;have:=a7 z r;omega
  ext;refine⟨a,4,b2,301,rfl,Y,N,∅,∅,∅,λg a2 o=>?_⟩;obtain⟨_,m⟩:=nM (many:=4) N ∅;have k3:KX a J g:=k2.trans λb x f e=>by rw[a2 b f];exact e
  generalize tkB b2 4=b8 at*;generalize tkV b2 4=v2 at*
  try ext
  refine ite2 (λ_=>?_) (λ_=>?_)
  ·refine⟨a,1000,b8,302,rfl,o,m,∅,∅,∅,λc b0 C=>?_⟩;obtain⟨c4,k⟩:=nM (many:=1000) m ∅
   try ext
   exact L _ _ c ⋯ ⋯ (k3.trans λb x f e=>by rw[b0 b f];exact e) C (k.le ∅)
  ·exact L _ _ g ⋯ ⋯ k3 o (m.le ∅)
theorem ok_g(T:Txt K mg t):FnOk P w K mg base CX0 5 t.a_g t.d_g pd' (sp_g K):=by
 apply T.F_g.ok sc_g
 ·obtain⟨p,q,l,ns,S,x,d,U,so,rfl,g5,k0,a3,a5,e4,g9,d7,h9,h1,i9,g8⟩:=h;refine⟨_,(oM (oU (i:=5) sc_g.nd rfl (Or.inl rfl) (oQ (ok_11 T) hr.mo T.F_11 (oJ (pq 0) (oJ (pq 1) oK))))
   (oM (oU (i:=6) sc_g.nd rfl (Or.inr rfl) (oQ (ok_l T) hr.mo T.F_l (oJ (oQ (ok_15 T) hr.mo T.F_15 (oJ (pq 4) (oJ (pq 5) (oJ (pq 2) oK)))) (oJ (oQ (ok_11 T) hr.mo T.F_11 (oJ (pq 0) (oJ oN oK))) oK))))
   (oM (oU (i:=7) sc_g.nd rfl (Or.inl rfl) (nQ ix_B (nI (oJ oN (oJ oN (oJ oN (oJ oN (oJ oN (oJ oN oK))))))) (oQ (ok_1 T) hr.mo T.F_1 (oJ (pq 5) (oJ oN oK))) (λ_ _=>rfl)))
   (oM (nK (PW.pt (kN (nH lG (pq 4) oN (nD _)) (jP (nH lG (oQ (ok_1 T) hr.mo T.F_1 (oJ (pq 5) (oJ oN oK))) oN (nD _)))))
   (oO (oU (i:=7) sc_g.nd rfl (Or.inl rfl) (oS mJ oN (oQ (ok_1 T) hr.mo T.F_1 (oJ (pq 5) (oJ oN oK))))))
   nJ)
   (oM (oU (i:=8) sc_g.nd rfl (Or.inl rfl) (nI oK))
   (oM (mQ yL rfl (mF rfl T.z_range (oJ (pq 2) oK)) (nX (i:=9) sc_g.nd rfl (Or.inr rfl))
   (oM (oU (i:=10) sc_g.nd rfl (Or.inl rfl) (oS kO (nQ ix_B (oX (pq 3)) (pq 9) (λ_ _=>rfl)) (lN (bP rfl) rfl T.z_sum (nofun) (oJ (nT (sc:=oR aQ) (N:=N_g) (fr:=[("_law_spot_here",3),("_law_rows_here",6),("_law_i",9)]) (te:=(tOp (rI (λi j=>IntMulOk i j) λi j=>.int (i*j)) (tOp (rIxB K) (tOp (rIxB K) (tVar 2) (tVar 3)) (tVar 0)) (tOp (rIxB K) (tOp (rIxB K) (tVar 1) (tC (.int 0))) (tVar 0)))) rfl rfl (nofun) rfl (nofun) (mF rfl T.z_range (oJ (pq 2) oK)) (λ_ _ _ k2=>(oS nR (nQ ix_B (nQ ix_B (pv 2) (pv 3) (λ_ _=>rfl)) (pv 0) (λ_ _=>rfl)) (nQ ix_B (oX (pv 1)) (pv 0) (λ_ _=>rfl))))) oK))))
   (oO (lU (jF yM yY yZ jG (pq 8) (oJ (oS mJ (oS nR (oQ (ok_1 T) hr.mo T.F_1 (oJ (pq 5) (oJ (pq 7) oK))) (oX (pq 3))) (oS nR (pq 10) (pq 7))) oK))))))
   (oO (oW (oQ (ok_10 T) hr.mo T.F_10 (oJ (pq 6) (oJ (pq 8) (oJ (oS nR (pq 7) (oX (pq 3))) oK)))))))))))),?_⟩
  show tSeq _ _ _ [some (.ref p),some (.int x),some (.int d),some (.ref q),some (.int so),none,none,none,none,none,none] H;have e5:BxOk (100*x) (bxF ns x):=jA;obtain⟨e8,h0⟩:=Eo a3 (jA (ns:=ns) (k:=2));right;refine⟨p,ns,x,rfl,g5,⋯,λm j2 a4 d4 O=>?_⟩;generalize bxF ns x=b1 at*
  have b0:∀{c o},H c=some o->c≠m:=λ{c o}e z=>by rw[z,d4]at e;cases e
  left;refine⟨m,so,d,b1,100*x,rfl,O,e5,⋯,a3,i9,λa l2 R b2 d5 g3 c6 f8=>?_⟩;obtain⟨d1,i7⟩:=At (so:=so) a3;have f1:Wr d R:=by have:=Xl i7 f8;rwa[d1]at this
  refine⟨p,ns,2,rfl,jB g5 (iA a4 d4 d5.k),∅,λh5 J a0 e9 d9=>?_⟩;obtain⟨D,rk3,f7,g2⟩:=Yx d5 O g3 a0 e9 d9
  try ext
  refine⟨a,h5,_,200,d,R,D,_,rfl,a3,f1,rk3,f7,d9,jA (k:=2),∅,λa9 j7 g4 _=>?_⟩;obtain⟨e7,d8⟩:=g2 a9 _ g4;clear g4 g2 rk3 f7 d9 e9 a0 g3 d5;generalize hLL:stL d (bxF ns 2)=M at*
  have c8:Sq d (cjM d (chP d M) (chQ d M) R):=fH (kE a3 e8) R;have j8:nS 145 (cjM d (chP d M) (chQ d M) R):=λr hr z L=>wX (Lo (F:=⟨d,M,1⟩) ⟨a3,e8,h0,by show(0:Int)<1;decide,by show(1:Int)<2^100;decide⟩ f1.2 r hr z L) ∅;have g7:∀(ts:LI')(u:Int),ts.length=d->kX 250 ts->0<u->u<=200->Mkr (famK so d) M U (cjM d (chP d M) (chQ d M) R,redT (u*U) ts,redU (u*U) ts):=λts u a b c e=>⟨R,f8,ts,u,by rw[d1];exact a,b,c,e,by rw[d1]⟩;generalize cjM d (chP d M) (chQ d M) R=C at*
  left;refine⟨by show 6<=sizeLine;decide,λz L=>?_⟩;have a0:=Same.new (o:=.lst [V.int 1,.int 2,.int 2,.int 3,.int 4,.int 6]) L;have b6:(upd a9 z (.lst [V.int 1,.int 2,.int 2,.int 3,.int 4,.int 6])) z=some (.lst [V.int 1,.int 2,.int 2,.int 3,.int 4,.int 6]):=oP;generalize upd a9 z (.lst [V.int 1,.int 2,.int 2,.int 3,.int 4,.int 6])=J at a0 b6;have i0:z≠m:=λy=>by rw[y,d8]at L;cases L
  refine⟨m,6,b2,100*x+100,rfl,a0 _ _ d8,c6,⋯,∅,∅,λX d2 a2=>?_⟩;obtain⟨l3,N⟩:=nM (many:=6) c6 ∅;have a1:=(e7.up a0).tk O d2;rw[←d2 z i0]at b6;clear e7 a0 d2 c6 d8 L e5;generalize tkB b2 6=F at*
  generalize tkV b2 6=Z at*
  try ext
  obtain⟨b5,b3,j0,i4,i6,j6⟩:∃(b5:Nat)(b3:Int),Z=b5/\[V.int 1,.int 2,.int 2,.int 3,.int 4,.int 6][b5]?=some (.int b3)/\0<b3/\b3<=200:=by
   rcases(show Z=0\/Z=1\/Z=2\/Z=3\/Z=4\/Z=5 by omega) with e|e|e|e|e|e <;> rw[e]
   ·exact⟨0,1,rfl,rfl,∅,∅⟩
   ·exact⟨1,2,rfl,rfl,∅,∅⟩
   ·exact⟨2,2,rfl,rfl,∅,∅⟩
   ·exact⟨3,3,rfl,rfl,∅,∅⟩
   ·exact⟨4,4,rfl,rfl,∅,∅⟩
   ·exact⟨5,6,rfl,rfl,∅,∅⟩
  refine jL (i:=b5) b6 i4 j0 ?_;subst e1;refine st λN1 e1=>?_;have c3:∀(u:Int)(a8:Box) J,0<u->u<=200->Rk m j2 J a C->J m=some (bxO a8)->BxOk (100*x+150) a8->N1 [some (.ref p),some (.int x),some (.int d),some (.ref q),some (.int so),some (.ref m),some (.ref a),some (.int u),none,none,none] J:=by
   clear b6 a1 a2 N;intro u a8 J f5 e6 a1 f3 h7;left;refine⟨yB _,λI b9=>?_⟩;have c5:Same J (upd J I (.lst [])):=Same.new b9;have f6:(upd J I (.lst [])) I=some (.lst (([]:LI').map V.int)):=oP;have tb:I≠m:=λy=>by rw[y,f3]at b9;cases b9
   generalize upd J I (.lst [])=a9 at c5 f6;subst e1;refine st λN1 e1=>mT λB eB=>?_;simp only[nU];ext;refine⟨⋯,⋯,?_⟩;rw[zQ];refine iM (g:=nB 9) (tb:=B) (λi c9 X=>∃(ts:LI')(d0 c0:Option V),c9=[some (.ref p),some (.int x),some (.int d),some (.ref q),some (.int so),some (.ref m),some (.ref a),some (.int u),some (.ref I),d0,c0]/\KX m J X/\X I=some (.lst (ts.map V.int))/\ts.length=i/\kX 250 ts/\∃F,X m=some (bxO F)/\BxOk (100*x+150+i) F) ⟨[],none,none,rfl,KX.same c5,f6,rfl,λ_ h=>(by cases h),a8,c5 _ _ f3,h7⟩ ?_ ?_
   ·rintro i c9 X hi ⟨ts,d0,c0,rfl,b7,b8,lt,e2,F,a2,N⟩;have Y:=a1.kx O b7;have c2:=Y.k _ _ (b0 a5) (a4 _ _ a5);have f9:=Y.k _ _ (b0 e4) (a4 _ _ e4);obtain⟨r,e3⟩:∃r,C[i]?=some r:=⟨_,zqd (by rw[c8.1];exact hi)⟩;obtain⟨n,f2⟩:∃n,S[i]?=some n:=⟨_,zqd (by rw[g9];exact hi)⟩;have i3:=c8.2 _ (zqb e3);have l0:=d7 n (zqb f2);subst eB;show tSeq _ _ _ [some (.ref p),some (.int x),some (.int d),some (.ref q),some (.int so),some (.ref m),some (.ref a),some (.int u),some (.ref I),some (.int (0+(i:Int))),c0] X;refine st λk5 h3=>?_;ext;have f0:∀{H':Hp}{b4:VK},Same X H'->b4 (.ref l) H'->rIxB K (.ref q) (.int 0) H' b4:=λs h=>⟨true,q,_,_,_,rfl,rfl,SqB.tup (s _ _ c2),rfl,h⟩;refine f0 (Same.refl _) ?_;refine⟨false,l,_,_,_,rfl,rfl,SqB.lst f9,kC (iL f2) ⋯,?_⟩;refine nN λB eB=>?_;simp only[nU];ext;refine⟨⋯,⋯,λj5 h2=>?_⟩;rw[zQ];refine kI (len:=d) (λk z _=>∃v,(List.zipWith (·*·) r S)[k]?=some v/\z=.int v) h2 ⋯ (λ_ _ _ _ r _=>r) ?_ ?_
    ·intro k W zs k4 G j9 b4 i1;obtain⟨g,g1⟩:∃g,r[k]?=some g:=⟨_,zqd ⋯⟩;obtain⟨f,c4⟩:∃f,S[k]?=some f:=⟨_,zqd ⋯⟩;have l4:=d7 f (zqb c4);subst eB;show tOp _ _ _ [some (.int (0+(k:Int))),some (.ref q),some (.ref a),some (.int (0+(i:Int)))] W b4;ext;refine gW (b1:=false) (b2:=false) (Y.up G).m.l.b e3 g1 ⋯ ⋯ ?_;refine f0 G ⟨false,l,_,_,_,rfl,rfl,SqB.lst (G _ _ f9),kC (iL c4) ⋯,?_⟩;ext;refine⟨(show CMul _ _ from .inr ⟨⋯,⋯⟩).ok,i1 _ _ (Same.refl _) ⟨_,?_,rfl⟩⟩;rw[xY,g1,c4]
    ·intro W ys G i5 k3 i2;have h6:ys=(List.zipWith (·*·) r S).map V.int:=by
      refine mK (by simp only[zqe,List.length_zipWith];omega) λk z e=>?_;obtain⟨v,g6,rfl⟩:=i2 k z e;exact⟨v,g6,rfl⟩
     subst h6;refine⟨j5,rfl,_,SqL.of i5,?_⟩
     try ext
     have k6:(dotI r S).natAbs<2^160:=by
      have:=cK r S (j8 r (zqb e3)) (C:=10) λz L=>by have:=d7 z L;show z.natAbs<1024;omega
      rw[i3]at this;have e:(2:Nat)^160=32*2^(145+10):=∅
      omega
     have i8:(List.zipWith (·*·) r S).sum=dotI r S:=rfl;rw[i8];generalize dotI r S=dd at*
     subst h3;ext;refine⟨.inl ⟨rfl,_,SqL.of (G _ _ b8)⟩,m,u,F,100*x+150+i,rfl,G _ _ a2,N,⋯,⋯,⋯,λf4 a6 d3=>?_⟩;obtain⟨k9,d6⟩:=nM (many:=u) N ⋯;generalize tkV F u=e0 at*
     generalize tkB F u=h4 at*;have h8:q≠m:=b0 a5
     try ext
     refine⟨true,q,_,_,_,rfl,rfl,SqB.tup (by rw[a6 q h8];exact G _ _ c2),rfl,?_⟩;ext;refine⟨(show CMul _ _ from .inl ⟨⋯,⋯⟩).ok,(show CMul _ _ from .inr ⟨⋯,⋯⟩).ok,?_⟩;refine⟨I,_,_,rfl,rfl,by rw[a6 I tb];exact G _ _ b8,iH (by rw[zqe,lt];omega),KX.over ((b7.trans (KX.same G)).tk1 a6) b9,ts++[e0*U+(n-dd)*u],by rw[oP,xD];rfl,by rw[yE,lt];rfl,λz L=>?_,h4,by rw[oT (yA tb)];exact d3,d6.le ⋯⟩;rcases oA.mp L with h|h
     ·exact e2 z h
     ·rw[pS.mp h];have b1:(e0*U).natAbs<=200*1000:=by rw[xA];exact xZ ⋯ ⋯
      have b2:((n-dd)*u).natAbs<=(1000+2^160)*200:=by rw[xA];exact xZ ⋯ ⋯
      have a8:=uR (e0*U) ((n-dd)*u);have j7:200*1000+(1000+2^160)*200<2^250:=∅
      omega
   ·rintro c9 X ⟨ts,d0,c0,rfl,b7,b8,lt,e2,F,a2,N⟩;have Y:=a1.kx O b7;have c2:=Y.k _ _ (b0 a5) (a4 _ _ a5);symm;refine⟨true,q,_,_,_,rfl,rfl,SqB.tup c2,rfl,?_⟩;ext;refine⟨(show CMul _ _ from .inl ⟨⋯,⋯⟩).ok,?_⟩;have j4:0<u*U:=xE f5 h9;have k7:u*U<=200*1000:=sI e6 h1 ⋯ ⋯;refine⟨false,false,false,a,I,_,ts,_,rfl,Y.m.l.b,SqB.lst b8,by rw[c8.1];omega,⋯,j4,iP (B:=20) (by show _<1048576;omega) ∅,λr W G j1=>?_⟩;exact g8 r W _ ((iA a4 d4 Y.k).trans G) j1 (g7 ts u lt e2 f5 e6)
  ext;refine ite2 (λ_=>?_) (λ_=>?_)
  ·refine⟨m,200,F,100*x+101,rfl,a2,N,⋯,∅,∅,λW c7 c1=>?_⟩;obtain⟨k8,a7⟩:=nM (many:=200) N ∅
   try ext
   exact c3 _ _ W ⋯ ⋯ (a1.tk O c7) c1 (a7.le ⋯)
  ·refine⟨m,4,F,100*x+101,rfl,a2,N,⋯,∅,∅,λW c7 c1=>?_⟩;obtain⟨_,a7⟩:=nM (many:=4) N ∅;generalize tkB F 4=j3 at*
   generalize tkV F 4=k1 at*;have g0:=a1.tk O c7
   try ext
   refine ite2 (λ_=>?_) (λ_=>?_)
   ·refine⟨m,200,j3,100*x+102,rfl,c1,a7,⋯,∅,∅,λf4 a6 d3=>?_⟩;obtain⟨l1,d6⟩:=nM (many:=200) a7 ∅
    try ext
    exact c3 _ _ f4 ⋯ ⋯ (g0.tk O a6) d3 (d6.le ⋯)
   ·exact c3 _ _ W i6 j6 g0 c1 (a7.le ⋯)
theorem ok_13(T:Txt K mg t):FnOk P w K mg base CX0 2 t.a_13 t.d_13 pA' (sp_13 K):=by
 apply T.F_13.ok sc_13
 ·obtain⟨p,ns,rfl,J,g⟩:=h;refine⟨_,(oM (oU (i:=1) sc_13.nd rfl (Or.inl rfl) (oQ (ok_11 T) hr.mo T.F_11 (oJ (pq 0) (oJ oN oK))))
   (oO (oW (nI (oJ (oS mJ oN (oQ (ok_1 T) hr.mo T.F_1 (oJ (pq 1) (oJ oN oK)))) (oJ (oS kO oN (oQ (ok_1 T) hr.mo T.F_1 (oJ (pq 1) (oJ oN oK)))) (oJ (oQ (ok_1 T) hr.mo T.F_1 (oJ (pq 1) (oJ oN oK))) oK))))))),?_⟩
  show tSeq _ _ _ [some (.ref p),none] H;right;refine⟨p,ns,0,rfl,J,∅,λa i z u k=>?_⟩;have d:BxOk 0 (bxF ns 0):=jA (k:=0);have F:((dmF ns:Nat):Int)=2+tkV (bxF ns 0) 2:=by
   obtain⟨f,_⟩:=nM (many:=2) d ∅;unfold dmF;omega
  have L:((mnF ns:Nat):Int)=3-tkV (tkB (bxF ns 0) 2) 4:=by
   obtain⟨_,o⟩:=nM (many:=2) d ∅;obtain⟨f,_⟩:=nM (many:=4) o ∅;unfold mnF;omega
  rw[F,L]at g;unfold soF at g;generalize bxF ns 0=b1 at*
  symm;refine⟨a,2,b1,0,rfl,k,d,∅,∅,∅,λD N m=>?_⟩;obtain⟨O,j⟩:=nM (many:=2) d ∅;have k2:KX a i D:=λb x c e=>by rw[N b c];exact e
  try ext
  refine⟨a,4,_,1,rfl,m,j,∅,∅,∅,λC y G=>?_⟩;obtain⟨R,q⟩:=nM (many:=4) j ∅;have k3:KX a i C:=k2.trans λb x c e=>by rw[y b c];exact e
  try ext
  refine⟨a,5,_,2,rfl,G,q,∅,∅,∅,λl I S=>?_⟩;have M:KX a i l:=k3.trans λb x c e=>by rw[I b c];exact e
  have v:=iA z u M;refine⟨by show 3<=sizeLine;decide,λr n=>g r _ (v.trans (Same.new n)) oP⟩
theorem ok_j(T:Txt K mg t):FnOk P w K mg base CX0 6 t.a_j t.d_j pA' (sp_j K):=by
 apply T.F_j.ok sc_j
 ·obtain⟨p,ns,rfl,g,N⟩:=h;refine⟨_,(oM (iV (oQ (ok_13 T) hr.mo T.F_13 (oJ (pq 0) oK)) (Hr rfl (lD (nX (i:=1) sc_j.nd rfl (Or.inr rfl)) (lD (nX (i:=2) sc_j.nd rfl (Or.inl rfl)) (lD (nX (i:=3) sc_j.nd rfl (Or.inr rfl)) iU)))))
   (oM (oU (i:=4) sc_j.nd rfl (Or.inr rfl) (oQ (ok_z T) hr.mo T.F_z (oJ (pq 0) (oJ (pq 1) oK))))
   (oO (oW (nI (oJ (pq 1) (oJ (nT (sc:=oR aS) (N:=N_j) (fr:=[("_law_script",0),("_law_d",1),("_law_sort_here",3),("_law_spot_here",4)]) (te:=(mS (sp_g K) [] E0 (nF (tVar 1) (nF (tOp (rI0 λi j=>.int (i+j)) (tC (.int 4)) (tVar 0)) (nF (tVar 2) (nF (tVar 4) (nF (tVar 3) tNil))))))) rfl rfl (nofun) rfl (nofun) (mF rfl T.z_range (oJ (pq 2) oK)) (λ_ _ _ b0=>(oQ (ok_g T) hr.mo T.F_g (oJ (pv 1) (oJ (oS mJ oN (pv 0)) (oJ (pv 2) (oJ (pv 4) (oJ (pv 3) oK)))))))) oK))))))),?_⟩
  show tSeq _ _ _ [some (.ref p),none,none,none,none] H;right;refine⟨p,ns,rfl,g,λr b3 v F=>?_⟩;refine⟨false,r,_,rfl,SqB.lst F,rfl,_,_,rfl,_,_,rfl,_,_,rfl,rfl,?_⟩;have o:=La ns;have b4:=Yw ns;have L:=Mz ns;generalize dmF ns=d at*
  generalize mnF ns=many at*;generalize soF ns=so at*
  clear F;left;refine⟨p,ns,d,rfl,jB g v,o,λq l S u b1 a3 R a4 a0 W G C=>?_⟩;have D:=v.trans a3;symm;refine nN λB eB=>?_;simp only[nU];ext;refine⟨⋯,⋯,λf a1=>?_⟩;rw[zQ];refine kI (len:=many) (λ_ y c=>∃q m,y=.ref q/\DdAt K (offH f c) q m/\Mkr (famK so d) (stL d (bxF ns 2)) u m) a1 ⋯ (λ_ _ _ _⟨q,m,e,h,k⟩U=>⟨q,m,e,h.up (Ji U),k⟩) ?_ ?_
  ·intro k c zs b2 b M a7 Z;subst eB;show mS _ _ _ _ [some (.int (0+(k:Int))),some (.ref p),some (.int d),some (.int so),some (.ref q)] c a7;ext;refine⟨p,q,l,ns,S,4+k,d,u,so,by rw[show((4+k:Nat):Int)=4+(0+(k:Int)) by omega],jB g (D.trans b),⋯,o,b _ _ R,b _ _ a4,a0,W,G,C,L,λr a9 x a O a5=>Z _ _ a ⟨r,x,rfl,DdAt.tk O (Dm (a _ _ M)),a5⟩⟩
  ·intro c ys b a2 Y I;obtain⟨a6,ms,rfl,n,a8⟩:=Mx I;refine⟨by show 2<=sizeLine;decide,λr J=>?_⟩;have a:=Same.new (o:=.lst [V.int d,.ref f]) J;have X:ms.length<=3:=by
    have:=mE n;rw[zqe]at Y;omega
   refine N r f a6 ms u _ ((D.trans b).trans a) oP (a _ _ a2) (Paired.mapP n λ_ _ z=>z.up a) G C X a8
theorem det2(a b c e:Int):detM 2 [[a,b],[c,e]]=a*e-b*c:=by
 simp[detM,altS,sg,lY];grind
theorem det3(a b c f e j i g d:Int):detM 3 [[a,b,c],[f,e,j],[i,g,d]]=a*(e*d-j*g)-b*(f*d-j*i)+c*(f*g-e*i):=by
 simp[detM,altS,sg,lY];grind
theorem Yv{d:Nat}(i:d=2\/d=3){M N:LM}(g:Sq d M)(f:Sq d N):detM d (mulM d N M)=detM d N*detM d M:=by
 rcases i with rfl|rfl
 ·obtain⟨a,b,c,e,rfl⟩:=sq2 g;obtain⟨p,o,C,v,rfl⟩:=sq2 f;rw[mul2,det2,det2,det2];grind
 ·obtain⟨z,j,q,m,D,r,k,n,l,rfl⟩:=sq3 g;obtain⟨b1,b2,F,u,J,I,G,x,y,rfl⟩:=sq3 f;rw[mul3,det3,det3,det3];grind
theorem Yu{d:Nat}(a:d=2\/d=3):detM d (idM d)=1:=by
 rcases a with rfl|rfl
 ·rw[id2,det2];decide
 ·rw[id3,det3];decide
theorem inv2(a b c d:Int):invR 2 [[a,b],[c,d]]=[[(a*d-b*c)*d,-((a*d-b*c)*b)],[-((a*d-b*c)*c),(a*d-b*c)*a]]:=by
 simp[invR,cofM,detM,altS,lY,sg,List.range,List.range.loop];grind
theorem Yt{a b c d:Int}(h:a*d-b*c=1\/a*d-b*c=-1):mulM 2 (invR 2 [[a,b],[c,d]]) [[a,b],[c,d]]=idM 2/\mulM 2 [[a,b],[c,d]] (invR 2 [[a,b],[c,d]])=idM 2:=by
 have e:(a*d-b*c)*(a*d-b*c)=1:=by rcases h with h|h <;> rw[h] <;> decide
 rw[inv2,mul2,mul2,id2];simp only[List.cons.injEq,and_true];refine⟨⟨⟨?_,?_⟩,?_,?_⟩,⟨?_,?_⟩,?_,?_⟩ <;> grind
theorem inv3{a b c d e f g i j D:Int}(k:detM 3 [[a,b,c],[d,e,f],[g,i,j]]=D):invR 3 [[a,b,c],[d,e,f],[g,i,j]] =
  [[D*(e*j-f*i),D*-(b*j-c*i),D*(b*f-c*e)],[D*-(d*j-f*g),D*(a*j-c*g),D*-(a*f-c*d)],[D*(d*i-e*g),D*-(a*i-b*g),D*(a*e-b*d)]]:=by
 unfold invR;rw[k];simp[cofM,lY,sg,List.range,List.range.loop,det2]
theorem Ys{d:Nat}(i:d=2\/d=3){M:LM}(f:Sq d M)(h:detM d M=1\/detM d M=-1):mulM d (invR d M) M=idM d/\mulM d M (invR d M)=idM d:=by
 have e:detM d M*detM d M=1:=by rcases h with h|h <;> rw[h] <;> decide
 rcases i with rfl|rfl
 ·obtain⟨a,b,c,d,rfl⟩:=sq2 f;rw[det2]at h;exact Yt h
 ·obtain⟨a,b,c,p,q,r,u,v,w,rfl⟩:=sq3 f;have g:=det3 a b c p q r u v w;rw[inv3 rfl];generalize detM 3 [[a,b,c],[p,q,r],[u,v,w]]=D at g e;show mulM 3 [[D*(q*w-r*v),D*-(b*w-c*v),D*(b*r-c*q)],[D*-(p*w-r*u),D*(a*w-c*u),D*-(a*r-c*p)],[D*(p*v-q*u),D*-(a*v-b*u),D*(a*q-b*p)]] _=_/\mulM 3 _ _=_;rw[mul3,mul3,id3];simp only[List.cons.injEq,and_true];refine⟨⟨⟨?_,?_,?_⟩,⟨?_,?_,?_⟩,?_,?_,?_⟩,⟨?_,?_,?_⟩,⟨?_,?_,?_⟩,?_,?_,?_⟩ <;> grind
theorem Yr{M:LM}{ts:LI'}{U:Int}(g:0<U):canD (canD M ts U).1 (canD M ts U).2.1 (canD M ts U).2.2=canD M ts U:=by
 obtain⟨c,e,e1,d,a⟩:=dB (ts:=ts) g;have f:canD M (nW (redU U ts) (redT U ts)) (redU U ts)=canD M (redT U ts) (redU U ts):=(Dc a (Cong.rest a _)).symm;have b:canD M (smul c (redT U ts)) (c*redU U ts)=canD M (redT U ts) (redU U ts):=cQ a e;rw[←e1,←d]at b;exact f.trans b.symm
def lowD(M:LM)(ts:LI')(U:Int):Dd:=(M,redT U ts,redU U ts)
theorem Yq{d:Nat}{M N:LM}{ts ns:LI'}{U V:Int}(k:0<U)(n:0<V):behD d (lowD M ts U) (lowD N ns V)=lowD (mulM d N M) (movT N ns V ts U) (V*U):=by
 obtain⟨c,i,e1,a,m⟩:=dB (ts:=ts) k;obtain⟨e,l,f,b,g⟩:=dB (ts:=ns) n;have j:movT N ns V ts U=smul (e*c) (movT N (redT V ns) (redU V ns) (redT U ts) (redU U ts)):=by
  rw[←Ki,←e1,←a,←f,←b]
 have o:V*U=(e*c)*(redU V ns*redU U ts):=by
  rw[show(e*c)*(redU V ns*redU U ts)=(e*redU V ns)*(c*redU U ts) by grind,←a,←b]
 obtain⟨r1,r2⟩:=Ax (ts:=movT N (redT V ns) (redU V ns) (redT U ts) (redU U ts)) (xE g m) (xE l i);unfold lowD behD;rw[j,o,r1,r2]
theorem Yp{d:Nat}{M N:LM}{ts ns:LI'}{U:Int}(a:0<U):behD d (lowD M ts U) (lowD N ns U)=lowD (mulM d N M) (va (mv N ts) ns) U:=by
 rw[Yq a a,Kh];obtain⟨r1,r2⟩:=Ax (ts:=va (mv N ts) ns) a a;unfold lowD;rw[r1,r2]
theorem En{M:LM}{ts:LI'}{U:Int}(e:0<U):canD (lowD M ts U).1 (lowD M ts U).2.1 (lowD M ts U).2.2=oV (lowD M ts U):=by
 obtain⟨c,d,e1,b,f⟩:=dB (ts:=ts) e;have a:canD M (smul c (redT U ts)) (c*redU U ts)=canD M (redT U ts) (redU U ts):=cQ f d;rw[←e1,←b]at a;exact a.symm
theorem Em{d:Nat}(b:d=2\/d=3){U:Int}(a:0<U):lowD (idM d) (List.replicate d 0) U=nE d:=by
 have h:=cR (M:=idM d) b a;have c:redU U (List.replicate d 0)=1:=wH (λx=>x.2.2) h;unfold lowD nE;rw[c];unfold redT;rw[List.map_replicate,Int.zero_fdiv]
def jC(d:Nat)(x:Dd):Dd:=(invR d x.1,redT x.2.2 (lT d x.1 x.2.1),redU x.2.2 (lT d x.1 x.2.1))
theorem Mw{ts:LI'}{u:Int}:∀(N:LM),movT N (N.map λr=>-(dotI r ts)) u ts u=List.replicate N.length 0
 |[]=>rfl
 |r:: N=>by
  have:=Mw (ts:=ts) (u:=u) N;unfold movT at this ⊢;rw[zK,yX,this,zU,wP,show dotI r ts*u+-(dotI r ts)*u=0 by grind]
theorem Yo{d:Nat}(b:d=2\/d=3){x:Dd}(f:Sq d x.1)(a:0<x.2.2)(g:canD x.1 x.2.1 x.2.2=x)(dt:detM d x.1=1\/detM d x.1=-1):oZ d x (oV (jC d x))=nE d:=by
 have e:oV (jC d x)=canD (invR d x.1) (lT d x.1 x.2.1) x.2.2:=rfl;rw[e];have h:=iQ (d:=d) (M:=x.1) (ts:=x.2.1) (N:=invR d x.1) (ns:=lT d x.1 x.2.1) a a;rw[g]at h;rw[h,(Ys b f dt).1];have c:movT (invR d x.1) (lT d x.1 x.2.1) x.2.2 x.2.1 x.2.2=List.replicate d 0:=by
  have:=Mw (ts:=x.2.1) (u:=x.2.2) (invR d x.1);rw[eW.1]at this;exact this
 rw[c,cR b (xE a a)];rfl
theorem Rs.can{d:Nat}{x:Dd}(h:Rs d x):canD x.1 x.2.1 x.2.2=x/\oV x=x/\Sq d x.1/\0<x.2.2:=by
 obtain⟨M,ts,U,b,lt,a,rfl⟩:=h;exact⟨Yr a,Xm,b,gH ts ⋯⟩
theorem Yn{d:Nat}{T:List Dd}(g:Grp d T){x:Dd}(b:x∈T):oV (jC d x)∈T/\oZ d x (oV (jC d x))=nE d/\oZ d (oV (jC d x)) x=nE d:=by
 obtain⟨z,a,e1,e⟩:=g.inv x b;obtain⟨o,_,j,c⟩:=(g.rs x b).can;obtain⟨_,_,sz,_⟩:=(g.rs z a).can;have m:mulM d z.1 x.1=idM d:=wH Prod.fst e1;have dt:detM d x.1=1\/detM d x.1=-1:=by
  have:=Yv g.dim j sz;rw[m,Yu g.dim]at this;have n:detM d x.1*detM d z.1=1:=by rw[wR];exact this.symm
  have i:=wH Int.natAbs n;rw[xA]at i;have q:(detM d x.1).natAbs=1:=Nat.dvd_one.mp ⟨_,i.symm⟩;omega
 have l:=Yo g.dim j c o dt;have f:Rs d (oV (jC d x)):=⟨invR d x.1,lT d x.1 x.2.1,x.2.2,eW,by unfold lT;rw[zqe];exact eW.1,c,rfl⟩;have p:oV (jC d x)=z:=by
  have k:=Ey g.dim (g.rs z a) (g.rs x b) f;rw[e,l,(gK g.dim f).1,(gK g.dim (g.rs z a)).2]at k;exact k
 rw[p];exact⟨a,e1,e⟩
theorem dD{y:Dd×List Nat}:∀{srt:Tb}{i n:Nat},(srt.map (·.1)).Nodup->srt[i]?=some y->vT (numT srt n) (dat y.1)=some (.int ((n+i:Nat):Int))
 |[],_,_,_,e=>by cases e
 |z:: srt,0,n,_,e=>by
  cases e;show vT ((dat y.1,V.int ((n:Nat):Int)):: numT srt (n+1)) (dat y.1)=_;rw[dZ rfl];rfl
 |z:: srt,i+1,n,nd,e=>by
  have b:=tS.mp nd;have a:srt[i]?=some y:=by simpa using e
  show vT ((dat z.1,V.int ((n:Nat):Int)):: numT srt (n+1)) (dat y.1)=_;have c:z.1≠y.1:=λq=>b.1 (by show z.1∈_;rw[q];exact pZ.mpr ⟨y,zqb a,rfl⟩);rw[gZ (λq=>c (eT.mp q)),dD b.2 a,show n+1+i=n+(i+1) by omega]
theorem Ar{x:Dd}:∀{srt:Tb}{n:Nat},x∉srt.map (·.1)->vT (numT srt n) (dat x)=none
 |[],_,_=>rfl
 |z:: srt,n,h=>by
  show vT ((dat z.1,V.int ((n:Nat):Int)):: numT srt (n+1)) (dat x)=_;rw[gZ (λq=>h (by rw[←eT.mp q];exact .head _)),Ar (λq=>h (.tail _ q))]
theorem Ym{srt:Tb}{k:Nat}{y:Dd×List Nat}(e:srt[k]?=some y):numT (srt.take (k+1)) 0=numT (srt.take k) 0++[(dat y.1,V.int ((k:Nat):Int))]:=by
 have a:k<srt.length:=(zqa e).1;unfold numT;rw[wD,e,Option.toList_some,List.zipIdx_append,xD,yK,tU ⋯];simp
theorem El{x:Dd}{srt:Tb}(h:x∈srt.map (·.1)):∃(i:Nat)(y:Dd×List Nat),srt[i]?=some y/\y.1=x:=by
 obtain⟨y,a,e⟩:=pZ.mp h;obtain⟨i,hi⟩:=xT a;exact⟨i,y,hi,e⟩
def LowU(F:Fr4)(B:Nat)(x:Dd):Prop:=∃R∈pgL F.k,∃ns:LI',ns.length=famD F.k/\kX B ns/\x=lowD (F.cj R) ns F.U
structure Pr(d B:Nat)(x:Dd):Prop where
 sq:Sq d x.1
 len:x.2.1.length=d
 pos:0<x.2.2
 bm:nS 140 x.1
 bt:kX B x.2.1
 bu:x.2.2<2^100
theorem fK{F:Fr4}(h:F.Ok){B:Nat}{x:Dd}(e:LowU F B x):Pr (famD F.k) B x/\canD x.1 x.2.1 x.2.2=oV x/\InG F (oV x):=by
 obtain⟨R,a,ns,b,f,rfl⟩:=e;obtain⟨r1,r2,i⟩:=cS (ts:=ns) h.u0;refine⟨⟨fH (kE (kZ F.k) h.ok) R,by show(redT _ ns).length=_;unfold redT;rw[zqe];exact b,r2,Au h a,λz d=>?_,?_⟩,En h.u0,⟨R,a,ns,b,rfl⟩⟩
 ·obtain⟨t,g,c⟩:=r1 z d;exact wX c (f t g)
 ·have:=h.u1;show redU F.U ns<_;omega
theorem Yl{F:Fr4}(h:F.Ok){B:Nat}:LowU F B (nE (famD F.k)):=by
 refine⟨_,(jZ h.k).one,List.replicate (famD F.k) 0,by simp,λz a=>?_,?_⟩
 ·rw[List.eq_of_mem_replicate a];exact tR B
 ·rw[Ev h,Em (kZ F.k) h.u0]
theorem Yk{F:Fr4}(h:F.Ok){B:Nat}(p:300<=B){x m:Dd}(f:LowU F B x)(g:LowU F 300 m):LowU F (B+150) (behD (famD F.k) x m):=by
 obtain⟨o,b,ts,l1,b1,rfl⟩:=f;obtain⟨R2,a,ns,l2,b2,rfl⟩:=g;have M:=jZ h.k;have c:=kE (kZ F.k) h.ok;have k:=kZ F.k;have e:Sq (famD F.k) (F.cj R2):=fH c R2;refine⟨_,M.mul _ a _ b,va (mv (F.cj R2) ts) ns,Ks (Di e) l2,λz d=>?_,?_⟩
 ·unfold va mv at d;obtain⟨i,hi⟩:=xT d;rw[xY,zI]at hi;cases e1:(F.cj R2)[i]? with
  |none=>rw[e1]at hi;simp at hi
  | some r =>
   cases e2:ns[i]? with
   |none=>rw[e1,e2]at hi;simp at hi
   |some n =>
    rw[e1,e2]at hi;have D:dotI r ts+n=z:=by simpa using hi
    have j:=cK r ts (Au h a r (zqb e1)) b1;rw[e.2 r (zqb e1)]at j;have C:=b2 n (zqb e2);have v:(2:Nat)^300<=2^(140+B):=yC ∅ ⋯;have l:(2:Nat)^(B+150)=1024*2^(140+B):=by rw[show B+150=140+B+10 by omega,vG _ (140+B) 10,sE]
    have q:=tR (140+B);have y:famD F.k*2^(140+B)<=3*2^(140+B):=wC _ ⋯;generalize (2:Nat)^(140+B)=u at*
    rw[l];omega
 ·rw[Yp h.u0];unfold Fr4.cj;rw[Dh k c (M.sq _ b) (M.sq _ a)]
theorem Mv{k:Nat}{L:List Stp}{f:Int}:∀{ms:List Dd},(∀m∈ms,Mkr k L f m)->∃V:Int,0<V/\V<=((200^ms.length:Nat):Int)/\∀m∈ms,∃R∈pgL k,∃(ts:LI')(u:Int),ts.length=famD k/\kX 250 ts/\0<u/\u<=200/\u∣V/\m=(cjM (famD k) (chP (famD k) L) (chQ (famD k) L) R,redT (u*f) ts,redU (u*f) ts)
 |[],_=>⟨1,∅,∅,λ_ h=>(by cases h)⟩
 | m:: ms,h=>by
  obtain⟨V,o,q,n⟩:=Mv (ms:=ms) λx c=>h x (.tail _ c);obtain⟨R,d,ts,u,lt,g,j,i,e⟩:=h m (.head _);refine⟨u*V,xE j o,?_,λx c=>?_⟩
  ·rw[zU,qP,Int.natCast_mul,wR];exact sI q i ⋯ ⋯
  ·rcases xI.mp c with rfl|c
   ·exact⟨R,d,ts,u,lt,g,j,i,⟨V,rfl⟩,e⟩
   ·obtain⟨R,d,ts,l,lt,g,a,b,p,e⟩:=n x c;exact⟨R,d,ts,l,lt,g,a,b,Int.dvd_trans p ⟨u,wR _ _⟩,e⟩
theorem Yj{k:Nat}{L:List Stp}{a:Int}{ms:List Dd}(y:k<4)(l:∀s∈L,s.Ok (famD k))(v:L.length<=3)(g:0<a)(C:a<=1000)(hl:ms.length<=3)(h:∀m∈ms,Mkr k L a m):∃F:Fr4,F.k=k/\F.Ok/\∀m∈ms,LowU F 300 m:=by
 obtain⟨V,f,x,G⟩:=Mv (ms:=ms) h;have v2:V<=8000000:=Int.le_trans x (Int.ofNat_le.mpr (yG (yC ∅ hl) ∅));have n:0<V*a:=xE f g;have o:V*a<=8000000*1000:=sI v2 C ⋯ ∅;have I:V*a<2^100:=Int.lt_of_le_of_lt o ∅;refine⟨⟨k,L,V*a⟩,rfl,⟨y,l,v,n,I⟩,λm J=>?_⟩;obtain⟨R,p,ts,u,lt,r,d,O,⟨b,c⟩,rfl⟩:=G m J;have e:0<b:=Classical.byContradiction λj=>absurd (c ▸ f:0<u*b) (Int.not_lt.mpr (Int.mul_nonpos_of_nonneg_of_nonpos (wZ d) (Int.not_lt.mp j)));have N:b<=V:=by
  rw[c];have:=Int.mul_le_mul_of_nonneg_right (show 1<=u by omega) (wZ e);omega
 refine⟨R,p,smul b ts,by rw[Kv];exact lt,λz i=>?_,?_⟩
 ·unfold smul at i;obtain⟨t,D,rfl⟩:=pZ.mp i;rw[xA];have q:=r t D;have M:b.natAbs<2^50:=⋯
  rw[show(300:Nat)=50+250 from rfl,vG];exact tH M q
 ·obtain⟨r1,r2⟩:=Ax (ts:=ts) (xE d g) e;unfold lowD;show _=(_,redT (V*a) _,redU (V*a) _);rw[c,show u*b*a=b*(u*a) by grind,r1,r2];rfl
structure GC(K:Frag)(t:Adr)(F:Fr4)(H:Hp)(g:Addr)(ms:List Dd)(srt:Tb):Prop where
 f:GrpF K t H g (famD F.k) ms srt
 ok:F.Ok
 to:Told (famD F.k) (ms.map oV) srt
 mq:∀m∈ms,LowU F 300 m
section
variable {F:Fr4} {H H':Hp} {g:Addr} {ms:List Dd} {srt:Tb}
theorem GC.up(h:GC K t F H g ms srt)(s:Same H H'):GC K t F H' g ms srt:=⟨h.f.up s,h.ok,h.to,h.mq⟩
theorem GC.dim(h:GC K t F H g ms srt):famD F.k=2\/famD F.k=3:=kZ F.k
theorem GC.sub(h:GC K t F H g ms srt):∀s∈ms.map oV,InG F s:=λs b=>by
 obtain⟨m,a,rfl⟩:=pZ.mp b;exact(fK h.ok (h.mq m a)).2.2
theorem GC.grp(h:GC K t F H g ms srt):Grp (famD F.k) (srt.map (·.1)):=h.to.grp (cT h.ok) h.sub
theorem GC.inG(h:GC K t F H g ms srt):∀x∈srt.map (·.1),InG F x:=h.to.good (cT h.ok) h.sub
theorem GC.fine(h:GC K t F H g ms srt):∀x∈srt.map (·.1),mY (famD F.k) x:=λx a=>(cT h.ok).fine x (h.inG x a)
theorem GC.pr(h:GC K t F H g ms srt):∀x∈srt.map (·.1),Pr (famD F.k) 100 x:=λx a=>by
 obtain⟨R,b,ts,lt,rfl⟩:=h.inG x a;obtain⟨_,r2,e⟩:=cS (ts:=ts) h.ok.u0;have d:=h.ok.u1;have f:=h.fine _ a;refine⟨f.sq,f.len,f.pos,Au h.ok b,λz c=>?_,?_⟩
 ·obtain⟨y,_,rfl⟩:=pZ.mp c;have:=fms y _ r2;show _<2^100;omega
 ·show redU F.U ts<_;omega
theorem GC.nd(h:GC K t F H g ms srt):(srt.map (·.1)).Nodup:=h.to.nd
theorem GC.mak(h:GC K t F H g ms srt){x m:Dd}(b:x∈srt.map (·.1))(c:m∈ms):oZ (famD F.k) x (oV m)∈srt.map (·.1):=by
 obtain⟨y,a,rfl⟩:=pZ.mp (h.to.mem.mp b);exact h.to.mem.mpr (Lz (yG h.to.l ∅) y a _ (pZ.mpr ⟨m,c,rfl⟩))
theorem GC.own(h:GC K t F H g ms srt){m:Dd}(a:m∈ms):oV m∈srt.map (·.1):=by
 have:=h.mak h.grp.one a
 rwa[(gK h.dim ((cT h.ok).rs _ (h.sub _ (pZ.mpr ⟨m,a,rfl⟩)))).1]at this
end
def sp_a(K:Frag)(t:Adr):Sp:=λvs H Q _=>E6 λ(g p:Addr)(d:Nat)(ms:List Dd)(srt:Tb)(x:Dd)=>A7 (vs=[.ref g,.ref p]) (GrpF K t H g d ms srt) (DdS K H p x) (x.1.length<=100) (x.2.1.length<=100) (0<x.2.2) (∀H',Same H H'->Q ((vT (numT srt 0) (dat (oV x))).getD .non) H')
theorem ok_a(T:Txt K mg t):FnOk P w K mg base CX0 3 t.a_a t.d_a pB' (sp_a K t):=by
 apply T.F_a.ok sc_a
 ·have n:=hr.units;obtain⟨g,p,d,ms,srt,x,rfl,⟨y,v,lo,u,c,m,_,_,_,a⟩,i,l,q,j,f⟩:=h;refine⟨_,(oO (oW (bY (T:= "") uG vN tD (bZ n) (iE (pv 0) rfl) (oJ (oQ (ok_1k T) hr.mo T.F_1k (oJ (pv 1) oK)) oK)))),?_⟩;show tRet _ _ [some (.ref g),some (.ref p)] H;simp only[tRet,tBMR];refine fG rfl m T.cl_2 T.h_9 rfl ?_;refine⟨⟨c,_,rfl,a⟩,?_⟩;ext;refine⟨p,x.1,x.2.1,x.2.2,rfl,i,l,q,j,λr e b k=>?_⟩;have o:DdAt K e r (oV x):=k;exact⟨c,_,r,dat (oV x),rfl,rfl,a.up b,kL _,o.dt,f e b⟩
theorem Aq{H:Hp}{g p:Addr}{d:Nat}{ms:List Dd}{srt:Tb}{x:Dd}{Q:VK}(h:GrpF K t H g d ms srt)(b:DdS K H p x)(l1:x.1.length<=100)(l2:x.2.1.length<=100)(c:0<x.2.2)(k:∀H',Same H H'->Q ((vT (numT srt 0) (dat (oV x))).getD .non) H'):∃a fs,H g=some (.ins t.a_2 a fs)/\fs.lookup (Str.ofString "at")=none/\sp_a K t [.ref g,.ref p] H Q E0:=by
 obtain⟨a,j,lo,f,i,e,_⟩:=id h.ex;exact⟨a,_,e,rfl,g,p,d,ms,srt,x,rfl,h,b,l1,l2,c,k⟩
def sp_8(K:Frag)(t:Adr):Sp:=λvs H Q _=>E8 λ(g:Addr)(d:Nat)(ms:List Dd)(srt:Tb)(i j:Nat)(a b:Dd×List Nat)=>A8 (vs=[.ref g,.int i,.int j]) (GrpF K t H g d ms srt) (srt[i]?=some a) (srt[j]?=some b) (mY d a.1) (mY d b.1) ((d=2\/d=3)) (∀H',Same H H'->Q ((vT (numT srt 0) (dat (oZ d a.1 b.1))).getD .non) H')
theorem Ek{H:Hp}{g:Addr}{d i:Nat}{ms:List Dd}{srt:Tb}{a:Dd×List Nat}{b:St}{n:Nat}{Q:VK}(T:Txt K mg t)(h:GrpF K t H g d ms srt)(o:b[n]?=some (some (.ref g)))(e:srt[i]?=some a)(q:∀p,DdS K H p a.1->Q (.ref p) H):tFld K (tVar n) (Str.ofString "ordered") b H (λx j=>rIxB K x (.int i) j Q):=by
 obtain⟨C,z,lo,u,v,l,_,⟨m,r,f⟩,_⟩:=id h.ex;refine fG o l T.cl_2 T.h_8 rfl ?_;obtain⟨p,ep⟩:∃p,m[i]?=some p:=⟨_,zqd (by rw[mE f];exact(zqa e).1)⟩;obtain⟨y,c,k⟩:=kM f ep;rw[e]at c;cases c;exact jL (i:=i) r (by rw[zI,ep];rfl) rfl (q p (Ll k))
theorem ok_8(T:Txt K mg t):FnOk P w K mg base CX0 5 t.a_8 t.d_8 px' (sp_8 K t):=by
 apply T.F_8.ok sc_8
 ·obtain⟨g,d,ms,srt,i,j,a,b,rfl,e,n,C,f,c,I,o⟩:=h;refine⟨_,(oO (oW (iG (C:=t.a_2) (pv 0) T.cl_2 T.me_a (ok_a T) hr.mo T.b_a .nil mC (oJ (oQ (ok_1d T) hr.mo T.F_1d (oJ (nQ ix_B (iE (pv 0) rfl) (pv 1) (λ_ _=>rfl)) (oJ (nQ ix_B (iE (pv 0) rfl) (pv 2) (λ_ _=>rfl)) oK))) oK)))),?_⟩;show tRet _ _ [some (.ref g),some (.int i),some (.int j)] H;simp only[tRet,lF];ext;obtain⟨m,L,lo,J,G,x,_⟩:=id e.ex;refine⟨m,_,x,rfl,?_⟩;refine Ek T e rfl n λp l=>Ek T e rfl C λq u=>?_;refine⟨p,q,_,_,_,_,_,_,d,rfl,l,u,f,c,⋯,⋯,λr z k F=>?_⟩;have v:DdAt K z r (behD d a.1 b.1):=F;have l1:(behD d a.1 b.1).1.length<=100:=by have:=(c.sq.mul (B:=a.1.1)).1;show(mulM d b.1.1 a.1.1).length<=100;omega
  have l2:(behD d a.1 b.1).2.1.length<=100:=by
   show(redT _ (movT _ _ _ _ _)).length<=100;unfold redT;rw[zqe,Ez c.sq c.len];omega
  exact⟨g,r,d,ms,srt,behD d a.1 b.1,rfl,e.up k,v.s,l1,l2,gH _ (by have:=xE c.pos f.pos;omega),λy D=>o y (k.trans D)⟩
def sp_7(K:Frag)(t:Adr):Sp:=λvs H Q _=>E6 λ(g:Addr)(d:Nat)(ms:List Dd)(srt:Tb)(i:Nat)(a:Dd×List Nat)=>A6 (vs=[.ref g,.int i]) (GrpF K t H g d ms srt) (srt[i]?=some a) (Pr d 100 a.1) ((d=2\/d=3)) (∀H',Same H H'->Q ((vT (numT srt 0) (dat (oV (jC d a.1)))).getD .non) H')
theorem ok_7(T:Txt K mg t):FnOk P w K mg base CX0 9 t.a_7 t.d_7 pD' (sp_7 K t):=by
 apply T.F_7.ok sc_7
 ·obtain⟨g,d,ms,srt,i,a,rfl,c,l,b,G,m⟩:=h;refine⟨_,(oO (oW (iG (C:=t.a_2) (pv 0) T.cl_2 T.me_a (ok_a T) hr.mo T.b_a .nil mC (oJ (oQ (ok_1l T) hr.mo T.F_1l (oJ (nQ ix_B (iE (pv 0) rfl) (pv 1) (λ_ _=>rfl)) oK)) oK)))),?_⟩;show tRet _ _ [some (.ref g),some (.int i)] H;simp only[tRet,lF];ext;obtain⟨k,J,lo,I,F,u,_⟩:=id c.ex;refine⟨k,_,u,rfl,?_⟩;refine Ek T c rfl l λp j=>?_;have sm:mO a.1.2.2:=by
   have:=b.bu;have:=b.pos;have o:a.1.2.2.natAbs<2^100:=⋯
   exact iP o ∅
  have le:∀{x:Nat},x<2^140->x<2^1000:=λh=>zJ h (yC ∅ ∅);have n:∀{x:Nat},x<2^100->x<2^1000:=λh=>zJ h (yC ∅ ∅);refine⟨p,_,_,_,d,rfl,j,b.sq,b.len,b.pos,sm,λr hr z e=>le (b.bm r hr z e),λz e=>n (b.bt z e),⋯,⋯,λr y f D=>?_⟩;have q:DdAt K y r (jC d a.1):=D;have l1:(jC d a.1).1.length<=100:=by show(invR d a.1.1).length<=100;rw[eW.1];omega
  have l2:(jC d a.1).2.1.length<=100:=by
   show(redT _ (lT _ _ _)).length<=100;unfold redT lT;rw[zqe,zqe,eW.1];omega
  exact⟨g,r,d,ms,srt,jC d a.1,rfl,c.up f,q.s,l1,l2,gH _ (by have:=b.pos;omega),λv C=>m v (f.trans C)⟩
def sp_f(K:Frag):Sp:=λvs H Q _=>E6 λ(p q:Addr)(x y:Dd)(d B:Nat)=>A8 (vs=[.ref p,.ref q]) (DdS K H p x) (DdS K H q y) ((d=2\/d=3)) (Pr d B x) (Pr d 300 y) (B<=20000) (∀r H',Same H H'->DdAt K H' r (behD d x y)->Q (.ref r) H')
theorem Yi{N:LM}{ns ts:LI'}{u v:Int}{i:Nat}{r:LI'}{n:Int}(e1:N[i]?=some r)(a:ns[i]?=some n):(movT N ns v ts u)[i]?=some (dotI r ts*v+n*u):=by
 unfold movT;rw[xY,e1,a]
theorem ok_f(T:Txt K mg t):FnOk P w K mg base CX0 4 t.a_f t.d_f po' (sp_f K):=by
 apply T.F_f.ok sc_f
 ·obtain⟨p,q,x,y,d,B,rfl,O,F,b9,C,u,c2,c1⟩:=h;have c5:=C.sq;have G:=u.sq;have e5:=C.len;have a8:=u.len;have c8:=C.pos;have b8:=u.pos;have b7:nS 1500 x.1:=λr hr z o=>zJ (C.bm r hr z o) (yC ∅ ∅);have Y:nS 1500 y.1:=λr hr z o=>zJ (u.bm r hr z o) (yC ∅ ∅);have b1:kX 20000 x.2.1:=λz o=>zJ (C.bt z o) (yC ∅ c2);have ty:kX 1000 y.2.1:=λz o=>zJ (u.bt z o) (yC ∅ ∅);have d6:=C.bu;have e2:=u.bu;refine⟨_,(oM (oU (i:=2) sc_f.nd rfl (Or.inl rfl) (oQ (ok_m T) hr.mo T.F_m (oJ (oX (pq 1)) (oJ (oX (pq 0)) oK))))
   (oM (oU (i:=3) sc_f.nd rfl (Or.inl rfl) (nI oK))
   (oM (mQ yL rfl (mF rfl T.z_range (oJ (mL T.z_len (pq 2)) oK)) (nX (i:=4) sc_f.nd rfl (Or.inr rfl))
   (oM (oU (i:=5) sc_f.nd rfl (Or.inl rfl) (lN (bP rfl) rfl T.z_sum (nofun) (oJ (nT (sc:=oR aT) (N:=N_f) (fr:=[("_law_one",0),("_law_other",1),("_law_i",4)]) (te:=(tOp (rI (λi j=>IntMulOk i j) λi j=>.int (i*j)) (tOp (rIxB K) (tOp (rIxB K) (tOp (rIxB K) (tVar 2) (tC (.int 0))) (tVar 3)) (tVar 0)) (tOp (rIxB K) (tOp (rIxB K) (tVar 1) (tC (.int 1))) (tVar 0)))) rfl rfl (nofun) rfl (nofun) (mF rfl T.z_range (oJ (mL T.z_len (pq 2)) oK)) (λ_ _ _ d8=>(oS nR (nQ ix_B (nQ ix_B (oX (pv 2)) (pv 3) (λ_ _=>rfl)) (pv 0) (λ_ _=>rfl)) (nQ ix_B (oX (pv 1)) (pv 0) (λ_ _=>rfl))))) oK)))
   (oO (lU (jF yM yY yZ jG (pq 3) (oJ (oS mJ (oS nR (pq 5) (oX (pq 1))) (oS nR (nQ ix_B (oX (pq 1)) (pq 4) (λ_ _=>rfl)) (oX (pq 0)))) oK))))))
   (oO (oW (oQ (ok_10 T) hr.mo T.F_10 (oJ (pq 2) (oJ (pq 3) (oJ (oS nR (oX (pq 0)) (oX (pq 1))) oK))))))))),?_⟩
  show tSeq _ _ _ [some (.ref p),some (.ref q),none,none,none,none] H;right;refine jK F λr1 c4=>jK O λr2 d4=>?_;refine⟨true,true,true,true,r1,r2,_,_,d,rfl,c4,d4,G,c5,b9,Y,b7,λm M b0=>?_⟩;have a7:=b0.s;have a0:=b0.m;have a3:Sq d (mulM d y.1 x.1):=G.mul;left;refine⟨yB _,λl hl=>?_⟩;have a2:Same M (upd M l (.lst [])):=Same.new hl;have a5:(upd M l (.lst [])) l=some (.lst (([]:LI').map V.int)):=oP;generalize upd M l (.lst [])=e0 at a2 a5;have W:x.2.2.natAbs<2^100:=⋯
  have Z:y.2.2.natAbs<2^100:=⋯
  subst e1;refine st λN1 e1=>mT λB eB=>?_;simp only[nU];ext;refine hX (b1:=false) (b2:=false) (a0.up a2).l.b ?_
  try ext
  rw[a3.1];refine⟨⋯,⋯,?_⟩;rw[zQ];have b6:(movT y.1 y.2.1 y.2.2 x.2.1 x.2.2).length=d:=by unfold movT;rw[xX,G.1,a8,pR]
  refine iM (g:=nB 4) (tb:=B) (λi S I=>∃a4 N,S=[some (.ref p),some (.ref q),some (.ref m),some (.ref l),a4,N]/\Same M I/\I l=some (.lst (((movT y.1 y.2.1 y.2.2 x.2.1 x.2.2).take i).map V.int))) ⟨none,none,rfl,a2,a5⟩ ?_ ?_
  ·rintro i S I hi ⟨a4,N,rfl,D,L⟩;obtain⟨r,J⟩:∃r,y.1[i]?=some r:=⟨_,zqd (by rw[G.1];exact hi)⟩;obtain⟨n,X⟩:∃n,y.2.1[i]?=some n:=⟨_,zqd (by rw[a8];exact hi)⟩;have c7:=G.2 _ (zqb J);have b:=a7.trans D;subst eB;show tSeq _ _ _ [some (.ref p),some (.ref q),some (.ref m),some (.ref l),some (.int (0+(i:Int))),N] I;refine st λd0 d2=>?_;ext;refine nN λB eB=>?_;simp only[nU];ext;refine hX (b1:=false) (b2:=false) (a0.up D).l.b ?_
   try ext
   rw[a3.1];refine⟨⋯,⋯,λb4 c9=>?_⟩;rw[zQ];refine kI (len:=d) (λk z _=>∃v,(List.zipWith (·*·) r x.2.1)[k]?=some v/\z=.int v) c9 ⋯ (λ_ _ _ _ r _=>r) ?_ ?_
   ·intro k c zs e4 a d7 d3 c6;obtain⟨g,a1⟩:∃g,r[k]?=some g:=⟨_,zqd ⋯⟩;obtain⟨f,U⟩:∃f,x.2.1[k]?=some f:=⟨_,zqd ⋯⟩;subst eB;show tOp _ _ _ [some (.int (0+(k:Int))),some (.ref p),some (.ref q),some (.int (0+(i:Int)))] c d3;ext;refine jK (F.up (b.trans a)) λd9 c3=>gW c3 J a1 ⋯ ⋯ ?_;refine gI (O.up (b.trans a)) λa6 c0=>⟨true,a6,_,_,_,rfl,rfl,(c0:SqB true K c a6 _),kC (iL U) ⋯,?_⟩;ext;refine⟨yQ (nL (Y _ (zqb J) _ (zqb a1))) (nL (b1 _ (zqb U))) ∅,c6 _ _ (Same.refl _) ⟨_,?_,rfl⟩⟩;rw[xY,a1,U]
   ·intro c ys a b2 e3 R;have b3:ys=(List.zipWith (·*·) r x.2.1).map V.int:=by
     refine mK (by simp only[zqe,List.length_zipWith];omega) λk z e=>?_;obtain⟨v,b5,rfl⟩:=R k z e;exact⟨v,b5,rfl⟩
    subst b3;refine⟨b4,rfl,_,SqL.of b2,?_⟩;show d0 [some (.ref p),some (.ref q),some (.ref m),some (.ref l),some (.int (0+(i:Int))),some (.int (dotI r x.2.1))] c;have d5:(dotI r x.2.1).natAbs<2^21502:=by
     have:=cK r x.2.1 (Y r (zqb J)) b1;rw[c7]at this;have e:(2:Nat)^21502=4*2^(1500+20000):=by rw[show 21502=1500+20000+2 by rfl,vG _ (1500+20000) 2,sE]
     have:=tR (1500+20000);omega
    subst d2;ext;refine⟨.inl ⟨rfl,_,SqL.of (a _ _ L)⟩,?_⟩;refine kW (F.up (b.trans a)) ?_;ext;refine⟨yQ (nL d5) (nL Z) ∅,?_⟩;refine gI (F.up (b.trans a)) λa9 d1=>⟨true,a9,_,_,_,rfl,rfl,(d1:SqB true K c a9 _),kC (iL X) ⋯,?_⟩;refine kW (O.up (b.trans a)) ?_;ext;refine⟨yQ (nL (ty _ (zqb X))) (nL W) ∅,?_⟩;refine⟨l,_,_,rfl,rfl,a _ _ L,iH (by rw[zqe,yK];omega),?_⟩;refine⟨Same.over hl (D.trans a),?_⟩;rw[oP,wD,Yi J X,xD];rfl
  ·rintro S I ⟨a4,N,rfl,D,L⟩;rw[yT ⋯]at L;subst e1;have b:=a7.trans D;ext;refine kW (O.up b) (kW (F.up b) ?_);ext;refine⟨yQ (nL W) (nL Z) ∅,?_⟩;refine⟨false,false,false,m,l,_,_,_,rfl,(a0.up D).l.b,SqB.lst L,by rw[a3.1];omega,by rw[b6];omega,xE c8 b8,?_,λr c a R=>?_⟩
   ·show(x.2.2*y.2.2).natAbs<2^8990;rw[xA];refine zJ (tH W Z) ?_;rw[←vG];exact yC ∅ ∅
   ·refine c1 r c (b.trans a) ?_;rw[wR]at R;exact R
def sp_p(K:Frag):Sp:=λvs H Q _=>E2 λ(p:Addr)(x:Dd)=>A7 (vs=[.ref p]) (DdS K H p x) (x.1.length<=100) (x.2.1.length<=100) (0<x.2.2) (mO x.2.2) (∀r H',Same H H'->DdAt K H' r (canD x.1 x.2.1 x.2.2)->Q (.ref r) H')
theorem ok_p(T:Txt K mg t):FnOk P w K mg base CX0 3 t.a_p t.d_p ["_law_one"] (sp_p K):=by
 apply T.F_p.ok sc_p
 ·obtain⟨p,x,rfl,a,l1,l2,d,c,b⟩:=h;refine⟨_,(oO (oW (oQ (ok_x T) hr.mo T.F_x (oJ (oX (pq 0)) (oJ (oX (pq 0)) (oJ (oX (pq 0)) oK)))))),?_⟩;show tRet _ _ [some (.ref p)] H;ext;refine jK a λr1 e=>gI a λr2 f=>kW a ?_;exact⟨true,true,true,r1,r2,_,_,_,rfl,e,(f:SqB true K H r2 _),l1,l2,d,c,b⟩
def sp_b(K:Frag):Sp:=λvs H Q _=>E3 λ(l:Addr)(os:LA)(srt:Tb)=>A6 (vs=[.ref l]) (H l=some (.lst (os.map V.ref))) (Paired (DdS K H) os (srt.map (·.1))) ((srt.map (·.1)).Nodup) (srt.length<=200) (∀r H',Same H H'->DTr K H' r (numT srt 0)->Q (.ref r) H')
theorem Yh{K:Frag}{H H':Hp}{a:Addr}{kvs:List (PyData×V)}(d:DTr K H a kvs)(k:KX a H H'):TK K H H':=by
 obtain⟨xs,e,_⟩:=d.ex;have b:∀c ys,H c=some (.tup ys)->H' c=some (.tup ys):=λc ys q=>k c _ (λw=>by rw[w,e]at q;cases q) q;refine⟨b,λc ys q=>?_⟩;rcases q with(q|⟨f,q⟩)|q
 ·exact .inl (.inl (b _ _ q))
 ·exact .inl (.inr ⟨f,k c _ (λw=>by rw[w,e]at q;cases q) q⟩)
 ·exact .inr q
theorem Yg{srt:Tb}{n:Nat}:(numT srt n).length=srt.length:=by
 unfold numT;rw[zqe,List.length_zipIdx]
theorem Mu{K:Frag}{H:Hp}{p:Addr}{x:Dd}(h:DdS K H p x):Dt K H (.ref p) (dat x):=by
 obtain⟨d,e,b,c,a⟩:=h;exact .tup b (.cons (Dt.matB c) (.cons (Dt.intsB (b:=true) a) (.cons (.int _) .nil)))
theorem ok_b(T:Txt K mg t):FnOk P w K mg base CX0 2 t.a_b t.d_b ["_law_members"] (sp_b K):=by
 apply T.F_b.ok sc_b
 ·have U:=hr.units;obtain⟨l,G,srt,rfl,hl,x,nd,Y,J⟩:=h;refine⟨_,(oM (oU (i:=1) sc_b.nd rfl (Or.inl rfl) Rb)
   (oM (mQ yL rfl (mF rfl T.z_range (oJ (mL T.z_len (pq 0)) oK)) (nX (i:=2) sc_b.nd rfl (Or.inl rfl))
   (oO (iV (pq 2) (fO (pq 1) (nQ ix_B (pq 0) (pq 2) (λ_ _=>rfl)) (Hm U)))))
   (oO (oW (pq 1))))),?_⟩
  show tSeq _ _ _ [some (.ref l),none,none] H;have lo:G.length=srt.length:=by have:=mE x;rwa[zqe]at this
  refine st λN1 e1=>?_;simp only[Hj];ext;intro a v F;have m:Same H (upd H a (mH a [])):=Same.new v;generalize upd H a (mH a [])=S at*
  have V:∀{b o},H b=some o->b≠a:=λ{b o}e w=>by rw[w,v]at e;cases e
  subst e1;refine st λN1 e1=>mT λB eB=>?_;simp only[nU];ext;refine⟨false,l,_,rfl,SqB.lst (m _ _ hl),?_⟩
  try ext
  rw[zqe,lo];refine⟨⋯,⋯,?_⟩;rw[zQ];refine iM (g:=nB 2) (tb:=B) (λi p d=>∃u,p=[some (.ref l),some (.ref a),u]/\KX a S d/\DTr K d a (numT (srt.take i) 0)) ⟨none,rfl,λ_ _ _ e=>e,F⟩ ?_ ?_
  ·rintro k p d N ⟨u,rfl,f,g⟩;obtain⟨y,r⟩:∃y,srt[k]?=some y:=⟨_,zqd N⟩;obtain⟨q,z⟩:∃q,G[k]?=some q:=⟨_,zqd ⋯⟩;obtain⟨W,I,M⟩:=kM x z;rw[zI,r]at I;cases I;have L:=DdS.tk (M.up m) (Yh F f);have hsz:1000<=sizeLine:=∅
   have nx:y.1∉(srt.take k).map (·.1):=λh=>by
    rw[List.map_take]at h;obtain⟨j,n⟩:=xT h;have O:j<k:=by have:=(zqa n).1;simp at this;omega
    rw[uA O]at n;have:=(List.getElem?_inj (zqa n).1 nd).mp (n.trans (show some y.1=(srt.map (·.1))[k]? by rw[zI,r];rfl));omega
   have Z:(numT (srt.take k) 0).length<=k:=by rw[Yg,yK];omega
   subst eB;show tAsg _ _ _ [some (.ref l),some (.ref a),some (.int (0+(k:Int)))] d;simp only[tAsg,gSub];ext;refine jL (i:=k) (f _ _ (V hl) (m _ _ hl)) (by rw[zI,z];rfl) ⋯ ?_;refine⟨a,_,q,dat y.1,rfl,rfl,g,kL _,Mu L,⋯,λX R _ D=>?_⟩;refine⟨λc o C e=>R c o C (f c o C e),?_⟩;have ep:pT (numT (srt.take k) 0) (dat y.1) (.int (0+(k:Int)))=numT (srt.take (k+1)) 0:=by
    unfold pT;rw[Ar nx,Ym r,sG];rfl
   rw[ep]at D;exact D
  ·rintro p d ⟨u,rfl,f,g⟩;rw[qV]at g;symm;exact J a d (iA m v f) g
theorem Yf{K:Frag}{H:Hp}{b:LA}{ms:List Dd}(h:Paired (DdS K H) b ms):Dts K H (b.map V.ref) (ms.map dat):=by
 induction h with
 |nil=>exact .nil
 |cons a _ c=>exact .cons (Mu a) c
theorem Ej{K:Frag}{H:Hp}{b:LA}{srt:Tb}(h:Paired (λp(x:Dd×List Nat)=>Dt K H (.ref p) (dat x.1)) b srt):Paired (DdS K H) b (srt.map (·.1)):=by
 induction h with
 |nil=>exact .nil
 |cons a _ c=>exact .cons (Ll a) c
def dlD(l:List Dd):PyData:=.list (l.map dat)
theorem lI(l:List Dd):iT 5 (dlD l)=true:=by
 show(l.map dat).all (iT 4)=true;rw[vE];intro d a;obtain⟨x,_,rfl⟩:=pZ.mp a;exact gX 4 _ (kL x)
theorem Ye{l c:List Dd}:dlD l=dlD c↔l=c:=by
 unfold dlD;rw[PyData.list.injEq];exact⟨λh=>by
  induction l generalizing c with
  |nil=>cases c with
   |nil=>rfl
   |cons=>simp at h
  | cons a l d=>cases c with
   |nil=>simp at h
   |cons b c =>
    rw[zK,zK,yR]at h;rw[eT.mp h.1,d h.2],λh=>by rw[h]⟩
theorem jN{K:Frag}{H:Hp}{a:Addr}{b:LA}{ms:List Dd}(e:H a=some (.lst (b.map V.ref)))(h:Paired (DdS K H) b ms):Dt K H (.ref a) (dlD ms):=.lst (SqL.of e) (Yf h)
theorem Mt{K:Frag}{H:Hp}{a b:Addr}{c d:LA}{ms f:List Dd}{Q:VK}(e:H a=some (.lst (c.map V.ref)))(h:Paired (DdS K H) c ms)(g:H b=some (.lst (d.map V.ref)))(h':Paired (DdS K H) d f)(i:ms=f)(q:Q (.bl false) H):rNeD K (.ref a) (.ref b) H Q:=
 fX 5 ∅ (jN e h) (jN g h') (lI _) (lI _) (b:=true) (by simp only[true_iff];rw[i]) q
theorem cV{H:Hp}{g:Addr}{d:Nat}{ms:List Dd}{srt:Tb}{Q:VK}(h:GrpF K t H g d ms srt)(k:∀l b H',Same H H'->H l=none->H' l=some (.lst (b.map V.ref))->Paired (λp(x:Dd×List Nat)=>Dt K H' (.ref p) (dat x.1)) b srt->Q (.ref l) H'):∃a fs,H g=some (.ins t.a_2 a fs)/\fs.lookup (Str.ofString "members")=none/\sp_3 K t [.ref g] H Q E0:=by
 obtain⟨a,i,lo,e,f,c,_⟩:=id h.ex;exact⟨a,_,c,rfl,g,d,ms,srt,rfl,h,k⟩
theorem Ap{H:Hp}{g:Addr}{d:Nat}{ms:List Dd}{srt:Tb}{Q:VK}(h:GrpF K t H g d ms srt)(k:∀l gs H',Same H H'->H l=none->H' l=some (.lst (gs.map V.ref))->Paired (DdS K H') gs ms->Q (.ref l) H'):∃a fs,H g=some (.ins t.a_2 a fs)/\fs.lookup (Str.ofString "makers")=none/\sp_5 K t [.ref g] H Q E0:=by
 obtain⟨a,f,lo,c,e,b,_⟩:=id h.ex;exact⟨a,_,b,rfl,g,d,ms,srt,rfl,h,k⟩
theorem Ei{H:Hp}{C x a:Addr}(nx:H x=none)(c:H a=none)(b:a≠x):Same H (upd (upd H a (.own x)) x (.ins C a []))/\(upd (upd H a (.own x)) x (.ins C a [])) x=some (.ins C a []):=
 ⟨(Same.new c).trans (Same.new (by rw[oT (yA b)];exact nx)),oP⟩
def sp_r(K:Frag)(t:Adr):Sp:=λvs H Q _=>E7 λ(g p nb:Addr)(F:Fr4)(ms:List Dd)(srt:Tb)(x:Dd)=>A10 (vs=[.ref g,.ref p,.ref nb]) (GC K t F H g ms srt) (DTr K H nb (numT srt 0)) (DdS K H p x) (x.1.length<=100) (x.2.1.length<=100) (0<x.2.2) (mO x.2.2) (canD x.1 x.2.1 x.2.2=oV x) (∀H',Same H H'->Q (.bl true) H')
theorem Yd{srt:Tb}(nd:(srt.map (·.1)).Nodup)(x:Dd):((vT (numT srt 0) (dat x)).getD .non=.non/\x∉srt.map (·.1))\/∃(i:Nat)(y:Dd×List Nat),srt[i]?=some y/\y.1=x/\(vT (numT srt 0) (dat x)).getD .non=.int i:=by
 by_cases h:x∈srt.map (·.1)
 ·obtain⟨i,y,e,rfl⟩:=El h;refine .inr ⟨i,y,e,rfl,?_⟩;rw[dD nd e,xO];rfl
 ·exact .inl ⟨by rw[Ar h];rfl,h⟩
theorem ok_r(T:Txt K mg t):FnOk P w K mg base CX0 5 t.a_r t.d_r pf' (sp_r K t):=by
 apply T.F_r.ok sc_r
 ·have G:=hr.units;obtain⟨g,p,c,F,ms,srt,x,rfl,m,D,k,l1,l2,l,C,I,f⟩:=h;refine⟨_,(oM (oU (i:=3) sc_r.nd rfl (Or.inl rfl) (iG (C:=t.a_2) (pq 0) T.cl_2 T.me_a (ok_a T) hr.mo T.b_a .nil mC (oJ (pq 1) oK)))
   (oM (nK (PW.pt (Mc (nH Ft (pq 3) iR (nD _)) (Md (kF (lJ (oQ (ok_u T) hr.mo T.F_u (oJ (pq 3) oK)))))))
   (oO (oW mZ))
   nJ)
   (oO (oW (jD Ni (pq 3) (bY (T:= "") uG vN tD (bZ G) (pq 2) (oJ (oQ (ok_p T) hr.mo T.F_p (oJ (pq 1) oK)) oK)) (nD _)))))),?_⟩
  show tSeq _ _ _ [some (.ref g),some (.ref p),some (.ref c),none] H;right;simp only[lF];ext;refine Aq m.f k l1 l2 l λn a=>?_;have b:∀v:V,(vT (numT srt 0) (dat (oV x))).getD .non=v->(v=.non\/∃i:Nat,v=.int i)->N1 [some (.ref g),some (.ref p),some (.ref c),some v] n:=by
   intro v u j;subst e1;refine st λN1 e1=>?_;have b:N1 [some (.ref g),some (.ref p),some (.ref c),some v] n:=by
    symm;simp only[tBMR];ext;refine⟨⟨_,D.up a⟩,?_⟩;refine⟨p,x,rfl,k.up a,l1,l2,l,C,λr o d q=>?_⟩;rw[I]at q;refine⟨c,_,r,_,rfl,rfl,(D.up a).up d,kL _,q.dt,?_⟩;rw[u];rcases j with rfl|⟨i,rfl⟩
    ·exact⟨rfl,by rw[zP rfl];exact f o (a.trans d)⟩
    ·exact⟨rfl,by rw[zP rfl];exact f o (a.trans d)⟩
   ext;rcases j with rfl|⟨i,rfl⟩
   ·rw[zP rfl];exact iteF b
   ·rw[zN (by intro z;cases z)];exact iteT ⟨i,rfl,_,rfl,iteF b⟩
  rcases Yd m.nd (oV x) with⟨e,_⟩|⟨i,y,_,_,e⟩
  ·exact b _ rfl (.inl e)
  ·exact b _ rfl (.inr ⟨i,e⟩)
def sp_t(K:Frag)(t:Adr):Sp:=λvs H Q _=>E10 λ(g:Addr)(F:Fr4)(ms:List Dd)(srt:Tb)(i j k:Nat)(a b c:Dd×List Nat)=>A7 (vs=[.ref g,.int i,.int j,.int k]) (GC K t F H g ms srt) (srt[i]?=some a) (srt[j]?=some b) (srt[k]?=some c) (oZ (famD F.k) a.1 b.1=c.1) (∀H',Same H H'->Q (.bl true) H')
theorem gL{srt:Tb}{i:Nat}{a:Dd×List Nat}(h:srt[i]?=some a):a.1∈srt.map (·.1):=pZ.mpr ⟨a,zqb h,rfl⟩
theorem ok_t(T:Txt K mg t):FnOk P w K mg base CX0 7 t.a_t t.d_t pg' (sp_t K t):=by
 apply T.F_t.ok sc_t
 ·obtain⟨g,F,ms,srt,i,j,k,a,b,c,rfl,d,l,f,p,es,m⟩:=h;refine⟨_,(oM (oU (i:=4) sc_t.nd rfl (Or.inl rfl) (iG (C:=t.a_2) (pq 0) T.cl_2 T.me_8 (ok_8 T) hr.mo T.b_8 .nil mC (oJ (pq 1) (oJ (pq 2) oK))))
   (oO (oW (dG (oQ (ok_u T) hr.mo T.F_u (oJ (pq 4) oK)) (dF (jD lG (pq 4) (pq 3) (nD _))))))),?_⟩
  show tSeq _ _ _ [some (.ref g),some (.int i),some (.int j),some (.int k),none] H;right;simp only[lF];ext;obtain⟨q,v,lo,r,u,o,_⟩:=id d.f.ex;refine⟨q,_,o,rfl,g,famD F.k,ms,srt,i,j,a,b,rfl,d.f,l,f,d.fine _ (pZ.mpr ⟨a,zqb l,rfl⟩),d.fine _ (pZ.mpr ⟨b,zqb f,rfl⟩),d.dim,λe n=>?_⟩;rw[es,dD d.nd p,xO];symm;refine⟨k,rfl,?_⟩
  try ext
  refine⟨k,k,rfl,rfl,?_⟩;show Q (.bl (decide ((k:Int)=k))) e;rw[zP rfl];exact m e n
def sp_d(K:Frag)(t:Adr):Sp:=λvs H Q _=>E10 λ(g lm nb sc:Addr)(F:Fr4)(qs:LA)(ms:List Dd)(srt:Tb)(cs:LI')(d:Nat)=>A10 (vs=[.ref g,.ref lm,.ref nb,.ref sc,.int d]) (d=famD F.k) (GC K t F H g ms srt) (H lm=some (.lst (qs.map V.ref))) (Paired (DdS K H) qs ms) (ms.length<=3) (DTr K H nb (numT srt 0)) (SqL K H sc (cs.map V.int)) (cs.length<=63) (∀H',Same H H'->Q (.bl true) H')
theorem ok_d(T:Txt K mg t):FnOk P w K mg base CX0 11 t.a_d t.d_d pb' (sp_d K t):=by
 apply T.F_d.ok sc_d
 ·have f8:=hr.units;obtain⟨g,Y,C,sc,F,l0,ms,srt,cs,d,rfl,L,l,d1,d9,m2,D,h6,m4,d8⟩:=h;refine⟨_,(oM (oU (i:=5) sc_d.nd rfl (Or.inl rfl) (oQ (ok_10 T) hr.mo T.F_10 (oJ (oQ (ok_q T) hr.mo T.F_q (oJ (pq 4) oK)) (oJ (oS Ab (nI (oJ oN oK)) (pq 4)) (oJ oN oK)))))
   (oM (oU (i:=6) sc_d.nd rfl (Or.inl rfl) (bY (T:= "") uG vN tD (bZ f8) (pq 2) (oJ (pq 5) oK)))
   (oM (oU (i:=7) sc_d.nd rfl (Or.inl rfl) (pq 6))
   (oM (nK (PW.pt (kN (nH bD (pq 6) iR (nD _)) (jP (kF (lJ (oQ (ok_r T) hr.mo T.F_r (oJ (pq 0) (oJ (pq 5) (oJ (pq 2) oK)))))))))
   (oO (oW mZ))
   nJ)
   (oM (nK (PW.pt (kN (kF (lJ (oQ (ok_t T) hr.mo T.F_t (oJ (pq 0) (oJ (pq 6) (oJ (pq 6) (oJ (pq 6) oK))))))) (jP (nH hJ (iG (C:=t.a_2) (pq 0) T.cl_2 T.me_7 (ok_7 T) hr.mo T.b_7 .nil mC (oJ (pq 6) oK)) (pq 6) (nD _)))))
   (oO (oW mZ))
   nJ)
   (oM (mQ yL rfl (nV (pq 3)) (nX (i:=8) sc_d.nd rfl (Or.inl rfl))
   (oM (nK (nH (dP f8) (pq 1) (nI oK) (nD _))
   (oO (oW mZ))
   nJ)
   (oM (oU (i:=9) sc_d.nd rfl (Or.inl rfl) (nQ ix_B (pq 1) (oS kG (pq 8) (mL T.z_len (pq 1))) (λ_ _=>rfl)))
   (oM (oU (i:=5) sc_d.nd rfl (Or.inl rfl) (oQ (ok_f T) hr.mo T.F_f (oJ (pq 5) (oJ (pq 9) oK))))
   (oM (oU (i:=10) sc_d.nd rfl (Or.inl rfl) (iG (C:=t.a_2) (pq 0) T.cl_2 T.me_a (ok_a T) hr.mo T.b_a .nil mC (oJ (pq 5) oK)))
   (oM (nK (PW.pt (kN (nH bD (pq 10) iR (nD _)) (jP (kF (lJ (oQ (ok_r T) hr.mo T.F_r (oJ (pq 0) (oJ (pq 5) (oJ (pq 2) oK)))))))))
   (oO (oW mZ))
   nJ)
   (oM (nK (kF (lJ (oQ (ok_t T) hr.mo T.F_t (oJ (pq 0) (oJ (pq 7) (oJ (iG (C:=t.a_2) (pq 0) T.cl_2 T.me_a (ok_a T) hr.mo T.b_a .nil mC (oJ (pq 9) oK)) (oJ (pq 10) oK)))))))
   (oO (oW mZ))
   nJ)
   (oM (oU (i:=11) sc_d.nd rfl (Or.inl rfl) (iG (C:=t.a_2) (pq 0) T.cl_2 T.me_7 (ok_7 T) hr.mo T.b_7 .nil mC (oJ (pq 10) oK)))
   (oM (nK (PW.pt (kN (kF (lJ (oQ (ok_u T) hr.mo T.F_u (oJ (pq 11) oK)))) (jP (kF (lJ (oQ (ok_t T) hr.mo T.F_t (oJ (pq 0) (oJ (pq 10) (oJ (pq 11) (oJ (pq 6) oK))))))))))
   (oO (oW mZ))
   nJ)
   (oM (nK (kF (lJ (oQ (ok_t T) hr.mo T.F_t (oJ (pq 0) (oJ (pq 11) (oJ (pq 10) (oJ (pq 6) oK)))))))
   (oO (oW mZ))
   nJ)
   (oO (oU (i:=7) sc_d.nd rfl (Or.inl rfl) (pq 10)))))))))))))
   (oO (oW mZ)))))))),?_⟩
  show tSeq _ _ _ [some (.ref g),some (.ref Y),some (.ref C),some (.ref sc),some (.int d),none,none,none,none,none,none,none] H;have O:=l.dim;have M:=l.grp;rw[←L]at O M;have a9:∀{x:Dd},x∈srt.map (·.1)->∃(i:Nat)(y:Dd×List Nat),srt[i]?=some y/\y.1=x/\vT (numT srt 0) (dat x)=some (.int i):=λa0=>by
   obtain⟨i,y,e,rfl⟩:=El a0;exact⟨i,y,e,rfl,by rw[dD l.nd e,xO]⟩
  have h9:∀{f:Hp}{i:Nat}{y:Dd×List Nat}{v:VK},Same H f->srt[i]?=some y->(∀(j:Nat)(z:Dd×List Nat) u,Same f u->srt[j]?=some z->oZ d y.1 z.1=nE d->oZ d z.1 y.1=nE d->v (.int j) u)->∃c0 fs,f g=some (.ins t.a_2 c0 fs)/\fs.lookup (Str.ofString "back_of")=none/\sp_7 K t [.ref g,.int i] f v E0:=by
   intro f i y v X a1 k;have e4:=l.up X;obtain⟨c0,l8,lo,m0,Z,b2,_⟩:=id e4.f.ex;obtain⟨j1,k5,k4⟩:=Yn M (gL a1);obtain⟨j,z,R,N,i2⟩:=a9 j1;refine⟨c0,_,b2,rfl,g,d,ms,srt,i,y,rfl,by rw[L];exact e4.f,a1,by rw[L];exact l.pr _ (gL a1),O,λu a8=>?_⟩;rw[i2];exact k j z u a8 R (by rw[N];exact k5) (by rw[N];exact k4)
  obtain⟨f5,i4,S,a5,f0⟩:=a9 M.one;right;refine⟨d,rfl,⋯,λa f c1=>?_⟩;refine⟨by show 1<=sizeLine;decide,λz e3=>?_⟩;have a8:Same f (upd f z (.lst [V.int 0])):=Same.new e3;have N:(upd f z (.lst [V.int 0])) z=some (.lst [V.int 0]):=oP;generalize upd f z (.lst [V.int 0])=u at*
  refine⟨z,d,[V.int 0],rfl,rfl,N,⋯,⋯,?_,λy g8=>?_⟩
  ·rw[zQ];have:1000<=sizeLine:=∅
   simp only[List.length_cons,List.length_nil];omega
  rw[zQ];have h7:(List.replicate d [V.int 0]).flatten=(List.replicate d (0:Int)).map V.int:=by rcases O with rfl|rfl <;> rfl
  rw[h7];have d4:Same u (upd u y (.lst ((List.replicate d (0:Int)).map V.int))):=Same.new g8;have e9:(upd u y (.lst ((List.replicate d (0:Int)).map V.int))) y=some (.lst ((List.replicate d (0:Int)).map V.int)):=oP;generalize upd u y (.lst ((List.replicate d (0:Int)).map V.int))=m5 at*
  try ext
  refine⟨false,false,false,a,y,idM d,List.replicate d 0,1,rfl,(c1.up (a8.trans d4)).m.l.b,SqB.lst e9,by rw[jY.1];omega,by rw[sZ];omega,∅,iP (B:=20) ∅ ∅,λb5 d5 d7 h2=>?_⟩;have a2:=(c1.s.trans a8).trans (d4.trans d7);have b6:DdAt K d5 b5 (nE d):=by
   have:=Em O (U:=1) ∅;rw[←this];exact h2
  clear h2 e9 g8 h7 N e3 a8 d4 c1 d7;subst e1;refine st λN1 e1=>?_;simp only[tBMR];ext;refine⟨⟨C,_,rfl,D.up a2⟩,C,_,b5,_,rfl,rfl,D.up a2,kL _,b6.dt,?_⟩;rw[f0];show N1 [some (.ref g),some (.ref Y),some (.ref C),some (.ref sc),some (.int d),some (.ref b5),some (.int f5),none,none,none,none,none] d5;left;left;rw[zN (by intro z;cases z)];have g6:∀{f:Hp}{p:Addr}{B:Nat}{x:Dd}{v:VK},Same H f->DdS K f p x->LowU F B x->(∀u,Same f u->v (.bl true) u)->sp_r K t [.ref g,.ref p,.ref C] f v E0:=by
   intro f p B x v X a0 lx k;obtain⟨I,i7,_⟩:=fK l.ok lx;refine⟨g,p,C,F,ms,srt,x,rfl,l.up X,D.up X,a0,by have:=I.sq.1;omega,by have:=I.len;omega,I.pos,?_,i7,k⟩;have:=I.bu;have:=I.pos;have j5:x.2.2.natAbs<2^100:=⋯
   exact iP j5 ∅
  have g7:LowU F 300 (nE d):=by rw[L];exact Yl l.ok
  refine iteF (g6 a2 b6.s g7 λm1 c8=>⟨_,rfl,iteF ?_⟩);have c7:=a2.trans c8;have f6:=b6.up c8;left;have b4:∀{f:Hp}{i j k:Nat}{a b c:Dd×List Nat}{v:VK},Same H f->srt[i]?=some a->srt[j]?=some b->srt[k]?=some c->oZ d a.1 b.1=c.1->(∀u,Same f u->v (.bl true) u)->sp_t K t [.ref g,.int i,.int j,.int k] f v E0:=λ{f i j k a b c v}X a1 R b3 es q=>⟨g,F,ms,srt,i,j,k,a,b,c,rfl,l.up X,a1,R,b3,by rw[←L];exact es,q⟩;refine b4 c7 S S S (by rw[a5];exact(gK O (M.rs _ M.one)).1) λl3 c6=>⟨_,rfl,iteF ?_⟩;have b8:=c7.trans c6;simp only[lF];ext;refine h9 b8 S λj z j2 c5 R a6 b9=>?_;have N:j=f5:=by
   rw[a5,(gK O (M.rs _ (gL R))).1]at a6;have b2:vT (numT srt 0) (dat z.1)=some (.int j):=by rw[dD l.nd R,xO]
   rw[a6,f0]at b2;cases b2;rfl
  subst N;refine⟨_,_,rfl,rfl,false,by show V.bl (!decide ((j:Int)=j))=_;rw[zP rfl];rfl,iteF ?_⟩;have e0:=b8.trans c5;have i6:=(f6.up c6).up c5;clear f6 b6 b8 c5 c6 c7 c8 a2 a6 b9 R;subst e1;refine st λN1 e1=>mT λB eB=>?_;simp only[iSeq];ext;refine⟨false,⟨_,(jB h6 e0:SqB false K j2 sc _)⟩,?_⟩;have lq:=mE d9;refine gU (g:=nB 8) (tb:=B) (λi c3 J=>∃(r:Addr)(x:Dd)(k:Nat)(y:Dd×List Nat)(c9 b0 b1 a7:Option V),c3=[some (.ref g),some (.ref Y),some (.ref C),some (.ref sc),some (.int d),some (.ref r),some (.int j),some (.int k),c9,b0,b1,a7]/\Same H J/\DdAt K J r x/\LowU F (300+150*i) x/\srt[k]?=some y/\y.1=oV x) ⟨b5,_,j,i4,none,none,none,none,rfl,e0,i6,g7,S,by rw[a5];exact((M.rs _ M.one).can).2.1.symm⟩ (λ_ _ _ _⟨_,_,_,_,_,_,_,_,_,a3,_⟩=>(jB h6 a3:SqB false K _ sc _)) ?_ ?_
  ·rintro i l2 c3 J k6 ⟨r,x,k,y,c9,b0,b1,a7,rfl,a3,a0,lx,b3,k8⟩;obtain⟨b7,j4,rfl⟩:=gJ k6;have hi:i<63:=by have:=(zqa j4).1;omega
   subst eB;show tSeq _ _ _ [some (.ref g),some (.ref Y),some (.ref C),some (.ref sc),some (.int d),some (.ref r),some (.int j),some (.int k),some (.int b7),b0,b1,a7] J;refine st λG o=>?_;ext;refine⟨yB _,λd3 j0=>?_⟩;have g9:=Same.new (o:=.lst []) j0;have i0:(upd J d3 (.lst [])) d3=some (.lst (([]:LA).map V.ref)):=oP;generalize upd J d3 (.lst [])=j6 at*
   have U:=a3.trans g9;have e7:=Paired.mapP d9 λ_ _ z=>DdS.up z U;refine dX 5 ∅ (jN (U _ _ d1) e7) (jN i0 .nil) (lI _) (lI _) (b:=decide (ms=[])) (by rw[decide_eq_true_eq];exact Ye.symm) ?_;refine⟨_,rfl,ite2 (λz=>d8 j6 U) λz=>?_⟩;have k7:0<ms.length:=by
    cases ms with
    |nil=>exact absurd rfl z
    |cons=>exact Nat.succ_pos _
   subst o;refine st λG o=>?_;ext;refine⟨false,Y,_,rfl,SqB.lst (U _ _ d1),?_⟩
   try ext
   rw[zqe,lq];obtain⟨n,i8,k0⟩:=Xc (c:=b7) (d:=ms.length) k7;refine⟨⋯,?_⟩;rw[i8];obtain⟨m,h1⟩:∃m,ms[n]?=some m:=⟨_,zqd k0⟩;obtain⟨q,g2⟩:∃q,l0[n]?=some q:=⟨_,zqd ⋯⟩;obtain⟨l7,f3,f1⟩:=kM e7 g2;rw[h1]at f3;cases f3;have c2:=zqb h1;refine jL (i:=n) (U _ _ d1) (by rw[zI,g2];rfl) rfl ?_;have e5:=l.mq m c2;obtain⟨I,_,_⟩:=fK l.ok lx;obtain⟨W,_,_⟩:=fK l.ok e5;rw[←L]at I W;have Z:=Yk l.ok ⋯ lx e5;rw[show 300+150*i+150=300+150*(i+1) by omega,←L]at Z;have k9:=a0.up g9;subst o;refine st λG o=>?_;ext;refine⟨r,q,x,m,d,_,rfl,k9.s,f1,O,I,W,⋯,λr2 m3 h4 g1=>?_⟩;have e6:=U.trans h4;obtain⟨d2,_,_⟩:=fK l.ok Z;have g4:oV (behD d x m)=oZ d y.1 (oV m):=by
    rw[k8];exact Wj I.pos W.pos
   have i3:oV (behD d x m)∈srt.map (·.1):=by
    rw[g4,L];exact l.mak (gL b3) c2
   obtain⟨k2,j9,a4,f7,j3⟩:=a9 i3;obtain⟨k3,l1,j7,k1,i5⟩:=a9 (l.own c2);subst o;refine st λG o=>?_;ext;simp only[lF];ext;refine Aq (l.up e6).f g1.s (by have:=d2.sq.1;omega) (by have:=d2.len;omega) d2.pos λi1 c4=>?_;rw[j3];show G [some (.ref g),some (.ref Y),some (.ref C),some (.ref sc),some (.int d),some (.ref r2),some (.int j),some (.int k),some (.int b7),some (.ref q),some (.int k2),a7] i1;have e8:=e6.trans c4;have d6:=g1.up c4;subst o;refine st λG o=>?_;ext;rw[zN (by intro z;cases z)];refine iteF (g6 e8 d6.s Z λm6 d0=>⟨_,rfl,iteF ?_⟩);have g5:=e8.trans d0;subst o;refine st λG o=>?_;ext;simp only[lF];ext;have i9:=(f1.up h4).up (c4.trans d0);refine Aq (l.up g5).f i9 (by have:=W.sq.1;omega) (by have:=W.len;omega) W.pos λl6 h3=>?_;rw[i5];have e2:=g5.trans h3
   try ext
   refine b4 e2 b3 j7 a4 (by rw[f7,k1,g4]) λl5 h5=>⟨_,rfl,iteF ?_⟩;have g3:=e2.trans h5;subst o;refine st λG o=>?_;ext;simp only[lF];ext;refine h9 g3 a4 λj8 m8 l9 g0 h8 a6 b9=>?_;have f2:=g3.trans g0;subst o;refine st λG o=>?_;ext;refine⟨j8,rfl,_,rfl,iteF ?_⟩;refine b4 f2 a4 h8 S (by rw[a5];exact a6) λl4 h0=>⟨_,rfl,iteF ?_⟩;have f4:=f2.trans h0;subst o;refine st λG o=>?_;ext;refine b4 f4 h8 a4 S (by rw[a5];exact b9) λm7 f9=>⟨_,rfl,iteF ?_⟩;subst o;ext;exact⟨_,k2,rfl,f4.trans f9,((d6.up (d0.trans h3)).up (h5.trans g0)).up (h0.trans f9),Z,j9,a4,f7⟩
  ·rintro c3 J ⟨r,x,k,y,c9,b0,b1,a7,rfl,a3,_⟩;symm;exact d8 J a3
def sp_i(K:Frag)(t:Adr):Sp:=λvs H Q _=>E11 λ(g l nb bx:Addr)(F:Fr4)(os:LA)(ms:List Dd)(srt:Tb)(b:Box)(Z:Nat)(H0:Hp)=>A11 (vs=[.ref g,.ref l,.ref nb,.ref bx]) (Same H0 H) (H0 bx=none) (GC K t F H0 g ms srt) (H0 l=some (.lst (os.map V.ref))) (Paired (DdS K H0) os (srt.map (·.1))) (DTr K H0 nb (numT srt 0)) (H bx=some (bxO b)) (BxOk Z b) (Z<=2000) (∀H',Same H0 H'->Q (.bl true) H')
theorem ok_i(T:Txt K mg t):FnOk P w K mg base CX0 9 t.a_i t.d_i pc' (sp_i K t):=by
 apply T.F_i.ok sc_i
 ·have d2:=hr.units;obtain⟨g,l,v,n,F,R,ms,srt,b,W,H0,rfl,O,a0,f,hl,Z,D,U,S,e2,b5⟩:=h;refine⟨_,(oM (oU (i:=4) sc_i.nd rfl (Or.inl rfl) (oQ (ok_1 T) hr.mo T.F_1 (oJ (pq 3) (oJ (mL T.z_len (pq 1)) oK))))
   (oM (oU (i:=5) sc_i.nd rfl (Or.inl rfl) (oQ (ok_1 T) hr.mo T.F_1 (oJ (pq 3) (oJ (mL T.z_len (pq 1)) oK))))
   (oM (oU (i:=6) sc_i.nd rfl (Or.inl rfl) (bY (T:= "") uG vN tD (bZ d2) (pq 2) (oJ (oQ (ok_p T) hr.mo T.F_p (oJ (oQ (ok_f T) hr.mo T.F_f (oJ (nQ ix_B (pq 1) (pq 4) (λ_ _=>rfl)) (oJ (nQ ix_B (pq 1) (pq 5) (λ_ _=>rfl)) oK))) oK)) oK)))
   (oO (oW (dG (jD Ft (pq 6) iR (nD _)) (dF (oQ (ok_t T) hr.mo T.F_t (oJ (pq 0) (oJ (pq 4) (oJ (pq 5) (oJ (pq 6) oK)))))))))))),?_⟩
  show tSeq _ _ _ [some (.ref g),some (.ref l),some (.ref v),some (.ref n),none,none,none] H;have lo:R.length=srt.length:=by have:=mE Z;rwa[zqe]at this
  have d7:=f.to.len;have e3:0<srt.length:=by
   have:=List.length_pos_of_mem f.grp.one
   rwa[zqe]at this
  have d0:=f.grp;have mem:∀{i:Nat},i<srt.length->∃(y:Dd×List Nat)(q:Addr),srt[i]?=some y/\R[i]?=some q/\DdS K H0 q y.1:=λ{i}hi=>by
   obtain⟨y,m⟩:∃y,srt[i]?=some y:=⟨_,zqd hi⟩;obtain⟨q,p⟩:∃q,R[i]?=some q:=⟨_,zqd ⋯⟩;obtain⟨e0,a6,I⟩:=kM Z p;rw[zI,m]at a6;cases a6;exact⟨y,q,m,p,I⟩
  right;refine⟨false,l,_,rfl,SqB.lst (O _ _ hl),?_⟩
  try ext
  rw[zqe,lo];refine⟨n,_,b,W,rfl,U,S,⋯,⋯,⋯,λc9 X V=>?_⟩;obtain⟨b6,M⟩:=nM (many:=(srt.length:Int)) S ⋯;have k1:KX n H c9:=λc x L e=>by rw[X c L];exact e
  generalize tkB b (srt.length:Int)=b1 at*;generalize tkV b (srt.length:Int)=a2 at*
  obtain⟨i,b4,hi⟩:∃i:Nat,a2=(i:Int)/\i<srt.length:=⟨a2.toNat,⋯,⋯⟩;subst b4;have a1:=iA O a0 k1;left;refine⟨false,l,_,rfl,SqB.lst (a1 _ _ hl),?_⟩
  try ext
  rw[zqe,lo];refine⟨n,_,b1,W+1,rfl,V,M,⋯,⋯,⋯,λb9 a4 b0=>?_⟩;obtain⟨c3,c6⟩:=nM (many:=(srt.length:Int)) M ⋯;have k2:KX n H b9:=k1.trans λc x L e=>by rw[a4 c L];exact e
  generalize tkB b1 (srt.length:Int)=b2 at*;generalize tkV b1 (srt.length:Int)=v2 at*
  obtain⟨j,c0,c5⟩:∃j:Nat,v2=(j:Int)/\j<srt.length:=⟨v2.toNat,⋯,⋯⟩;subst c0;have o:=iA O a0 k2;obtain⟨y,q,m,p,I⟩:=mem hi;obtain⟨a,a8,C,b7,c2⟩:=mem c5;obtain⟨k,z,a3,Y⟩:=El (d0.mul _ (gL m) _ (gL C));have a9:vT (numT srt 0) (dat z.1)=some (.int k):=by rw[dD f.nd a3,xO]
  have u:=f.pr _ (gL m);have d:=f.pr _ (gL C);have d5:Pr (famD F.k) 300 a.1:=⟨d.sq,d.len,d.pos,d.bm,λz c4=>zJ (d.bt z c4) (yC ∅ ∅),d.bu⟩;clear k1 k2 X a4 b6 c3 M c6 V b0 a1 S U;subst e1;refine st λN1 e1=>?_;simp only[tBMR];ext;refine⟨⟨v,_,rfl,D.up o⟩,?_⟩;ext;refine jL (i:=i) (o _ _ hl) (by rw[zI,p];rfl) rfl ?_;refine jL (i:=j) (o _ _ hl) (by rw[zI,b7];rfl) rfl ?_;refine⟨q,a8,y.1,a.1,famD F.k,100,rfl,I.up o,c2.up o,f.dim,u,d5,∅,λr d9 d3 J=>?_⟩;have a5:=xE d.pos u.pos;have d1:Sq (famD F.k) (behD (famD F.k) y.1 a.1).1:=d.sq.mul;have d8:=f.dim;have l2:(behD (famD F.k) y.1 a.1).2.1.length<=100:=by
   show(redT _ (movT _ _ _ _ _)).length<=100;unfold redT;rw[zqe,Ez d.sq d.len];omega
  have up:0<(behD (famD F.k) y.1 a.1).2.2:=gH _ ⋯;have d6:mO (behD (famD F.k) y.1 a.1).2.2:=by
   obtain⟨_,_,b8⟩:=cS (ts:=movT a.1.1 a.1.2.1 a.1.2.2 y.1.2.1 y.1.2.2) a5;have b1:=u.bu;have b2:=d.bu;have J:a.1.2.2*y.1.2.2<=2^100*2^100:=sI ⋯ ⋯ (wZ u.pos) ∅;have G:(behD (famD F.k) y.1 a.1).2.2<=2^100*2^100:=Int.le_trans b8 J;have c8:(behD (famD F.k) y.1 a.1).2.2.natAbs<2^201:=⋯
   exact iP c8 ∅
  refine⟨r,_,rfl,J.s,by have:=d1.1;omega,l2,up,d6,λr2 a7 b3 G=>?_⟩;have d4:canD (behD (famD F.k) y.1 a.1).1 (behD (famD F.k) y.1 a.1).2.1 (behD (famD F.k) y.1 a.1).2.2=oZ (famD F.k) y.1 a.1:=En a5;rw[d4,←Y]at G;have N:=(o.trans d3).trans b3;refine⟨v,_,r2,_,rfl,rfl,D.up N,kL _,G.dt,?_⟩;rw[a9];show N1 [some (.ref g),some (.ref l),some (.ref v),some (.ref n),some (.int i),some (.int j),some (.int k)] a7;symm;rw[zN (by intro z;cases z)];exact iteT ⟨g,F,ms,srt,i,j,k,y,a,z,rfl,f.up N,m,C,a3,Y.symm,λc1 c7=>b5 c1 (N.trans c7)⟩
theorem Yc{d:Nat}{x:Dd}{w:List Nat}{tb:Tb}{ks:Dd×Nat}{y:Dd×List Nat}(h:y∈tb):y∈nxt d x w tb ks:=by
 unfold nxt;split
 ·exact h
 ·exact xU _ h
theorem Mr{d:Nat}{x:Dd}{w:List Nat}:∀(l:List (Dd×Nat))(tb:Tb),(x,w)∈tb->ND tb->ND (l.foldl (nxt d x w) tb)
 |[],_,_,h=>h
 |k:: l,tb,a,h=>Mr l _ (Yc a) (Dp h a)
theorem Mq{d:Nat}{ss:List Dd}:∀(n i:Nat)(tb:Tb),ND tb->ND (nP d ss n i tb)
 |0,_,_,h=>h
 | n+1,i,tb,h=>by
  unfold nP;split
  ·refine Mq n (i+1) _ ?_;unfold kA;cases e:tb[i]? with
   |none=>exact h
   |some a=>exact Mr _ _ (zqb e) h
  ·exact h
theorem Yb{d:Nat}{ss:List Dd}{N:Nat}:ND (tab d ss N):=Mq N 0 _ ⟨by simp,λy a=>by rw[List.mem_singleton.mp a];exact Nat.zero_lt_one⟩
theorem cW{H:Hp}{g:Addr}{d:Nat}{ms:List Dd}{srt:Tb}{Q:VK}(h:GrpF K t H g d ms srt)(l2:srt.length<=200)(k:∀l H',Same H H'->WlN H H' l (srt.map (·.2))->Q (.ref l) H'):∃a fs,H g=some (.ins t.a_2 a fs)/\fs.lookup (Str.ofString "words")=none/\sp_4 K t [.ref g] H Q E0:=by
 obtain⟨a,f,lo,c,e,b,_⟩:=id h.ex;exact⟨a,_,b,rfl,g,d,ms,srt,rfl,h,l2,k⟩
def wdD(w:List Nat):PyData:=.list (w.map λn=>PyData.int (n:Nat))
def wlD(W:List (List Nat)):PyData:=.list (W.map wdD)
theorem Ya{K:Frag}{H:Hp}{p:Addr}{w:List Nat}(e:H p=some (.lst (wV w))):Dt K H (.ref p) (wdD w):=by
 refine .lst (SqL.of e) ?_;clear e
 induction w with
 |nil=>exact .nil
 |cons n w a=>exact .cons (.int _) a
theorem fL{K:Frag}{H:Hp}{l:Addr}{ps:LA}{W:List (List Nat)}(e:H l=some (.lst (ps.map V.ref)))(h:Paired (λp(w:List Nat)=>H p=some (.lst (wV w))) ps W):Dt K H (.ref l) (wlD W):=by
 refine .lst (SqL.of e) ?_;clear e
 induction h with
 |nil=>exact .nil
 |cons a _ b=>exact .cons (Ya a) b
theorem jO(W:List (List Nat)):iT 5 (wlD W)=true:=by
 show(W.map wdD).all (iT 4)=true;rw[vE];intro x b;obtain⟨w,_,rfl⟩:=pZ.mp b;show(w.map λn=>PyData.int (n:Nat)).all (iT 3)=true;rw[vE];intro y a;obtain⟨n,_,rfl⟩:=pZ.mp a;rfl
def tri(a b c:PyData):PyData:=.list [a,b,c]
def two(a b:PyData):PyData:=.list [a,b]
theorem Ao{a b c:PyData}(d:iT 5 a=true)(e:iT 5 b=true)(f:iT 5 c=true):iT 6 (tri a b c)=true:=by
 show[a,b,c].all (iT 5)=true;simp[d,e,f]
theorem Zz{a b:PyData}(c:iT 5 a=true)(d:iT 5 b=true):iT 6 (two a b)=true:=by
 show[a,b].all (iT 5)=true;simp[c,d]
theorem fM{H c:Hp}{a:Addr}{o:HO}(s:Same H c)(n:H a=none):Same H (upd c a o):=λb d e=>by
 rw[oT (λz=>by rw[z,n]at e;cases e)];exact s b d e
mutual
theorem Dt.same{K:Frag}{H H':Hp}(s:Same H H'):∀{v:V}{d:PyData},Dt K H v d->Dt K H' v d
 |_,_,.non=>.non
 |_,_,.bl b=>.bl b
 |_,_,.int i=>.int i
 |_,_,.str x=>.str x
 |_,_,.lst a b=>.lst (jB a s) (Dts.same s b)
 |_,_,.tup a b=>.tup (lP s _ _ a) (Dts.same s b)
theorem Dts.same{K:Frag}{H H':Hp}(s:Same H H'):∀{vs:List V}{ds:List PyData},Dts K H vs ds->Dts K H' vs ds
 |_,_,.nil=>.nil
 |_,_,.cons a b=>.cons (Dt.same s a) (Dts.same s b)
end
def offS(S:LA)(H:Hp):Hp:=λb=>if b∈S then none else H b
theorem cX{S:LA}{H:Hp}{b:Addr}(h:b∉S):offS S H b=H b:=zD h
theorem Zy{S:LA}{H:Hp}:Same (offS S H) H:=λb o e=>by
 unfold offS at e;split at e
 ·cases e
 ·exact e
theorem Zx{K:Frag}{S:LA}{H:Hp}(c:∀a∈S,∃xs,H a=some (.lst xs)):TK K H (offS S H):=by
 refine⟨λb xs e=>?_,λb xs q=>?_⟩
 ·rw[cX (λm=>by obtain⟨ys,z⟩:=c b m;rw[e]at z;cases z)];exact e
 ·rcases q with(q|⟨d,q⟩)|q
  ·exact .inl (.inl (by rw[cX (λm=>by obtain⟨ys,z⟩:=c b m;rw[q]at z;cases z)];exact q))
  ·exact .inl (.inr ⟨d,by rw[cX (λm=>by obtain⟨ys,z⟩:=c b m;rw[q]at z;cases z)];exact q⟩)
  ·exact .inr q
def sp_c(K:Frag)(t:Adr):Sp:=λvs H Q _=>E7 λ(g l lw lh:Addr)(F:Fr4)(ms:List Dd)(srt:Tb)=>A7 (vs=[.ref g,.ref l,.ref lw,.ref lh]) (GC K t F H g ms srt) (ms.length<=3) (Dt K H (.ref l) (dlD (srt.map (·.1)))) (Dt K H (.ref lw) (wlD (srt.map (·.2)))) (Dt K H (.ref lh) (two (dlD (srt.map (·.1))) (wlD (srt.map (·.2))))) (∀H',Same H H'->Q (.bl true) H')
theorem ok_c(T:Txt K mg t):FnOk P w K mg base CX0 4 t.a_c t.d_c pe' (sp_c K t):=by
 apply T.F_c.ok sc_c
 ·have c2:=hr.units;obtain⟨g,l,a6,d7,F,ms,srt,rfl,X,p7,h9,j7,h0,m6⟩:=h;refine⟨_,(oM (oU (i:=4) sc_c.nd rfl (Or.inl rfl) (nI (oJ (kB (C:=t.a_2) (pq 0) T.cl_2 T.me_5 (ok_5 T) hr.mo T.b_5 .nil mC) (oJ (kB (C:=t.a_2) (pq 0) T.cl_2 T.me_3 (ok_3 T) hr.mo T.b_3 .nil mC) (oJ (kB (C:=t.a_2) (pq 0) T.cl_2 T.me_4 (ok_4 T) hr.mo T.b_4 .nil mC) oK)))))
   (oM (oU (i:=5) sc_c.nd rfl (Or.inl rfl) (nI (oJ (kB (C:=t.a_2) (pq 0) T.cl_2 T.me_5 (ok_5 T) hr.mo T.b_5 .nil mC) (oJ (kB (C:=t.a_2) (pq 0) T.cl_2 T.me_3 (ok_3 T) hr.mo T.b_3 .nil mC) (oJ (kB (C:=t.a_2) (pq 0) T.cl_2 T.me_4 (ok_4 T) hr.mo T.b_4 .nil mC) oK)))))
   (oM (oU (i:=6) sc_c.nd rfl (Or.inl rfl) (nI (oJ (mB kR rfl T.z_list (nofun) (oJ (oX (pq 5)) oK)) (oJ (mB kR rfl T.z_list (nofun) (oJ (oX (pq 5)) oK)) (oJ (nT (sc:=oR aU) (N:=N_c) (fr:=[]) (te:=(tCB (gT K) (nF (tVar 0) tNil))) rfl rfl (nofun) rfl (nofun) (nV (oX (pq 5))) (λ_ _ _ p4=>(mB kR rfl T.z_list (nofun) (oJ (pv 0) oK)))) oK)))))
   (oM (lU (jF yM yY yZ jG (oX (pq 4)) (oJ oN oK)))
   (oM (lU (Fa yM PySem.F.slot_list_pop PySem.F.type_list_pop Pt (oX (pq 4))))
   (oM (nK (PW.pt (kN (nH (gS c2) (pq 5) (pq 6) (nD _)) (jP (nH (gS c2) (nI (oJ (pq 1) (oJ (pq 2) oK))) (pq 3) (nD _)))))
   (oO (oW mZ))
   nJ)
   (oM (lU (Fa yM PySem.F.slot_list_clear PySem.F.type_list_clear Po (oX (pq 4))))
   (oM (lU (jF yM yY yZ jG (nQ ix_B (oX (pq 4)) (gO gQ oN) (λ_ _=>rfl)) (oJ oN oK)))
   (oM (lU (jF yM yY yZ jG (oX (pq 4)) (oJ (nI (oJ oN oK)) oK)))
   (oO (oW (dG (jD (dP c2) (pq 5) (pq 6) (nD _)) (dF (jD (dP c2) (nI (oJ (pq 1) (oJ (pq 2) oK))) (pq 3) (nD _))))))))))))))),?_⟩
  show tSeq _ _ _ [some (.ref g),some (.ref l),some (.ref a6),some (.ref d7),none,none,none] H;have i5:=X.to.len;have p9:0<srt.length:=by
   have:=List.length_pos_of_mem X.grp.one
   rwa[zqe]at this
  have hsz:1000<=sizeLine:=∅
  right;simp only[lF];ext;refine Ap X.f λc gs b9 i j6 a8 g7=>?_;have q3:=mE g7;clear g7;refine cV (X.up i).f λa C h7 n c1 b3 m3=>?_;refine cW ((X.up i).up n).f i5 λd R sc m8=>?_;refine⟨by show 3<=sizeLine;decide,λr L=>?_⟩;have k:=Same.new (o:=.lst [V.ref c,.ref a,.ref d]) L;have m0:(upd R r (.lst [V.ref c,.ref a,.ref d])) r=some (.lst [V.ref c,.ref a,.ref d]):=oP;generalize upd R r (.lst [V.ref c,.ref a,.ref d])=x at*
  obtain⟨a2,J,a5,e4⟩:=m8;have f5:J.length=srt.length:=by have:=mE e4;rwa[zqe]at this
  obtain⟨f,f4⟩:∃f,J[srt.length-1]?=some f:=⟨_,zqd ⋯⟩;obtain⟨W,o4,a7,n0,g0⟩:=kM e4 f4;have p8:C.length=srt.length:=mE m3;have v:=i.trans n;have k4:=v.trans sc;have i3:=k4.trans k;have c3:x c=some (.lst (gs.map V.ref)):=k _ _ (sc _ _ (n _ _ a8));have c4:x a=some (.lst (C.map V.ref)):=k _ _ (sc _ _ b3);have b6:x d=some (.lst (J.map V.ref)):=k _ _ a5;have d1:x f=some (.lst (wV W)):=k _ _ g0;have j4:H c=none:=j6;have j2:H a=none:=lH i c1;have l4:H d=none:=lH v a2;have i6:H f=none:=lH v a7;have o3:a≠c:=λz=>by rw[z,a8]at c1;cases c1
  have o9:f≠c:=λz=>by rw[z,n _ _ a8]at a7;cases a7
  have g8:f≠a:=λz=>by rw[z,b3]at a7;cases a7
  have p1:d≠c:=λz=>by rw[z,n _ _ a8]at a2;cases a2
  have g9:d≠a:=λz=>by rw[z,b3]at a2;cases a2
  have o6:r≠c:=λz=>by rw[z,sc _ _ (n _ _ a8)]at L;cases L
  have h5:r≠a:=λz=>by rw[z,sc _ _ b3]at L;cases L
  have p3:r≠d:=λz=>by rw[z,a5]at L;cases L
  have p2:r≠f:=λz=>by rw[z,g0]at L;cases L
  clear e4 g0 a5 b3 a8 j6 c1 a2 a7 L i n sc k v k4 m3;left;simp only[lF];ext;have b5:=X.up i3;refine Ap b5.f λk0 a4 b9 i i9 l8 h8=>?_;refine cV (b5.up i).f λk1 ok h7 n g3 j8 m2=>?_;refine cW ((b5.up i).up n).f i5 λk2 R sc n6=>?_;refine⟨by show 3<=sizeLine;decide,λO e7=>?_⟩;have k:=Same.new (o:=.lst [V.ref k0,.ref k1,.ref k2]) e7;have b4:(upd R O (.lst [V.ref k0,.ref k1,.ref k2])) O=some (.lst [V.ref k0,.ref k1,.ref k2]):=oP;generalize upd R O (.lst [V.ref k0,.ref k1,.ref k2])=U at*
  obtain⟨j9,g5,k7,l7⟩:=n6;have b7:=n.trans (sc.trans k);have f6:=sc.trans k;have g2:U k0=some (.lst (a4.map V.ref)):=b7 _ _ l8;have d5:U k1=some (.lst (ok.map V.ref)):=f6 _ _ j8;have c8:U k2=some (.lst (g5.map V.ref)):=k _ _ k7;have e8:Paired (DdS K U) a4 ms:=Paired.mapP h8 λ_ _ z=>DdS.up z b7;have e6:Paired (DdS K U) ok (srt.map (·.1)):=Paired.mapP (Ej m2) λ_ _ z=>DdS.up z f6;have g1:Paired (λp(w:List Nat)=>x p=none/\U p=some (.lst (wV w))) g5 (srt.map (·.2)):=Paired.mapP l7 λ_ _ z=>⟨lH (i.trans n) z.1,k _ _ z.2.2⟩;have i8:x k0=none:=i9;have g6:x k1=none:=lH i g3;have h3:x k2=none:=lH (i.trans n) j9;have h1:x O=none:=lH ((i.trans n).trans sc) e7;have a1:Same x U:=i.trans b7;clear h8 m2 l7 l8 j8 k7 i9 g3 j9 e7 i n sc k b7 f6 b5;left;refine⟨false,O,_,_,_,rfl,rfl,SqB.lst b4,rfl,?_⟩;refine⟨false,k0,_,rfl,SqB.lst g2,λa0 e2=>?_⟩;have i:=Same.new (o:=.lst (a4.map V.ref)) e2;have l1:(upd U a0 (.lst (a4.map V.ref))) a0=some (.lst (a4.map V.ref)):=oP;generalize upd U a0 (.lst (a4.map V.ref))=b9 at*
  refine⟨false,O,_,_,_,rfl,rfl,SqB.lst (i _ _ b4),rfl,?_⟩;refine⟨false,k1,_,rfl,SqB.lst (i _ _ d5),λZ f9=>?_⟩;have n:=Same.new (o:=.lst (ok.map V.ref)) f9;have l9:(upd b9 Z (.lst (ok.map V.ref))) Z=some (.lst (ok.map V.ref)):=oP;generalize upd b9 Z (.lst (ok.map V.ref))=h7 at*
  have v:=i.trans n;exfalso;refine⟨false,O,_,_,_,rfl,rfl,SqB.lst (v _ _ b4),rfl,?_⟩;refine⟨false,k2,rfl,⟨_,SqB.lst (v _ _ c8)⟩,λc9 e9=>?_⟩;subst eB;refine Dk e9 (v _ _ c8) (Paired.mapP g1 λ_ _ z=>v _ _ z.2) (by rw[zqe];omega) λR sc m7=>?_;refine⟨by show 3<=sizeLine;decide,λa9 f3=>?_⟩;have k:=Same.new (o:=.lst [V.ref a0,.ref Z,.ref c9]) f3;have j1:(upd R a9 (.lst [V.ref a0,.ref Z,.ref c9])) a9=some (.lst [V.ref a0,.ref Z,.ref c9]):=oP;generalize upd R a9 (.lst [V.ref a0,.ref Z,.ref c9])=u at*
  obtain⟨_,q2,a5,k3⟩:=m7;have I:=(v.trans sc).trans k;have G:=a1.trans I;have l5:=i3.trans G;have b1:∀{b},R b=none->x b=none:=λh=>lH ((a1.trans v).trans sc) h;have d3:∀b∈[c,a,d,f],(∃xs,u b=some (.lst xs))/\H b=none/\x b≠none:=by
   intro b b8;simp only[List.mem_cons,List.not_mem_nil,or_false]at b8;rcases b8 with rfl|rfl|rfl|rfl
   ·exact⟨⟨_,G _ _ c3⟩,j4,by rw[c3];exact tO _⟩
   ·exact⟨⟨_,G _ _ c4⟩,j2,by rw[c4];exact tO _⟩
   ·exact⟨⟨_,G _ _ b6⟩,l4,by rw[b6];exact tO _⟩
   ·exact⟨⟨_,G _ _ d1⟩,i6,by rw[d1];exact tO _⟩
  have b0:=Zx (K:=K) (S:=[c,a,d,f]) λb b8=>(d3 b b8).1;have d2:Same H (offS [c,a,d,f] u):=λb o e=>by
   rw[cX (λm=>by rw[(d3 b m).2.1]at e;cases e)];exact l5 _ _ e
  have ins:∀{b:Addr},x b=none->offS [c,a,d,f] u b=u b:=λh=>cX (λm=>(d3 _ m).2.2 h);have out:∀b∈[c,a,d,f],offS [c,a,d,f] u b=none:=λb m=>zF m;have m4:Same (offS [c,a,d,f] u) u:=Zy;have i1:Dt K (offS [c,a,d,f] u) (.ref O) (tri (dlD ms) (dlD (srt.map (·.1))) (wlD (srt.map (·.2)))):=by
   refine .lst (SqL.of (by rw[ins h1];exact I _ _ b4)) (.cons ?_ (.cons ?_ (.cons ?_ .nil)))
   ·exact jN (by rw[ins i8];exact I _ _ g2) (Paired.mapP e8 λ_ _ z=>DdS.tk (DdS.up z I) b0)
   ·exact jN (by rw[ins g6];exact I _ _ d5) (Paired.mapP e6 λ_ _ z=>DdS.tk (DdS.up z I) b0)
   ·exact fL (by rw[ins h3];exact I _ _ c8) (Paired.mapP g1 λ_ _ z=>by rw[ins z.1];exact I _ _ z.2)
  have i0:Dt K (offS [c,a,d,f] u) (.ref a9) (tri (dlD ms) (dlD (srt.map (·.1))) (wlD (srt.map (·.2)))):=by
   refine .lst (SqL.of (by rw[ins (b1 f3)];exact j1)) (.cons ?_ (.cons ?_ (.cons ?_ .nil)))
   ·exact jN (by rw[ins (lH a1 e2)];exact k _ _ (sc _ _ (n _ _ l1))) (Paired.mapP e8 λ_ _ z=>DdS.tk (DdS.up z I) b0)
   ·exact jN (by rw[ins (lH (a1.trans i) f9)];exact k _ _ (sc _ _ l9)) (Paired.mapP e6 λ_ _ z=>DdS.tk (DdS.up z I) b0)
   ·exact fL (by rw[ins (lH (a1.trans v) e9)];exact k _ _ a5) (Paired.mapP k3 λ_ _ z=>by rw[ins (lH (a1.trans v) z.1)];exact k _ _ z.2.2)
  have n1:=Dt.same d2 h9;have o0:=Dt.same d2 j7;have i4:=Dt.same d2 h0;have f1:=G _ _ m0;have d9:=G _ _ c3;have i7:=G _ _ c4;have l2:=G _ _ b6;have k5:=G _ _ d1;generalize offS [c,a,d,f] u=N at*
  clear d3 b0 ins h9 j7 h0 k3 a5 g1 e6 e8 j1 b4 g2 d5 c8 l1 l9 e2 f9 e9 f3 i n sc k v I G l5 a1 b1 m0 c3 c4 b6 d1 i8 g6 h3 h1 j4 j2 l4 i6;have n5:∀{j:Hp}{Y:VK},Same N j->Y (.bl false) j->rNeD K (.ref O) (.ref a9) j Y:=λM q=>fX 6 ∅ (Dt.same M i1) (Dt.same M i0) (Ao (lI _) (lI _) (jO _)) (Ao (lI _) (lI _) (jO _)) (b:=true) (by simp) q;have c7:∀{j:Hp}{p:Addr},Same N j->j p=none->Same N (upd j p (.lst [V.ref l,.ref a6]))/\Dt K (upd j p (.lst [V.ref l,.ref a6])) (.ref p) (two (dlD (srt.map (·.1))) (wlD (srt.map (·.2)))):=λ{j p}M S =>
   have e5:=M.trans (Same.new (o:=.lst [V.ref l,.ref a6]) S)
   ⟨e5,.lst (SqL.of oP) (.cons (Dt.same e5 n1) (.cons (Dt.same e5 o0) .nil))⟩
  have c5:=Zz (lI (srt.map (·.1))) (jO (srt.map (·.2)));have n4:∀{j:Hp}{Y:VK},Same N j->(∀D,Same j D->Y (.bl false) D)->∀p,j p=none->rNeD K (.ref p) (.ref d7) (upd j p (.lst [V.ref l,.ref a6])) Y:=λM q p S=>fX 6 ∅ (c7 M S).2 (Dt.same (c7 M S).1 i4) c5 c5 (b:=true) (by simp) (q _ (Same.new S));have o8:∀{j:Hp}{Y:VK},Same N j->(∀D,Same j D->Y (.bl true) D)->∀p,j p=none->rEqD K (.ref p) (.ref d7) (upd j p (.lst [V.ref l,.ref a6])) Y:=λM q p S=>dX 6 ∅ (c7 M S).2 (Dt.same (c7 M S).1 i4) c5 c5 (b:=true) (by simp) (q _ (Same.new S));left;refine⟨false,r,_,_,_,rfl,rfl,SqB.lst f1,rfl,tyL d9,c,_,_,rfl,rfl,d9,by rw[zqe];omega,?_⟩;have g4:Same N (upd u c (.lst (gs.map V.ref++[.int 1]))):=fM m4 (out c (by simp));have d4:(upd u c (.lst (gs.map V.ref++[.int 1]))) r=some (.lst [V.ref c,.ref a,.ref d]):=by rw[oT o6];exact f1
  have f7:(upd u c (.lst (gs.map V.ref++[.int 1]))) a=some (.lst (C.map V.ref)):=by rw[oT o3];exact i7
  have j3:(upd u c (.lst (gs.map V.ref++[.int 1]))) d=some (.lst (J.map V.ref)):=by rw[oT p1];exact l2
  have i2:(upd u c (.lst (gs.map V.ref++[.int 1]))) f=some (.lst (wV W)):=by rw[oT o9];exact k5
  generalize upd u c (.lst (gs.map V.ref++[.int 1]))=a3 at*;clear d9 i7 l2 k5 f1 m4;left;obtain⟨k8,p0⟩:∃k8,C[C.length-1]?=some k8:=⟨_,zqd ⋯⟩;refine⟨false,r,_,_,_,rfl,rfl,SqB.lst d4,rfl,tyL f7,a,_,_,rfl,rfl,f7,by rw[zqe,zI,p0];rfl,?_⟩;have d0:Same N (upd a3 a (.lst (C.map V.ref).dropLast)):=fM g4 (out a (by simp));have m5:(upd a3 a (.lst (C.map V.ref).dropLast)) r=some (.lst [V.ref c,.ref a,.ref d]):=by rw[oT h5];exact d4
  have l0:(upd a3 a (.lst (C.map V.ref).dropLast)) a=some (.lst (C.map V.ref).dropLast):=oP;have m1:(upd a3 a (.lst (C.map V.ref).dropLast)) d=some (.lst (J.map V.ref)):=by rw[oT g9];exact j3
  have j0:(upd a3 a (.lst (C.map V.ref).dropLast)) f=some (.lst (wV W)):=by rw[oT g8];exact i2
  generalize upd a3 a (.lst (C.map V.ref).dropLast)=p6 at*;clear f7 j3 i2 d4 g4;left;refine n5 d0 ⟨_,rfl,iteF ⟨by show 2<=sizeLine;decide,n4 d0 λD b2=>⟨_,rfl,iteF ?_⟩⟩⟩;have h2:=d0.trans b2;have e3:=b2 _ _ m5;have f8:=b2 _ _ l0;have j5:=b2 _ _ m1;have h6:=b2 _ _ j0;clear m5 l0 m1 j0 d0;left;refine⟨false,r,_,_,_,rfl,rfl,SqB.lst e3,rfl,tyL f8,a,_,rfl,rfl,f8,?_⟩;have k9:Same N (upd D a (.lst [])):=fM h2 (out a (by simp));have d8:(upd D a (.lst [])) r=some (.lst [V.ref c,.ref a,.ref d]):=by rw[oT h5];exact e3
  have e0:(upd D a (.lst [])) d=some (.lst (J.map V.ref)):=by rw[oT g9];exact j5
  have f0:(upd D a (.lst [])) f=some (.lst (wV W)):=by rw[oT g8];exact h6
  generalize upd D a (.lst [])=c0 at*;clear e3 f8 j5 h6 h2;have o7:(wV W).length<sizeLine:=by
   obtain⟨y,m9,rfl⟩:=gJ o4;have p5:=(Yb (d:=famD F.k) (ss:=ms.map oV) (N:=201)).2 y (X.to.p.mem_iff.mp (zqb m9));have q0:=X.to.l;unfold wV;rw[zqe];omega
  left;have n8:atI (J.map V.ref) (-1)=some (V.ref f):=by
   obtain⟨d6,h4,rfl⟩:∃d6 h4,J=d6++[h4]:=⟨_,_,(List.dropLast_concat_getLast (λz=>by rw[z]at f5;simp at f5;omega)).symm⟩;rw[show srt.length-1=d6.length by rw[←f5,yE];rfl,List.getElem?_concat_length]at f4;cases f4;rw[xD];exact Oj _ _
  refine⟨false,r,_,_,_,rfl,rfl,SqB.lst d8,rfl,?_⟩
  try ext
  refine⟨false,d,_,_,_,rfl,rfl,SqB.lst e0,n8,tyL f0,f,_,_,rfl,rfl,f0,o7,?_⟩;have o2:Same N (upd c0 f (.lst (wV W++[.int 5]))):=fM k9 (out f (by simp));have o1:(upd c0 f (.lst (wV W++[.int 5]))) r=some (.lst [V.ref c,.ref a,.ref d]):=by rw[oT p2];exact d8
  have l6:(upd c0 f (.lst (wV W++[.int 5]))) d=some (.lst (J.map V.ref)):=by rw[oT (yA n0)];exact e0
  generalize upd c0 f (.lst (wV W++[.int 5]))=n3 at*;clear d8 e0 f0 k9;left;refine⟨false,r,_,_,_,rfl,rfl,SqB.lst o1,rfl,tyL l6,by show 1<=sizeLine;decide,λf2 o5=>?_⟩;have l3:=Same.new (o:=.lst [V.int 7]) o5;have n2:=l3 _ _ l6;have n9:=o2.trans l3;generalize upd n3 f2 (.lst [V.int 7])=k6 at*
  refine⟨d,_,_,rfl,rfl,n2,by rw[zqe];omega,?_⟩;have c6:Same N (upd k6 d (.lst (J.map V.ref++[.ref f2]))):=fM n9 (out d (by simp));generalize upd k6 d (.lst (J.map V.ref++[.ref f2]))=q1 at*
  symm;refine dX 6 ∅ (Dt.same c6 i1) (Dt.same c6 i0) (Ao (lI _) (lI _) (jO _)) (Ao (lI _) (lI _) (jO _)) (b:=true) (by simp) ?_;exact⟨true,rfl,iteT ⟨by show 2<=sizeLine;decide,o8 c6 λn7 sz=>m6 n7 (d2.trans (c6.trans sz))⟩⟩
def sp_e(K:Frag)(t:Adr):Sp:=λvs H Q _=>E13 λ(g nb sc q l:Addr)(F:Fr4)(ms:List Dd)(srt:Tb)(cs S:LI')(d:Nat)(su so:Int)=>A13 (vs=[.ref g,.ref nb,.ref sc,.int d,.int so,.ref q]) (d=famD F.k) (GC K t F H g ms srt) (DTr K H nb (numT srt 0)) (SqL K H sc (cs.map V.int)) (H q=some (.tup [.ref l,.int su])) (H l=some (.lst (S.map V.int))) (S.length=d) ((∀z∈S,0<=z/\z<1000)) (0<su) (su<=1000) (0<=so) (∀H',Same H H'->Q (.bl true) H')
def FarT(u:Int)(ts:LI')(i:Nat)(ns:LI'):Prop:=ns.length=i/\∀(j:Nat) n,ns[j]?=some n->∃z f,ts[j]?=some z/\n=z+u*f
theorem Zw{u:Int}{ts ns:LI'}{i:Nat}{z f:Int}(h:FarT u ts i ns)(e:ts[i]?=some z):FarT u ts (i+1) (ns++[z+u*f]):=by
 refine⟨by rw[yE,h.1];rfl,λj n a=>?_⟩;rw[List.getElem?_append]at a;split at a
 ·exact h.2 j n a
 ·rw[List.getElem?_singleton]at a;split at a
  ·next c b =>
   cases a;have:j=i:=by have:=h.1;omega
   subst this;exact⟨z,f,e,rfl⟩
  ·cases a
theorem Zv{u:Int}{ts ns:LI'}(h:FarT u ts ts.length ns):Cong u ns ts:=by
 refine⟨h.1,λi x y e1 a=>?_⟩;obtain⟨z,f,e,rfl⟩:=h.2 i x e1;rw[a]at e;cases e;exact⟨f,⋯⟩
theorem ok_e(T:Txt K mg t):FnOk P w K mg base CX0 7 t.a_e t.d_e pa' (sp_e K t):=by
 apply T.F_e.ok sc_e
 ·have n4:=hr.units;obtain⟨g,I,sc,q,l,F,ms,srt,cs,S,d,d0,so,rfl,i4,b3,D,j2,l8,j9,k1,m3,g8,f7,m1,k0⟩:=h;refine⟨_,(oM (oU (i:=6) sc_e.nd rfl (Or.inl rfl) (oQ (ok_g T) hr.mo T.F_g (oJ (pq 2) (oJ oN (oJ (pq 3) (oJ (pq 5) (oJ (pq 4) oK)))))))
   (oM (oU (i:=7) sc_e.nd rfl (Or.inl rfl) (oQ (ok_11 T) hr.mo T.F_11 (oJ (pq 2) (oJ oN oK))))
   (oM (oU (i:=8) sc_e.nd rfl (Or.inl rfl) (nI oK))
   (oM (mQ yL rfl (mF rfl T.z_range (oJ (pq 3) oK)) (nX (i:=9) sc_e.nd rfl (Or.inl rfl))
   (oM (oU (i:=10) sc_e.nd rfl (Or.inl rfl) (oS kO (oQ (ok_1 T) hr.mo T.F_1 (oJ (pq 7) (oJ oN oK))) oN))
   (oM (nK (nH lG (oQ (ok_1 T) hr.mo T.F_1 (oJ (pq 7) (oJ oN oK))) oN (nD _))
   (oO (oU (i:=10) sc_e.nd rfl (Or.inl rfl) (oS kO (oQ (ok_1 T) hr.mo T.F_1 (oJ (pq 7) (oJ (oS nR (oS nR oN (oS gP oN oN)) (oS gP oN oN)) oK))) (oS nR (oS gP oN oN) (oS gP oN oN)))))
   nJ)
   (oO (lU (jF yM yY yZ jG (pq 8) (oJ (oS mJ (nQ ix_B (oX (pq 6)) (pq 9) (λ_ _=>rfl)) (oS nR (oX (pq 6)) (pq 10))) oK)))))))
   (oM (oU (i:=11) sc_e.nd rfl (Or.inl rfl) (oQ (ok_10 T) hr.mo T.F_10 (oJ (oQ (ok_q T) hr.mo T.F_q (oJ (oS kO oN (pq 3)) oK)) (oJ (oS Ab (nI (oJ oN oK)) (oS kO oN (pq 3))) (oJ oN oK)))))
   (oM (oU (i:=12) sc_e.nd rfl (Or.inl rfl) (lV (oJ (oX (pq 6)) (oJ (mB jJ rfl T.z_tuple (nofun) (oJ (pq 8) oK)) (oJ (oX (pq 6)) oK)))))
   (oM (mQ yL rfl (nV (nI (oJ (pq 6) (oJ (pq 12) oK)))) (nX (i:=13) sc_e.nd rfl (Or.inl rfl))
   (oO (nK (kF (lJ (oQ (ok_r T) hr.mo T.F_r (oJ (pq 0) (oJ (pq 13) (oJ (pq 1) oK))))))
   (oO (oW mZ))
   nJ)))
   (oO (oW (jD bD (iG (C:=t.a_2) (pq 0) T.cl_2 T.me_a (ok_a T) hr.mo T.b_a .nil mC (oJ (pq 11) oK)) iR (nD _))))))))))),?_⟩
  show tSeq _ _ _ [some (.ref g),some (.ref I),some (.ref sc),some (.int d),some (.int so),some (.ref q),none,none,none,none,none,none,none,none] H;have a4:=b3.dim;rw[←i4]at a4;right;refine⟨sc,q,l,cs,S,10,d,d0,so,rfl,j2,∅,a4,l8,j9,k1,m3,g8,f7,m1,λr1 a8 x h8 f1 l3=>?_⟩;obtain⟨R,k8,ts,u,lt,i8,b6,g9,G⟩:=l3;obtain⟨h0,l4⟩:=At (so:=so) a4;obtain⟨g4,k2⟩:=Eo a4 (jA (ns:=cs) (k:=2));rw[h0]at G lt;have us:0<u*d0:=xE b6 g8;have us2:u*d0<=200*1000:=sI g9 f7 ⋯ ⋯;obtain⟨g7,i9,m7⟩:=cS (ts:=ts) us;have n7:x.1.length=d:=by rw[G];exact(fH (kE a4 g4) R).1
  have m8:x.2.1.length=d:=by rw[G];show(redT _ ts).length=d;unfold redT;rw[zqe];exact lt
  have b4:0<x.2.2:=by rw[G];exact i9
  have n6:x.2.2<=200000:=by rw[G];show redU _ ts<=_;omega
  have xs:mO x.2.2:=iP (B:=20) ⋯ ∅;have n1:kX 250 x.2.1:=λz f6=>by
   rw[G]at f6;obtain⟨t',m4,k5⟩:=g7 z f6;exact wX k5 (i8 t' m4)
  have e8:canD x.1 x.2.1 x.2.2=oV x:=by rw[G];exact En us
  clear G g7 i9 m7 us us2 lt i8 b6 g9 k8 g4 k2 h0 l4;left;refine⟨sc,cs,12,rfl,jB j2 h8,∅,λm c1 e4 d4 d9=>?_⟩;have f8:BxOk 1200 (bxF cs 12):=jA (k:=12);generalize bxF cs 12=b2 at*
  left;refine⟨yB _,λa a3=>?_⟩;have e5:Same c1 (upd c1 a (.lst [])):=Same.new a3;have i6:(upd c1 a (.lst [])) a=some (.lst (([]:LI').map V.int)):=oP;have a6:a≠m:=λz=>by rw[z,d9]at a3;cases a3
  have f2:a8 a=none:=lH e4 a3;generalize upd c1 a (.lst [])=n9 at*
  subst e1;refine st λN1 e1=>mT λB eB=>?_;simp only[nU];ext;refine⟨⋯,⋯,?_⟩;rw[zQ];refine iM (g:=nB 9) (tb:=B) (λi J N=>∃(a2 O:Option V)(b:Box)(ns:LI'),J=[some (.ref g),some (.ref I),some (.ref sc),some (.int d),some (.int so),some (.ref q),some (.ref r1),some (.ref m),some (.ref a),a2,O,none,none,none]/\Same a8 N/\N m=some (bxO b)/\BxOk (1200+3*i) b/\N a=some (.lst (ns.map V.int))/\FarT x.2.2 x.2.1 i ns) ⟨none,none,b2,[],rfl,e4.trans e5,e5 _ _ d9,f8,i6,rfl,λj n e=>by cases e⟩ ?_ ?_
  ·rintro i J N hi ⟨a2,O,b,ns,rfl,b0,c9,c3,b8,a1⟩;obtain⟨z,e9⟩:∃z,x.2.1[i]?=some z:=⟨_,zqd ⋯⟩;subst eB;show tSeq _ _ _ [some (.ref g),some (.ref I),some (.ref sc),some (.int d),some (.int so),some (.ref q),some (.ref r1),some (.ref m),some (.ref a),some (.int (0+(i:Int))),O,none,none,none] N;refine st λh2 c6=>?_;ext;refine⟨m,9,b,_,rfl,c9,c3,⋯,∅,∅,λa5 h4 l6=>?_⟩;obtain⟨n8,j1⟩:=nM (many:=9) c3 ∅;have m0:a5 a=some (.lst (ns.map V.int)):=by rw[h4 a a6];exact b8
   have m5:Same a8 a5:=iA b0 d4 λc o a0 e=>by rw[h4 c a0];exact e
   generalize tkB b 9=c8 at*;generalize tkV b 9=j7 at*
   try ext
   subst c6;refine st λh2 c6=>?_;ext;refine⟨m,3,c8,_,rfl,l6,j1,⋯,∅,∅,λU g0 j6=>?_⟩;obtain⟨o0,e3⟩:=nM (many:=3) j1 ∅;have h3:U a=some (.lst (ns.map V.int)):=by rw[g0 a a6];exact m0
   have X:Same a8 U:=iA m5 d4 λc o a0 e=>by rw[g0 c a0];exact e
   generalize tkB c8 3=d6 at*;generalize tkV c8 3=n3 at*
   have e7:∀(f:Int)(b5:Box)(v:Hp),f.natAbs<2^400->Same a8 v->v m=some (bxO b5)->BxOk (1200+3*(i+1)) b5->v a=some (.lst (ns.map V.int))->h2 [some (.ref g),some (.ref I),some (.ref sc),some (.int d),some (.int so),some (.ref q),some (.ref r1),some (.ref m),some (.ref a),some (.int (0+(i:Int))),some (.int f),none,none,none] v:=by
    intro f b5 v d3 W d2 d5 i3;subst c6;ext;have g1:=f1.up W;refine⟨tyL i3,gI g1.s λi7 m9=>⟨true,i7,_,_,_,rfl,rfl,(m9:SqB true K v i7 _),kC (iL e9) ⋯,kW g1.s ⟨_,_,rfl,rfl,yQ (nL (B:=20) ⋯) (nL d3) ∅,?_⟩⟩⟩
    try ext
    refine⟨a,_,_,rfl,rfl,i3,iH (by rw[zqe,a1.1];omega),?_⟩;refine⟨fM W f2,b5,by rw[oT (yA a6)];exact d2,d5,ns++[z+x.2.2*f],?_,Zw a1 e9⟩;rw[oP,xD];rfl
   refine⟨_,_,rfl,rfl,_,rfl,ite2 (λ_=>?_) (λ_=>?_)⟩
   ·refine⟨⟨∅,∅,∅⟩,yQ (nL (B:=400) (nofun)) (nL (B:=400) (nofun)) ∅,⟨∅,∅,∅⟩,yQ (nL (B:=400) (nofun)) (nL (B:=400) (nofun)) ∅,?_⟩;refine⟨m,_,d6,_,rfl,j6,e3,⋯,nofun,nofun,λv i1 d2=>?_⟩;obtain⟨m6,d5⟩:=nM (many:=2*10^Int.toNat 50*10^Int.toNat 40) e3 (nofun);refine⟨⟨∅,∅,∅⟩,⟨∅,∅,∅⟩,yQ (nL (B:=400) (nofun)) (nL (B:=400) (nofun)) ∅,_,_,rfl,rfl,?_⟩;refine e7 _ _ v ?_ (iA X d4 λc o a0 e=>by rw[i1 c a0];exact e) d2 (d5.le ⋯) (by rw[i1 a a6];exact h3);have m2:(10:Int)^Int.toNat 50*10^Int.toNat 40=1000000000000000000000000000000000000000000000000000000000000000000000000000000000000000000:=nofun
    have e1:(2:Int)*10^Int.toNat 50*10^Int.toNat 40=2000000000000000000000000000000000000000000000000000000000000000000000000000000000000000000:=nofun
    rw[m2];rw[e1]at m6 ⊢;generalize tkV d6 2000000000000000000000000000000000000000000000000000000000000000000000000000000000000000000=n2 at*
    refine zJ (show _<2000000000000000000000000000000000000000000000000000000000000000000000000000000000000000001 by omega) (nofun)
   ·refine e7 _ d6 U ?_ X j6 (e3.le ⋯) h3;exact zJ (show(j7-4).natAbs<16 by omega) (nofun)
  ·rintro J N ⟨a2,O,b,ns,rfl,b0,c9,c3,b8,a1⟩;have f3:=f1.up b0;have h9:=h8.trans b0;have h6:Cong x.2.2 ns x.2.1:=Zv (by rw[m8];exact a1);have n0:ns.length=d:=a1.1;clear eB B i6 a3 a6 d9 f8 e4 e5 c9 c3 f2;left;rw[show(5:Int)-(d:Int)=((5-d:Nat):Int) by omega];refine⟨5-d,rfl,⋯,λl7 a5 c5=>?_⟩
   try ext
   refine⟨by show 1<=sizeLine;decide,λp h7=>?_⟩;have X:=Same.new (o:=.lst [V.int 0]) h7;have ep:(upd a5 p (.lst [V.int 0])) p=some (.lst [V.int 0]):=oP;generalize upd a5 p (.lst [V.int 0])=U at*
   refine⟨p,_,_,rfl,rfl,ep,⋯,⋯,?_,λl2 j0=>?_⟩
   ·rw[zQ];show 1*(5-d)<=sizeLine;have:3<=sizeLine:=∅
    omega
   rw[zQ];have h5:5-d=2\/5-d=3:=⋯
   have j3:(List.replicate (5-d) [V.int 0]).flatten=(List.replicate (5-d) (0:Int)).map V.int:=by rcases h5 with z|z <;> rw[z] <;> rfl
   rw[j3];have W:=Same.new (o:=.lst ((List.replicate (5-d) (0:Int)).map V.int)) j0;have i5:(upd U l2 (.lst ((List.replicate (5-d) (0:Int)).map V.int))) l2=some (.lst ((List.replicate (5-d) (0:Int)).map V.int)):=oP;generalize upd U l2 (.lst ((List.replicate (5-d) (0:Int)).map V.int))=v at*
   refine⟨false,false,false,l7,l2,idM (5-d),List.replicate (5-d) 0,1,rfl,((c5.up X).up W).m.l.b,SqB.lst i5,by rw[jY.1];omega,by simp;omega,∅,iP (B:=20) ∅ ∅,λe0 d1 i2 g2=>?_⟩;have g3:DdAt K d1 e0 (nE (5-d)):=by
    rw[←Em h5 (U:=1) ∅];exact g2
   have c4:=((c5.s.trans X).trans W).trans i2;have b1:=f3.up c4;have f0:=c4 _ _ b8;have j5:=h9.trans c4;clear g2 i5 j3 j0 ep h7 i2 W X c5 c4 b8 f3 h9;have n5:5-d≠d:=⋯
   generalize 5-d=M at*;left;refine jK b1.s λr2 b9=>⟨a,_,rfl,.inl ⟨SqL.of f0,λC e6=>?_⟩⟩;have c0:=Same.new (o:=.tup (ns.map V.int)) e6;have j4:(upd d1 C (.tup (ns.map V.int))) C=some (.tup (ns.map V.int)):=oP;generalize upd d1 C (.tup (ns.map V.int))=i0 at*
   refine kW (b1.up c0).s ⟨by show 3<=sizeLine;decide,λk g5=>?_⟩;have c2:=Same.new (o:=.tup [V.ref r2,.ref C,.int x.2.2]) g5;have f4:(upd i0 k (.tup [V.ref r2,.ref C,.int x.2.2])) k=some (.tup [V.ref r2,.ref C,.int x.2.2]):=oP;generalize upd i0 k (.tup [V.ref r2,.ref C,.int x.2.2])=d7 at*
   have d3:DdS K d7 k (x.1,ns,x.2.2):=⟨r2,C,SqT.of f4,(MatB.up b9 c0).up c2,SqT.of (c2 _ _ j4)⟩;have b7:=c0.trans c2;have l0:=(b1.up b7).s;have l5:=g3.up b7;have f9:=j5.trans b7;have fr:canD x.1 ns x.2.2=oV (x.1,ns,x.2.2):=by
    rw[Dc b4 h6,e8];show(x.1,nW x.2.2 x.2.1,x.2.2)=(x.1,nW x.2.2 ns,x.2.2);rw[h6.rest_eq b4]
   clear f0 b1 g3 j5 c0 c2 b7 j4 f4 e6 g5 b9;subst e1;refine st λN1 e1=>mT λB eB=>?_;simp only[iSeq];ext;refine⟨by show 2<=sizeLine;decide,λd8 k7=>?_⟩;have g6:=Same.new (o:=.lst [V.ref r1,.ref k]) k7;have f5:(upd d7 d8 (.lst [V.ref r1,.ref k])) d8=some (.lst [V.ref r1,.ref k]):=oP;generalize upd d7 d8 (.lst [V.ref r1,.ref k])=j8 at*
   refine⟨false,⟨_,SqB.lst f5⟩,?_⟩;refine gU (g:=nB 13) (tb:=B) (λi J a9=>∃c7,J=[some (.ref g),some (.ref I),some (.ref sc),some (.int d),some (.int so),some (.ref q),some (.ref r1),some (.ref m),some (.ref a),a2,O,some (.ref e0),some (.ref k),c7]/\Same j8 a9) ⟨none,rfl,Same.refl _⟩ (λ_ _ _ _⟨_,_,Z⟩=>SqB.lst (Z _ _ f5)) ?_ ?_
   ·rintro i y J a9 L ⟨c7,rfl,Z⟩;have Y:=g6.trans Z;have a7:=f9.trans Y;obtain⟨p,r,rfl,k3,l1,l2,b6,us,k4⟩:∃(p:Addr)(r:Dd),y=.ref p/\DdS K a9 p r/\r.1.length<=100/\r.2.1.length<=100/\0<r.2.2/\mO r.2.2/\canD r.1 r.2.1 r.2.2=oV r:=by
     match i,L with
     |0,L=>cases L;exact⟨r1,x,rfl,l0.up Y,⋯,⋯,b4,xs,e8⟩
     |1,L=>cases L;exact⟨k,_,rfl,d3.up Y,by show x.1.length<=100;omega,by show ns.length<=100;omega,b4,xs,fr⟩
     |i+2,L=>simp at L
    subst eB;show tIfS _ _ _ _ [some (.ref g),some (.ref I),some (.ref sc),some (.int d),some (.int so),some (.ref q),some (.ref r1),some (.ref m),some (.ref a),a2,O,some (.ref e0),some (.ref k),some (.ref p)] a9;ext;exact⟨g,p,I,F,ms,srt,r,rfl,b3.up a7,D.up a7,k3,l1,l2,b6,us,k4,λh1 e2=>⟨_,rfl,iteF (Z.trans e2)⟩⟩
   ·rintro J a9 ⟨c7,rfl,Z⟩;have Y:=g6.trans Z;have a7:=f9.trans Y;symm;simp only[lF];ext;refine Aq (b3.up a7).f (l5.up Y).s (by show(idM M).length<=100;rw[jY.1];omega) (by show(List.replicate M (0:Int)).length<=100;rw[sZ];omega) (by show(0:Int)<1;decide) λh1 e2=>?_;have k6:oV (nE M)∉srt.map (·.1):=λh=>by
     have k9:=(b3.fine _ h).sq.1;have b9:(idM M).length=M:=jY.1;have l9:(oV (nE M)).1=idM M:=rfl;rw[l9,b9,←i4]at k9;omega
    rw[Ar k6];exact k0 h1 (a7.trans e2)
theorem Zu{d:Nat}{a:Dd->Prop}(A:Amb d a){ms:List Dd}(h:MsOk d a ms):∀x s,a x->s∈ms->a (oZ d x (oV s)):=λx s b c=>A.mul x _ b (h.g s c)
theorem Zt{d:Nat}{a:Dd->Prop}(A:Amb d a){ms:List Dd}(h:MsOk d a ms):∀s∈ms.map oV,a s:=λs c=>by
 obtain⟨m,b,rfl⟩:=pZ.mp c;exact h.g m b
theorem Zs{d:Nat}{a:Dd->Prop}(A:Amb d a){ms:List Dd}(h:MsOk d a ms):∀y∈tab d (ms.map oV) 201,mY d y.1:=λy b=>A.fine _ (Db A.one (λx c s e=>A.mul x s c (Zt A h s e)) y b)
theorem Eh{K:Frag}{f:Adr}{d most:Nat}{j:Dd->Prop}{ms:List Dd}{H i:Hp}{a x n:Addr}{b:Bool}{ps:LA}{Q:VK}{E:XK}(A:Amb d j)(h:MsOk d j ms)(u:i x=some (.ins f.a_2 n []))(c:Same H i)(v:SqB b K H a (ps.map V.ref))(C:Paired (DdS K H) ps ms)(t:1<=most)(m:most<=200)
  (r:H x=none)
  (w:most<(tab d (ms.map oV) 201).length->∀H',Same H H'->E (.ref f.a_1h) none H')(q:(tab d (ms.map oV) 201).length<=most->∀srt H',Same H H'->GrpF K f H' x d ms srt->(∀a l,H a=some (.lst l)->GrpF K f (offH a H') x d ms srt)->Told d (ms.map oV) srt->Q .non H'):
  Jf K f [.ref x,.int d,.ref a,.int most] i Q E:=by
 refine⟨b,d,a,x,n,ps,ms,j,most,rfl,u,A.dim,v.up c,Paired.mapP C λ_ _ z=>DdS.up z c,h.l,h.f,λs F=>A.fine _ (h.g s F),A.fine,A.one,Zu A h,t,m,Zs A h,Aw,λhl srt H' k g D p o=>?_,λhl H' y=>w hl H' (c.trans y)⟩;exact q hl srt H' (λb o e=>k b o (λz=>by rw[z,r]at e;cases e) (c _ _ e)) g (λa l e=>D a l (c _ _ e)) ⟨p,o,yG hl m⟩
theorem ok_y(T:Txt K mg t):FnOk P w K mg base CX0 14 t.a_y t.d_y pl' (sp_y K t):=by
 apply T.F_y.ok sc_y
 ·obtain⟨d,a,ps,ms,p,rfl,i,m,A,k,f,c⟩:=h;refine⟨_,(oM (oU (i:=2) sc_y.nd rfl (Or.inl rfl) iR)
   (oM (Rp rfl rfl rfl rfl T.m_1h (λ_ _ _ j =>
   (oO (oU (i:=2) sc_y.nd rfl (Or.inl rfl) (Ui (C:=t.a_2) (T.mk_2) (ok_0 T) hr.mo rfl T.m_2 T.bd_Group___init__ (dvs:=[.int 200]) (.cons ⟨_,rfl⟩ .nil) j (oJ (pq 0) (oJ (pq 1) oK)))))) (λ_ =>
   (oO (oU (i:=2) sc_y.nd rfl (Or.inl rfl) iR))))
   (oO (oW (pq 2))))),?_⟩
  show tSeq _ _ _ [some (.int d),some (.ref a),none] H;ext;unfold Hq;simp only[Ie];ext;intro x q nx l n;obtain⟨e,e1⟩:=Ei (C:=t.a_2) nx l n;refine Eh (most:=200) A k e1 e (SqB.lst i) m ∅ ∅ nx (λhl H' b=>?_) λhl srt H' b g _ o=>?_
  ·exact⟨T.h_d,f hl H' b⟩
  ·exact⟨rfl,c x srt H' b g o⟩
theorem Zr{xs:List V}{k:Nat}(h:k<=xs.length):cutV xs (some (k:Int)) none=xs.drop k:=by
 unfold cutV;rw[HT.sIx_none,HT.sIx_nat,tU h,yT (by simp)]
theorem Mp{d:Nat}:(tab d [] 201).length=1:=rfl
theorem Zq{a b:Type}{F:a->b->Prop}{x:a}{y:b}{xs:List a}{ys:List b}(h:Paired F (x:: xs) (y:: ys)):Paired F xs ys:=by cases h;assumption
theorem Zp{F:Fr4}(h:F.Ok){m:Dd}(c:LowU F 300 m):mY (famD F.k) m:=by
 obtain⟨p,_,_⟩:=fK h c;refine⟨p.sq,p.len,p.pos,λr hr z a=>zJ (p.bm r hr z a) (yC ∅ ∅),λz a=>zJ (p.bt z a) (yC ∅ ∅),?_⟩;have b:=p.bu;exact Int.lt_of_lt_of_le b (nofun)
theorem ok_1n(T:Txt K mg t):FnOk P w K mg base CX0 18 t.a_1n t.d_1n pA' (Gn K):=by
 apply T.F_1n.ok sc_1n
 ·have R:=hr.units;obtain⟨a,cs,rfl,a2,v8,y2,r9⟩:=h;refine⟨_,(oM (iV (oQ (ok_j T) hr.mo T.F_j (oJ (pq 0) oK)) (Hr rfl (lD (nX (i:=1) sc_1n.nd rfl (Or.inl rfl)) (lD (nX (i:=2) sc_1n.nd rfl (Or.inl rfl)) iU))))
   (oM (cY yL (nH bD (oQ (ok_y T) hr.mo T.F_y (oJ (pq 1) (oJ (pq 2) oK))) iR (nD _))
   (oO (oU (i:=2) sc_1n.nd rfl (Or.inl rfl) (bH sl_B (pq 2) (dM oN) Af))))
   (oM (oU (i:=3) sc_1n.nd rfl (Or.inl rfl) (mB kR rfl T.z_list (nofun) (oJ (pq 2) oK)))
   (oM (oU (i:=4) sc_1n.nd rfl (Or.inl rfl) (Fn (C:=t.a_2) (T.mk_2) (ok_0 T) hr.mo rfl T.m_2 T.bd_Group___init__ (dvs:=[.int 200]) (.cons ⟨_,rfl⟩ .nil) fR (oJ (pq 1) (oJ (pq 3) oK))))
   (oM (oU (i:=5) sc_1n.nd rfl (Or.inl rfl) (Fn (C:=t.a_2) (T.mk_2) (ok_0 T) hr.mo rfl T.m_2 T.bd_Group___init__ (dvs:=[.int 200]) (.cons ⟨_,rfl⟩ .nil) fR (oJ (pq 1) (oJ (nI oK) oK))))
   (oM (lU (jF yM yY yZ jG (pq 3) (oJ oN oK)))
   (oM (oU (i:=6) sc_1n.nd rfl (Or.inl rfl) (kB (C:=t.a_2) (pq 4) T.cl_2 T.me_3 (ok_3 T) hr.mo T.b_3 .nil mC))
   (oM (oU (i:=7) sc_1n.nd rfl (Or.inl rfl) (kB (C:=t.a_2) (pq 4) T.cl_2 T.me_4 (ok_4 T) hr.mo T.b_4 .nil mC))
   (oM (oU (i:=8) sc_1n.nd rfl (Or.inl rfl) (nI (oJ (mB kR rfl T.z_list (nofun) (oJ (pq 6) oK)) (oJ (nT (sc:=oR s_1n) (N:=N_1n) (fr:=[]) (te:=(tCB (gT K) (nF (tVar 0) tNil))) rfl rfl (nofun) rfl (nofun) (nV (pq 7)) (λ_ _ _ x4=>(mB kR rfl T.z_list (nofun) (oJ (pv 0) oK)))) oK))))
   (oM (nK (kF (lJ (oQ (ok_c T) hr.mo T.F_c (oJ (pq 4) (oJ (pq 6) (oJ (pq 7) (oJ (pq 8) oK)))))))
   (oO (oW mZ))
   nJ)
   (oM (oU (i:=9) sc_1n.nd rfl (Or.inl rfl) (oQ (ok_b T) hr.mo T.F_b (oJ (oX (pq 8)) oK)))
   (oM (nK (kF (lJ (oQ (ok_d T) hr.mo T.F_d (oJ (pq 4) (oJ (pq 2) (oJ (pq 9) (oJ (pq 0) (oJ (pq 1) oK))))))))
   (oO (oW mZ))
   nJ)
   (oM (mQ yL rfl (Nr rfl T.z_range (oJ oN (oJ oN oK))) (nX (i:=10) sc_1n.nd rfl (Or.inl rfl))
   (oO (nK (kF (lJ (oQ (ok_i T) hr.mo T.F_i (oJ (pq 4) (oJ (oX (pq 8)) (oJ (pq 9) (oJ (oQ (ok_11 T) hr.mo T.F_11 (oJ (pq 0) (oJ (pq 10) oK))) oK)))))))
   (oO (oW mZ))
   nJ)))
   (oM (nK (kF (lJ (oQ (ok_e T) hr.mo T.F_e (oJ (pq 4) (oJ (pq 9) (oJ (pq 0) (oJ (pq 1) (oJ (oX (oQ (ok_13 T) hr.mo T.F_13 (oJ (pq 0) oK))) (oJ (oQ (ok_z T) hr.mo T.F_z (oJ (pq 0) (oJ (pq 1) oK))) oK)))))))))
   (oO (oW mZ))
   nJ)
   (oM (nK (PW.pt (kN (nH hJ (mL T.z_len (kB (C:=t.a_2) (pq 5) T.cl_2 T.me_3 (ok_3 T) hr.mo T.b_3 .nil mC)) oN (nD _)) (kN (nH (gS R) (kB (C:=t.a_2) (pq 5) T.cl_2 T.me_5 (ok_5 T) hr.mo T.b_5 .nil mC) (nI oK) (nD _)) (jP (nH (gS R) (kB (C:=t.a_2) (pq 5) T.cl_2 T.me_4 (ok_4 T) hr.mo T.b_4 .nil mC) (nI (oJ (nI oK) oK)) (nD _))))))
   (oO (oW mZ))
   nJ)
   (oM (nK (PW.pt (kN (nH (gS R) (kB (C:=t.a_2) (pq 4) T.cl_2 T.me_5 (ok_5 T) hr.mo T.b_5 .nil mC) (pq 2) (nD _)) (kN (nH (gS R) (kB (C:=t.a_2) (pq 4) T.cl_2 T.me_3 (ok_3 T) hr.mo T.b_3 .nil mC) (oX (pq 8)) (nD _)) (jP (nH (gS R) (kB (C:=t.a_2) (pq 4) T.cl_2 T.me_4 (ok_4 T) hr.mo T.b_4 .nil mC) (oX (pq 8)) (nD _))))))
   (oO (oW mZ))
   nJ)
   (oO (oW (dG (jD (dP R) (pq 6) (oX (pq 8)) (nD _)) (dF (jD (dP R) (pq 7) (oX (pq 8)) (nD _)))))))))))))))))))))),?_⟩
  show tSeq _ _ _ [some (.ref a),none,none,none,none,none,none,none,none,none,none] H;right;refine⟨a,cs,rfl,a2,λr l w2 ms x0 p8 u3 b4 i9 o5 m8 k8 h0 e0=>?_⟩;have d2:=La cs;have u7:=Mz cs;obtain⟨g1,n6⟩:=At (so:=soF cs) d2;obtain⟨l6,k6⟩:=Eo d2 (jA (ns:=cs) (k:=2));obtain⟨F,m1,d6,c7⟩:=Yj n6 (by rw[g1];exact l6) k6 m8 k8 h0 e0;have h2:dmF cs=famD F.k:=by rw[m1,g1]
  clear e0 l6 k6 g1 n6 m1 m8 k8;refine⟨false,r,_,rfl,SqB.lst b4,rfl,_,_,rfl,_,_,rfl,rfl,?_⟩;have a4:=Paired.mapP o5 λ_ _ z=>DdAt.s z;have A:=cT d6;rw[h2]at d2;clear o5 b4;subst e1;refine st λN1 e1=>Gm λB eB=>?_;refine⟨λm Y H'=>∃(f:Addr)(j:LA)(c:List Dd),Y=[some (.ref a),some (.int (dmF cs:Nat)),some (.ref f),none,none,none,none,none,none,none,none]/\Same p8 H'/\H' f=some (.lst (j.map V.ref))/\Paired (DdS K H') j c/\(∀x∈c,x∈ms)/\c.length<=3/\m=c.length,
   ⟨ms.length,l,w2,ms,rfl,Same.refl _,i9,a4,λ_ h=>h,h0,rfl⟩,?_⟩
  rintro m Y v6 ⟨f,j,c,rfl,i5,c8,a7,sub,n0,rfl⟩;have mo:MsOk (famD F.k) (InG F) c:=⟨λs g4=>Zp d6 (c7 s (sub s g4)),λs g4=>(fK d6 (c7 s (sub s g4))).2.2,⋯⟩;ext;refine⟨famD F.k,f,j,c,InG F,by rw[h2],c8,a7,A,mo,λi3 a1 M=>?_,λg srt a1 M f9 o=>?_⟩
  ·refine iteT ⟨λo7 H'=>∃(f:Addr)(I:LA)(O:List Dd),o7=[some (.ref a),some (.int (dmF cs:Nat)),some (.ref f),none,none,none,none,none,none,none,none]/\Same p8 H'/\H' f=some (.lst (I.map V.ref))/\Paired (DdS K H') I O/\(∀x∈O,x∈ms)/\O.length<c.length,?_,?_⟩
   ·rintro o7 H' ⟨u9,I,O,rfl,k1,k2,k3,t4,k5⟩;exact⟨_,k5,u9,rfl,k1,I,k2,O,k3,t4,⋯,rfl⟩
   subst eB;have b2:=M _ _ c8;have n:=Paired.mapP a7 λ_ _ z=>DdS.up z M;show tAsg _ _ _ [some (.ref a),some (.int (dmF cs:Nat)),some (.ref f),none,none,none,none,none,none,none,none] a1;ext;refine⟨false,f,_,rfl,SqB.lst b2,(by intro z;cases z),λe9 w4=>?_⟩;clear a7
   match c,j,n,i3 with
   |[],_,_,i3=>exact absurd i3 (by rw[rG,Mp];decide)
   |m0:: O,x2:: I,n,_ =>
   rw[show(1:Int)=((1:Nat):Int) from rfl,Zr (by rw[zqe];exact qT (yB _))];have ss:=Same.new (o:=.lst (I.map V.ref)) w4;have t7:(upd a1 e9 (.lst (I.map V.ref))) e9=some (.lst (I.map V.ref)):=oP;exact⟨e9,rfl,(i5.trans M).trans ss,I,t7,O,Paired.mapP (Zq n) λ_ _ z=>DdS.up z ss,λx s2=>sub x (.tail _ s2),vX _⟩
  ·refine iteF ?_;have y6:=o.l;have L:=i5.trans M;have b2:=M _ _ c8;have n:=Paired.mapP a7 λ_ _ z=>DdS.up z M;have s3:∀m∈c,LowU F 300 m:=λm e0=>c7 m (sub m e0);have v4:=u3.trans L;clear a7 c8 i5 M L f9 o srt g B eB c7 sub a4 i9 h0 v6;rw[h2];left;refine⟨false,f,_,rfl,SqB.lst b2,λd h1=>?_⟩;have f0:=Same.new (o:=.lst (j.map V.ref)) h1;have b8:(upd a1 d (.lst (j.map V.ref))) d=some (.lst (j.map V.ref)):=oP;generalize upd a1 d (.lst (j.map V.ref))=w7 at*
   have q8:=Paired.mapP n λ_ _ z=>DdS.up z f0;subst e1;refine st λN1 e1=>?_;simp only[Ak];ext;intro x r8 nx j4 l3;obtain⟨p7,r1⟩:=Ei (C:=t.a_2) nx j4 l3;refine Eh (most:=200) A mo r1 p7 (SqB.lst b8) q8 ∅ ∅ nx (λhl=>absurd hl ⋯) λhl srt d7 i4 f9 m6 o=>⟨rfl,?_⟩;have p3:=m6 d _ b8;clear m6 f9 r1 p7 nx j4 l3 r8;subst e1;refine st λN1 e1=>?_;simp only[Ak];ext;refine⟨yB _,λb6 m2=>?_⟩;have c9:Same d7 (upd d7 b6 (.lst [])):=Same.new m2;have l7:(upd d7 b6 (.lst [])) b6=some (.lst (([]:LA).map V.ref)):=oP;generalize upd d7 b6 (.lst [])=x1 at*
   intro i2 u2 e8 o6 p0;obtain⟨n9,o0⟩:=Ei (C:=t.a_2) e8 o6 p0;have i0:=c9 _ _ (i4 _ _ b8);refine Eh (most:=200) (ms:=[]) A ⟨λ_ h=>(by cases h),λ_ h=>(by cases h),yB _⟩ o0 n9 (SqB.lst l7) .nil ∅ ∅ e8 (λhl=>absurd hl (by rw[rG,Mp];decide)) λ_ u8 b1 d4 _ j7 v0=>⟨rfl,?_⟩;have j6:=j7 d _ i0;clear j7 o0 n9 e8 o6 p0 u2 l7 m2;have g2:=d4 _ _ i0;left;refine⟨tyL g2,d,_,_,rfl,rfl,g2,iH (by rw[zqe,mE n];omega),?_⟩;have d1:Same a1 (upd b1 d (.lst (j.map V.ref++[.int 1]))):=fM ((f0.trans i4).trans (c9.trans d4)) h1;have h7:∀{f7:Hp},Same f7 b1->Same (offH d f7) (upd b1 d (.lst (j.map V.ref++[.int 1]))):=λ{f7}u5 b o e=>by
    unfold offH at e;split at e
    ·cases e
    ·next z=>rw[oT z];exact u5 _ _ e
   have c3:GC K t F (upd b1 d (.lst (j.map V.ref++[.int 1]))) x c srt:=⟨p3.up (h7 (c9.trans d4)),d6,o,s3⟩;have k0:=j6.up (h7 (Same.refl _));generalize upd b1 d (.lst (j.map V.ref++[.int 1]))=t2 at*
   have r5:=v4.trans d1;have j3:=d1 _ _ b2;have k7:=Paired.mapP n λ_ _ z=>DdS.up z d1;clear p3 j6 h7 g2 i0 d4 c9 i4 b8 f0 h1 q8 d1 b2 n;show N1 [some (.ref a),some (.int (famD F.k:Nat)),some (.ref f),some (.ref d),some (.ref x),some (.ref i2),none,none,none,none,none] t2;have f5:=o.len;left;simp only[lF];ext;refine cV c3.f λa8 W y0 h4 _ n7 q7=>?_;have q5:=Ej q7;clear q7;left;simp only[lF];ext;refine cW (c3.up h4).f f5 λd5 h5 e6 f1=>?_;obtain⟨_,w0,c4,l4⟩:=f1;have h6:Paired (λp(w:List Nat)=>h5 p=some (.lst (wV w))) w0 (srt.map (·.2)):=Paired.mapP l4 λ_ _ z=>z.2.2;clear l4;have g7:=Paired.mapP q5 λ_ _ z=>DdS.up z e6;have g0:=e6 _ _ n7;left;refine⟨false,a8,_,rfl,SqB.lst g0,λy l1=>?_⟩;have b0:=Same.new (o:=.lst (W.map V.ref)) l1;have j1:(upd h5 y (.lst (W.map V.ref))) y=some (.lst (W.map V.ref)):=oP;generalize upd h5 y (.lst (W.map V.ref))=w6 at*
   exfalso;refine⟨false,⟨_,SqB.lst (b0 _ _ c4)⟩,λa3 p9=>?_⟩;subst eB;refine Dk p9 (b0 _ _ c4) (Paired.mapP h6 λ_ _ z=>b0 _ _ z) (by rw[zqe];omega) λr3 h8 f1=>?_;obtain⟨_,y7,p6,p1⟩:=f1;refine⟨by show 2<=sizeLine;decide,λhh q4=>?_⟩;have L:=Same.new (o:=.lst [V.ref y,.ref a3]) q4;have d3:(upd r3 hh (.lst [V.ref y,.ref a3])) hh=some (.lst [V.ref y,.ref a3]):=oP;generalize upd r3 hh (.lst [V.ref y,.ref a3])=a0 at*
   have U:=(b0.trans h8).trans L;have X:=(h4.trans e6).trans U;have f4:=c3.up X;have f3:Dt K a0 (.ref a8) (dlD (srt.map (·.1))):=jN (U _ _ g0) (Paired.mapP g7 λ_ _ z=>DdS.up z U);have g3:Dt K a0 (.ref d5) (wlD (srt.map (·.2))):=fL (U _ _ c4) (Paired.mapP h6 λ_ _ z=>U _ _ z);have d9:a0 y=some (.lst (W.map V.ref)):=L _ _ (h8 _ _ j1);have b9:=Paired.mapP g7 λ_ _ z=>DdS.up z U;have d0:Dt K a0 (.ref y) (dlD (srt.map (·.1))):=jN d9 b9;have f2:Dt K a0 (.ref a3) (wlD (srt.map (·.2))):=fL (L _ _ p6) (Paired.mapP p1 λ_ _ z=>L _ _ z.2.2);have j2:Dt K a0 (.ref hh) (two (dlD (srt.map (·.1))) (wlD (srt.map (·.2)))):=.lst (SqL.of d3) (.cons d0 (.cons f2 .nil));have j9:=r5.trans X;have n4:=X _ _ j3;have p4:=Paired.mapP k7 λ_ _ z=>DdS.up z X;have q3:=k0.up X;clear p1 p6 q4 p9 l1 j1 L h8 b0 c4 h6 g7 g0 U X c3 k0 k7 j3 r5 e6 h4 q5 n7;left;refine⟨x,a8,d5,hh,F,c,srt,rfl,f4,n0,f3,g3,j2,λx5 b3=>⟨_,rfl,iteF ?_⟩⟩;left;refine⟨false,hh,_,_,_,rfl,rfl,SqB.lst (b3 _ _ d3),rfl,?_⟩;refine⟨y,W,srt,rfl,b3 _ _ d9,Paired.mapP b9 λ_ _ z=>DdS.up z b3,o.nd,f5,λa5 t8 o4 D=>?_⟩;have k:=b3.trans o4;have a6:=f4.up k;have n8:=Dt.same k f3;have j8:=Dt.same k g3;have o2:=Dt.same k d0;have n1:=Dt.same k f2;have i1:=k _ _ d3;have l9:=k _ _ d9;have o3:=Paired.mapP b9 λ_ _ z=>DdS.up z k;have i6:=k _ _ n4;have g9:=Paired.mapP p4 λ_ _ z=>DdS.up z k;have q1:=q3.up k;have Z:=j9.trans k;clear f4 f3 g3 d0 f2 j2 d3 d9 b9 n4 p4 q3 j9 k b3 o4;left;refine⟨x,f,a5,a,F,j,c,srt,cs,famD F.k,rfl,rfl,a6,i6,g9,n0,D,jB a2 Z,v8,λx3 q2=>⟨_,rfl,iteF ?_⟩⟩;subst e1;refine st λN1 e1=>mT λB eB=>?_;simp only[Fu];simp only[nF,tNil,tC];refine⟨13,17,rfl,⟨∅,∅,∅,∅⟩,?_⟩;rw[show((17:Int)-13).toNat=4 from rfl];refine iM (g:=nB 10) (tb:=B) (λi Y b5=>∃f6,Y=[some (.ref a),some (.int (famD F.k:Nat)),some (.ref f),some (.ref d),some (.ref x),some (.ref i2),some (.ref a8),some (.ref d5),some (.ref hh),some (.ref a5),f6]/\Same t8 b5) ⟨none,rfl,q2⟩ ?_ ?_
   ·rintro i Y b5 hi ⟨f6,rfl,v⟩;subst eB;show tIfS _ _ _ _ [some (.ref a),some (.int (famD F.k:Nat)),some (.ref f),some (.ref d),some (.ref x),some (.ref i2),some (.ref a8),some (.ref d5),some (.ref hh),some (.ref a5),some (.int (13+(i:Int)))] b5;ext;refine⟨false,hh,_,_,_,rfl,rfl,SqB.lst (v _ _ i1),rfl,?_⟩;refine⟨a,cs,13+i,rfl,jB a2 (Z.trans v),⋯,λv5 w5 e7 u0 t0=>?_⟩;refine⟨x,y,a5,v5,F,W,c,srt,_,100*(13+i),b5,rfl,e7,u0,a6.up v,v _ _ l9,Paired.mapP o3 λ_ _ z=>DdS.up z v,D.up v,t0,jA,⋯,λw3 e3=>⟨_,rfl,iteF ?_⟩⟩;exact v.trans e3
   ·rintro Y b5 ⟨f6,rfl,v⟩;clear q2 B eB;left;refine⟨a,cs,rfl,jB a2 (Z.trans v),λr w5 e7 b4=>?_⟩;refine⟨false,r,_,_,_,rfl,rfl,SqB.lst b4,rfl,?_⟩;have h9:=v.trans e7;refine⟨a,cs,famD F.k,rfl,jB a2 (Z.trans h9),d2,λq l S u w3 e3 o9 n3 k4 p2 n2 j5=>?_⟩;have a9:=h9.trans e3;refine⟨x,a5,a,q,l,F,c,srt,cs,S,famD F.k,u,soF cs,rfl,rfl,a6.up a9,D.up a9,jB a2 (Z.trans a9),o9,n3,k4,p2,n2,j5,u7,λx8 i8=>⟨_,rfl,iteF ?_⟩⟩;have C:=a9.trans i8;have q9:=a6.up C;have c0:=q1.up C;have m7:=C _ _ i6;have r4:=Paired.mapP g9 λ_ _ z=>DdS.up z C;have o8:=C _ _ i1;have r2:=Dt.same C n8;have o1:=Dt.same C j8;have j0:=Dt.same C o2;have p5:=Dt.same C n1;clear a6 q1 i6 g9 i1 n8 j8 o2 n1 C i8 a9 e3 h9 e7 v b4 o9 n3 k4 p2 n2 j5 o3 l9 D Z;have u6:u8=[(nE (famD F.k),[])]:=by
     have m5:=v0.p;have v1:tab (famD F.k) (([]:List Dd).map oV) 201=[(nE (famD F.k),[])]:=rfl;rw[v1]at m5;exact List.perm_singleton.mp m5
    subst u6;left;simp only[lF];ext;refine cV c0 λu4 s1 x7 g8 _ l8 q0=>?_;refine⟨false,u4,_,rfl,SqB.lst l8,?_⟩;have t6:s1.length=1:=mE q0;rw[zqe,t6]
    try ext
    refine iteF ?_;refine Ap (c0.up g8) λw1 s7 e2 r6 _ c2 b7=>⟨yB _,λd8 a4=>?_⟩;have e4:Same e2 (upd e2 d8 (.lst [])):=Same.new a4;have k9:(upd e2 d8 (.lst [])) d8=some (.lst (([]:LA).map V.ref)):=oP;generalize upd e2 d8 (.lst [])=x9 at*
    refine Mt (e4 _ _ c2) (Paired.mapP b7 λ_ _ z=>DdS.up z e4) k9 .nil rfl ⟨_,rfl,iteF ?_⟩;have g6:=(g8.trans r6).trans e4;refine cW (c0.up g6) (by show 1<=200;decide) λy9 i7 l5 s8=>⟨yB _,λN r7=>⟨by show 1<=sizeLine;decide,λg5 n=>?_⟩⟩;obtain⟨_,w9,l2,r0⟩:=s8;have m3:=Same.new (o:=.lst []) r7;have m9:(upd i7 N (.lst [])) N=some (.lst (wV [])):=oP;generalize upd i7 N (.lst [])=n5 at*
    have f8:=Same.new (o:=.lst [V.ref N]) n;have m4:(upd n5 g5 (.lst [V.ref N])) g5=some (.lst ([N].map V.ref)):=oP;generalize upd n5 g5 (.lst [V.ref N])=y3 at*
    have c6:=m3.trans f8;refine fX 5 ∅ (fL (K:=K) (c6 _ _ l2) (Paired.mapP r0 λ_ _ z=>c6 _ _ z.2.2)) (fL (K:=K) (W:=[[]]) m4 (.cons (f8 _ _ m9) .nil)) (jO _) (jO _) (b:=true) (by simp) ⟨_,rfl,iteF ?_⟩;have G:=(g6.trans l5).trans c6;have h3:=q9.up G;have s0:=G _ _ m7;have s5:=Paired.mapP r4 λ_ _ z=>DdS.up z G;have e5:=G _ _ o8;have s4:=Dt.same G r2;have u1:=Dt.same G o1;have l0:=Dt.same G j0;have q6:=Dt.same G p5;clear q9 c0 m7 r4 o8 r2 o1 j0 p5 G c6 f8 m3 m4 m9 n r7 l2 r0 l5 g6 e4 r6 g8 k9 a4 c2 b7 l8 q0;left;simp only[lF];ext;refine Ap h3.f λw1 s7 y1 c5 _ c2 b7=>?_;refine Mt c2 b7 (c5 _ _ s0) (Paired.mapP s5 λ_ _ z=>DdS.up z c5) rfl ⟨_,rfl,iteF ?_⟩;refine cV (h3.up c5).f λy4 y5 w8 t9 _ v7 s6=>?_;have c1:=c5.trans t9;refine⟨false,hh,_,_,_,rfl,rfl,SqB.lst (c1 _ _ e5),rfl,?_⟩;refine fX 5 ∅ (jN (K:=K) v7 (Ej s6)) (Dt.same c1 l0) (lI _) (lI _) (b:=true) (by simp) ⟨_,rfl,iteF ?_⟩;refine cW (h3.up c1).f f5 λy8 s9 t3 t1=>?_;obtain⟨_,x6,v9,t5⟩:=t1;have J:=c1.trans t3;refine⟨false,hh,_,_,_,rfl,rfl,SqB.lst (J _ _ e5),rfl,?_⟩;refine fX 5 ∅ (fL (K:=K) v9 (Paired.mapP t5 λ_ _ z=>z.2.2)) (Dt.same J q6) (jO _) (jO _) (b:=true) (by simp) ⟨_,rfl,iteF ?_⟩;symm;refine⟨false,hh,_,_,_,rfl,rfl,SqB.lst (J _ _ e5),rfl,?_⟩;refine dX 5 ∅ (Dt.same J s4) (Dt.same J l0) (lI _) (lI _) (b:=true) (by simp) ?_;refine⟨true,rfl,iteT ⟨false,hh,_,_,_,rfl,rfl,SqB.lst (J _ _ e5),rfl,?_⟩⟩;exact dX 5 ∅ (Dt.same J u1) (Dt.same J q6) (jO _) (jO _) (b:=true) (by simp) (r9 s9)
end
theorem us1{a:Type}{us:List a}(h:us.length=1):∃a0,us=[a0]:=match us,h with|[a0],_=>⟨a0,rfl⟩
theorem us2{b:Type}{us:List b}(h:us.length=2):∃a0 a,us=[a0,a]:=match us,h with|[a0,a],_=>⟨a0,a,rfl⟩
theorem us3{c:Type}{us:List c}(h:us.length=3):∃a0 a b,us=[a0,a,b]:=match us,h with|[a0,a,b],_=>⟨a0,a,b,rfl⟩
theorem us4{d:Type}{us:List d}(h:us.length=4):∃a0 b c a,us=[a0,b,c,a]:=match us,h with|[a0,b,c,a],_=>⟨a0,b,c,a,rfl⟩
theorem us5{e:Type}{us:List e}(h:us.length=5):∃a0 d a c b,us=[a0,d,a,c,b]:=match us,h with|[a0,d,a,c,b],_=>⟨a0,d,a,c,b,rfl⟩
theorem us6{f:Type}{us:List f}(h:us.length=6):∃a0 e b d c a,us=[a0,e,b,d,c,a]:=match us,h with|[a0,e,b,d,c,a],_=>⟨a0,e,b,d,c,a,rfl⟩
abbrev caG(K:Frag)(C:Addr):Prop:=findIn K (.ref C) "__class__"=some (some (.builtin "object.__class__"))
abbrev nG(K:Frag)(x:Str)(f:Addr):Prop:=nsIn K mainGlobals x=some (some (.ref f))
local macro_rules | `(tactic| walk_at "1")=>`(tactic| (intro _ _ _ _ _ _ us hl; obtain ⟨_,hh⟩:=us1 hl; subst hh; rfl))
local macro_rules | `(tactic| walk_at "2")=>`(tactic| (intro _ _ _ _ _ _ us hl; obtain ⟨_,_,hh⟩:=us2 hl; subst hh; rfl))
local macro_rules | `(tactic| walk_at "3")=>`(tactic| (intro _ _ _ _ _ _ us hl; obtain ⟨_,_,_,hh⟩:=us3 hl; subst hh; rfl))
theorem txt_mk{K:Frag}{h:Heap}{h6:MT}(X:K.In h)(a:h.Ns mainGlobals h6)
  {C z a2 c g6 b a7 i r n N T a5 u y c4 a3 R c2 a8 b9 J m I b7 M o P a0 b2 l g f k j e b4 a6 b1 a1 F c0 t D O b8 V S w W L b3 q a4 b6 U b0 a9 c3 G x b5 Z:Addr}{m6 y5 l5 n0 n1 y3 ac q0 ag z9 r5 t1 l4 m0 u0 y8 x0 v5 k9 y2 x6 r1 n4 x3 l0 s6 s3 t9 w4 z5 v1 y1 l6 k6 k8 l7 q7 r7 y9 w6 q5 n6 m1 u5 z0 p7 n9 z7 p1 s1 q4 j9 j1 o1 j6 w0 o9:FuncData}
  {d:Addr}{o3 u2:Option Addr}{v0:Array (Option Value)}{o2 p0 n7 p3 h7 ab:Value}
  {d9:Addr}{w9:Value}{x1:Option Addr}{p2:Nat}{x4:Array (Option Value)}{Y:Tok}
  {t0:Tok}
  (o6:nG K "CrystalError" C)
  (y4:nG K "NoPlace" z)
  (z1:nG K "NoDeed" a2)
  (u8:nG K "TooMany" c)
  (q8:nG K "NoNumber" g6)
  (v7:nG K "Group" b)
  (u6:nG K "copied" a7)
  (h4:Fun K "copied" "copied" s_18 a7 m6)
  (ah:findIn K (.ref c) "__init__"=some (some (.ref i)))
  (i0:Fun K "__init__" "TooMany.__init__" s_6 i y5)
  (u4:nG K "divisor" r)
  (i1:Fun K "divisor" "divisor" s_16 r l5)
  (i8:nG K "place" n)
  (g0:Fun K "place" "place" s_1b n n0)
  (q6:nG K "rest_place" N)
  (f1:Fun K "rest_place" "rest_place" aK N n1)
  (w2:nG K "still_rows" T)
  (h0:Fun K "still_rows" "still_rows" aL T y3)
  (s7:nG K "dot" a5)
  (d7:Fun K "dot" "dot" s_1o a5 ac)
  (q3:nG K "turned" u)
  (d5:Fun K "turned" "turned" s_1f u q0)
  (z4:nG K "without" y)
  (e2:Fun K "without" "without" s_17 y ag)
  (ad:nG K "determinant" c4)
  (f2:Fun K "determinant" "determinant" s_9 c4 z9)
  (n5:nG K "cofactor" a3)
  (f4:Fun K "cofactor" "cofactor" s_12 a3 r5)
  (x2:nG K "crossed" R)
  (h5:Fun K "crossed" "crossed" s_19 R t1)
  (q1:nG K "scaled" c2)
  (c5:Fun K "scaled" "scaled" s_1e c2 l4)
  (z6:nG K "inverse" a8)
  (g9:Fun K "inverse" "inverse" s_1c a8 m0)
  (l8:nG K "joined" b9)
  (c7:Fun K "joined" "joined" s_1a b9 u0)
  (o4:nG K "deed" J)
  (e5:Fun K "deed" "deed" s_1j J y8)
  (s4:nG K "still" m)
  (i2:Fun K "still" "still" s_1i m x0)
  (n8:nG K "moved" I)
  (i3:Fun K "moved" "moved" s_1g I v5)
  (x8:nG K "behind" b7)
  (f3:Fun K "behind" "behind" s_1d b7 k9)
  (v9:nG K "back" M)
  (d8:Fun K "back" "back" s_1l M y2)
  (w1:nG K "rest" o)
  (g5:Fun K "rest" "rest" s_1k o x6)
  (s0:nG K "check_most" P)
  (d6:Fun K "check_most" "check_most" Cp P r1)
  (t7:nG K "check_axes" a0)
  (d3:Fun K "check_axes" "check_axes" Co a0 n4)
  (j8:nG K "closed" b2)
  (h2:Fun K "closed" "closed" s_14 b2 x3)
  (aj:findIn K (.ref b) "__init__"=some (some (.ref d)))
  (u9:K.lookup d=some ⟨o2,o3,.func (fnOf "__init__" "Group.__init__" (jR s_0) (kH s_0) (oR s_0) (.ref d9) p0 n7 p3 u2 h7 ab),v0⟩)
  (x7:K.lookup d9=some ⟨w9,x1,.seq #[.int 200 Y] p2,x4⟩)
  (p6:codeIn K h7 "Group.__init__"=true)
  (t3:keepIn K (.ref d)=true)
  (an:findIn K (.ref b) "makers"=some (some (.ref l)))
  (e8:Fun K "makers" "Group.makers" s_5 l l0)
  (ak:findIn K (.ref b) "members"=some (some (.ref g)))
  (h1:Fun K "members" "Group.members" s_3 g s6)
  (al:findIn K (.ref b) "words"=some (some (.ref f)))
  (c6:Fun K "words" "Group.words" s_4 f s3)
  (am:findIn K (.ref b) "at"=some (some (.ref k)))
  (g8:Fun K "at" "Group.at" Cn k t9)
  (ao:findIn K (.ref b) "product"=some (some (.ref j)))
  (e9:Fun K "product" "Group.product" s_8 j w4)
  (ai:findIn K (.ref b) "back_of"=some (some (.ref e)))
  (i5:Fun K "back_of" "Group.back_of" s_7 e z5)
  (o0:nG K "_law_box" b4)
  (f5:Fun K "_law_box" "_law_box" s_11 b4 v1)
  (z2:nG K "_law_take" a6)
  (d1:Fun K "_law_take" "_law_take" s_1 a6 y1)
  (t8:nG K "_law_whole" b1)
  (f7:Fun K "_law_whole" "_law_whole" Cm b1 l6)
  (s5:nG K "_law_common" a1)
  (d0:Fun K "_law_common" "_law_common" Cl a1 k6)
  (r6:nG K "_law_still" F)
  (e7:Fun K "_law_still" "_law_still" aM F k8)
  (m3:nG K "_law_times" c0)
  (h9:Fun K "_law_times" "_law_times" aN c0 l7)
  (k4:nG K "_law_sixty" t)
  (h3:Fun K "_law_sixty" "_law_sixty" Ck t q7)
  (p4:nG K "_law_signed" D)
  (g7:Fun K "_law_signed" "_law_signed" aO D r7)
  (i7:nG K "_law_rows" O)
  (g1:Fun K "_law_rows" "_law_rows" s_15 O y9)
  (y6:nG K "_law_based" b8)
  (e6:Fun K "_law_based" "_law_based" aP b8 w6)
  (l3:nG K "_law_rest" V)
  (f6:Fun K "_law_rest" "_law_rest" cJ V q5)
  (k3:nG K "_law_low" S)
  (g2:Fun K "_law_low" "_law_low" s_10 S n6)
  (o8:nG K "_law_maker" w)
  (g4:Fun K "_law_maker" "_law_maker" aQ w m1)
  (z8:nG K "_law_spot" W)
  (d2:Fun K "_law_spot" "_law_spot" aR W u5)
  (u1:nG K "_law_sort" L)
  (i4:Fun K "_law_sort" "_law_sort" s_13 L z0)
  (u3:nG K "_law_makers" b3)
  (c9:Fun K "_law_makers" "_law_makers" aS b3 p7)
  (aa:nG K "_law_behind" q)
  (c8:Fun K "_law_behind" "_law_behind" aT q n9)
  (k0:nG K "_law_rested" a4)
  (e0:Fun K "_law_rested" "_law_rested" Cj a4 z7)
  (o7:nG K "_law_group" b6)
  (g3:Fun K "_law_group" "_law_group" Ci b6 p1)
  (j4:nG K "_law_numbered" U)
  (h8:Fun K "_law_numbered" "_law_numbered" Cg U s1)
  (j3:nG K "_law_right" b0)
  (f9:Fun K "_law_right" "_law_right" Cf b0 q4)
  (ae:nG K "_law_pair" a9)
  (f0:Fun K "_law_pair" "_law_pair" Ce a9 j9)
  (m8:nG K "_law_walked" c3)
  (f8:Fun K "_law_walked" "_law_walked" Cd c3 j1)
  (w3:nG K "_law_any_two" G)
  (e3:Fun K "_law_any_two" "_law_any_two" Cc G o1)
  (m4:nG K "_law_changed" x)
  (d4:Fun K "_law_changed" "_law_changed" aU x j6)
  (i9:nG K "_law_others" b5)
  (e4:Fun K "_law_others" "_law_others" Cb b5 w0)
  (k2:nG K "law" Z)
  (p:Fun K "law" "law" s_1n Z o9)
  (t6:nsIn K mainGlobals "MOST_MEMBERS"=some (some (.int 200 t0)))
  (r3:nsIn K mainGlobals "sum"=some none)
  (u7:nsIn K mainGlobals "zip"=some none)
  (j0:nsIn K mainGlobals "enumerate"=some none)
  (p9:nsIn K mainGlobals "range"=some none)
  (z3:nsIn K mainGlobals "len"=some none)
  (t5:nsIn K mainGlobals "abs"=some none)
  (w8:nsIn K mainGlobals "isinstance"=some none)
  (s2:nsIn K mainGlobals "int"=some none)
  (k5:nsIn K mainGlobals "bool"=some none)
  (v4:nsIn K mainGlobals "list"=some none)
  (m7:nsIn K mainGlobals "tuple"=some none)
  (o5:nsIn K mainGlobals "sorted"=some none)
  (w5:nsIn K mainGlobals "dict"=some none)
  (j7:nsIn K mainGlobals "any"=some none)
  (s9:kitOne K (.type "list") (.type "list")=some true)
  (x9:PySem.W.excIn K z [.type "ValueError",.type "Exception",.type "BaseException",.type "object"] "ValueError.__new__"=true)
  (m9:PySem.W.excIn K a2 [.type "ValueError",.type "Exception",.type "BaseException",.type "object"] "ValueError.__new__"=true)
  (y7:L2.Cls K b)
  (s8:L2.Mk K b d)
  (n3:L2.Meth K b "members" g)
  (v6:findIn K (.ref b) "dimension"=some none)
  (x5:findIn K (.ref b) "given"=some none)
  (j2:findIn K (.ref b) "ordered"=some none)
  (p5:findIn K (.ref b) "shortest"=some none)
  (m2:findIn K (.ref b) "numbers"=some none)
  (r8:L2.Meth K b "makers" l)
  (k7:L2.Meth K b "words" f)
  (v8:kitOne K (.type "int") (.type "list")=some false)
  (y0:kitOne K (.type "int") (.type "tuple")=some false)
  (r0:L2.XIn K c C i)
  (w7:L2.XSt K c "apart")
  (t2:PySem.W.exmOne K (.ref c) (.ref c)=some true)
  (l2:L2.Meth K b "at" k)
  (q9:L2.Meth K b "product" j)
  (n2:L2.Meth K b "back_of" e)
  (t4:kitOne K (.type "tuple") (.type "tuple")=some true)
  (k1:kitOne K (.type "int") (.type "bool")=some false)
  (af:kitOne K (.type "int") (.type "int")=some true)
  :∃i6,Txt K h6 i6:=by
 have m5:=i0.binds (ps:=pu') (by walk_at "2");have c1:=Uu (st:=s_0) (ds:=[.int 200 Y]) u9 p6 t3 x7;have q2:=c1.bindsA (ps:=pm') λ_ _ _ _ _ _ _ us hl=>by obtain⟨_,_,_,_,rfl⟩:=us4 hl;exact⟨_,rfl,rfl⟩
 have l9:=c1.binds (ps:=pm') λ_ _ _ _ _ _ _ us hl=>by obtain⟨_,_,_,rfl⟩:=us3 (qW hl);exact⟨_,rfl,rfl⟩
 have l1:=e8.binds (ps:=pF') (by walk_at "1");have r4:=h1.binds (ps:=pF') (by walk_at "1");have p8:=c6.binds (ps:=pF') (by walk_at "1");have r2:=g8.binds (ps:=pB') (by walk_at "2");have r9:=e9.binds (ps:=px') (by walk_at "3");have j5:=i5.binds (ps:=pD') (by walk_at "2");obtain⟨_,_,_,_,_,_,_,_,_,rfl,_,_⟩:=id p.ex;exact⟨⟨a7,i,r,n,N,T,a5,u,y,c4,a3,R,c2,a8,b9,J,m,I,b7,M,o,P,a0,b2,d,l,g,f,k,j,e,b4,a6,b1,a1,F,c0,t,D,O,b8,V,S,w,W,L,b3,q,a4,b6,U,b0,a9,c3,G,x,b5,Z,_,_,_,_,_,_,_,_,_,_,_,_,_,_,_,_,_,_,_,_,_,_,_,_,_,_,_,_,_,_,_,_,_,_,_,_,_,_,_,_,_,_,_,_,_,_,_,_,_,_,_,_,_,_,_,_,_,_,C,z,a2,c,g6,b,Y⟩,⟨⟨h4,yP X a u6,h4.binds (λ_ _ _ _ _ _ us hl=>by obtain⟨_,rfl⟩:=us1 hl;rfl)⟩,i0,m5,⟨i1,yP X a u4,i1.binds (λ_ _ _ _ _ _ us hl=>by obtain⟨_,_,rfl⟩:=us2 hl;rfl)⟩,⟨g0,yP X a i8,g0.binds (λ_ _ _ _ _ _ us hl=>by obtain⟨_,_,rfl⟩:=us2 hl;rfl)⟩,⟨f1,yP X a q6,f1.binds (λ_ _ _ _ _ _ us hl=>by obtain⟨_,rfl⟩:=us1 hl;rfl)⟩,⟨h0,yP X a w2,h0.binds (λ_ _ _ _ _ _ us hl=>by obtain⟨_,rfl⟩:=us1 hl;rfl)⟩,⟨d7,yP X a s7,d7.binds (λ_ _ _ _ _ _ us hl=>by obtain⟨_,_,rfl⟩:=us2 hl;rfl)⟩,⟨d5,yP X a q3,d5.binds (λ_ _ _ _ _ _ us hl=>by obtain⟨_,rfl⟩:=us1 hl;rfl)⟩,⟨e2,yP X a z4,e2.binds (λ_ _ _ _ _ _ us hl=>by obtain⟨_,_,_,rfl⟩:=us3 hl;rfl)⟩,⟨f2,yP X a ad,f2.binds (λ_ _ _ _ _ _ us hl=>by obtain⟨_,rfl⟩:=us1 hl;rfl)⟩,⟨f4,yP X a n5,f4.binds (λ_ _ _ _ _ _ us hl=>by obtain⟨_,_,_,rfl⟩:=us3 hl;rfl)⟩,⟨h5,yP X a x2,h5.binds (λ_ _ _ _ _ _ us hl=>by obtain⟨_,rfl⟩:=us1 hl;rfl)⟩,⟨c5,yP X a q1,c5.binds (λ_ _ _ _ _ _ us hl=>by obtain⟨_,_,rfl⟩:=us2 hl;rfl)⟩,⟨g9,yP X a z6,g9.binds (λ_ _ _ _ _ _ us hl=>by obtain⟨_,rfl⟩:=us1 hl;rfl)⟩,⟨c7,yP X a l8,c7.binds (λ_ _ _ _ _ _ us hl=>by obtain⟨_,_,rfl⟩:=us2 hl;rfl)⟩,⟨e5,yP X a o4,e5.binds (λ_ _ _ _ _ _ us hl=>by obtain⟨_,_,_,rfl⟩:=us3 hl;rfl)⟩,⟨i2,yP X a s4,i2.binds (λ_ _ _ _ _ _ us hl=>by obtain⟨_,rfl⟩:=us1 hl;rfl)⟩,⟨i3,yP X a n8,i3.binds (λ_ _ _ _ _ _ us hl=>by obtain⟨_,_,rfl⟩:=us2 hl;rfl)⟩,⟨f3,yP X a x8,f3.binds (λ_ _ _ _ _ _ us hl=>by obtain⟨_,_,rfl⟩:=us2 hl;rfl)⟩,⟨d8,yP X a v9,d8.binds (λ_ _ _ _ _ _ us hl=>by obtain⟨_,rfl⟩:=us1 hl;rfl)⟩,⟨g5,yP X a w1,g5.binds (λ_ _ _ _ _ _ us hl=>by obtain⟨_,rfl⟩:=us1 hl;rfl)⟩,⟨d6,yP X a s0,d6.binds (λ_ _ _ _ _ _ us hl=>by obtain⟨_,rfl⟩:=us1 hl;rfl)⟩,⟨d3,yP X a t7,d3.binds (λ_ _ _ _ _ _ us hl=>by obtain⟨_,_,rfl⟩:=us2 hl;rfl)⟩,⟨h2,yP X a j8,h2.binds (λ_ _ _ _ _ _ us hl=>by obtain⟨_,_,_,rfl⟩:=us3 hl;rfl)⟩,c1,l9,q2,e8,l1,h1,r4,c6,p8,g8,r2,e9,r9,i5,j5,⟨f5,yP X a o0,f5.binds (λ_ _ _ _ _ _ us hl=>by obtain⟨_,_,rfl⟩:=us2 hl;rfl)⟩,⟨d1,yP X a z2,d1.binds (λ_ _ _ _ _ _ us hl=>by obtain⟨_,_,rfl⟩:=us2 hl;rfl)⟩,⟨f7,yP X a t8,f7.binds (λ_ _ _ _ _ _ us hl=>by obtain⟨_,rfl⟩:=us1 hl;rfl)⟩,⟨d0,yP X a s5,d0.binds (λ_ _ _ _ _ _ us hl=>by obtain⟨_,_,rfl⟩:=us2 hl;rfl)⟩,⟨e7,yP X a r6,e7.binds (λ_ _ _ _ _ _ us hl=>by obtain⟨_,rfl⟩:=us1 hl;rfl)⟩,⟨h9,yP X a m3,h9.binds (λ_ _ _ _ _ _ us hl=>by obtain⟨_,_,rfl⟩:=us2 hl;rfl)⟩,⟨h3,yP X a k4,h3.binds (λ_ _ _ _ _ _ us hl=>by obtain⟨_,_,rfl⟩:=us2 hl;rfl)⟩,⟨g7,yP X a p4,g7.binds (λ_ _ _ _ _ _ us hl=>by obtain⟨_,_,rfl⟩:=us2 hl;rfl)⟩,⟨g1,yP X a i7,g1.binds (λ_ _ _ _ _ _ us hl=>by obtain⟨_,_,_,rfl⟩:=us3 hl;rfl)⟩,⟨e6,yP X a y6,e6.binds (λ_ _ _ _ _ _ us hl=>by obtain⟨_,_,rfl⟩:=us2 hl;rfl)⟩,⟨f6,yP X a l3,f6.binds (λ_ _ _ _ _ _ us hl=>by obtain⟨_,_,_,rfl⟩:=us3 hl;rfl)⟩,⟨g2,yP X a k3,g2.binds (λ_ _ _ _ _ _ us hl=>by obtain⟨_,_,_,rfl⟩:=us3 hl;rfl)⟩,⟨g4,yP X a o8,g4.binds (λ_ _ _ _ _ _ us hl=>by obtain⟨_,_,_,_,_,rfl⟩:=us5 hl;rfl)⟩,⟨d2,yP X a z8,d2.binds (λ_ _ _ _ _ _ us hl=>by obtain⟨_,_,rfl⟩:=us2 hl;rfl)⟩,⟨i4,yP X a u1,i4.binds (λ_ _ _ _ _ _ us hl=>by obtain⟨_,rfl⟩:=us1 hl;rfl)⟩,⟨c9,yP X a u3,c9.binds (λ_ _ _ _ _ _ us hl=>by obtain⟨_,rfl⟩:=us1 hl;rfl)⟩,⟨c8,yP X a aa,c8.binds (λ_ _ _ _ _ _ us hl=>by obtain⟨_,_,rfl⟩:=us2 hl;rfl)⟩,⟨e0,yP X a k0,e0.binds (λ_ _ _ _ _ _ us hl=>by obtain⟨_,rfl⟩:=us1 hl;rfl)⟩,⟨g3,yP X a o7,g3.binds (λ_ _ _ _ _ _ us hl=>by obtain⟨_,_,rfl⟩:=us2 hl;rfl)⟩,⟨h8,yP X a j4,h8.binds (λ_ _ _ _ _ _ us hl=>by obtain⟨_,rfl⟩:=us1 hl;rfl)⟩,⟨f9,yP X a j3,f9.binds (λ_ _ _ _ _ _ us hl=>by obtain⟨_,_,_,rfl⟩:=us3 hl;rfl)⟩,⟨f0,yP X a ae,f0.binds (λ_ _ _ _ _ _ us hl=>by obtain⟨_,_,_,_,rfl⟩:=us4 hl;rfl)⟩,⟨f8,yP X a m8,f8.binds (λ_ _ _ _ _ _ us hl=>by obtain⟨_,_,_,_,_,rfl⟩:=us5 hl;rfl)⟩,⟨e3,yP X a w3,e3.binds (λ_ _ _ _ _ _ us hl=>by obtain⟨_,_,_,_,rfl⟩:=us4 hl;rfl)⟩,⟨d4,yP X a m4,d4.binds (λ_ _ _ _ _ _ us hl=>by obtain⟨_,_,_,_,rfl⟩:=us4 hl;rfl)⟩,⟨e4,yP X a i9,e4.binds (λ_ _ _ _ _ _ us hl=>by obtain⟨_,_,_,_,_,_,rfl⟩:=us6 hl;rfl)⟩,⟨p,yP X a k2,p.binds (λ_ _ _ _ _ _ us hl=>by obtain⟨_,rfl⟩:=us1 hl;rfl)⟩,yV X a r3,yV X a u7,yV X a j0,yV X a p9,yV X a z3,yV X a t5,yV X a w8,yV X a s2,yV X a k5,yV X a v4,yV X a m7,yV X a o5,yV X a w5,yV X a j7,yP X a o6,yP X a y4,yP X a z1,yP X a u8,yP X a q8,yP X a v7,⟨_,yP X a t6,_,rfl⟩,s9,x9,m9,y7,s8,n3,v6,x5,j2,p5,m2,r8,k7,v8,y0,r0,w7,t2,l2,q9,n2,t4,k1,af,λs v=>.of_eq rfl⟩⟩
end Cw
end
open PySem PySem.W PyProof.Rows
/-! Names that the head would else lay equations under: the proof wants none of them. -/
namespace PySem.W.Fast
local macro_rules|`(command|include $x)=>`(def $x:ident:=Nat)|`(command|include $x $y $z*)=>`(def $x:ident:=Nat
include $y $z*)
include tw203270232411559073 tw10150623370950096999 tw6499618847664459987 tw16266459187965152730 tw10687354545809035202 tw13701416639070301083 tw10782653751155193164 tw3929488755112046965 tw7034677210396194628 tw2234166998245380620 tw13761399324255047889 tw6038857302899401277 tw3896829652556142197 tw6252898311398773370 tw2254881041880060523 tw15765918296894324858 tw9440408583413562505 tw9582613467214605250 tw605840509936178534 tw3311466228342285192 tw17883569160422563910 tw13651281998758374911 tw5674828347472951724 tw334582457225130241 tw10026545420886237778 tw6239066264407386741 tw1432976701703370537 tw7471788926659844234 tw7407383467912602962 tw1380438894338683409 tw3085812938935215749 tw11576417648454275410 tw16965011473312281949 tw14650763456169767009 tw11176844202658925288 tw8676809493804839315 tw4549745140325317063 tw5081231556328825214 tw17807007937510629000 tw16291295602033411242 tw12599286573895263589 tw12110098752259007348 tw17324776515960716918 tw9547217655135253718 tw7028660262884495008 tw16092184127816920908 tw1609211260900190447 tw11210649698386595131 tw4049359032449216661 tw16112782336688575875 tw13381125966170460596 tw9659666774831966255 tw15014295357416068597 tw12989935092977890007 tw8293735054182559597 tw4245197315577054960 tw15145621403754909370 tw14634458736247804287 tw17664602666638642059 tw1873403418981946343 tw2245984127133314213 tw14893464708639780011 tw7110981244371541224 tw4863127669516366086 tw14764915926104590039 tw15003008899182557255 tw11704070477995507128 tw7769828264173332265 tw57036972569681891 tw734046868449353309 tw18044637130280537423 tw1351320525515664312 tw6615675046512182420 tw18193622600564137670 tw11696670088548927606 tw15018990084255415435 tw115619560313928796 tw16781845919971558889 tw5250596466632009681 tw6872799514561566808 tw5141898871428848791 tw15717635918215304913 tw15409618591638743770 tw6138325513933294142 tw10871048572385401894 tw14233508506371968639 tw3304303016939878637 tw5966364490053299170 tw16750727026591110585 tw7065116819225096911 tw6236146913908575120 tw13120227525514081971 tw14757683130757471440 tw13005727283913264338 tw16335321577112636537 tw18009537011083625471 tw7650426185056791422 tw17592676796077511068 tw15698369342127615167 tw8698932431201934818 tw12653758453211904475 tw14895710514318248399 tw14803524477320115722 tw8166413997527298849 tw724278714884706523 tw16833900374420451723 tw14835624983345722671 tw10163878308149476244 tw17079936057415687285 tw5992656492240829092 tw5284393720496436795 tw4707820839888969725 tw7203796218438484919 tw17339724976790383330 tw10390811608240158993 tw12078212083473621209 tw17339279348236602674 tw16446110009740818834 tw8755918581351037108 tw2969811982682366130 tw11215848102465838991 tw8453337811433939594 tw2892156175552946463 tw14798641914070896433 tw7416442498269148828 tw10013384163110600069 tw1559362789569639761 tw16058145140293058593 tw17127773857811395516 tw17525597875802003236 tw15662890389314899829 tw9355645150249384707 tw18379424896667807315 tw10236898623623279363 tw13263355527149934601 tw16057684735055448327 tw2427549196046718469 tw10795839869998975972 tw8594212170806315121 tw13197785543774934472 tw15930111824873950067 tw11617557199761396867 tw12351329653527635768 tw2797350897622328714 tw11373434106524972330 tw865039506425177177 tw10027263932651882712 tw15498269628738173106 tw11436993152423946888 tw4460154941209437147 tw5935412200010021834 tw16791058647210677286 tw5323682708748693004 tw9831712610895499751 tw3487289139862465680 tw8925716524404796087 tw4693425214678312538 tw15552601980527643084 tw4212529542089587077 tw382346731667605796 tw1439181276578605867 tw4456301336260117645 tw2713161735089409991 tw7044983173900970828 tw11564327311601071523 tw6287038520602313427 tw8898879068914403248 tw1485509829569899049 tw15097050236237619323 tw5953852642543357394 tw16072546535054613902 tw3809974989016372913 tw15961082257062779180 tw3508569536977545230 tw10660345196587903977 tw4194183929499422462 tw14864869572355029352 tw15622589797530298394 tw11768373156824595691 tw16044664149444512983 tw1359244845738174469 tw18121769645594235729 tw3496882284580773869 tw8824143274836457803 tw17314243862377284627 tw9179339502385276416 tw7611019555304421220 tw265025963897163820 tw1162795949738636547 tw18234682699450525601 tw11980824485701671396 tw13022569446414480373 tw13513692087939704055 tw379468164301876656 tw15475338675286097113 tw16218309586125754425 tw8991970980095871477 tw13407736904330196042 tw3295260984432517504 tw3599833866607245538 tw17508249486145778114 tw10982807222018216562 tw14583271266256868933 tw14795722658451191961 tw15009348013571472578 tw7083803828210281499 tw18031050183625423058 tw1958204911133567408 tw1920456800112024056 tw2146142458948429568 tw786787961805662702 tw526558886423382223 tw17496053029816065995 tw8231823179588127217 tw5837612599397319244 tw4185667861233620894 tw7729374526448288215 tw15335656286589932952 tw4466611228956497434 tw2031365531490713866 tw10180688525995994050 tw12083204586623237457 tw1441094275263604787 tw359901002028680038 tw15776023782880471459 tw4734796937336811121 tw875932295319111819 tw14840751520446500789 tw195251229901492397 tw3219676510146399694 tw17470826932155512678 tw12883637366264226033 tw885342790333680271 tw16815355280303560487 tw8385769178290323468 tw4336541488807613511 tw11097712455215836621 tw2237188325602716324 tw17213851872184266371 tw3668757072701598097 tw16917006293799960944 tw2523902889154345567 tw18290903982872088305 tw3231611641219661217 tw4415488531692358977 tw6372615230610996993 tw263887159935833052 tw18149601524784231642 tw10768219274926093835 tw5867654285220418675 tw13478518248741110257 tw15763466724890750374 tw345825375994764561 tw3363469562534631143 tw8522138000828318199 tw3773435468754866750 tw5399690871736262108 tw1322507611017726600 tw456628484992000202 tw14383025456966594476 tw8842670965645900879 tw10946523685775881268 tw12954700876069338379 tw6121670012749448464 tw13984364329863990600 tw16320794898225569638 tw7696521338042353895 tw3501029989208601755 tw18146753559241519221 tw16810637125575681756 tw14408631817557459442 tw1438469032191036556 tw8055254440748122624 tw17340052312504408098 tw12412078051354125266 tw2344305555501401387 tw1283022199654312551 tw8164286170487352221 tw12523326984798329368 tw4697948008421188958 tw12320381279971819488 tw8799508331929435905 tw5848311011903851596 tw6113316045806121541 tw13613544530865342330 tw13103526798711935213 tw8292271657282337808 tw8865107912170455426 tw15352506136331932297 tw10970853160143873298 tw5562923747733358115 tw12948213359068132516 tw10897122492282348031 tw12901771407782896442 tw15387115966259933397 tw762206503454586217 tw14502375597196032065 tw11546293709849730961 tw8669213068235734871 tw2382702117939359931 tw8225630365301832603 tw1938230001766237552 tw12250261995773259315 tw15453689960944673178 tw15624463339212786528 tw13762514689207881523 tw2670930207057474633 tw15212966537817226267 tw4288961937586769428 tw14047545556153587227 tw5857527421904463786 tw16078248181155702458 tw16428682394285313436 tw15555081771444850162 tw17827228905783545753 tw226768694144246879 tw11475150437805928432 tw3528385603587847811 tw16368979524851997074 tw3606206280401629900 tw13612669249797251245 tw1884454733208837866 tw3475631782355297458 tw1105053405947116935 tw3570660693735529924 tw1482613596716596172 tw11927470353446399266 tw7608852552155623251 tw17985623410164732294 tw8504318635513015157 tw14028454683092200661 tw18034263425534148548 tw16263889070013075178 tw13233918457970534983 tw7222953106402956295 tw12988646549569090474 tw6561940552194132367 tw7583314393635795061 tw11324378534835425164 tw9281965003636812429 tw8733261945304806798 tw1763706682789403576 tw16731629273207986283 tw4335776245088077279 tw7286820713401426469 tw3520074186350032252 tw11161944180512313022 tw4151075812351140777 tw11108737212107091013 tw866604527346262451 tw12552906474787933586 tw9856068700083356383 tw5823186811852778621 tw729215717527911568 tw7488621740780988157 tw7114416993330817847 tw162868102972385252 tw13038286896145538829 tw14180938289477091538 tw11809487839770179027 tw9965919824308876556 tw3255638993290169932 tw11886892114829657938 tw6759183205670634976 tw11303474298501823824 tw2853421967283786738 tw12810258973963681714 tw14576662685027775974 tw75124008482862586 tw12245233128574443148 tw3813606240451079943 tw4752137756002820795 tw4409290503208813633 tw15900573251388772206 tw11831243505544118587 tw16905398656831563436 tw5334008010552046558 tw10188879017086036264 tw4888103999004928039 tw3785601475615508557 tw14256985222716497545 tw4089695641268270155 tw18425082617659490587 tw12830168101944604471 tw2103906042734683382 tw16165461357908563589 tw7351747814609187629 tw3606728453364409000 tw5979149540410985540 tw2346430870446538584 tw10050828321419553564 tw9264221299026136097 tw1600184774160409367 tw7937164906324636247 tw1004988986410829946 tw10069500764365545066 tw2137445829531334854 tw16508482759608892419 tw16044772630124734341 tw7116099204514189294 tw6851758680528582797 tw3972248937550434359 tw10404034374937403551 tw14587839690570882828 tw1848983384766998163 tw15752253765455103104 tw13711233007609328998 tw11832008256436949999 tw4781354302837638239 tw10623810832049929186 tw2369713858302386531 tw14831345124362550745 tw11551304185118766592 tw5631335994941964581
end PySem.W.Fast
set_option maxRecDepth 100000 in
set_option maxHeartbeats 0 in
theorem PySem.Challenge.cw_crystalwords_k43_whole_every_word_holds : PySem.Challenge.rw_crystalwords_k43_whole_every_word.Holds := by
 w_on; o_law; k_head; (case hw=>w_witness2)
 k_fill
 refine L2.walkB (l:=PySem.Challenge.rw_crystalwords_k43_whole_every_word) (k:=18) (x := "_law_script") rfl rfl ⟨rfl,by decide,by decide⟩ (λ w h Y=>PySem.W.kIn_of Y) ?F
 case F =>
  intro w mg fa h KX G hmg
  have T:∃ t,Cw.Txt (L2.KOf KX) mg t:=by
   dsimp only [L2.KOf]
   refine' Cw.txt_mk KX G ?n_1m ?n_1q ?n_1p ?n_1h ?n_1r ?n_2 ?n_18 ?F_18 ?n_6 ?F_6 ?n_16 ?F_16 ?n_1b ?F_1b ?n_n ?F_n ?n_o ?F_o ?n_1o ?F_1o ?n_1f ?F_1f ?n_17 ?F_17 ?n_9 ?F_9 ?n_12 ?F_12 ?n_19 ?F_19 ?n_1e ?F_1e ?n_1c ?F_1c ?n_1a ?F_1a ?n_1j ?F_1j ?n_1i ?F_1i ?n_1g ?F_1g ?n_1d ?F_1d ?n_1l ?F_1l ?n_1k ?F_1k ?n_w ?F_w ?n_s ?F_s ?n_14 ?F_14 ?n_0 ?l_0 ?t_Group___init__ ?c_0 ?k_0 ?n_5 ?F_5 ?n_3 ?F_3 ?n_4 ?F_4 ?n_a ?F_a ?n_8 ?F_8 ?n_7 ?F_7 ?n_11 ?F_11 ?n_1 ?F_1 ?n_u ?F_u ?n_k ?F_k ?n_q ?F_q ?n_m ?F_m ?n_v ?F_v ?n_h ?F_h ?n_15 ?F_15 ?n_l ?F_l ?n_x ?F_x ?n_10 ?F_10 ?n_g ?F_g ?n_z ?F_z ?n_13 ?F_13 ?n_j ?F_j ?n_f ?F_f ?n_p ?F_p ?n_y ?F_y ?n_b ?F_b ?n_r ?F_r ?n_t ?F_t ?n_d ?F_d ?n_i ?F_i ?n_c ?F_c ?n_e ?F_e ?n_1n ?F_1n ?n_MOST_MEMBERS ?y_sum ?y_zip ?y_enumerate ?y_range ?y_len ?y_abs ?y_isinstance ?y_int ?y_bool ?y_list ?y_tuple ?y_sorted ?y_dict ?y_any ?q_j ?q_c ?q_e ?q_f ?q_g ?q_0 ?q_5 ?q_h ?q_8 ?q_6 ?q_9 ?q_3 ?q_4 ?q_k ?q_l ?q_a ?q_b ?q_d ?q_7 ?q_1 ?q_2 ?q_m ?q_n ?q_i
   (case n_1m | n_1q | n_1p | n_1h | n_1r | n_2 | n_18 | n_16 | n_1b | n_n | n_o | n_1o | n_1f | n_17 | n_9 | n_12 | n_19 | n_1e | n_1c | n_1a | n_1j | n_1i | n_1g | n_1d | n_1l | n_1k | n_w | n_s | n_14 | n_11 | n_1 | n_u | n_k | n_q | n_m | n_v | n_h | n_15 | n_l | n_x | n_10 | n_g | n_z | n_13 | n_j | n_f | n_p | n_y | n_b | n_r | n_t | n_d | n_i | n_c | n_e | n_1n=>show _=_; k_is)
   (case n_6 | n_0 | l_0 | t_Group___init__ | c_0 | k_0 | n_5 | n_3 | n_4 | n_a | n_8 | n_7 | n_MOST_MEMBERS | y_sum | y_zip | y_enumerate | y_range | y_len | y_abs | y_isinstance | y_int | y_bool | y_list | y_tuple | y_sorted | y_dict | y_any | q_5 | q_h | q_8 | q_6 | q_9=>show _=_; k_is)
   (case F_18 | F_6 | F_16 | F_1b | F_n | F_o | F_1o | F_1f | F_17 | F_9 | F_12 | F_19 | F_1e | F_1c | F_1a | F_1j | F_1i | F_1g | F_1d | F_1l | F_1k | F_w | F_s | F_14 | F_5 | F_3 | F_4 | F_a | F_8 | F_7 | F_11 | F_1 | F_u | F_k | F_q | F_m | F_v | F_h | F_15 | F_l | F_x | F_10 | F_g | F_z | F_13 | F_j | F_f | F_p | F_y | F_b | F_r | F_t | F_d | F_i | F_c | F_e | F_1n=>refine' L2.fun_mk ?l ?c ?k; (case l=>k_is); (case c=>k_is); (case k=>k_is))
   (case q_j | q_k | q_l | q_m | q_n | q_i=>kit_is)
   (case q_c | q_e=>k_exc)
   (case q_f | q_g=>exact ⟨by k_is,by k_is,by k_is,by k_is⟩)
   (case q_0 | q_3 | q_4 | q_7 | q_1 | q_2=>exact ⟨by k_is,by k_is,by k_is⟩)
   (case q_a=>exact ⟨by kernel_rfl,by k_is,by kernel_rfl,by kernel_rfl⟩)
   (case q_b=>exact ⟨by k_is,by kernel_rfl,by k_is⟩)
   (case q_d=>kts_exm)
  obtain ⟨t,T⟩:=T
  have e0:=hmg.symm.trans T.F_1n.m
  cases e0
  exact ⟨t.d_1n,T.bl,λ base kb nb=>Cw.ok_1n T⟩
#print axioms PySem.Challenge.cw_crystalwords_k43_whole_every_word_holds