import PyProof.Rows.All
import Wide.All
import OpenK.AllK
import Wide.FinOn
import Lean
import PyProof.EqAt
import PyProof.EqKinds
import PyProof.TupleCall
import PySem.Challenge.RW_crystalwords_k43_whole_every_word
set_option Elab.async false
set_option linter.all false
set_option compiler.extract_closed false
set_option genSizeOf false
set_option bootstrap.genMatcherCode false
set_option maxRecDepth 100000
local macro_rules | `(⋯)=>`(by omega)
local macro_rules | `(∅)=>`(by decide)
local macro_rules | `(nofun)=>`(by decide +kernel)
local macro_rules | `(tactic| ext)=>`(tactic| walk_at "r")
noncomputable section
theorem dLe{d k:Nat}(h:d=2\/d=3)(g:3≤k):d≤k:=by
 rcases h with h|h<;>rw[h]
 ·exact Nat.le_trans (by decide) g
 ·exact g
theorem eLe{x d k:Nat}(e:x=d)(h:d=2\/d=3)(g:3≤k):x≤k:=by rw[e];exact dLe h g
theorem eLt{x y k:Nat}(e:x=y)(g:k<y):k<x:=by rw[e];exact g
theorem iNn{x:Int}(h:0<x):¬x<0:=Int.not_lt.mpr (Int.le_of_lt h)
local macro_rules | `(tactic| omega)=>`(tactic| first | (with_reducible first | assumption | exact Int.ne_of_gt (by assumption) | exact iNn (by assumption) | exact Int.le_of_lt (by assumption) | exact eLt (by assumption) (by assumption) | exact dLe (by assumption) (by decide) | exact eLe (by assumption) (by assumption) (by decide) | exact Nat.le_trans (by assumption) (by decide) | exact Nat.lt_of_lt_of_le (by assumption) (by decide) | exact Nat.lt_of_le_of_lt (by assumption) (by decide) | exact Nat.le_trans (Nat.le_of_lt (by assumption)) (by decide) | exact Nat.le_of_lt (by assumption)) | decide | lia | omega +splitDisjunctions)
abbrev SP':=List Int×Int
abbrev LI':=List Int
abbrev PN:=List (PySem.Addr×PySem.Obj)
abbrev VP:=PySem.Value->PySem.Shared->Prop
abbrev LW:=List PySem.Value
abbrev LA:=List PySem.Addr
abbrev MT:=PySem.Str->Option PySem.Value
def zA:=@PySem.wpAny_bind
def zB:=@PySem.wpAny_pure
def zC:=@PySem.Heap.get?_push_of_some
def zD:=@if_neg
def zE:=@Nat.le_refl
def zF:=@if_pos
def zG:=@PyProof.Rows.wpS_bind
def zH:=@PyProof.Rows.wpS_pure
def zI:=@List.getElem?_map
def zJ:=@Nat.lt_of_lt_of_le
def zK:=@List.map_cons
def zL:=@PySem.Heap.lt_size
def zM:=@Array.length_toList
def zN:=@decide_eq_false
def zO:=@List.mem_cons_of_mem
def zP:=@decide_eq_true
def zQ:=@Int.toNat_natCast
def zR:=@Bool.and_eq_true
def zS:=@PySem.Heap.get?_push_size
def zT:=@List.size_toArray
def zU:=@List.length_cons
def zV:=@List.getElem?_append_right
def zW:=@Option.some.inj
def zX:=@Bool.false_ne_true
def zY:=@Nat.ne_of_lt
def zZ:=@List.mem_cons_self
def yA:=@Ne.symm
def yB:=@Nat.zero_le
def yC:=@Nat.pow_le_pow_right
def yD:=@List.getElem?_append_left
def yE:=@List.length_append
def yF:=@List.mem_of_getElem?
def yG:=@Nat.le_trans
def yH:=@Array.getElem?_toList
def yI:=@List.append_assoc
def yJ:=@List.length_take
def yK:=@Array.toList_append
def yL:=@PySem.PassesOwn.never
def yM:=@PySem.F.plainAttrs_list
def yN:=@LawfulBEq.eq_of_beq
def yO:=@List.mem_append_right
def yP:=@PySem.W.mg_of
def yQ:=@PyProof.Rows.mulOk_of_bits
def yR:=@List.cons.injEq
def yS:=@List.length_map
def yT:=@List.take_of_length_le
def yU:=@PySem.wpAny_mono
def yV:=@PySem.W.mg_none_of
def yW:=@List.getElem?_range
def yX:=@List.zipWith_cons_cons
def yY:=@PySem.F.type_list_append
def yZ:=@PySem.F.slot_list_append
def xA:=@Int.natAbs_mul
def xB:=@PySem.wpAny_holding
def xC:=@Nat.lt_irrefl
def xD:=@List.map_append
def xE:=@Int.mul_pos
def xF:=@PySem.F.excBase_ValueError
def xG:=@List.lookup_cons
def xH:=@List.mem_cons
def xI:=@List.all_cons
def xJ:=@List.map_map
def xK:=@PyProof.Rows.wpS_forRange
def xL:=@PySem.wpAny_newObj_type
def xM:=@PySem.W.kia_one
def xN:=@List.getElem?_eq_getElem
def xO:=@Nat.zero_add
def xP:=@PyProof.Rows.callWith_type1
def xQ:=@of_decide_eq_true
def xR:=@PySem.Heap.size_push
def xS:=@Int.fmod_eq_emod_of_nonneg
def xT:=@List.getElem?_of_mem
def xU:=@List.mem_append_left
def xV:=@PySem.wpAny_field
def xW:=@PySem.wpAny_call_entry
def xX:=@List.length_zipWith
def xY:=@List.take_append_drop
def xZ:=@Nat.mul_le_mul
def wA:=@List.getElem?_zipWith
def wB:=@PySem.wpAny_callSpecial?_slot
def wC:=@Nat.mul_le_mul_right
def wD:=@List.take_add_one
def wE:=@List.map_congr_left
def wF:=@PySem.Heap.get?_update_self
def wG:=@List.getElem?_eq_none
def wH:=@PySem.wpAny_Call_Name_kw
def wI:=@congrArg
def wJ:=@PySem.wpAny_seqItems
def wK:=@PyProof.Rows.wpS_mono
def wL:=@PySem.F.slot_dict_keyiterator_next
def wM:=@List.foldl_cons
def wN:=@List.append_nil
def wO:=@List.getElem_of_mem
def wP:=@List.replicate_succ
def wQ:=@Int.mul_comm
def wR:=@List.getElem?_set_self
def wS:=@PySem.wpAny_standAt
def wT:=@PyProof.Rows.wpS_modify
def wU:=@PySem.wpAny_rule
def wW:=@Nat.lt_of_le_of_lt
def wX:=@PySem.W.Looks.here
def wY:=@Int.add_zero
def wZ:=@Int.le_of_lt
def vA:=@List.eq_nil_of_length_eq_zero
def vB:=@PySem.wpAny_typeNameOfWhole_keyiter
def vC:=@PySem.mem_of_lookup
def vD:=@PySem.Heap.SameBut.update
def vE:=@List.getElem_mem
def vF:=@List.all_eq_true
def vG:=@Nat.pow_add
def vH:=@PySem.Heap.get?_update_other
def vI:=@PySem.wpAny_setField_rec
def vJ:=@Nat.sub_self
def vK:=@List.getElem?_drop
def vL:=@of_decide_eq_false
def vM:=@PySem.F.slot_dict_get
def vN:=@List.perm_append_comm
def vO:=@PySem.wpAny_passesOwn
def vP:=@PySem.wpAny_attempt
def vQ:=@PySem.F.slot_tuple_iterator_next
def vR:=@PySem.W.looks_findIn
def vS:=@PySem.Calls.evalArgs_plain
def vU:=@List.drop_eq_getElem_cons
def vV:=@List.eraseIdx_append_of_length_le
def vW:=@Nat.lt_or_ge
def vX:=@Nat.lt_succ_self
def vY:=@PySem.wpAny_isInstance
def vZ:=@List.zipIdx_cons
def uA:=@List.getElem?_take_of_lt
def uB:=@List.ext_getElem
def uC:=@List.getElem_map
def uD:=@PySem.wpAny_typeNameOf_keyiter
def uE:=@Int.zero_mul
def uF:=@Nat.le_of_lt
def uG:=@PySem.F.plainAttrs_dict
def uH:=@PySem.W.callWith_K
def uI:=@PySem.wpAny_pyIter_tuple
def uJ:=@List.forIn_cons
def uK:=@PySem.wpAny_loadPart'
def uL:=@Int.fmod_nonneg_of_pos
def uM:=@Nat.le_succ
def uN:=@PySem.Calls.callWith_builtin
def uO:=@Int.natAbs_add_le
def uP:=@Array.toList_push
def uQ:=@PySem.wpAny_loadPart_at
def uR:=@PySem.wpAny_truthy_bool
def uS:=@List.foldl_append
def uT:=@List.length_range
def uU:=@PySem.F.type_dict_get
def uV:=@PySem.codeAny_mono
def uW:=@PySem.wpAny_typeOf
def uX:=@List.nodup_nil
def uY:=@List.Pairwise.sublist
def uZ:=@List.cons_lt_cons_iff
def tD:=@PyProof.Rows.wpS_get
def tE:=@PySem.codeAny_call_builtin
def tF:=@PySem.IntMulOk.of_left
def tG:=@PySem.Around.under_plainId
def tH:=@Nat.mul_lt_mul''
def tI:=@List.getElem?_set_ne
def tJ:=@List.length_drop
def tK:=@Array.toList_reverse
def tL:=@PySem.wpAny_call
def tM:=@List.eraseIdx_of_length_le
def tN:=@List.getD_eq_getElem?_getD
def tO:=@List.filterMap_cons
def tP:=@Option.some_ne_none
def tQ:=@Nat.min_eq_left
def tR:=@List.mem_or_eq_of_mem_set
def tS:=@Nat.two_pow_pos
def tU:=@PySem.wpAny_execs_nil
def tV:=@List.nodup_cons
def tW:=@PySem.codeAny_builtin
def tX:=@Nat.le_of_eq
def tY:=@List.mem_of_mem_eraseIdx
def tZ:=@Nat.mul_comm
def sD:=@Int.fmod_lt_of_pos
def sE:=@PySem.Obj.data_mapFields
def sF:=@Int.zero_add
def sG:=@Nat.add_zero
def sH:=@Int.mul_le_mul
def sI:=@PySem.wpAny_setField
def sJ:=@PySem.wpAny_pyIter_list
def sK:=@List.flatten_cons
def sL:=@List.drop_sublist
def sQ:=@PyProof.Rows.subscriptTail_builtinR
def sT:=@List.drop_eq_nil_of_le
def sU:=@Nat.add_assoc
def sV:=@PySem.W.any_some
def sW:=@List.contains_iff_mem
def sZ:=@PySem.W.methodCall_KW
def rA:=@List.getElem?_reverse
def rB:=@List.Perm.append_left
def rC:=@List.length_replicate
def rD:=@List.map_nil
def rE:=@PySem.F.slot_zip_next
def rF:=@Bool.eq_iff_iff
def rG:=@PySem.call_meets
def rH:=@List.getElem?_zipIdx
def rJ:=@Nat.ne_of_gt
def rK:=@List.length_eraseIdx
def rL:=@PySem.wpAny_updateSeq_pair
def rM:=@PySem.W.hideAll_none
def rN:=@List.of_mem_zip
def rO:=@PySem.W.looks_mroIn
def rP:=@PySem.W.hideAll_get
def rQ:=@PySem.W.plainGet_of
def rR:=@PySem.W.looks_clsIn
def rS:=@PyProof.Rows.wpS_lift
def rT:=@Int.mul_one
def rV:=@List.zip_cons_cons
def rW:=@PySem.Code.quiet_builtin
def rX:=@PySem.W.of_hideAll
def rY:=@List.getElem_range
def rZ:=@PySem.wpAny_tupleItemsOf
def qB:=@PySem.W.isNs_of_in
def qC:=@Array.size_extract
def qD:=@PyProof.Rows.assignInOrder_cons
def qE:=@List.any_cons
def qF:=@Nat.mul_assoc
def qG:=@List.take_add
def qH:=@PySem.plainId_quiet
def qI:=@PySem.wpAny_onRaise
def qJ:=@Nat.le_of_succ_le
def qK:=@PySem.wpAny_dictEntries
def qL:=@List.reverse_perm
def qM:=@Nat.lt_succ_of_lt
def qN:=@List.nodup_append
def qO:=@PySem.W.kitx_list
def qP:=@Nat.succ_le_succ
def qQ:=@Nat.succ.inj
def qR:=@PySem.wpAny_pyHash_int
def qT:=@PySem.W.Looks.ld
def qU:=@Nat.pow_succ
def qV:=@List.take_length
def qW:=@Int.dvd_refl
def qX:=@Nat.le_add_right
def qZ:=@Nat.succ_mul
def pC:=@PySem.Heap.Ns.of_isNs
def pE:=@PySem.pushCells_keeps
def pF:=@PySem.wpAny_dictEpoch
def pG:=@PySem.seqIndex_of
def pH:=@PySem.wpAny_letGo
def pI:=@Int.one_mul
def pJ:=@List.take_zero
def pK:=@PySem.wpAny_loadPart
def pL:=@List.drop_drop
def pM:=@PySem.isSubtype_stop
def pN:=@PySem.wpAny_newTuple
def pO:=@List.mem_singleton
def pQ:=@PySem.seqIndex_neg
def pR:=@Nat.min_self
def pS:=@Int.mul_zero
def pU:=@Nat.log2_lt
def pV:=@Nat.one_mul
def pW:=@beq_iff_eq
def pY:=@beq_eq_false_iff_ne
def pZ:=@Bool.eq_false_iff
def oA:=@List.pairwise_append
def oB:=@List.mem_range
def oC:=@List.not_lt
def oE:=@List.mem_map
def oF:=@List.mem_append
def oG:=@List.mem_filterMap
def oH:=@List.getElem?_eq_some_iff
namespace L2
open PySem PySem.Spec PyProof.Rows
open PySem.W (Frag)
abbrev Key:=Sum Int Str
noncomputable def Eg:Key->Value->Bool
 |.inl k,v=>Value.isInt k v
 |.inr x,v=>Value.isStrOf x v
noncomputable def keyH(w:World):Key->Int
 |.inl k=>hashInt k
 |.inr x=>hashStr w x
theorem iB:∀{k:Key}{v:Value},Eg k v=true->(∃i t,k=Sum.inl i/\v=Value.int i t)\/(∃x t,k=Sum.inr x/\v=Value.str x t)
 |.inl i,v,h=>by
  obtain⟨t,e⟩:=Value.isInt_shape (k:=i) (v:=v) h;exact .inl ⟨i,t,rfl,e⟩
 |.inr x,v,h=>by
  obtain⟨t,e⟩:=Value.isStrOf_shape (x:=x) (v:=v) h;exact .inr ⟨x,t,rfl,e⟩
theorem Mo(a b:Int):decide ((Sum.inl a:Key)=Sum.inl b)=(a == b):=by
 by_cases e:a=b
 ·subst e;simp
 ·have h:¬ (Sum.inl a:Key)=Sum.inl b:=λq=>e (Sum.inl.inj q);rw[zN h];exact(pY.mpr e).symm
theorem Mn(a b:Str):decide ((Sum.inr a:Key)=Sum.inr b)=decide (a=b):=by
 by_cases e:a=b
 ·subst e;simp
 ·have h:¬ (Sum.inr a:Key)=Sum.inr b:=λq=>e (Sum.inr.inj q);rw[zN h,zN e]
theorem Mm(a:Int)(b:Str):decide ((Sum.inl a:Key)=Sum.inr b)=false:=zN (λq=>nomatch q)
theorem Ml(a:Str)(b:Int):decide ((Sum.inr a:Key)=Sum.inl b)=false:=zN (λq=>nomatch q)
noncomputable def Ef(prog:Program)(w:World):PySem.KeyKind prog w Key where
 is:=Eg
 hash:=keyH w
 inj:=λv a b ha hb=>by
  rcases iB ha with⟨i,t,rfl,rfl⟩|⟨x,t,rfl,rfl⟩
  ·rcases iB hb with⟨j,u,rfl,e⟩|⟨y,u,rfl,e⟩
   ·injection e with e1 _;rw[e1]
   ·exact nomatch e
  ·rcases iB hb with⟨j,u,rfl,e⟩|⟨y,u,rfl,e⟩
   ·exact nomatch e
   ·injection e with e1 _;rw[e1]
 byValue:=λk v h=>by
  rcases iB h with⟨i,t,rfl,rfl⟩|⟨x,t,rfl,rfl⟩ <;> rfl
 pyHash:=λhv h=>by
  rcases iB hv with⟨i,t,rfl,rfl⟩|⟨x,t,rfl,rfl⟩
  ·exact qR h
  ·exact wpAny_pyHash_str h
 eqBool:=λhu hv h=>by
  rcases iB hu with⟨i,t,rfl,rfl⟩|⟨x,t,rfl,rfl⟩
  ·rcases iB hv with⟨j,u,rfl,rfl⟩|⟨y,u,rfl,rfl⟩
   ·rw[Mo]at h;exact wpAny_eqBool_int h
   ·rw[Mm]at h;exact SeqAt.EqAt.int_str i t y u _ _ _ _ h
  ·rcases iB hv with⟨j,u,rfl,rfl⟩|⟨y,u,rfl,rfl⟩
   ·rw[Ml]at h;exact SeqAt.EqAt.str_int x t j u _ _ _ _ h
   ·rw[Mn]at h;exact wpAny_eqBool_str h
 «strs»:=λk x t v h=>by
  rcases iB h with⟨i,u,rfl,e⟩|⟨y,u,rfl,e⟩
  ·exact nomatch e
  ·injection e with e1 _;subst e1;cases v <;> rfl
inductive V where
 |non|bl(b:Bool)|int(i:Int)|str(x:Str)|byt(b:Array UInt8)|flt(b:UInt64)|ref(a:Addr)|ty(n:String)
 deriving DecidableEq
def RelV:V->Value->Prop
 |.non,u=>u=Value.none
 |.bl b,u=>u=Value.bool b
 |.int i,u=>∃t,u=Value.int i t
 |.str x,u=>∃t,u=Value.str x t
 |.byt b,u=>∃t,u=Value.bytes b t
 |.flt b,u=>∃t,u=Value.float b t
 |.ref a,u=>u=Value.ref a
 |.ty n,u=>u=Value.type n
abbrev Vals:List V->LW->Prop:=Paired RelV
theorem Vals.length{xs:List V}{us:LW}(r:Vals xs us):xs.length=us.length:=Paired.length r
theorem Vals.get:∀{xs:List V}{us:LW}{i:Nat}{x:V},Vals xs us->xs[i]?=some x->∃u,us[i]?=some u/\RelV x u
 |_,_,_,_,.nil,e=>by simp at e
 |_,_,0,_,.cons r _,e=>by simp at e;subst e;exact⟨_,rfl,r⟩
 |_,_,i+1,x,.cons _ b,e=>by
  obtain⟨u,a,c⟩:=Vals.get (i:=i) (x:=x) b (by simpa using e);exact⟨u,by simpa using a,c⟩
theorem Vals.set{x:V}{u:Value}(r:RelV x u):∀{xs:List V}{us:LW}(i:Nat),Vals xs us->Vals (xs.set i x) (us.set i u)
 |_,_,_,.nil=>.nil
 |_,_,0,.cons _ t=>.cons r t
 |_,_,i+1,.cons q t=>.cons q (Vals.set r i t)
theorem Vals.append:∀{xs ys:List V}{us a:LW},Vals xs us->Vals ys a->Vals (xs++ys) (us++a)
 |_,_,_,_,.nil,s=>s
 |_,_,_,_,.cons r b,s=>.cons r (Vals.append b s)
theorem Vals.take:∀{xs:List V}{us:LW}(n:Nat),Vals xs us->Vals (xs.take n) (us.take n)
 |_,_,0,_=>.nil
 |_,_,_+1,.nil=>.nil
 |_,_,n+1,.cons r t=>.cons r (Vals.take n t)
theorem Vals.drop:∀{xs:List V}{us:LW}(n:Nat),Vals xs us->Vals (xs.drop n) (us.drop n)
 |_,_,0,r=>r
 |_,_,_+1,.nil=>.nil
 |_,_,n+1,.cons _ t=>Vals.drop n t
theorem Vals.none_of:∀{xs:List V}{us:LW}{i:Nat},Vals xs us->xs[i]?=none->us[i]?=none:=λ{xs us i}r e=>by
 have b:=r.length;have a:xs.length<=i:=List.getElem?_eq_none_iff.mp e;exact List.getElem?_eq_none_iff.mpr ⋯
def RelO:Option V->Option Value->Prop
 |some v,some u=>RelV v u
 |none,none=>True
 |_,_=>False
def KV{κ:Type}:List (κ×V)->List (κ×Value)->Prop:=Paired λ(p:κ×V)(q:κ×Value)=>p.1=q.1/\RelV p.2 q.2
noncomputable def kV:Key->V
 |.inl i=>.int i
 |.inr x=>.str x
inductive HO where
  |lst(xs:List V)
  |tup(xs:List V)
  |dK(kvs:List (Key×V))|dT(kvs:List (List Key×V))
  |set(S:Int->Bool)(n:Nat)
  |ins(C dx:Addr)(fs:List (Str×V))
  |own(x:Addr)
  |xd(fs:List (Str×V))
  |met(f x:Addr)
  |rng(lo hi:Int)
  |frz(o:Obj)(u:HO)
  |tbl(ps:Array Value)
  |ext(φ:Heap->Prop)
abbrev Hp:=Addr->Option HO
noncomputable def upd(H:Hp)(a:Addr)(o:HO):Hp:=λb=>if b=a then some o else H b
theorem oP{H:Hp}{a:Addr}{o:HO}:upd H a o a=some o:=by unfold upd;rw[zF rfl]
theorem oT{H:Hp}{a b:Addr}{o:HO}(h:b≠a):upd H a o b=H b:=by unfold upd;rw[zD h]
theorem nY{H:Hp}{a b:Addr}{o:HO}(h:H a=some o)(h':H b=none):a≠b:=by
 intro e;subst e;rw[h]at h';cases h'
section
variable (P:Program) (w:World)
def nO(H:Hp)(h:Heap)(a:Addr):HO->Prop
 |.lst xs=>xs.length<=sizeLine/\∃(its:LW)(n:Nat),Vals xs its/\h.get? a=some {cls:=.type "list",data:=.seq its.toArray n}
 |.tup xs=>xs.length<=sizeLine/\∃its:LW,Vals xs its/\IsTup h a its.toArray
 |.dK kvs=>kvs.length<=sizeLine/\(a == sysModules)=false/\∃vs,KV kvs vs/\h.DictOf (Ef P w) a vs
 | .dT kvs=>kvs.length<=sizeLine/\(a == sysModules)=false/\∃xs:List (List Key×Addr×Value),
   Paired (λ(p:List Key×V)(q:List Key×Addr×Value)=>p.1=q.1/\H q.2.1=some (.tup (p.1.map kV))/\RelV p.2 q.2.2) kvs xs /\
   ∃o es ep,h.get? a=some o/\o.ExactDict/\o.data=.dict es ep/\es.toList=xs.map (entryOfKey (tupleKind (Ef P w)))/\(xs.map (·.1)).Nodup
 |.set S n=>h.SetOf (intKind P w) a S n
 | .ins C dx fs=>H dx=some (.own a)/\fs.length<=1000/\dx≠a/\h.get? a=some (PySem.W.instObj C dx) /\
   ∃mA,h.Ns1 dx mA/\(∀f,RelO (fs.lookup f) (mA f))/\PySem.Within mA (fs.map (·.1))
 |.own _=>∃o,h.get? a=some o
 |.xd fs=>∃mA,h.Ns1 a mA/\∀f,RelO (fs.lookup f) (mA f)
 |.rng lo hi=>∃t u v,h.get? a=some {cls:=.type "range",data:=.fields #[.int lo t,.int hi u,.int 1 v]}
 |.frz o u=>h.get? a=some o/\nO H h a u
 |.tbl ps=>h.get? a=some {cls:=.none,data:=.fields ps}
 |.met f x=>h.get? a=some (PySem.W.methodObj (.ref f) (.ref x))
 |.ext φ=>φ h/\(∃o,h.get? a=some o)/\∀h1 h2:Heap,φ h1->(∀o,h1.get? a=some o->h2.get? a=some o)->φ h2
def HOk(H:Hp)(h:Heap):Prop:=∀a o,H a=some o->nO P w H h a o
end
section
variable {P:Program} {w:World} {H H':Hp} {h h':Heap} {a:Addr} {o:HO}
theorem nO.lt(x:nO P w H h a o):a<h.objs.size:=by
 cases o with
 |lst xs=>obtain⟨_,_,_,_,e⟩:=x;exact zL e
 |tup xs=>obtain⟨_,_,_,p⟩:=x;exact p.lt
 |dK kvs=>obtain⟨_,_,_,_,o,_,_,e,_⟩:=x;exact zL e
 |dT kvs=>obtain⟨_,_,_,_,o,_,_,e,_⟩:=x;exact zL e
 |set S n=>obtain⟨o,_,_,_,e,_⟩:=x;exact zL e
 |ins C c fs=>obtain⟨_,_,_,e,_⟩:=x;exact zL e
 |own y=>obtain⟨_,e⟩:=x;exact zL e
 |xd fs=>obtain⟨_,⟨_,_,_,e,_⟩,_⟩:=x;exact zL e
 |rng lo hi=>obtain⟨_,_,_,e⟩:=x;exact zL e
 |frz b u=>obtain⟨e,_⟩:=x;exact zL e
 |tbl ps=>exact zL (show h.get? a=some _ from x)
 |met f y=>exact zL (show h.get? a=some _ from x)
 |ext d=>obtain⟨_,⟨_,e⟩,_⟩:=x;exact zL e
theorem Paired.mapP{d e:Type}{F c:d->e->Prop}:∀{g:List d}{i:List e},Paired F g i->(∀a b,F a b->c a b)->Paired c g i
 |_,_,.nil,_=>.nil
 |_,_,.cons r j,f=>.cons (f _ _ r) (Paired.mapP j f)
theorem nO.stay(x:nO P w H h a o)(k:∀b u,(b=a\/H b=some (.own a))->h.get? b=some u->h'.get? b=some u)
  (G:∀b,H b=some (.own a)->H' b=some (.own a))(F:∀b xs,H b=some (.tup xs)->H' b=some (.tup xs)):nO P w H' h' a o:=by
 induction o with
 |lst xs=>obtain⟨z,its,n,r,e⟩:=x;exact⟨z,its,n,r,k _ _ (.inl rfl) e⟩
 |tup xs=>obtain⟨z,its,r,g,e,c⟩:=x;exact⟨z,its,r,g,k _ _ (.inl rfl) e,c⟩
 |dK kvs=>obtain⟨z,y,vs,r,g,es,ep,e,c⟩:=x;exact⟨z,y,vs,r,g,es,ep,k _ _ (.inl rfl) e,c⟩
 |dT kvs =>
  obtain⟨z,y,xs,r,g,es,ep,e,c⟩:=x;exact⟨z,y,xs,Paired.mapP r λp q z=>⟨z.1,F _ _ z.2.1,z.2.2⟩,g,es,ep,k _ _ (.inl rfl) e,c⟩
 |set S n=>obtain⟨g,es,ep,l,e,c⟩:=x;exact⟨g,es,ep,l,k _ _ (.inl rfl) e,c⟩
 |ins C I fs =>
  obtain⟨d,z,D,e,i,⟨j,es,ep,m,c⟩,r⟩:=x;exact⟨G _ d,z,D,k _ _ (.inl rfl) e,i,⟨j,es,ep,k _ _ (.inr d) m,c⟩,r⟩
 |own y=>obtain⟨g,e⟩:=x;exact⟨g,k _ _ (.inl rfl) e⟩
 |xd fs=>obtain⟨i,⟨j,es,ep,e,c⟩,r⟩:=x;exact⟨i,⟨j,es,ep,k _ _ (.inl rfl) e,c⟩,r⟩
 |rng lo hi=>obtain⟨l,u,v,e⟩:=x;exact⟨l,u,v,k _ _ (.inl rfl) e⟩
 |frz g u t=>obtain⟨e,q⟩:=x;exact⟨k _ _ (.inl rfl) e,t q⟩
 |tbl ps =>
  have e:h.get? a=some {cls:=.none,data:=.fields ps}:=x;show h'.get? a=some {cls:=.none,data:=.fields ps};exact k a _ (.inl rfl) e
 |met f y =>
  have e:h.get? a=some (PySem.W.methodObj (.ref f) (.ref y)):=x;show h'.get? a=some (PySem.W.methodObj (.ref f) (.ref y));exact k a _ (.inl rfl) e
 |ext J=>obtain⟨p,⟨o,e⟩,st⟩:=x;exact⟨st _ _ p λo q=>k _ _ (.inl rfl) q,⟨o,k _ _ (.inl rfl) e⟩,st⟩
theorem HOk.lt(x:HOk P w H h)(e:H a=some o):a<h.objs.size:=(x a o e).lt
theorem HOk.fresh(x:HOk P w H h)(e:h.objs.size<=a):H a=none:=by
 cases q:H a with
 |none=>rfl
 |some u=>exact absurd (zJ (x.lt q) e) (xC _)
theorem HOk.kept(x:HOk P w H h)(k:∀b u,h.get? b=some u->h'.get? b=some u):HOk P w H h':=λa o e =>
 (x a o e).stay (λb u _ q=>k b u q) (λ_ q=>q) λ_ _ q=>q
theorem HOk.laid(x:HOk P w H h)(k:∀b u,h.get? b=some u->h'.get? b=some u)(g:h.objs.size<=a)(new:nO P w (upd H a o) h' a o):HOk P w (upd H a o) h':=λb u e=>by
 have d:=x.fresh g
 by_cases f:b=a
 ·subst f;rw[oP]at e;cases e;exact new
 ·rw[oT f]at e;exact(x b u e).stay (λc v _ q=>k c v q) (λc q=>by rw[oT (nY q d)];exact q) λc xs q=>by rw[oT (nY q d)];exact q
end
def Rd(H:Hp)(a:Addr)(u:HO):Prop:=H a=some u\/∃o,H a=some (.frz o u)
theorem Rd.ok{P:Program}{w:World}{H:Hp}{h:Heap}{a:Addr}{u:HO}(r:Rd H a u)(x:HOk P w H h):nO P w H h a u:=by
 rcases r with r|⟨o,r⟩
 ·exact x a u r
 ·obtain⟨_,q⟩:=x a _ r;exact q
def Mut:Option HO->Prop
 |some (.lst _)=>True
 |some (.dK _)=>True
 |some (.dT _)=>True
 |some (.set _ _)=>True
 |some (.ins _ _ _)=>True
 |some (.ext _)=>True
 |_=>False
section
variable {P:Program} {w:World} {H:Hp} {h h':Heap} {x e:Addr} {o':HO}
theorem HOk.write(ok:HOk P w H h)(a:Mut (H x))(l:e=x\/H e=some (.own x))(k:∀b u,b≠e->h.get? b=some u->h'.get? b=some u)(n:∃u,h'.get? e=some u)
  (new:nO P w (upd H x o') h' x o'):HOk P w (upd H x o') h':=λb u q=>by
 have j:∀c y,H c=some (.own y)->c≠x:=λc y r z=>by subst z;rw[r]at a;exact a
 have m:∀c xs,H c=some (.tup xs)->c≠x:=λc xs r z=>by subst z;rw[r]at a;exact a
 by_cases f:b=x
 ·subst f;rw[oP]at q;cases q;exact new
 ·rw[oT f]at q
  by_cases g:b=e
  ·have i:H b=some (.own x):=by
    rcases l with z|z
    ·exact absurd (g.trans z) f
    ·rw[g];exact z
   rw[q]at i;cases i;obtain⟨v,o⟩:=n;exact⟨v,by rw[g];exact o⟩
  ·refine(ok b u q).stay (λc v d r=>k c v ?_ r) (λc r=>by rw[oT (j c b r)];exact r) λc xs r=>by rw[oT (m c xs r)];exact r
   rcases d with rfl|d
   ·exact g
   ·rintro rfl;rcases l with z|z
    ·exact j c b d z
    ·rw[d]at z;cases z;exact f rfl
end
structure Un(fs ex:LA)(H H':Hp)(h h':Heap):Prop where
 keep:∀b o,h.get? b=some o->H b=none->b∉fs->b∉ex->h'.get? b=some o
 slot:∀b o,h.get? b=some o->H b=none->b∈fs->b∉ex->∃sl,h'.get? b=some {o with slots:=sl}
 free:∀b o,h.get? b=some o->H b=none->b∉ex->H' b=none
 there:∀b o,h.get? b=some o->b∉ex->∃o',h'.get? b=some o'
 tups:∀b xs,H b=some (.tup xs)->H' b=some (.tup xs)
 frzs:∀b o u,H b=some (.frz o u)->H' b=some (.frz o u)
 tbls:∀b ps,H b=some (.tbl ps)->∃more,H' b=some (.tbl (ps++more))
section
variable {fs fs' ex ex':LA} {H H1 H2:Hp} {h h1 h2 h':Heap} {a x e:Addr} {o:HO}
theorem Un.any(u:Un fs ex H H1 h h1){b:Addr}{c:Obj}(q:h.get? b=some c)(n:H b=none)(d:b∉ex):∃g,h1.get? b=some {c with slots:=g}:=by
 by_cases f:b∈fs
 ·exact u.slot b c q n f d
 ·exact⟨c.slots,u.keep b c q n f d⟩
theorem Un.trans(a:Un fs ex H H1 h h1)(b:Un fs ex H1 H2 h1 h2):Un fs ex H H2 h h2 where
 keep:=λc f q n g d=>b.keep c f (a.keep c f q n g d) (a.free c f q n d) g d
 slot:=λc f q n g d=>by
  obtain⟨p,e1⟩:=a.slot c f q n g d;obtain⟨l,i⟩:=b.slot c _ e1 (a.free c f q n d) g d;exact⟨l,i⟩
 free:=λc f q n d=>by
  obtain⟨j,e1⟩:=a.there c f q d;exact b.free c j e1 (a.free c f q n d) d
 there:=λc f q d=>by
  obtain⟨j,e1⟩:=a.there c f q d;exact b.there c j e1 d
 tups:=λc xs q=>b.tups c xs (a.tups c xs q)
 frzs:=λc f xs q=>b.frzs c f xs (a.frzs c f xs q)
 tbls:=λc ps q=>by
  obtain⟨m,e1⟩:=a.tbls c ps q;obtain⟨k,i⟩:=b.tbls c _ e1;exact⟨m++k,by rw[i,Array.append_assoc]⟩
theorem Un.kept(k:∀b u,h.get? b=some u->h'.get? b=some u):Un fs ex H H h h':=
 ⟨λb c q _ _ _=>k b c q,λb c q _ _ _=>⟨c.slots,k b c q⟩,λ_ _ _ n _=>n,λb c q _=>⟨c,k b c q⟩,λ_ _ q=>q,λ_ _ _ q=>q,λ_ ps q=>⟨#[],by rw[q];simp⟩⟩
theorem Un.refl:Un fs ex H H h h:=Un.kept λ_ _ q=>q
theorem Un.laid(k:∀b u,h.get? b=some u->h'.get? b=some u)(d:h.objs.size<=a)(c:H a=none):Un fs ex H (upd H a o) h h' where
 keep:=λb u q _ _ _=>k b u q
 slot:=λb u q _ _ _=>⟨u.slots,k b u q⟩
 free:=λb u q n _=>by rw[oT (zY (zJ (zL q) d))];exact n
 there:=λb u q _=>⟨u,k b u q⟩
 tups:=λb xs q=>by rw[oT (nY q c)];exact q
 frzs:=λb u xs q=>by rw[oT (nY q c)];exact q
 tbls:=λb ps q=>⟨#[],by rw[oT (nY q c),q];simp⟩
theorem Un.write(c:Mut (H x))(j:e=x\/H e=some (.own x))(k:∀b u,b≠e->h.get? b=some u->h'.get? b=some u)(l:∃u,h'.get? e=some u):Un fs ex H (upd H x o) h h':=by
 have f:∀b,H b=none->b≠x:=λb n z=>by subst z;rw[n]at c;exact c
 have g:∀b,H b=none->b≠e:=λb n z=>by
  subst z;rcases j with r|r
  ·exact f b n r
  ·rw[n]at r;cases r
 have d:∀b u,H b=some u->¬ Mut (some u)->b≠x:=λb u q nm z=>by subst z;rw[q]at c;exact nm c
 refine⟨λb u q n _ _=>k b u (g b n) q,λb u q n _ _=>⟨u.slots,k b u (g b n) q⟩,λb u q n _=>by rw[oT (f b n)];exact n,λb u q _=>?_,
  λb xs q=>by rw[oT (d b _ q λz=>z)];exact q,λb u xs q=>by rw[oT (d b _ q λz=>z)];exact q,λb ps q=>⟨#[],by rw[oT (d b _ q λz=>z),q];simp⟩⟩
 by_cases i:b=e
 ·subst i;exact l
 ·exact⟨u,k b u i q⟩
end
noncomputable def trk(h:Heap)(H:Hp):LA:=(List.range h.objs.size).filter λa=>(H a).isSome
noncomputable def hidT(h:Heap)(H:Hp):Heap:=PySem.W.hideAll h (trk h H)
theorem Mj(h:Heap)(H:Hp):(hidT h H).objs.size=h.objs.size:=PySem.W.hideAll_size _ _
theorem Mi{h:Heap}{H:Hp}{b:Addr}{o:Obj}(e:h.get? b=some o)(n:H b=none):(hidT h H).get? b=some o:=
 rP _ e λa=>by
  have q:(H b).isSome=true:=(List.mem_filter.mp a).2;rw[n]at q;simp at q
theorem Mh{h:Heap}{H:Hp}{b:Addr}{o:Obj}(e:(hidT h H).get? b=some o):h.get? b=some o/\H b=none:=by
 have a:h.get? b=some o:=rX (trk h H) e;refine⟨a,?_⟩;cases q:H b with
 |none=>rfl
 |some x =>
  have c:b∈trk h H:=List.mem_filter.mpr ⟨oB.mpr (zL a),by simp[q]⟩;have z:(hidT h H).get? b=none:=rM (trk h H) c;rw[z]at e;cases e
noncomputable def Mg(g h:Heap)(L:Addr):PN:=(List.range h.objs.size).filterMap λa=>if a=L\/(g.get? a).isSome=true then none else(h.get? a).map λo=>(a,o)
noncomputable def rest(g h:Heap)(L d:Addr):PN:=(Mg g h L).filter λp=>decide (p.1≠d)
structure Mod(K:Frag)(mg:MT)(base:Heap):Prop where
 kin:K.In base
 glob:base.Ns mainGlobals mg
 blt:∃mb,base.Ns builtinsNs mb/\∀x:Str,x≠"__name__" -> mb x=bootBuiltins x
 nolimit:base.NoLimit
structure Cx where
 prog:Program
 w:World
 K:Frag
 mg:MT
 base:Heap
 A:Around
 N:List Str
 s₀:Shared
 H₀:Hp
 env:Env
 outer:List Env
 stack:List Env
 ex:LA
 fn:Str->Bool
 calm:Bool
 pn:PN
 xe:VP
noncomputable def frs(l:List Env):LA:=l.filterMap (·.frame)
noncomputable abbrev Cx.fs(X:Cx):LA:=frs X.outer
def Vis(sc:Scope)(x:Str):Prop:=sc.names.lookup x=some .local\/sc.names.lookup x=some .cell\/sc.names.lookup x=some .free
def Loc(sc:Scope)(x:Str):Prop:=sc.names.lookup x=some .local\/sc.names.lookup x=some .cell
def Look(env:Env)(h:Heap)(m:MT)(x:Str)(u:Value):Prop:=
 (env.kindOf x=some .local/\m x=some u)\/((env.kindOf x=some .cell\/env.kindOf x=some .free)/\∃c,env.cells.lookup x=some c/\h.IsCell c (some u))
structure Cx.Ok(X:Cx):Prop where
 mod:Mod X.K X.mg X.base
 kind:X.env.scope.kind=.function
 glob:X.env.globals=mainGlobals
 blt:X.env.builtins=builtinsNs
 above:X.s₀.heap.objs.size<=X.env.locals
 inj:∀x y c,X.env.cells.lookup x=some c->X.env.cells.lookup y=some c->x=y
 has:∀x,(X.env.kindOf x=some .cell\/X.env.kindOf x=some .free)->∃c,X.env.cells.lookup x=some c
 cab:∀x c,X.fn x=true->X.env.cells.lookup x=some c->X.s₀.heap.objs.size<=c
 hd:X.calm=true->X.A.handled=none
 frames:X.A.frames=some X.stack
 stk:X.stack=X.outer\/(X.stack=X.env:: X.outer/\X.env.frame=some X.env.locals)
 exf:∀b∈X.ex,b≠X.env.locals/\∀x c,X.env.cells.lookup x=some c->c≠b
 bs:∀b o,X.base.get? b=some o->X.s₀.heap.get? b=some o/\X.H₀ b=none
 bsz:X.base.objs.size<=X.s₀.heap.objs.size
 noex:∀b o,X.base.get? b=some o->b∉X.ex
 exfs:∀b∈X.ex,b∉X.fs
 funs:X.s₀.heap.FunFrames X.base X.outer
 frf:∀b∈X.fs,X.H₀ b=none
structure Inv(X:Cx)(pins:PN)(σ:List (Option V))(H:Hp)(s:Shared):Prop where
 ok:X.Ok
 os:s.os=X.s₀.os
 bare:AllBare s.gens
 base:Un X.fs X.ex X.H₀ H X.s₀.heap s.heap
 loc:∃m,s.heap.Ns X.env.locals m/\∀(i:Nat)(x:Str)(v:V),X.N[i]?=some x->σ[i]?=some (some v)->Vis X.env.scope x->∃u,RelV v u/\Look X.env s.heap m x u
 cell:∀x c,X.env.cells.lookup x=some c->∃v,s.heap.IsCell c v
 free:H X.env.locals=none
 freeC:∀x c,X.env.cells.lookup x=some c->H c=none
 pin:∀p∈X.pn++pins,s.heap.get? p.1=some p.2/\H p.1=none/\p.1≠X.env.locals/\p.1∉X.fs/\∀v,p.2.data≠.cell v
 hok:HOk X.prog X.w H s.heap
 len:σ.length=X.N.length
section
variable {X:Cx} {pins:PN} {σ:List (Option V)} {H H':Hp} {s:Shared} {h':Heap}
theorem Cx.Ok.nofr(ok:X.Ok){b:Addr}{o:Obj}(e:X.base.get? b=some o):b∉X.fs:=λa=>by
 have:=(ok.funs.mem a).1;rw[e]at this;cases this
theorem Inv.bs(I:Inv X pins σ H s):∀b o,X.base.get? b=some o->s.heap.get? b=some o/\H b=none:=λb o e =>
 ⟨I.base.keep b o (I.ok.bs b o e).1 (I.ok.bs b o e).2 (I.ok.nofr e) (I.ok.noex b o e),I.base.free b o (I.ok.bs b o e).1 (I.ok.bs b o e).2 (I.ok.noex b o e)⟩
theorem Inv.bk(I:Inv X pins σ H s):∀b o,X.base.get? b=some o->s.heap.get? b=some o:=λb o e=>(I.bs b o e).1
theorem Inv.mod(I:Inv X pins σ H s):Mod X.K X.mg X.base:=I.ok.mod
theorem Inv.kIn(I:Inv X pins σ H s):X.K.In s.heap:=I.ok.mod.kin.keeps I.bk
theorem Inv.lt(I:Inv X pins σ H s):X.env.locals<s.heap.objs.size:=let ⟨_,a,_⟩:=I.loc;a.lt
theorem Inv.sz(I:Inv X pins σ H s):X.s₀.heap.objs.size<=s.heap.objs.size:=yG I.ok.above (uF I.lt)
theorem Inv.nofs(I:Inv X pins σ H s){a:Addr}(h:s.heap.objs.size<=a):a∉X.fs:=λc=>by
 obtain⟨_,o,b,_⟩:=I.ok.funs.mem c;exact absurd (zJ (zL b) (yG I.sz h)) (xC _)
theorem Inv.cne(I:Inv X pins σ H s):∀x c,X.env.cells.lookup x=some c->c≠X.env.locals:=λx c e z=>by
 obtain⟨v,o,b,a⟩:=I.cell x c e;obtain⟨m,⟨g,es,ep,d,f,_⟩,_⟩:=I.loc;rw[z,d]at b;cases b;rw[f]at a;cases a
theorem Inv.funs(I:Inv X pins σ H s):s.heap.FunFrames X.base X.outer:=by
 have all:∀(l:List Env),(∀b∈frs l,b∈X.fs)->X.s₀.heap.FunFrames X.base l->s.heap.FunFrames X.base l:=by
  intro l
  induction l with
  |nil=>intro _ _;trivial
  |cons env r j =>
   intro f hl;obtain⟨m,⟨L,o,d,g,k,i⟩,hr⟩:=hl;have a:L∈X.fs:=f L (by unfold frs;rw[tO,d];exact zZ);obtain⟨n,e⟩:=I.base.slot L o k (I.ok.frf L a) a λz=>I.ok.exfs L z a;exact⟨m,⟨L,_,d,g,e,i⟩,j (λb c=>f b (by unfold frs;rw[tO,d];exact zO _ c)) hr⟩
 exact all X.outer (λ_ c=>c) I.ok.funs
theorem Inv.stack(I:Inv X pins σ H s):s.heap.FunFrames X.base X.stack:=by
 rcases I.ok.stk with e|⟨e,a⟩
 ·rw[e];exact I.funs
 ·rw[e];obtain⟨m,b,_⟩:=I.loc;refine .cons (by rw[I.ok.kind];decide) a b ?_ I.funs;exact Heap.get?_none_of_le (yG I.ok.bsz I.ok.above)
theorem Inv.stkSub(I:Inv X pins σ H s):∀b∈frs X.stack,b∈X.env.locals:: X.fs:=λb a=>by
 rcases I.ok.stk with e|⟨e,c⟩
 ·rw[e]at a;exact zO _ a
 ·rw[e]at a;unfold frs at a;rw[tO,c]at a;exact a
theorem Inv.stkFree(I:Inv X pins σ H s):∀b∈frs X.stack,H b=none:=λb a=>by
 rcases xH.mp (I.stkSub b a) with e|a
 ·rw[e];exact I.free
 ·obtain⟨_,o,c,_⟩:=I.ok.funs.mem a;exact I.base.free b o c (I.ok.frf b a) λz=>I.ok.exfs b z a
theorem Inv.step{g':Array GenState}{t':Nat}{d':Drawn}{ch:LA}(I:Inv X pins σ H s)
  (t:∀b∈ch,(b∈X.ex\/X.s₀.heap.objs.size<=b)/\b≠X.env.locals/\(∀x c,X.env.cells.lookup x=some c->c≠b)/\∀p∈X.pn++pins,p.1≠b)
  (J:∀b o,b≠X.env.locals->b∉X.fs->b∉ch->s.heap.get? b=some o->H b=none->h'.get? b=some o)
  (K:∀b o,b≠X.env.locals->b∈X.fs->b∉ch->s.heap.get? b=some o->H b=none->∃F,h'.get? b=some {o with slots:=F})(C:∀b o,b∉ch->s.heap.get? b=some o->H b=none->H' b=none)
  (there:∀b o,b∉ch->s.heap.get? b=some o->∃j,h'.get? b=some j)
  (a0:∀b xs,H b=some (.tup xs)->H' b=some (.tup xs))(a3:∀b o u,H b=some (.frz o u)->H' b=some (.frz o u))(a2:∀b ps,H b=some (.tbl ps)->∃more,H' b=some (.tbl (ps++more)))
  (ns:∀m,s.heap.Ns X.env.locals m->h'.Ns X.env.locals m)(S:HOk X.prog X.w H' h')(a1:AllBare g'):
  Inv X pins σ H' {s with heap:=h',gens:=g',drawn:=d',toks:=t'}:=by
 have N:∀b o,X.s₀.heap.get? b=some o->b≠X.env.locals:=λb o e=>zY (zJ (zL e) I.ok.above);have D:∀b o,X.s₀.heap.get? b=some o->b∉X.ex->b∉ch:=λb o e a f=>by
  rcases(t b f).1 with z|z
  ·exact a z
  ·exact absurd (zJ (zL e) z) (xC _)
 have O:∀x c,X.env.cells.lookup x=some c->∀v,s.heap.IsCell c v->h'.IsCell c v:=λx c e v⟨o,g,G⟩=>by
  have w:c∉ch:=λz=>(t c z).2.2.1 x c e rfl
  by_cases L:c∈X.fs
  ·obtain⟨F,q⟩:=K c o (I.cne x c e) L w g (I.freeC x c e);exact⟨_,q,G⟩
  ·exact⟨o,J c o (I.cne x c e) L w g (I.freeC x c e),G⟩
 refine⟨I.ok,I.os,a1,⟨λb o e n f a=>?_,λb o e n f a=>?_,λb o e n a=>?_,λb o e a=>?_,λb xs e=>a0 b xs (I.base.tups b xs e),λb o xs e=>a3 b o xs (I.base.frzs b o xs e),λb ps e=>?_⟩,?_,λx c e=>?_,?_,λx c e=>?_,λp P=>?_,S,I.len⟩
 ·exact J b o (N b o e) f (D b o e a) (I.base.keep b o e n f a) (I.base.free b o e n a)
 ·obtain⟨F,e1⟩:=I.base.slot b o e n f a;obtain⟨W,y⟩:=K b _ (N b o e) f (D b o e a) e1 (I.base.free b o e n a);exact⟨W,y⟩
 ·obtain⟨j,e1⟩:=I.base.there b o e a;exact C b j (D b o e a) e1 (I.base.free b o e n a)
 ·obtain⟨j,e1⟩:=I.base.there b o e a;exact there b j (D b o e a) e1
 ·obtain⟨U,e1⟩:=I.base.tbls b ps e;obtain⟨Z,y⟩:=a2 b _ e1;exact⟨U++Z,by rw[y,Array.append_assoc]⟩
 ·obtain⟨m,Y,hl⟩:=I.loc;refine⟨m,ns m Y,λi x v e1 y T=>?_⟩;obtain⟨u,r,l⟩:=hl i x v e1 y T;refine⟨u,r,?_⟩;rcases l with l|⟨k,c,e,z⟩
  ·exact .inl l
  ·exact .inr ⟨k,c,e,O x c e _ z⟩
 ·obtain⟨v,z⟩:=I.cell x c e;exact⟨v,O x c e v z⟩
 ·obtain⟨m,⟨o,_,_,g,_⟩,_⟩:=I.loc;exact C _ o (λz=>(t _ z).2.1 rfl) g I.free
 ·obtain⟨v,o,g,G⟩:=I.cell x c e;exact C c o (λz=>(t c z).2.2.1 x c e rfl) g (I.freeC x c e)
 ·obtain⟨e,n,M,R,d⟩:=I.pin p P;have w:p.1∉ch:=λz=>(t p.1 z).2.2.2 p P rfl;exact⟨J p.1 p.2 M R w e n,C p.1 p.2 w e n,M,R,d⟩
theorem Inv.un{t':Nat}(I:Inv X pins σ H s)(u:Un X.fs [] H H' s.heap h')(j:HOk X.prog X.w H' h'):Inv X pins σ H' {s with heap:=h',toks:=t'}:=by
 obtain⟨m,⟨o,es,ep,d,r⟩,_⟩:=id I.loc;obtain⟨t,f⟩:=u.any d I.free (by simp);exact I.step (g':=s.gens) (d':=s.drawn) (ch:=[]) (λ_ z=>nomatch z) (λb o _ a _ e n=>u.keep b o e n a (by simp)) (λb o _ a _ e n=>u.slot b o e n a (by simp)) (λb o _ e n=>u.free b o e n (by simp)) (λb o _ e=>u.there b o e (by simp)) u.tups u.frzs u.tbls (λq i=>by
  obtain⟨p,l,k,c,g⟩:=i;rw[d]at c;cases c;exact⟨_,l,k,f,g⟩) j I.bare
theorem Inv.call{g':Array GenState}{t':Nat}{d':Drawn}{ch:LA}(I:Inv X pins σ H s)(u:Un (frs X.stack) ch H H' s.heap h')(q:HOk X.prog X.w H' h')(w:AllBare g')
  (g:∀b∈ch,(b∈X.ex\/X.s₀.heap.objs.size<=b)/\b≠X.env.locals/\(∀x c,X.env.cells.lookup x=some c->c≠b)/\∀p∈X.pn++pins,p.1≠b):
  Inv X pins σ H' {s with heap:=h',gens:=g',drawn:=d',toks:=t'}:=by
 obtain⟨m,⟨o,es,ep,i,r⟩,_⟩:=id I.loc;obtain⟨D,d⟩:=u.any i I.free λz=>(g _ z).2.1 rfl;exact I.step (ch:=ch) g (λb o d l a e n=>u.keep b o e n (λz=>(xH.mp (I.stkSub b z)).elim d l) a) (λb o _ _ a e n=>u.any e n a) (λb o a e n=>u.free b o e n a) (λb o a e=>u.there b o e a) u.tups u.frzs u.tbls (λC k=>by
  obtain⟨y,v,t,f,j⟩:=k;rw[i]at f;cases f;exact⟨_,v,t,d,j⟩) q w
theorem Inv.turned{t':Nat}{a:Addr}(I:Inv X pins σ H s)(k:∀b o,b≠a->s.heap.get? b=some o->h'.get? b=some o)(i:H a=none)(f:a≠X.env.locals)
  (y:a∈X.ex\/X.s₀.heap.objs.size<=a)(w:∀x c,X.env.cells.lookup x=some c->c≠a)(t:∀p∈X.pn++pins,p.1≠a):Inv X pins σ H {s with heap:=h',toks:=t'}:=by
 have g:∀b u,H b=some u->b≠a:=λb u e z=>by rw[z,i]at e;cases e
 refine I.step (g':=s.gens) (d':=s.drawn) (ch:=[a]) (λb l=>?_) (λb o _ _ d e _=>k b o (λz=>d (by simp[z])) e) (λb o _ _ d e _=>⟨o.slots,k b o (λz=>d (by simp[z])) e⟩) (λ_ _ _ _ n=>n)
  (λb o d e=>⟨o,k b o (λz=>d (by simp[z])) e⟩) (λ_ _ e=>e) (λ_ _ _ e=>e) (λb ps e=>⟨#[],by rw[e];simp⟩) (λm j=>?_) (λb u e=>?_) I.bare
 ·have e:b=a:=by simpa using l
  subst e;exact⟨y,f,w,t⟩
 ·obtain⟨o,es,ep,C,r⟩:=j;exact⟨o,es,ep,k _ o (yA f) C,r⟩
 ·refine(I.hok b u e).stay (λc v d q=>k c v ?_ q) (λ_ q=>q) λ_ _ q=>q;rcases d with z|z
  ·rw[z];exact g b u e
  ·exact g c _ z
theorem Inv.tok(I:Inv X pins σ H s)(t:Nat):Inv X pins σ H {s with toks:=t}:=I.un (h':=s.heap) (t':=t) Un.refl I.hok
theorem Inv.kept{t':Nat}(I:Inv X pins σ H s)(k:∀b u,s.heap.get? b=some u->h'.get? b=some u):Inv X pins σ H {s with heap:=h',toks:=t'}:=I.un (Un.kept k) (I.hok.kept k)
theorem Inv.laid{a:Addr}{o:HO}{t':Nat}(I:Inv X pins σ H s)(k:∀b u,s.heap.get? b=some u->h'.get? b=some u)(c:s.heap.objs.size<=a)(new:nO X.prog X.w (upd H a o) h' a o):
  Inv X pins σ (upd H a o) {s with heap:=h',toks:=t'}:=I.un (Un.laid k c (I.hok.fresh c)) (I.hok.laid k c new)
theorem Inv.write{x e:Addr}{o:HO}{t':Nat}(I:Inv X pins σ H s)(d:Mut (H x))(c:e=x\/H e=some (.own x))(k:∀b u,b≠e->s.heap.get? b=some u->h'.get? b=some u)(a:∃u,h'.get? e=some u)
  (new:nO X.prog X.w (upd H x o) h' x o):Inv X pins σ (upd H x o) {s with heap:=h',toks:=t'}:=I.un (Un.write d c k a) (I.hok.write d c k a new)
theorem Inv.pins_of{a:PN}(I:Inv X pins σ H s)(h:∀p∈a,s.heap.get? p.1=some p.2/\H p.1=none/\p.1≠X.env.locals/\p.1∉X.fs/\∀v,p.2.data≠.cell v):Inv X a σ H s:=
 ⟨I.ok,I.os,I.bare,I.base,I.loc,I.cell,I.free,I.freeC,λp b=>(oF.mp b).elim (λz=>I.pin p (xU _ z)) (h p),I.hok,I.len⟩
theorem Ee{N:List Str}(d:N.Nodup){i j:Nat}{x:Str}(a:N[i]?=some x)(b:N[j]?=some x):i=j:=by
 obtain⟨f,e1⟩:=oH.mp a;obtain⟨e,c⟩:=oH.mp b;exact(List.getElem_inj d).mp (e1.trans c.symm)
theorem Ed{M:Model}{A:Around}{E:VP}{i:Nat}{x:Str}{v:V}{u:Value}{Q:Unit->Shared->Prop}(I:Inv X pins σ H s)(a1:X.N.Nodup)(hi:X.N[i]?=some x)(l:Loc X.env.scope x)(r:RelV v u)
  (h:∀U,Inv X pins (σ.set i (some v)) H U->(∃a,Heap.SameBut a s.heap U.heap/\(a=X.env.locals\/X.env.cells.lookup x=some a))->Q () U)(a8:X.fn x=true\/X.env.scope.names.lookup x=some .local:=by first|exact .inl rfl|exact .inr rfl|assumption):wpAny M A (storeName X.env x u) Q E s:=by
 obtain⟨m,R,hl⟩:=id I.loc;have b5:(X.env.scope.kind == .class || (X.env.scope.kind == .module && X.env.locals != X.env.globals))=false:=by rw[I.ok.kind];rfl
 have Z:i<σ.length:=by rw[I.len];exact(oH.mp hi).1
 have cne:=I.cne;have a6:∀{a:Addr}{h':Heap},(∃o,s.heap.get? a=some o/\H a=none)->Heap.SameBut a s.heap h'->HOk X.prog X.w H h':=λ{a h'}b0 f b b1 e=>by
  obtain⟨_,_,a2⟩:=b0;refine(I.hok b b1 e).stay (λc F g q=>(f.2 c ?_).trans q) (λ_ q=>q) λ_ _ q=>q;rintro rfl;rcases g with rfl|g
  ·rw[a2]at e;cases e
  ·rw[a2]at g;cases g
 rcases l with w|w
 ·refine wpAny_storeName_local w R (λh' b2 f=>?_) b5;obtain⟨a7,_,_,a9,_⟩:=id R;refine h _ ⟨I.ok,I.os,I.bare,⟨λb o e n D l=>?_,λb o e n D l=>?_,I.base.free,λb o e l=>?_,I.base.tups,I.base.frzs,I.base.tbls⟩,⟨_,b2,λj y S e1 t L=>?_⟩,λy c e=>?_,I.free,I.freeC,λp P=>?_,a6 ⟨a7,a9,I.free⟩ f,by simpa using I.len⟩ ⟨_,f,.inl rfl⟩
  ·exact(f.2 b (zY (zJ (zL e) I.ok.above))).trans (I.base.keep b o e n D l)
  ·obtain⟨N,e1⟩:=I.base.slot b o e n D l;exact⟨N,(f.2 b (zY (zJ (zL e) I.ok.above))).trans e1⟩
  ·obtain⟨K,e1⟩:=I.base.there b o e l;exact⟨K,(f.2 b (zY (zJ (zL e) I.ok.above))).trans e1⟩
  ·by_cases C:j=i
   ·subst C;rw[hi]at e1;cases e1;rw[wR Z]at t;cases t;exact⟨u,r,.inl ⟨w,by simp⟩⟩
   ·rw[tI (yA C)]at t;obtain⟨W,T,q⟩:=hl j y S e1 t L;refine⟨W,T,?_⟩;rcases q with⟨k,e⟩|⟨k,c,e,z⟩
    ·refine .inl ⟨k,?_⟩;have:y≠x:=λe=>C (Ee a1 e1 (e ▸ hi));simp[this,e]
    ·exact .inr ⟨k,c,e,z.sameBut f (cne y c e)⟩
  ·obtain⟨F,z⟩:=I.cell y c e;exact⟨F,z.sameBut f (cne y c e)⟩
  ·obtain⟨e,n,G,Y,d⟩:=I.pin p P;exact⟨(f.2 p.1 G).trans e,n,G,Y,d⟩
 ·have O:X.fn x=true:=by
   rcases a8 with z|z
   ·exact z
   ·rw[z]at w;cases w
  obtain⟨c,g⟩:=I.ok.has x (.inl w);obtain⟨F,z⟩:=I.cell x c g;refine wpAny_storeName_cell I.ok.kind w g z (λh' a3 f=>?_);obtain⟨a5,a4,b7⟩:=id z;refine h {s with heap:=h'} ⟨I.ok,I.os,I.bare,⟨λb o e n D l=>?_,λb o e n D l=>?_,I.base.free,λb o e l=>?_,I.base.tups,I.base.frzs,I.base.tbls⟩,⟨m,R.sameBut f (yA (cne x c g)),λj y S e1 t L=>?_⟩,λy J e=>?_,I.free,I.freeC,λp P=>?_,a6 ⟨a5,a4,I.freeC x c g⟩ f,by simpa using I.len⟩ ⟨c,f,.inr g⟩
  ·exact(f.2 b (zY (zJ (zL e) (I.ok.cab x c O g)))).trans (I.base.keep b o e n D l)
  ·obtain⟨N,e1⟩:=I.base.slot b o e n D l;exact⟨N,(f.2 b (zY (zJ (zL e) (I.ok.cab x c O g)))).trans e1⟩
  ·obtain⟨K,e1⟩:=I.base.there b o e l;exact⟨K,(f.2 b (zY (zJ (zL e) (I.ok.cab x c O g)))).trans e1⟩
  ·by_cases C:j=i
   ·subst C;rw[hi]at e1;cases e1;rw[wR Z]at t;cases t;exact⟨u,r,.inr ⟨.inl w,c,g,a3⟩⟩
   ·rw[tI (yA C)]at t;obtain⟨W,T,q⟩:=hl j y S e1 t L;refine⟨W,T,?_⟩;rcases q with q|⟨k,J,e,b8⟩
    ·exact .inl q
    ·refine .inr ⟨k,J,e,b8.sameBut f ?_⟩;rintro rfl;exact C (Ee a1 e1 (I.ok.inj _ _ _ e g ▸ hi))
  ·by_cases a0:J=c
   ·subst a0;exact⟨_,a3⟩
   ·obtain⟨b4,b6⟩:=I.cell y J e;exact⟨b4,b6.sameBut f a0⟩
  ·obtain⟨e,n,G,Y,d⟩:=I.pin p P;refine⟨(f.2 p.1 ?_).trans e,n,G,Y,d⟩;intro q;rw[q,a4]at e;have b3:a5=p.2:=zW e;exact d F (by rw[←b3];exact b7)
theorem dE{M:Model}{A:Around}{E:VP}{i:Nat}{x:Str}{v:V}{u:Value}{Q:Unit->Shared->Prop}(I:Inv X pins σ H s)(e:X.N.Nodup)(hi:X.N[i]?=some x)(c:Loc X.env.scope x)(r:RelV v u)
  (h:∀a,Inv X pins (σ.set i (some v)) H a->Q () a)(d:X.fn x=true\/X.env.scope.names.lookup x=some .local:=by first|exact .inl rfl|exact .inr rfl|assumption):wpAny M A (storeName X.env x u) Q E s:=
 Ed I e hi c r (λa b _=>h a b) d
theorem Inv.call'{a:Shared}{ch:LA}(I:Inv X pins σ H s)(j:a.os=s.os)(u:Un (frs X.stack) ch H H' s.heap a.heap)(f:HOk X.prog X.w H' a.heap)(i:AllBare a.gens)
  (g:∀b∈ch,(b∈X.ex\/X.s₀.heap.objs.size<=b)/\b≠X.env.locals/\(∀x c,X.env.cells.lookup x=some c->c≠b)/\∀p∈X.pn++pins,p.1≠b):Inv X pins σ H' a:=by
 obtain⟨h',g',d',t',d⟩:=a;have e:d=s.os:=j;subst e;exact I.call (g':=g') (t':=t') (d':=d') u f i g
end
abbrev XK:=Value->Option Addr->Hp->Prop
abbrev St:=List (Option V)
abbrev VK:=V->Hp->Prop
abbrev TE:=St->Hp->VK->Prop
abbrev TT:=St->Hp->(Bool->Hp->Prop)->Prop
abbrev TA:=St->Hp->(List V->Hp->Prop)->Prop
structure Ends where
 nx:St->Hp->Prop
 rt:VK
 bk:St->Hp->Prop:=λ_ _=>False
 ct:St->Hp->Prop:=λ_ _=>False
abbrev TS:=Ends->St->Hp->Prop
def EP(X:Cx)(pins:PN)(σ:St)(Q:VK)(u:Value)(s':Shared):Prop:=∃v H',Inv X pins σ H' s'/\RelV v u/\Q v H'
def TP(X:Cx)(pins:PN)(σ:St)(Q:Bool->Hp->Prop)(b:Bool)(s':Shared):Prop:=∃H',Inv X pins σ H' s'/\Q b H'
def AP(X:Cx)(pins:PN)(σ:St)(Q:List V->Hp->Prop)(us:LW)(s':Shared):Prop:=∃vs H',Inv X pins σ H' s'/\Vals vs us/\Q vs H'
def SP(X:Cx)(pins:PN)(D:Ends)(f:Flow)(s':Shared):Prop:=
 match f with
 |.next=>∃σ' H',Inv X pins σ' H' s'/\D.nx σ' H'
 |.brk=>∃σ' H',Inv X pins σ' H' s'/\D.bk σ' H'
 |.cont=>∃σ' H',Inv X pins σ' H' s'/\D.ct σ' H'
 |.ret u=>∃v σ' H',Inv X pins σ' H' s'/\RelV v u/\D.rt v H'
def PE(X:Cx)(e:Expr)(t:TE):Prop:=
 ∀(pins:PN)(s:Shared)(σ:St)(H:Hp)(Q:VK),Inv X pins σ H s->t σ H Q->wpAny (model X.prog X.w) X.A (eval e X.env) (EP X pins σ Q) X.xe s
def PT(X:Cx)(e:Expr)(t:TT):Prop:=
 ∀(pins:PN)(s:Shared)(σ:St)(H:Hp)(Q:Bool->Hp->Prop),Inv X pins σ H s->t σ H Q->wpAny (model X.prog X.w) X.A (isTrue e X.env (eval e X.env)) (TP X pins σ Q) X.xe s
def PW(X:Cx)(e:Expr)(t:TT):Prop:=
 ∀(whole:Sem Value)(pins:PN)(s:Shared)(σ:St)(H:Hp)(Q:Bool->Hp->Prop),Inv X pins σ H s->t σ H Q->wpAny (model X.prog X.w) X.A (isTrue e X.env whole) (TP X pins σ Q) X.xe s
theorem PW.pt{X:Cx}{e:Expr}{t:TT}(h:PW X e t):PT X e t:=h _
def PA(X:Cx)(es:List Expr)(t:TA):Prop:=
 ∀(pos:Pos)(pins:PN)(s:Shared)(σ:St)(H:Hp)(Q:List V->Hp->Prop),Inv X pins σ H s->t σ H Q->wpAny (model X.prog X.w) X.A (spliced (backTo pos (starEach es X.env))) (AP X pins σ Q) X.xe s
def PS(X:Cx)(st:Stmt)(t:TS):Prop:=
 ∀(pins:PN)(s:Shared)(σ:St)(H:Hp)(D:Ends),Inv X pins σ H s->t D σ H->wpAny (model X.prog X.w) X.A (exec st X.env) (SP X pins D) X.xe s
def PSs(X:Cx)(st:List Stmt)(t:TS):Prop:=
 ∀(pins:PN)(s:Shared)(σ:St)(H:Hp)(D:Ends),Inv X pins σ H s->t D σ H->wpAny (model X.prog X.w) X.A (execs st X.env) (SP X pins D) X.xe s
theorem thn{b:Type}{c:Sem b}{Q d:b->Shared->Prop}{M:Model}{A:Around}{E:VP}{s:Shared}(h:wpAny M A c Q E s)(e:∀a s,Q a s->d a s):wpAny M A c d E s:=yU h e λ_ _ x=>x
section
variable {X:Cx}
def tVar(i:Nat):TE:=λσ H Q=>∃v,σ[i]?=some (some v)/\Q v H
def tC(v:V):TE:=λ_ H Q=>Q v H
theorem Mf{i:Nat}{x:Str}{j:Pos}(q:X.N[i]?=some x)(t:Vis X.env.scope x)(b:(x == ("__debug__" :Str))=false:=by decide)(o:(x == ("__classdict__" :Str))=false:=by decide):PE X (.Name x j) (tVar i):=by
 intro w s p H Q I h;obtain⟨v,e,h⟩:=h;obtain⟨m,k,hl⟩:=I.loc;obtain⟨u,r,l⟩:=hl i x v q e t;have d:EP X w p Q u s:=⟨v,H,I,r,h⟩;rcases l with⟨a,n⟩|⟨a,c,f,g⟩
 ·exact wpAny_Name (wpAny_loadName_local I.ok.kind a k n d) b
 ·rcases a with a|a
  ·exact wpAny_Name (wpAny_loadName_cell I.ok.kind a f g d) b
  ·exact wpAny_Name (wpAny_loadName_free I.ok.kind a f g d o) b
theorem oN{i j a}:PE X (.Constant (.int i) j a) (tC (.int i)):=λ_ _ _ H _ I h=>wpAny_Constant_int ⟨.int i,H,I.tok _,⟨_,rfl⟩,h⟩
theorem mZ{b j a}:PE X (.Constant (.bool b) j a) (tC (.bl b)):=λ_ _ _ H _ I h=>Constant_bool ⟨.bl b,H,I,rfl,h⟩
theorem iR{j a}:PE X (.Constant .none j a) (tC .non):=λ_ _ _ H _ I h=>Constant_none ⟨.non,H,I,rfl,h⟩
theorem gM{x j a}:PE X (.Constant (.str x) j a) (tC (.str x)):=λ_ _ _ H _ I h=>Calls.Constant_str ⟨.str x,H,I.tok _,⟨_,rfl⟩,h⟩
def Gl(X:Cx)(x:Str):Prop:=X.env.kindOf x=some .globalImplicit
theorem iC{E:VP}{f:PN}{s:Shared}{e:St}{H:Hp}{x:Str}{u:Value}{a:Pos}{Q:VP}(I:Inv X f e H s)(d:Gl X x)(b:X.mg x=some u)(h:Q u s)
  (c:(x == ("__debug__" :Str))=false:=by decide):wpAny (model X.prog X.w) X.A (eval (.Name x a) X.env) Q E s:=
 Calls.Name_function_global I.ok.kind d (Calls.loadGlobal_global (by rw[I.ok.glob];exact I.mod.glob.keeps I.bk) b h) c
theorem iD{E:VP}{k:PN}{s:Shared}{f:St}{H:Hp}{x:Str}{u:Value}{a:Pos}{Q:VP}(I:Inv X k f H s)(e:Gl X x)(c:X.mg x=none)(i:bootBuiltins x=some u)(h:Q u s)
  (b:x≠"__name__" := by decide)(d:(x == ("__debug__" :Str))=false:=by decide):wpAny (model X.prog X.w) X.A (eval (.Name x a) X.env) Q E s:=by
 obtain⟨l,j,g⟩:=I.mod.blt;exact Calls.Name_function_global I.ok.kind e (Calls.loadGlobal_builtin (by rw[I.ok.glob];exact I.mod.glob.keeps I.bk) c (by rw[I.ok.blt];exact j.keeps I.bk) ((g x b).trans i) h) d
theorem Me{x:Str}{v:V}{u:Value}{a:Pos}(d:Gl X x)(c:X.mg x=some u)(r:RelV v u)(b:(x == ("__debug__" :Str))=false:=by decide):PE X (.Name x a) (tC v):=
 λ_ _ _ H _ I h=>iC I d c ⟨v,H,I,r,h⟩ b
theorem fN{x:Str}{v:V}{u:Value}{a:Pos}(e:Gl X x)(c:X.mg x=none)(f:bootBuiltins x=some u)(r:RelV v u)(b:x≠"__name__" := by decide)(d:(x == ("__debug__" :Str))=false:=by decide):PE X (.Name x a) (tC v):=
 λ_ _ _ H _ I h=>iD I e c f ⟨v,H,I,r,h⟩ b d
variable {a b:Expr} {ta tb:TE} {pos:Pos}
def tB(t:TE):TT:=λσ H Q=>t σ H λx H1=>∃c,x=.bl c/\Q c H1
theorem lJ{e:Expr}{f:TE}(h:PE X e f)(i:∀c,isTrue e X.env c=(do let v ←c;standAt e.pos;holding [v] (truthy v)):=by intro _;rfl):PT X e (tB f):=by
 intro n s l H Q I k;refine isTrue_plain (thn (h n s l H _ I k) ?_) (i _);rintro v o ⟨x,m,j,r1,g⟩;obtain⟨d,rfl,q⟩:=g;cases r1;exact uR ⟨m,j,q⟩
variable {tA tB':TT} {rest:List Expr}
def tAnd(t u:TT):TT:=λσ H Q=>t σ H λc H1=>if c=true then u σ H1 Q else Q false H1
def tOr(t u:TT):TT:=λσ H Q=>t σ H λc H1=>if c=true then Q true H1 else u σ H1 Q
def tNot(t:TT):TT:=λσ H Q=>t σ H λc H1=>Q (!c) H1
theorem Md(d:PT X a tA):PW X (.BoolOp .And [a] pos) tA:=by
 intro i g s f H Q I h;refine isTrue_and (thn (d g s f H Q I h) λc j e=>?_);cases c with
 |true=>exact isTrue_and_nil e
 |false=>exact e
theorem jP(d:PT X a tA):PW X (.BoolOp .Or [a] pos) tA:=by
 intro i g s f H Q I h;refine isTrue_or (thn (d g s f H Q I h) λc j e=>?_);cases c with
 |false=>exact isTrue_or_nil e
 |true=>exact e
theorem Mc(l:PT X a tA)(j:PW X (.BoolOp .And (b:: rest) pos) tB'):PW X (.BoolOp .And (a:: b:: rest) pos) (tAnd tA tB'):=by
 intro k i s f H Q I h;refine isTrue_and (thn (l i s f H _ I h) ?_);rintro c m ⟨g,e,d⟩;cases c with
 |true=>exact j k i m f g Q e d
 |false=>exact⟨g,e,d⟩
theorem kN(l:PT X a tA)(j:PW X (.BoolOp .Or (b:: rest) pos) tB'):PW X (.BoolOp .Or (a:: b:: rest) pos) (tOr tA tB'):=by
 intro k i s f H Q I h;refine isTrue_or (thn (l i s f H _ I h) ?_);rintro c m ⟨g,e,d⟩;cases c with
 |true=>exact⟨g,e,d⟩
 |false=>exact j k i m f g Q e d
theorem kF(e:PT X a tA):PT X (.UnaryOp .Not a pos) (tNot tA):=by
 intro d s f H Q I h;exact isTrue_not (e d s f H (λc g=>Q (!c) g) I h)
def Mb(ta tb:TE):TE:=λσ H Q=>ta σ H λx H1=>∃c,x=.bl c/\if c=true then tb σ H1 Q else Q (.bl false) H1
def tOrV(ta tb:TE):TE:=λσ H Q=>ta σ H λx H1=>∃c,x=.bl c/\if c=true then Q (.bl true) H1 else tb σ H1 Q
def Ma(ta:TE):TE:=λσ H Q=>ta σ H λx H1=>∃c,x=.bl c/\Q (.bl (!c)) H1
theorem dF{op}{c:TE}(h:PE X a c):PE X (.BoolOp op [a] pos) c:=λd s f H Q I e=>BoolOp_one (h d s f H Q I e)
theorem dG(k:PE X a ta)(j:PE X (.BoolOp .And (b:: rest) pos) tb):PE X (.BoolOp .And (a:: b:: rest) pos) (Mb ta tb):=by
 intro i s f H Q I h;refine BoolOp_and (thn (k i s f H _ I h) ?_);rintro v l ⟨x,g,e,r1,d⟩;obtain⟨c,rfl,d⟩:=d;cases r1;refine uR ?_;cases c with
 |true=>exact j i l f g Q e d
 |false=>exact⟨.bl false,g,e,rfl,d⟩
theorem Nz(f:PE X a ta):PE X (.UnaryOp .Not a pos) (Ma ta):=by
 intro j s g H Q I h;refine UnaryOp_ (thn (f j s g H _ I h) ?_);rintro v k ⟨x,i,e,r1,d⟩;obtain⟨c,rfl,d⟩:=d;cases r1;exact not_of (uR ⟨.bl (!c),i,e,rfl,d⟩)
def tIf(t:TT)(ta tb:TE):TE:=λσ H Q=>t σ H λc H1=>if c=true then ta σ H1 Q else tb σ H1 Q
theorem Eb{c:Expr}(l:PT X c tA)(n:PE X a ta)(m:PE X b tb):PE X (.IfExp c a b pos) (tIf tA ta tb):=by
 intro f s e H Q I h;refine wpAny_IfExp (thn (l f s e H _ I h) ?_);rintro d k ⟨j,i,g⟩;cases d with
 |true=>exact n f k e j Q i g
 |false=>exact m f k e j Q i g
end
def SqL(K:Frag)(H:Hp)(a:Addr)(xs:List V):Prop:=
 Rd H a (.lst xs) \/
  ∃(o:Obj)(its:Array Value)(n:Nat),K.lookup a=some o/\o.cls=.type "list" /\ o.dict=none/\o.data=.seq its n/\its.size<=sizeLine/\Vals xs its.toList
def SqT(K:Frag)(H:Hp)(a:Addr)(xs:List V):Prop:=
 Rd H a (.tup xs) \/
  ∃(o:Obj)(its:Array Value)(n:Nat),K.lookup a=some o/\o.cls=.type "tuple" /\ o.data=.seq its n/\its.size<=sizeLine/\Vals xs its.toList
noncomputable def absV:Value->Option V
 |.none=>some .non
 |.bool b=>some (.bl b)
 |.int i _=>some (.int i)
 |.str x _=>some (.str x)
 |.bytes b _=>some (.byt b)
 |.float b _=>some (.flt b)
 |.ref a=>some (.ref a)
 |.type n=>some (.ty n)
 |_=>none
theorem RelV.abs{x:V}{u:Value}(r:RelV x u):absV u=some x:=by
 cases x with
 |non=>cases r;rfl
 |bl _=>cases r;rfl
 |int _=>obtain⟨t,rfl⟩:=r;rfl
 |str _=>obtain⟨t,rfl⟩:=r;rfl
 |byt _=>obtain⟨t,rfl⟩:=r;rfl
 |flt _=>obtain⟨t,rfl⟩:=r;rfl
 |ref _=>cases r;rfl
 |ty _=>cases r;rfl
theorem RelV.inj{x y:V}{u:Value}(r:RelV x u)(q:RelV y u):x=y:=zW (r.abs.symm.trans q.abs)
theorem Vals.inj:∀{xs ys:List V}{us:LW},Vals xs us->Vals ys us->xs=ys
 |_,_,_,.nil,.nil=>rfl
 |_,_,_,.cons r a,.cons b t'=>by rw[r.inj b,Vals.inj a t']
section
variable {X:Cx} {pins:PN} {σ:St} {H:Hp} {s:Shared} {a:Addr} {xs ys:List V}
theorem SqL.of{K:Frag}(h:H a=some (.lst xs)):SqL K H a xs:=.inl (.inl h)
theorem SqT.of{K:Frag}(h:H a=some (.tup xs)):SqT K H a xs:=.inl (.inl h)
theorem Inv.list(I:Inv X pins σ H s)(h:SqL X.K H a xs):∃its:LW,Vals xs its/\PlainL s.heap a its.toArray/\xs.length<=sizeLine:=by
 rcases h with h|⟨o,its,n,f,b,c,d,g,r⟩
 ·obtain⟨z,its,n,r,e⟩:=h.ok I.hok;exact⟨its,r,⟨_,n,e,rfl,rfl,rfl⟩,z⟩
 ·refine⟨its.toList,r,⟨o,n,I.kIn a o f,b,c,by simpa using d⟩,?_⟩;have e:=r.length;simp only[Array.length_toList]at e;omega
theorem Inv.tuple(I:Inv X pins σ H s)(h:SqT X.K H a xs):∃its:LW,Vals xs its/\IsTup s.heap a its.toArray/\xs.length<=sizeLine:=by
 rcases h with h|⟨o,its,n,d,c,b,f,r⟩
 ·obtain⟨z,its,r,p⟩:=h.ok I.hok;exact⟨its,r,p,z⟩
 ·refine⟨its.toList,r,⟨o,I.kIn a o d,c,n,by simpa using b⟩,?_⟩;have e:=r.length;simp only[Array.length_toList]at e;omega
theorem Inv.list_inj(I:Inv X pins σ H s)(h:SqL X.K H a xs)(h':SqL X.K H a ys):xs=ys:=by
 obtain⟨its,r,⟨o,n,e,_,_,d⟩,_⟩:=I.list h;obtain⟨its',c,⟨g,i,b,_,_,d'⟩,_⟩:=I.list h';rw[e]at b;cases b;rw[d]at d';injection d' with f _;have:its=its':=by simpa using wI Array.toList f
 subst this;exact r.inj c
theorem Inv.tuple_inj(I:Inv X pins σ H s)(h:SqT X.K H a xs)(h':SqT X.K H a ys):xs=ys:=by
 obtain⟨its,r,⟨o,e,_,n,d⟩,_⟩:=I.tuple h;obtain⟨its',c,⟨g,b,_,i,d'⟩,_⟩:=I.tuple h';rw[e]at b;cases b;rw[d]at d';injection d' with f _;have:its=its':=by simpa using wI Array.toList f
 subst this;exact r.inj c
end
noncomputable abbrev Cx.wish(X:Cx)(E:VP):Cx:={X with xe:=E}
noncomputable abbrev Cx.nox(X:Cx):Cx:=X.wish λ_ _=>False
theorem Cx.Ok.wish{X:Cx}(ok:X.Ok)(E:VP):(X.wish E).Ok:=
 ⟨ok.mod,ok.kind,ok.glob,ok.blt,ok.above,ok.inj,ok.has,ok.cab,ok.hd,ok.frames,ok.stk,ok.exf,ok.bs,ok.bsz,ok.noex,ok.exfs,ok.funs,ok.frf⟩
theorem Cx.Ok.unwish{X:Cx}{E:VP}(ok:(X.wish E).Ok):X.Ok:=
 ⟨ok.mod,ok.kind,ok.glob,ok.blt,ok.above,ok.inj,ok.has,ok.cab,ok.hd,ok.frames,ok.stk,ok.exf,ok.bs,ok.bsz,ok.noex,ok.exfs,ok.funs,ok.frf⟩
section
variable {X:Cx} {pins:PN} {σ:St} {H:Hp} {s:Shared} {E:VP}
theorem Inv.wish(I:Inv X pins σ H s)(E:VP):Inv (X.wish E) pins σ H s:=⟨I.ok.wish E,I.os,I.bare,I.base,I.loc,I.cell,I.free,I.freeC,I.pin,I.hok,I.len⟩
theorem Inv.unwish(I:Inv (X.wish E) pins σ H s):Inv X pins σ H s:=⟨I.ok.unwish,I.os,I.bare,I.base,I.loc,I.cell,I.free,I.freeC,I.pin,I.hok,I.len⟩
theorem SP.unwish{D:Ends}{f:Flow}{b:Shared}(h:SP (X.wish E) pins D f b):SP X pins D f b:=by
 cases f with
 |next=>obtain⟨a,H',I,q⟩:=h;exact⟨a,H',I.unwish,q⟩
 |brk=>obtain⟨a,H',I,q⟩:=h;exact⟨a,H',I.unwish,q⟩
 |cont=>obtain⟨a,H',I,q⟩:=h;exact⟨a,H',I.unwish,q⟩
 |ret u=>obtain⟨v,a,H',I,r,q⟩:=h;exact⟨v,a,H',I.unwish,r,q⟩
theorem PSs.nox{st:List Stmt}{a:TS}(h:PSs X.nox st a):PSs X st a:=λpins s σ H D I b =>
 yU (h pins s σ H D (I.wish _) b) (λ_ _ q=>q.unwish) λ_ _ z=>False.elim z
end
section
variable {X:Cx} {st:Stmt} {rest:List Stmt} {t u:TS} {e:Expr} {te:TE} {pos:Pos}
def Ny:TS:=λD σ H=>D.nx σ H
def tSeq(t u:TS):TS:=λD σ H=>t {D with nx:=u D} σ H
theorem nJ:PSs X [] Ny:=λ_ _ a H _ I h=>tU ⟨a,H,I,h⟩
theorem oM(i:PS X st t)(g:PSs X rest u):PSs X (st:: rest) (tSeq t u):=by
 intro a s d H D I h;refine wpAny_execs_cons (thn (i a s d H {D with nx:=u D} I h) λf c q=>?_);cases f with
 |next =>
  obtain⟨j,H',b,q⟩:=q;exact g a c j H' D b q
 |ret v=>exact q
 |brk=>exact q
 |cont=>exact q
theorem oO(c:PS X st t):PSs X [st] t:=by
 intro a s b H D I h;refine wpAny_execs_cons (thn (c a s b H D I h) λf d q=>?_);cases f with
 |next=>exact tU q
 |ret v=>exact q
 |brk=>exact q
 |cont=>exact q
theorem Inv.quiet{a:PN}{b:St}{H:Hp}{s:Shared}(I:Inv X a b H s):interactive X.env=false:=by simp[interactive,I.ok.kind]
def Ea(te:TE):TS:=λD σ H=>te σ H λ_ H1=>D.nx σ H1
theorem lU(c:PE X e te)(f:swapsWith e none pos.line X.env=pure false:=by rfl):PS X (.Expr e pos) (Ea te):=by
 intro i s a H D I h;exact wpAny_Expr_any (thn (c i s a H _ I h) λv j⟨x,g,d,r1,b⟩=>⟨a,g,d,b⟩) I.quiet f
def tRet(te:TE):TS:=λD σ H=>te σ H D.rt
theorem oW(c:PE X e te):PS X (.Return (some e) pos) (tRet te):=by
 intro g s a H D I h;exact wpAny_Return_some (thn (c g s a H _ I h) λv i⟨x,f,d,r1,b⟩=>⟨x,a,f,d,r1,b⟩)
def u_e:TS:=λD _ H=>D.rt .non H
def tIfS(c:TT)(t u:TS):TS:=λD σ H=>c σ H λb H1=>if b=true then t D σ H1 else u D σ H1
theorem nK{c:Expr}{a b:List Stmt}{j:TT}(n:PT X c j)(p:PSs X a t)(o:PSs X b u):PS X (.If c a b pos) (tIfS j t u):=by
 intro g s f H D I h;refine wpAny_If (thn (n g s f H _ I h) ?_);rintro d m ⟨l,k,i⟩;cases d with
 |true=>exact p g m f l D k i
 |false=>exact o g m f l D k i
def Fz:TS:=λ_ _ _=>False
theorem An:PS X st Fz:=λ_ _ _ _ _ _ h=>h.elim
theorem Nx{a:List Stmt}:PSs X a Fz:=λ_ _ _ _ _ _ h=>h.elim
end
abbrev TG:=V->St->Hp->(St->Hp->Prop)->Prop
abbrev TGs:=List V->St->Hp->(St->Hp->Prop)->Prop
def PG(X:Cx)(target:Expr)(t:TG):Prop:=
 ∀(pins:PN)(s:Shared)(σ:St)(H:Hp)(v:V)(u:Value)(Q:St->Hp->Prop),Inv X pins σ H s->RelV v u->t v σ H Q ->
  wpAny (model X.prog X.w) X.A (assign target X.env u) (λ_ s'=>∃σ' H',Inv X pins σ' H' s'/\Q σ' H') X.xe s
def PGs(X:Cx)(ts:List Expr)(t:TGs):Prop:=
 ∀(pins:PN)(s:Shared)(σ:St)(H:Hp)(vs:List V)(us:LW)(Q:St->Hp->Prop),Inv X pins σ H s->Vals vs us->t vs σ H Q ->
  wpAny (model X.prog X.w) X.A (assignInOrder ((assignEach ts X.env).map (·.2)) us) (λ_ s'=>∃σ' H',Inv X pins σ' H' s'/\Q σ' H') X.xe s
abbrev TSet:=V->V->V->Hp->(Hp->Prop)->Prop
def PSet(X:Cx)(t:TSet):Prop:=
 ∀(pins:PN)(s:Shared)(σ:St)(H:Hp)(o i v:V)(ov iv u:Value)(Q:Hp->Prop),Inv X pins σ H s->RelV o ov->RelV i iv->RelV v u->t o i v H Q ->
  wpAny (model X.prog X.w) X.A (setItem ov iv u) (λ_ s'=>∃H',Inv X pins σ H' s'/\Q H') X.xe s
abbrev TIp:=V->V->Hp->VK->Prop
def PIp(X:Cx)(op:Operator)(t:TIp):Prop:=
 ∀(pins:PN)(s:Shared)(σ:St)(H:Hp)(x y:V)(v u:Value)(Q:VK),Inv X pins σ H s->RelV x v->RelV y u->t x y H Q ->
  wpAny (model X.prog X.w) X.A (inplaceOp op v u) (EP X pins σ Q) X.xe s
section
variable {X:Cx} {pos:Pos}
def nB(i:Nat):TG:=λv σ H Q=>Q (σ.set i (some v)) H
theorem nX{i:Nat}{x:Str}(d:X.N.Nodup)(hi:X.N[i]?=some x)(b:Loc X.env.scope x)(c:X.fn x=true\/X.env.scope.names.lookup x=some .local:=by first|exact .inl rfl|exact .inr rfl|assumption):PG X (.Name x pos) (nB i):=by
 intro f s e H v u Q I r h;exact wpAny_assign_Name (dE I d hi b r (λg a=>⟨_,H,a,h⟩) c)
def gNil:TGs:=λvs σ H Q=>vs=[]/\Q σ H
def lC(t:TG)(u:TGs):TGs:=λvs σ H Q=>∃v r,vs=v:: r/\t v σ H λσ' H'=>u r σ' H' Q
theorem iU:PGs X [] gNil:=by
 intro b s a H vs us Q I r h;obtain⟨e,h⟩:=h;subst e;cases r;exact assignInOrder_nil ⟨a,H,I,h⟩
theorem lD{e:Expr}{es:List Expr}{a:TG}{u:TGs}(g:PG X e a)(k:PGs X es u)
  (j:(assignEach (e:: es) X.env).map (·.2)=assign e X.env:: (assignEach es X.env).map (·.2):=by rfl):PGs X (e:: es) (lC a u):=by
 intro b s i H vs us Q I r h;obtain⟨v,o,e1,h⟩:=h;subst e1;cases r with
 |cons r n =>
  rw[j];refine qD (thn (g b s i H _ _ _ I r h) ?_);rintro _ m ⟨d,l,f,c⟩;exact k b m d l _ _ Q f n c
def gTup(K:Frag)(n:Nat)(t:TGs):TG:=λv σ H Q=>∃a xs,v=.ref a/\SqT K H a xs/\xs.length=n/\t xs σ H Q
theorem gN{es:List Expr}{k:Nat}{g:TGs}{n:Nat}(p:X.calm=true)(h:PGs X es g)
  (l:(assignEach es X.env).length=n:=by rfl)(t:(assignEach es X.env).findIdx? (·.1)=none:=by rfl):PG X (.Tuple es k pos) (gTup X.K n g):=by
 intro i s f H v u Q I r c;obtain⟨a,xs,e1,j,hl,c⟩:=c;subst e1;cases r;obtain⟨its,d,w,x⟩:=I.tuple j;refine assign_Tuple_tuple (I.ok.hd p) w (by simp[l,←hl,d.length]) t λh' m=>?_;have q:Inv X i f H {s with heap:=h'}:=I.kept (t':=s.toks) λb o e=>m b o (zY (zL e)) e;exact h i _ f H xs _ Q q (by simpa using d) c
def gSub(to ti:TE)(t:TSet):TG:=λv σ H Q=>to σ H λo H1=>ti σ H1 λi H2=>t o i v H2 λH3=>Q σ H3
theorem fO{o i:Expr}{f g:TE}{e:TSet}(m:PE X o f)(hi:PE X i g)(p:PSet X e)
  (k:∀v,assign (.Subscript o i pos) X.env v=(do
   let a ←holding [v] (eval o X.env)
   let b ←holding [v,a] (eval i X.env)
   standAt pos
   holding [v,a,b] (setItem a b v)
   release [v,a,b] []):=by intro _;rfl):PG X (.Subscript o i pos) (gSub f g e):=by
 intro d s c H v u Q I r h;rw[k];refine zA (xB (thn (m d s c H _ I h) ?_));rintro a F ⟨x,l,z,r1,w⟩;refine zA (xB (thn (hi d F c l _ z w) ?_));rintro b D ⟨y,j,q,r2,G⟩;refine zA (wS (zA (xB (thn (p d D c j x y v a b u _ q r1 r2 r G) ?_))));rintro _ J ⟨C,t,n⟩;exact wpAny_release ⟨c,C,t,n⟩
def tAsg(te:TE)(g:TG):TS:=λD σ H=>te σ H λx H1=>g x σ H1 D.nx
theorem iV{a e:Expr}{te:TE}{g:TG}(f:PE X e te)(j:PG X a g)(l:swapsWithSole [a] e pos.line X.env=pure false:=by rfl)(k:swappedStores [a] e X.env=pure none:=by rfl)
  (n:(assignEach [a] X.env).map (·.2)=[assign a X.env]:=by rfl):PS X (.Assign [a] e pos) (tAsg te g):=by
 intro c s b H D I h;refine wpAny_Assign_stores (thn (f c s b H _ I h) ?_) l k;rintro v o ⟨x,m,i,r1,d⟩;rw[n];exact thn (j c o b m x v _ i r1 d) λ_ p q=>q
theorem oU{i:Nat}{x:Str}{e:Expr}{te:TE}{a:Pos}(l:X.N.Nodup)(hi:X.N[i]?=some x)(b:Loc X.env.scope x)(d:PE X e te)(k:swapsWith e (some (.Name x a)) pos.line X.env=pure false:=by rfl)(g:X.fn x=true\/X.env.scope.names.lookup x=some .local:=by first|exact .inl rfl|exact .inr rfl|assumption):
  PS X (.Assign [.Name x a] e pos) (tAsg te (nB i)):=by
 intro o s j H D I h;refine wpAny_Assign_Name (thn (d o s j H _ I h) ?_) k;rintro v q ⟨y,m,f,r1,c⟩;exact dE f l hi b r1 (λp n=>⟨_,m,n,c⟩) g
def tPar(i j:Nat)(ta:TA):TS:=λD σ H=>ta σ H λvs H1=>∃v w,vs=[v,w]/\D.nx ((σ.set i (some v)).set j (some w)) H1
theorem Nw{i j:Nat}{x y:Str}{a b:Expr}{F:TA}{k g pt:Pos}{n k2 m}(T:X.calm=true)(C:X.N.Nodup)(hi:X.N[i]?=some x)(P:X.N[j]?=some y)(N:i≠j)
  (r:X.env.scope.names.lookup x=some .local)(J:X.env.scope.names.lookup y=some .local)(O:PA X [a,b] F)
  (M:swappedStores [.Tuple [.Name x k,.Name y g] n pt] (.Tuple [a,b] k2 m) X.env=pure (some [x,y]))
  (U:swapsWithSole [.Tuple [.Name x k,.Name y g] n pt] (.Tuple [a,b] k2 m) pos.line X.env=pure false:=by rfl):
  PS X (.Assign [.Tuple [.Name x k,.Name y g] n pt] (.Tuple [a,b] k2 m) pos) (tPar i j F):=by
 intro G s t H D I h;rw[exec_Assign_arm];refine zA (wS ?_);rw[U];refine zA (zB ?_);rw[zD ∅];refine zA (Tuple_ (thn (O _ G s t H _ I h) ?_));rintro us d ⟨vs,u,Y,r1,l⟩;obtain⟨v,w,e1,l⟩:=l;subst e1;obtain⟨f,c,rfl,Z,K⟩:∃f c,us=[f,c]/\RelV v f/\RelV w c:=by
  cases r1 with
  | cons p q =>
   cases q with
   |cons S R =>
    cases R;exact⟨_,_,rfl,p,S⟩
 refine xL ?_ (by show 2<=sizeLine;decide);have V:Inv X G t u {d with heap:=d.heap.push {cls:=.type "tuple",data:=.seq [f,c].toArray}}:=Y.kept (t':=d.toks) λb o e=>zC _ e;rw[M];refine zA (zB ?_);show wpAny (model X.prog X.w) X.A (do rule "assign.swapped-stores";let items ←unpackItems (.ref d.heap.objs.size) 2 none;assignInOrder [λv=>bindName X.env y v,λv=>bindName X.env x v] items.reverse;pure Flow.next) _ _ _;refine zA (wU (zA (unpackItems_tuple (items:=#[f,c]) (I.ok.hd T) (IsTup.new d.heap _) λh' L=>?_)));have W:=V.kept (h':=h') (t':=d.toks) λb o e=>L b o (zY (zL e)) e;show wpAny _ _ (assignInOrder [λv=>bindName X.env y v,λv=>bindName X.env x v] [c,f] >>= λ_=>pure Flow.next) _ _ _;refine zA (qD (wpAny_bindName (dE W C P (.inl J) K (λa2 a0=>?_) (.inr J))));refine qD (wpAny_bindName (dE a0 C hi (.inl r) Z (λa1 z=>assignInOrder_nil (zB ?_)) (.inr r)));rw[List.set_comm _ _ (yA N)]at z;exact⟨_,u,z,l⟩
def tAug(i:Nat)(te:TE)(ti:TIp):TS:=λD σ H=>∃x,σ[i]?=some (some x)/\te σ H λy H1=>ti x y H1 λz H2=>D.nx (σ.set i (some z)) H2
theorem Fy{i:Nat}{x:Str}{e:Expr}{te:TE}{op:Operator}{g:TIp}{q:Pos}(F:X.N.Nodup)(hi:X.N[i]?=some x)(b:Loc X.env.scope x)(P:PE X e te)(p:PIp X op g)(n:X.fn x=true\/X.env.scope.names.lookup x=some .local:=by first|exact .inl rfl|exact .inr rfl|assumption):
  PS X (.AugAssign (.Name x q) op e pos) (tAug i te g):=by
 intro d s f H D I h;obtain⟨v,e1,h⟩:=h;obtain⟨m,J,hl⟩:=I.loc;have S:Vis X.env.scope x:=by rcases b with k|k;exact .inl k;exact .inr (.inl k)
 obtain⟨u,r,l⟩:=hl i x v hi e1 S;refine wpAny_AugAssign_Name ?_;have go:wpAny (model X.prog X.w) X.A (eval e X.env) (λw M=>wpAny (model X.prog X.w) X.A (inplaceOp op u w) (λr t=>wpAny (model X.prog X.w) X.A (storeName X.env x r) (λ_=>SP X d D .next) X.xe t) X.xe M) X.xe s:=by
  refine thn (P d s f H _ I h) ?_;rintro w T ⟨y,o,R,r1,O⟩;refine thn (p d T f o v y u w _ R r r1 O) ?_;rintro z Y ⟨W,j,K,r2,U⟩;exact dE K F hi b r2 (λV L=>⟨_,j,L,U⟩) n
 rcases l with⟨a,N⟩|⟨a,c,C,G⟩
 ·exact wpAny_loadName_local I.ok.kind a J N go
 ·rcases a with a|a
  ·exact wpAny_loadName_cell I.ok.kind a C G go
  ·rcases b with k|k
   ·have:X.env.scope.names.lookup x=some .free:=a;rw[k]at this;cases this
   ·have:X.env.scope.names.lookup x=some .free:=a;rw[k]at this;cases this
def ipI(f:Int->Int->Int):TIp:=λx y H Q=>∃i j,x=.int i/\y=.int j/\Q (.int (f i j)) H
theorem Fx:PIp X .Add (ipI λi j=>i+j):=by
 intro b s c H x y v u Q I r1 r2 h;obtain⟨i,j,e1,a,q⟩:=h;subst e1;subst a;obtain⟨d,rfl⟩:=r1;obtain⟨t',rfl⟩:=r2;exact iadd_int ⟨.int _,H,I.tok _,⟨_,rfl⟩,q⟩
def Fw(c:TT)(tb:TS):TS:=λD σ H=>∃W:Nat->St->Hp->Prop,(∃m,W m σ H)/\∀m σ H,W m σ H ->
 c σ H λb H1=>if b=true then∃N:St->Hp->Prop,(∀σ' H',N σ' H'->∃m',m'<m/\W m' σ' H')/\tb {D with nx:=N,ct:=N,bk:=D.nx} σ H1 else D.nx σ H1
theorem cY{c:Expr}{body:List Stmt}{w:TT}{tb:TS}(x:PassesOwn (model X.prog X.w) X.A X.env X.xe)(C:PT X c w)(L:PSs X body tb):PS X (.While c body [] pos) (Fw w tb):=by
 intro m s z H D I h;obtain⟨W,⟨G,O⟩,F⟩:=h;refine wpAny_While (codeAny_whileLoop (λn J=>∃r H',Inv X m r H' J/\W n r H') ?_ G ⟨z,H,I,O⟩);rintro n R ⟨g,t,M,K⟩;refine vO x (thn (C m R g t _ M (F n g t K)) ?_);rintro b P ⟨q,y,i⟩;cases b with
 | true =>
  obtain⟨N,u,i⟩:=i;rw[zF rfl];refine vO x (thn (L m P g q _ y i) λf S e=>?_);cases f with
  |next =>
   obtain⟨a,d,o,j⟩:=e;obtain⟨k,p,l⟩:=u a d j;exact⟨k,p,a,d,o,l⟩
  |cont =>
   obtain⟨a,d,o,j⟩:=e;obtain⟨k,p,l⟩:=u a d j;exact⟨k,p,a,d,o,l⟩
  |brk=>exact e
  |ret v=>exact e
 |false =>
  rw[zD zX];exact tU ⟨g,q,y,i⟩
end
structure It where
 go:Nat->Hp->Prop
 yld:Nat->Hp->V->Hp->Prop
 stop:Nat->Hp->Prop
def FpOk(X:Cx)(pins:PN)(H:Hp)(b:Addr):Prop:=
 H b=none/\b≠X.env.locals/\b∉X.fs/\(b∈X.ex\/X.s₀.heap.objs.size<=b)/\(∀x c,X.env.cells.lookup x=some c->c≠b)/\∀p∈X.pn++pins,p.1≠b
theorem Inv.fpOk{X:Cx}{d:PN}{g:St}{H H':Hp}{s:Shared}{b:Addr}(I:Inv X d g H s)(a:s.heap.objs.size<=b)(f:H' b=none):FpOk X d H' b:=by
 refine⟨f,rJ (zJ I.lt a),I.nofs a,.inr (yG I.sz a),λx c e z=>?_,λp i z=>?_⟩
 ·obtain⟨v,q⟩:=I.cell x c e;exact absurd (zJ q.lt (by rw[z];exact a)) (xC _)
 ·exact absurd (zJ (zL (I.pin p i).1) (by rw[z];exact a)) (xC _)
structure Turn(P:Program)(w:World)(K:Frag)(tg:Expr)(J:It)(fp:LA)(it:Addr)(tn:Nat->Heap->Prop):Prop where
 mem:it∈fp
 obj:∀i h,tn i h->∀b∈fp,∃o,h.get? b=some o/\∀v,o.data≠.cell v
 keep:∀i h h',tn i h->(∀b∈fp,∀o,h.get? b=some o->h'.get? b=some o)->tn i h'
 item:∀(X:Cx),X.prog=P->X.w=w->X.K=K->X.calm=true->∀(i:Nat)(pins:PN)(s:Shared)(σ:St)(H:Hp)(E:VP),Inv X pins σ H s->(∀b∈fp,FpOk X pins H b)->tn i s.heap->J.go i H ->
  wpAny (model P w) X.A (pyNext (.ref it)) (λr s1=>∃u,r=some u /\
   wpAny (model P w) X.A (letOwnedTupleGo tg (.ref it) u) (λ_ s2=>∃x H',Inv X pins σ H' s2/\RelV x u/\J.yld i H x H'/\tn (i+1) s2.heap/\∀b∈fp,H' b=none) E s1) E s
 done:∀(X:Cx),X.prog=P->X.w=w->X.K=K->X.calm=true->∀(i:Nat)(pins:PN)(s:Shared)(σ:St)(H:Hp)(E:VP),Inv X pins σ H s->(∀b∈fp,FpOk X pins H b)->tn i s.heap->J.stop i H ->
  wpAny (model P w) X.A (pyNext (.ref it)) (λr s1=>r=none/\Inv X pins σ H s1) E s
 self:∀(A:Around)(i:Nat)(s:Shared)(Q:VP)(E:VP),tn i s.heap->Q (.ref it) s->wpAny (model P w) A (pyIter (.ref it)) Q E s
abbrev TI:=St->Hp->(It->Hp->Prop)->Prop
def PIE(X:Cx)(pins:PN)(σ:St)(tg:Expr)(R:It->Hp->Prop)(itv:Value)(s2:Shared):Prop:=
 ∃(it:Addr)(fp:LA)(tn:Nat->Heap->Prop)(J:It)(H':Hp),itv=.ref it/\Inv X pins σ H' s2/\Turn X.prog X.w X.K tg J fp it tn/\tn 0 s2.heap/\(∀b∈fp,FpOk X pins H' b)/\R J H'
def PI(X:Cx)(tg iter:Expr)(wi:TI):Prop:=
 ∀(pins:PN)(s:Shared)(σ:St)(H:Hp)(R:It->Hp->Prop),Inv X pins σ H s->wi σ H R ->
  wpAny (model X.prog X.w) X.A (eval iter X.env) (λv s1=>wpAny (model X.prog X.w) X.A (pyIter v) (PIE X pins σ tg R) X.xe s1) X.xe s
theorem Am {M:Model}{A:Around}{E:VP}{s:Shared}{c:Expr}{b:Addr}{u:Value}{o:Obj}{n:String}{vs:Array Value}{Q:Unit->Shared->Prop}(g:s.heap.get? b=some o)(e:o.cls=.type n)(f:o.data=.fields vs)
    (d:["enumerate","zip","dict_itemiterator","dict_reverseitemiterator","odict_iterator","itertools.zip_longest","itertools.pairwise"].contains n=false)(a:Q () s):wpAny M A (letOwnedTupleGo c (.ref b) u) Q E s:=by
  unfold letOwnedTupleGo;cases c <;> first
    |exact zB a
    |(cases u <;> first
        |exact zB a
        | (refine zA (wpAny_load g ?_)
           rw[e,f];show wpAny M A (if(["enumerate","zip","dict_itemiterator","dict_reverseitemiterator","odict_iterator","itertools.zip_longest","itertools.pairwise"].contains n && vs[0]? == some (rawInt _))=true then _ else _) Q E s;rw[zD (by intro h;rw[d,Bool.false_and]at h;cases h)];exact zB a))
noncomputable def Itl(K:Frag)(a:Addr):It:=
 ⟨λi H=>∃xs x,SqL K H a xs/\xs[i]?=some x,λi H x H'=>H'=H/\∀xs,SqL K H a xs->xs[i]?=some x,λi H=>∃xs,SqL K H a xs/\xs.length<=i⟩
noncomputable def Itt(K:Frag)(a:Addr):It:=
 ⟨λi H=>∃xs x,SqT K H a xs/\xs[i]?=some x,λi H x H'=>H'=H/\∀xs,SqT K H a xs->xs[i]?=some x,λi H=>∃xs,SqT K H a xs/\xs.length<=i⟩
noncomputable def Itr(lo:Int)(n:Nat):It:=⟨λi _=>i<n,λi H x H'=>H'=H/\x=.int (lo+i),λi _=>n<=i⟩
theorem Nv{P:Program}{w:World}{K:Frag}{U:Expr}(a g:Addr):Turn P w K U (Itl K a) [g] g (λi h=>h.IsListIter g a i) where
 mem:=by simp
 obj:=λi h st b f=>by
  have e:b=g:=by simpa using f
  subst e;obtain⟨o,e,c,d⟩:=st;exact⟨o,e,λv z=>by rw[d]at z;cases z⟩
 keep:=λi h h' st k=>st.at λo e=>k g (by simp) o e
 item:=by
  intro X q r C M i O s L H E I j st y;subst q r C;obtain⟨xs,x,l,m⟩:=y;obtain⟨its,J,p,T⟩:=I.list l;obtain⟨u,Z,a0⟩:=J.get m;obtain⟨n,D,V,F,t,G⟩:=j g (by simp);refine wpAny_pyNext_list_item st p.isList (x:=u) (by simpa using Z) λh' N R=>?_;have Y:Inv X O L H {s with heap:=h'}:=I.turned (t':=s.toks) (λb o f e=>(R.2 b f).trans e) n D F t G;obtain⟨o,e,c,d⟩:=id N;exact⟨u,rfl,Am (s:={s with heap:=h'}) e c d ∅ ⟨x,H,Y,a0,⟨rfl,λys W=>by rw[I.list_inj W l];exact m⟩,N,λb f=>(j b f).1⟩⟩
 done:=by
  intro X q r C M i O s L H E I j st y;subst q r C;obtain⟨xs,l,m⟩:=y;obtain⟨its,J,p,T⟩:=I.list l;obtain⟨n,D,V,F,t,G⟩:=j g (by simp);have hl:=J.length;exact wpAny_pyNext_list_end (I.ok.hd M) st p.isList (by simp;omega) λh' S=>⟨rfl,I.turned (t':=s.toks) (λb o f e=>S b o f e) n D F t G⟩
 self:=λ_ _ _ _ _ st h=>wpAny_pyIter_listiter st h
theorem Nu{P:Program}{w:World}{K:Frag}{U:Expr}(a g:Addr):Turn P w K U (Itt K a) [g] g (λi h=>h.IsTupleIter g a i) where
 mem:=by simp
 obj:=λi h st b f=>by
  have e:b=g:=by simpa using f
  subst e;obtain⟨o,e,c,d⟩:=st;exact⟨o,e,λv z=>by rw[d]at z;cases z⟩
 keep:=λi h h' st k=>st.at λo e=>k g (by simp) o e
 item:=by
  intro X q r C M i O s L H E I j st y;subst q r C;obtain⟨xs,x,l,m⟩:=y;obtain⟨its,J,p,T⟩:=I.tuple l;obtain⟨u,Z,a0⟩:=J.get m;obtain⟨n,D,V,F,t,G⟩:=j g (by simp);refine wpAny_pyNext_tuple_item st (show s.heap.IsTuple a its.toArray from p) (x:=u) (by simpa using Z) λh' N R=>?_;have Y:Inv X O L H {s with heap:=h'}:=I.turned (t':=s.toks) (λb o f e=>(R.2 b f).trans e) n D F t G;obtain⟨o,e,c,d⟩:=id N;exact⟨u,rfl,Am (s:={s with heap:=h'}) e c d ∅ ⟨x,H,Y,a0,⟨rfl,λys W=>by rw[I.tuple_inj W l];exact m⟩,N,λb f=>(j b f).1⟩⟩
 done:=by
  intro X q r C M i O s L H E I j st y;subst q r C;obtain⟨xs,l,m⟩:=y;obtain⟨its,J,p,T⟩:=I.tuple l;obtain⟨n,D,V,F,t,G⟩:=j g (by simp);have hl:=J.length;exact wpAny_pyNext_tuple_end (I.ok.hd M) st (show s.heap.IsTuple a its.toArray from p) (by simp;omega) λh' S=>⟨rfl,I.turned (t':=s.toks) (λb o f e=>S b o f e) n D F t G⟩
 self:=λ_ _ _ _ _ st h=>wpAny_pyIter_tupleiter st h
theorem Nt{P:Program}{w:World}{K:Frag}{J:Expr}(a:Addr)(lo:Int)(n:Nat):Turn P w K J (Itr lo n) [a] a (λi h=>IsRangeIter h a (lo+(i:Nat)*1) ((n:Int)-(i:Nat)) 1) where
 mem:=by simp
 obj:=λi h st b c=>by
  have e:b=a:=by simpa using c
  subst e;exact⟨_,st,λv z=>by
   have O:Data.fields _=Data.cell v:=z;cases O⟩
 keep:=λi h h' st k=>k a (by simp) _ st
 item:=by
  intro X g j q l i C s x H E I d st p;subst g j q;obtain⟨f,r,L,t,m,u⟩:=d a (by simp);have W:=Walks.range (prog:=X.prog) (w:=X.w) (I.ok.hd l) a lo 1 n;refine W.item i s _ _ p st λv h' tk N y D=>?_;obtain⟨G,rfl⟩:=N;have M:Inv X C x H {s with heap:=h',toks:=tk}:=I.turned (λb o c e=>D b o (by simpa using c) e) f r t m u;refine⟨_,rfl,Am (s:={s with heap:=h',toks:=tk}) (n:= "range_iterator") y rfl rfl ∅ ⟨.int (lo+i),H,M,⟨G,?_⟩,⟨rfl,rfl⟩,y,λb c=>(d b c).1⟩⟩;rw[rT]
 done:=by
  intro X g j q l i C s x H E I d st p;subst g j q;obtain⟨f,r,L,t,m,u⟩:=d a (by simp);exact wpAny_pyNext_range_end (I.ok.hd l) st (by have:n<=i:=p;omega) λh' F=>⟨rfl,I.turned (t':=s.toks) (λb o c e=>F b o c e) f r t m u⟩
 self:=λ_ _ _ _ _ st h=>wpAny_pyIter_rangeiter st h
section
variable {X:Cx} {tg:Expr}
theorem Fv{f:PN}{d:St}{H:Hp}{s:Shared}{R:It->Hp->Prop}{E:VP}{lo hi:Int}{a u v:Tok}{tk:Nat}(I:Inv X f d H s)(m:-(2^62)<=lo)(l:lo<2^62)(j:-(2^62)<=hi)(k:hi<2^62)
  (q:R (Itr lo (hi-lo).toNat) H):wpAny (model X.prog X.w) X.A (pyIter (.ref s.heap.objs.size)) (PIE X f d tg R) E {s with heap:=s.heap.push {cls:=.type "range",data:=.fields #[.int lo a,.int hi u,.int 1 v]},toks:=tk}:=by
 refine wpAny_pyIter_range (IsRange.new ..) (small_one m l j k) ?_;have c:Inv X f d H {s with heap:=s.heap.push {cls:=.type "range",data:=.fields #[.int lo a,.int hi u,.int 1 v]},toks:=tk}:=I.kept λb o e=>zC _ e;refine⟨(s.heap.push {cls:=.type "range",data:=.fields #[.int lo a,.int hi u,.int 1 v]}).objs.size,[(s.heap.push {cls:=.type "range",data:=.fields #[.int lo a,.int hi u,.int 1 v]}).objs.size],_,_,H,rfl,
  c.kept (t':=tk) λb o e=>zC _ e,Nt _ lo (hi-lo).toNat,?_,λb i=>?_,q⟩
 ·have e1:lo+((0:Nat):Int)*1=lo:=by simp
  have g:(((hi-lo).toNat:Nat):Int)-((0:Nat):Int)=Builtin.Range.rangeSize lo hi 1:=by rw[rangeSize_one];split <;> omega
  show IsRangeIter _ _ (lo+((0:Nat):Int)*1) ((((hi-lo).toNat:Nat):Int)-((0:Nat):Int)) 1;rw[e1,g];exact zS _ rfl
 ·have e:b=(s.heap.push {cls:=.type "range",data:=.fields #[.int lo a,.int hi u,.int 1 v]}).objs.size:=by simpa using i
  subst e;exact c.fpOk (zE _) (c.hok.fresh (zE _))
def nU(ta:TA):TI:=λσ H R=>ta σ H λvs H1=>∃j:Int,vs=[.int j]/\-(2^62)<=j/\j<2^62/\R (Itr 0 j.toNat) H1
def Fu(ta:TA):TI:=λσ H R=>ta σ H λvs H1=>∃i j:Int,vs=[.int i,.int j]/\(-(2^62)<=i/\i<2^62/\-(2^62)<=j/\j<2^62)/\R (Itr i (j-i).toNat) H1
theorem mF{a:Expr}{d:TA}{p c:Pos}(i:Gl X "range")(f:X.mg "range"=none)(k:PA X [a] d)(m:starEach [a] X.env=[(false,eval a X.env)]:=by rfl):PI X tg (.Call (.Name "range" p) [a] [] c) (nU d):=by
 intro n s l H R I h;refine Call_ (iD I i f boot_range (xP (thn (k c n s l H _ I h) ?_) m rfl));rintro us w ⟨vs,u,g,r1,b⟩;obtain⟨j,e,b,t,q⟩:=b;subst e;cases r1 with
 |cons r o =>
  cases o;obtain⟨v,rfl⟩:=r;exact call_range_1 (Fv g ⋯ ⋯ b t (by simpa using q))
theorem Nr{a b:Expr}{g:TA}{p f:Pos}(t:Gl X "range")(x:X.mg "range"=none)(l:PA X [a,b] g)(u:starEach [a,b] X.env=[(false,eval a X.env),(false,eval b X.env)]:=by rfl)(k:starEach [b] X.env=[(false,eval b X.env)]:=by rfl):
  PI X tg (.Call (.Name "range" p) [a,b] [] f) (Fu g):=by
 intro w s m H R I h;refine Call_ (iD I t x boot_range (xP (thn (l f w s m H _ I h) ?_) (by rw[u,k]) (by rw[k];rfl)));rintro us F ⟨vs,C,y,r1,d⟩;obtain⟨i,j,e,⟨d,z,n,v⟩,q⟩:=d;subst e;cases r1 with
 | cons r c =>
  cases c with
  |cons o c =>
   cases c;obtain⟨D,rfl⟩:=r;obtain⟨t',rfl⟩:=o;exact call_range_2 (Fv y d z n v q)
def tFor(wi:TI)(g:TG)(tb:TS):TS:=λD σ H=>wi σ H λJ H1=>∃W:Nat->Nat->St->Hp->Prop,(∃m,W 0 m σ H1)/\∀i m σ H,W i m σ H ->
 (J.stop i H/\D.nx σ H)\/(J.go i H/\∃N:St->Hp->Prop,(∀σ' H',N σ' H'->∃m',m'<m/\W (i+1) m' σ' H')/\∀x H',J.yld i H x H'->g x σ H' λσ2 H2=>tb {D with nx:=N,ct:=N,bk:=D.nx} σ2 H2)
noncomputable def dH(fp:LA)(h:Heap):PN:=fp.filterMap λb=>(h.get? b).map λo=>(b,o)
theorem cZ{a:LA}{h:Heap}{b:Addr}{o:Obj}(c:b∈a)(e:h.get? b=some o):(b,o)∈dH a h:=oG.mpr ⟨b,c,by rw[e];rfl⟩
theorem Nq{a:LA}{h:Heap}{p:Addr×Obj}(f:p∈dH a h):p.1∈a/\h.get? p.1=some p.2:=by
 obtain⟨b,d,e⟩:=oG.mp f;cases q:h.get? b with
 |none=>rw[q]at e;cases e
 |some o =>
  rw[q]at e;have c:(b,o)=p:=zW e;subst c;exact⟨d,q⟩
theorem Inv.pinned{c:PN}{i:St}{H:Hp}{s:Shared}{a:LA}(I:Inv X c i H s)(l:∀b∈a,FpOk X c H b)(n:∀b∈a,∃o,s.heap.get? b=some o/\∀v,o.data≠.cell v):Inv X (c++dH a s.heap) i H s:=
 I.pins_of λp q=>(oF.mp q).elim (λz=>I.pin p (yO _ z)) λz=>by
  obtain⟨f,e⟩:=Nq z;obtain⟨k,m,j,_⟩:=l p.1 f;obtain⟨o,g,d⟩:=n p.1 f;rw[e]at g;cases g;exact⟨e,k,m,j,d⟩
theorem Inv.unpinned{a pl:PN}{b:St}{H:Hp}{s:Shared}(I:Inv X (a++pl) b H s):Inv X a b H s:=I.pins_of λp c=>I.pin p (yO _ (xU _ c))
theorem mQ{F:Expr}{body:List Stmt}{R:TI}{g:TG}{tb:TS}{a8:Pos}(w:PassesOwn (model X.prog X.w) X.A X.env X.xe)(O:X.calm=true)(hi:PI X tg F R)(c2:PG X tg g)(j:PSs X body tb)
  (c3:∀x,foldedSetIterable F X.env x=pure x:=by intro _;rfl):PS X (.For tg F body [] a8) (tFor R g tb):=by
 intro p s L H D I h;refine wpAny_For (thn (hi p s L H _ I h) λv d8 d4=>thn d4 λd7 d9 c4=>?_) c3;obtain⟨e0,y,S,d6,a4,e,c6,T,b8,a1,W,⟨b5,d2⟩,b4⟩:=c4;subst e
 -- what stays true of the iterator's objects through the loop
 have J:∀{H':Hp},(∀b∈y,H' b=none)->∀b∈y,FpOk X p H' b:=λb9 b j=>⟨b9 b j,(a1 b j).2⟩;refine codeAny_forLoop_any (λn a0=>∃i z H',Inv X p z H' a0/\S i a0.heap/\(∀b∈y,H' b=none)/\W i n z H') ?_ b5 ⟨0,L,a4,c6,b8,λb j=>(a1 b j).1,d2⟩;rintro n M ⟨i,q,C,Z,U,P,c5⟩;rcases b4 i n q C c5 with⟨stop,a7⟩|⟨go,N,b3,step⟩
 ·refine vO w (thn (T.done X rfl rfl rfl O i p M q C X.xe Z (J P) U stop) ?_);rintro r c9 ⟨hr,d5⟩;subst hr;exact tU ⟨q,C,d5,a7⟩
 ·refine vO w (thn (T.item X rfl rfl rfl O i p M q C X.xe Z (J P) U go) ?_);rintro r c9 ⟨u,hr,a5⟩;subst hr;refine vO w (thn a5 ?_);rintro _ a2 ⟨x,V,b0,b7,c7,K,a6⟩;have b6:=b0.pinned (J a6) (T.obj _ _ K);refine vO w (thn (c2 _ a2 q V x u _ b6 b7 (step x V c7)) ?_);rintro _ c1 ⟨b2,d0,b1,d1⟩;refine vO w (thn (j _ c1 b2 d0 _ b1 d1) λf G l=>?_);have Y:∀{a:St}{c:Hp},Inv X (p++dH y a2.heap) a c G->N a c->∃m,m<n/\∃i z H',Inv X p z H' G/\S i G.heap/\(∀b∈y,H' b=none)/\W i m z H':=λ{a c}k t=>by
   obtain⟨a9,c8,d3⟩:=b3 a c t;refine⟨a9,c8,i+1,a,c,k.unpinned,T.keep _ _ _ K λb j o e=>(k.pin (b,o) (yO _ (yO _ (cZ j e)))).1,λb j=>?_,d3⟩;obtain⟨o,e,d⟩:=T.obj _ _ K b j;exact(k.pin (b,o) (yO _ (yO _ (cZ j e)))).2.1
  cases f with
  |next=>obtain⟨a,c,k,t⟩:=l;exact Y k t
  |cont=>obtain⟨a,c,k,t⟩:=l;exact Y k t
  |brk=>obtain⟨a,c,k,l⟩:=l;exact⟨a,c,k.unpinned,l⟩
  |ret v=>obtain⟨c0,a,c,k,a3,l⟩:=l;exact⟨c0,a,c,k.unpinned,a3,l⟩
end
theorem Np{K:Frag}{a:Addr}{xs:List V}{g:TG}{tb:TS}{D:Ends}{b:St}{H:Hp}(c:Nat->St->Hp->Prop)(r:c 0 b H)(hl:∀i b H,i<=xs.length->c i b H->SqL K H a xs)
  (t:∀i x b H,xs[i]?=some x->c i b H->g x b H λf d=>tb {D with nx:=c (i+1),ct:=c (i+1),bk:=D.nx} f d)(o:∀b H,c xs.length b H->D.nx b H):
  ∃W:Nat->Nat->St->Hp->Prop,(∃m,W 0 m b H)/\∀i m b H,W i m b H ->
   ((Itl K a).stop i H/\D.nx b H)\/((Itl K a).go i H/\∃N:St->Hp->Prop,(∀j H',N j H'->∃k,k<m/\W (i+1) k j H')/\∀x H',(Itl K a).yld i H x H'->g x b H' λf d=>tb {D with nx:=N,ct:=N,bk:=D.nx} f d):=by
 refine⟨λi m b H=>m=xs.length-i/\i<=xs.length/\c i b H,⟨xs.length,by simp,yB _,r⟩,?_⟩;rintro i m b H ⟨rfl,hi,p⟩;have q:=hl i b H hi p
 by_cases l:i<xs.length
 ·refine .inr ⟨⟨xs,xs[i],q,by simp[l]⟩,c (i+1),λj H' n=>⟨xs.length-(i+1),⋯,rfl,l,n⟩,λx H' y=>?_⟩;obtain⟨e,y⟩:=y;subst e;exact t i x b _ (y xs q) p
 ·have e:i=xs.length:=⋯
  subst e;exact .inl ⟨⟨xs,q,zE _⟩,o b H p⟩
theorem No{K:Frag}{a:Addr}{xs:List V}{g:TG}{tb:TS}{D:Ends}{b:St}{H:Hp}(c:Nat->St->Hp->Prop)(r:c 0 b H)(hl:∀i b H,i<=xs.length->c i b H->SqT K H a xs)
  (t:∀i x b H,xs[i]?=some x->c i b H->g x b H λf d=>tb {D with nx:=c (i+1),ct:=c (i+1),bk:=D.nx} f d)(o:∀b H,c xs.length b H->D.nx b H):
  ∃W:Nat->Nat->St->Hp->Prop,(∃m,W 0 m b H)/\∀i m b H,W i m b H ->
   ((Itt K a).stop i H/\D.nx b H)\/((Itt K a).go i H/\∃N:St->Hp->Prop,(∀j H',N j H'->∃k,k<m/\W (i+1) k j H')/\∀x H',(Itt K a).yld i H x H'->g x b H' λf d=>tb {D with nx:=N,ct:=N,bk:=D.nx} f d):=by
 refine⟨λi m b H=>m=xs.length-i/\i<=xs.length/\c i b H,⟨xs.length,by simp,yB _,r⟩,?_⟩;rintro i m b H ⟨rfl,hi,p⟩;have q:=hl i b H hi p
 by_cases l:i<xs.length
 ·refine .inr ⟨⟨xs,xs[i],q,by simp[l]⟩,c (i+1),λj H' n=>⟨xs.length-(i+1),⋯,rfl,l,n⟩,λx H' y=>?_⟩;obtain⟨e,y⟩:=y;subst e;exact t i x b _ (y xs q) p
 ·have e:i=xs.length:=⋯
  subst e;exact .inl ⟨⟨xs,q,zE _⟩,o b H p⟩
theorem Nn{lo:Int}{n:Nat}{g:TG}{tb:TS}{D:Ends}{a:St}{H:Hp}(b:Nat->St->Hp->Prop)(r:b 0 a H)
  (q:∀i a H,i<n->b i a H->g (.int (lo+i)) a H λf d=>tb {D with nx:=b (i+1),ct:=b (i+1),bk:=D.nx} f d)(o:∀a H,b n a H->D.nx a H):
  ∃W:Nat->Nat->St->Hp->Prop,(∃m,W 0 m a H)/\∀i m a H,W i m a H ->
   ((Itr lo n).stop i H/\D.nx a H)\/((Itr lo n).go i H/\∃N:St->Hp->Prop,(∀j H',N j H'->∃k,k<m/\W (i+1) k j H')/\∀x H',(Itr lo n).yld i H x H'->g x a H' λf d=>tb {D with nx:=N,ct:=N,bk:=D.nx} f d):=by
 refine⟨λi m a H=>m=n-i/\i<=n/\b i a H,⟨n,by simp,yB _,r⟩,?_⟩;rintro i m a H ⟨rfl,hi,p⟩
 by_cases c:i<n
 ·refine .inr ⟨c,b (i+1),λj H' l=>⟨n-(i+1),⋯,rfl,c,l⟩,λx H' y=>?_⟩;obtain⟨e,y⟩:=y;subst e y;exact q i a _ c p
 ·have e:i=n:=⋯
  subst e;exact .inl ⟨zE _,o a H p⟩
abbrev R2:=V->V->Hp->VK->Prop
def OpR(X:Cx)(f:Value->Value->Sem Value)(r:R2):Prop:=
 ∀(pins:PN)(s:Shared)(σ:St)(H:Hp)(x y:V)(v u:Value)(Q:VK),Inv X pins σ H s->RelV x v->RelV y u->r x y H Q ->
  wpAny (model X.prog X.w) X.A (f v u) (EP X pins σ Q) X.xe s
def UnR(X:Cx)(f:Value->Sem Value)(r:V->Hp->VK->Prop):Prop:=
 ∀(pins:PN)(s:Shared)(σ:St)(H:Hp)(x:V)(v:Value)(Q:VK),Inv X pins σ H s->RelV x v->r x H Q ->
  wpAny (model X.prog X.w) X.A (f v) (EP X pins σ Q) X.xe s
def lK(X:Cx)(f:Value)(r:List V->Hp->VK->Prop):Prop:=
 ∀(pins:PN)(s:Shared)(σ:St)(H:Hp)(xs:List V)(us:LW)(Q:VK),Inv X pins σ H s->Vals xs us->r xs H Q ->
  wpAny (model X.prog X.w) X.A (call f us) (EP X pins σ Q) X.xe s
def tOp(r:R2)(ta tb:TE):TE:=λσ H Q=>ta σ H λx H1=>tb σ H1 λy H2=>r x y H2 Q
def tUn(r:V->Hp->VK->Prop)(ta:TE):TE:=λσ H Q=>ta σ H λx H1=>r x H1 Q
def rI(C:Int->Int->Prop)(g:Int->Int->V):R2:=λx y H Q=>∃i j,x=.int i/\y=.int j/\C i j/\Q (g i j) H
def rI0(g:Int->Int->V):R2:=λx y H Q=>∃i j,x=.int i/\y=.int j/\Q (g i j) H
def rU(g:Int->V):V->Hp->VK->Prop:=λx H Q=>∃i,x=.int i/\Q (g i) H
section
variable {X:Cx} {a b c:Expr} {ta tb tc:TE} {pos:Pos}
theorem binT(q:PE X a ta)(k:PE X b tb){i:PN}{s:Shared}{e:St}{H:Hp}{R:V->V->Hp->Prop}(I:Inv X i e H s)
  (h:ta e H λx j=>tb e j λy d=>R x y d){Q:VP}{f:Value->Value->Sem Value}
  (p:∀v u g x y d,Inv X i e d g->RelV x v->RelV y u->R x y d->wpAny (model X.prog X.w) X.A (f v u) Q X.xe g):
  wpAny (model X.prog X.w) X.A (eval a X.env) (λv l=>wpAny (model X.prog X.w) X.A (eval b X.env) (λu t=>wpAny (model X.prog X.w) X.A (f v u) Q X.xe t) X.xe l) X.xe s:=by
 refine thn (q i s e H _ I h) ?_;rintro v n ⟨x,j,o,r1,m⟩;refine thn (k i n e j _ o m) ?_;rintro u g ⟨y,d,r,r2,w⟩;exact p v u g x y d r r1 r2 w
theorem oS{op:Operator}{r:R2}(n:OpR X (binaryOp op) r)(g:PE X a ta)(d:PE X b tb):PE X (.BinOp a op b pos) (tOp r ta tb):=by
 intro l s i H Q I h;exact wpAny_BinOp (binT g d I h λv u j x y e k f m q=>n l j i e x y v u Q k f m q)
theorem gO{op:UnaryOp}{r:V->Hp->VK->Prop}(l:UnR X (unaryOp op) r)(i:PE X a ta):PE X (.UnaryOp op a pos) (tUn r ta):=by
 intro e s d H Q I h;exact UnaryOp_ (thn (i e s d H _ I h) λv k⟨x,j,g,r1,f⟩=>l e k d j x v Q g r1 f)
theorem opI{f:Value->Value->Sem Value}{C:Int->Int->Prop}{g:Int->Int->Int}
  (k:∀(i j:Int)(d u:Tok)(s:Shared)(Q:VP)(E:VP),C i j->Q (.int (g i j) s.toks) {s with toks:=s.toks+1}->wpAny (model X.prog X.w) X.A (f (.int i d) (.int j u)) Q E s):
  OpR X f (rI C λi j=>.int (g i j)):=by
 intro o s n H x y v u Q I l m h;obtain⟨i,j,rfl,rfl,e,q⟩:=h;obtain⟨d,rfl⟩:=l;obtain⟨t',rfl⟩:=m;exact k i j d t' s _ _ e ⟨.int (g i j),H,I.tok _,⟨_,rfl⟩,q⟩
theorem opI0{f:Value->Value->Sem Value}{g:Int->Int->Int}
  (e:∀(i j:Int)(d u:Tok)(s:Shared)(Q:VP)(E:VP),Q (.int (g i j) s.toks) {s with toks:=s.toks+1}->wpAny (model X.prog X.w) X.A (f (.int i d) (.int j u)) Q E s):
  OpR X f (rI0 λi j=>.int (g i j)):=by
 intro n s m H x y v u Q I k l h;obtain⟨i,j,rfl,rfl,q⟩:=h;obtain⟨d,rfl⟩:=k;obtain⟨t',rfl⟩:=l;exact e i j d t' s _ _ ⟨.int (g i j),H,I.tok _,⟨_,rfl⟩,q⟩
theorem opB0{f:Value->Value->Sem Value}{g:Int->Int->Bool}
  (e:∀(i j:Int)(d u:Tok)(s:Shared)(Q:VP)(E:VP),Q (.bool (g i j)) s->wpAny (model X.prog X.w) X.A (f (.int i d) (.int j u)) Q E s):
  OpR X f (rI0 λi j=>.bl (g i j)):=by
 intro n s m H x y v u Q I k l h;obtain⟨i,j,rfl,rfl,q⟩:=h;obtain⟨d,rfl⟩:=k;obtain⟨t',rfl⟩:=l;exact e i j d t' s _ _ ⟨.bl (g i j),H,I,rfl,q⟩
def CPow(i j:Int):Prop:=0<=j/\j<=1000000/\i.natAbs<2^64
def CMul(i j:Int):Prop:=(-(2^64)<i/\i<2^64)\/(-(2^64)<j/\j<2^64)
theorem CMul.ok{i j:Int}(h:CMul i j):IntMulOk i j:=by
 rcases h with⟨e,d⟩|⟨e,d⟩
 ·exact .of_left (intBits_le_64 e d)
 ·exact .of_right (intBits_le_64 e d)
theorem mJ:OpR X (binaryOp .Add) (rI0 λi j=>.int (i+j)):=opI0 λ_ _ _ _ _ _ _ q=>add_int q
theorem kO:OpR X (binaryOp .Sub) (rI0 λi j=>.int (i-j)):=opI0 λ_ _ _ _ _ _ _ q=>sub_int q
theorem kG:OpR X (binaryOp .Mod) (rI (λ_ j=>j≠0) λi j=>.int (i.fmod j)):=opI λ_ _ _ _ _ _ _ d q=>mod_int' d q
theorem gP:OpR X (binaryOp .Pow) (rI CPow λi j=>.int (i^j.toNat)):=opI λ_ _ _ _ _ _ _ d q=>pow_int_small d.1 d.2.1 d.2.2 q
theorem unI{f:Value->Sem Value}{g:Int->Int}
  (e:∀(i:Int)(d:Tok)(s:Shared)(Q:VP)(E:VP),Q (.int (g i) s.toks) {s with toks:=s.toks+1}->wpAny (model X.prog X.w) X.A (f (.int i d)) Q E s):
  UnR X f (rU λi=>.int (g i)):=by
 intro l s k H x v Q I j h;obtain⟨i,rfl,q⟩:=h;obtain⟨d,rfl⟩:=j;exact e i d s _ _ ⟨.int (g i),H,I.tok _,⟨_,rfl⟩,q⟩
theorem gQ:UnR X (unaryOp .USub) (rU λi=>.int (-i)):=unI λ_ _ _ _ _ q=>neg_int q
end
noncomputable def scal:V->V->Bool
 |.non,.non=>true|.non,.int _=>true|.int _,.non=>true|.non,.bl _=>true|.bl _,.non=>true|.non,.str _=>true|.str _,.non=>true
 |.int _,.int _=>true|.bl _,.bl _=>true|.str _,.str _=>true|.byt _,.byt _=>true
 |.int _,.str _=>true|.str _,.int _=>true|.bl _,.str _=>true|.str _,.bl _=>true
 |_,_=>false
def rEq:R2:=λx y H Q=>scal x y=true/\Q (.bl (decide (x=y))) H
theorem Nm{i j:Int}:decide (V.int i=V.int j)=(i == j):=by
 rw[rF];simp
theorem Nl{i j:Bool}:decide (V.bl i=V.bl j)=(i == j):=by
 rw[rF];simp
theorem Nk{i j:Str}:decide (V.str i=V.str j)=(i == j):=by
 rw[rF];simp
theorem Nj{i j:Array UInt8}:decide (V.byt i=V.byt j)=(i.toList == j.toList):=by
 rw[rF];cases i;cases j;simp
section
variable {X:Cx} {a b c:Expr} {ta tb tc:TE} {pos:Pos}
theorem lE{d:PN}{f:St}{H:Hp}{s:Shared}{Q:VK}{k g:Bool}(I:Inv X d f H s)(q:Q (.bl k) H)(e:k=g):EP X d f Q (.bool g) s:=by
 subst e;exact⟨.bl k,H,I,rfl,q⟩
theorem Ni:OpR X (compareOp .Eq) rEq:=by
 intro l s k H x y v u Q I f d h;obtain⟨e,q⟩:=h;cases x with
 |non =>
  cases f;cases y with
  |non=>cases d;exact PySem.EqNone.eq_none_none (lE I q (by simp))
  |bl j=>cases d;exact PySem.EqNone.eq_none_bool (lE I q (by simp))
  |int j=>obtain⟨t',rfl⟩:=d;exact PySem.EqNone.eq_none_int (lE I q (by simp))
  |str j=>obtain⟨t',rfl⟩:=d;exact PySem.EqNone.eq_none_str (lE I q (by simp))
  |_=>exact absurd (show false=true from e) zX
 |bl i =>
  cases f;cases y with
  |non=>cases d;exact PySem.EqNone.eq_bool_none (lE I q (by simp))
  |bl j=>cases d;exact eq_bool (lE I q Nl)
  |str j=>obtain⟨t',rfl⟩:=d;exact PySem.EqMixed.eq_bool_str (lE I q (by simp))
  |_=>exact absurd (show false=true from e) zX
 |int i =>
  obtain⟨g,rfl⟩:=f;cases y with
  |non=>cases d;exact PySem.EqNone.eq_int_none (lE I q (by simp))
  |int j=>obtain⟨t',rfl⟩:=d;exact eq_int (lE I q Nm)
  |str j=>obtain⟨t',rfl⟩:=d;exact PySem.EqMixed.eq_int_str (lE I q (by simp))
  |_=>exact absurd (show false=true from e) zX
 |str i =>
  obtain⟨g,rfl⟩:=f;cases y with
  |non=>cases d;exact PySem.EqNone.eq_str_none (lE I q (by simp))
  |bl j=>cases d;exact PySem.EqMixed.eq_str_bool (lE I q (by simp))
  |int j=>obtain⟨t',rfl⟩:=d;exact PySem.EqMixed.eq_str_int (lE I q (by simp))
  |str j=>obtain⟨t',rfl⟩:=d;exact eq_str (lE I q Nk)
  |_=>exact absurd (show false=true from e) zX
 |byt i =>
  obtain⟨g,rfl⟩:=f;cases y with
  |byt j=>obtain⟨t',rfl⟩:=d;exact PySem.W.eq_bytes (lE I q Nj)
  |_=>exact absurd (show false=true from e) zX
 |_=>cases y <;> exact absurd (show false=true from e) zX
theorem bA:OpR X (compareOp .Lt) (rI0 λi j=>.bl (decide (i<j))):=opB0 λ_ _ _ _ _ _ _ q=>lt_int q
theorem bB:OpR X (compareOp .Gt) (rI0 λi j=>.bl (decide (j<i))):=opB0 λ_ _ _ _ _ _ _ q=>gt_int q
theorem Nh:OpR X (compareOp .GtE) (rI0 λi j=>.bl (decide (j<=i))):=opB0 λ_ _ _ _ _ _ _ q=>ge_int q
theorem bD:OpR X (compareOp .Is) (λx y H Q=>y=.non/\Q (.bl (decide (x=.non))) H):=by
 intro i s f H x y v u Q I d e h;obtain⟨rfl,q⟩:=h;cases e;refine is_none_gen (lE I q ?_);cases x <;> first
  |(cases d;rfl)
  |(obtain⟨g,rfl⟩:=d;rfl)
theorem Ft:OpR X (compareOp .IsNot) (λx y H Q=>y=.non/\Q (.bl (!decide (x=.non))) H):=by
 intro i s f H x y v u Q I d e h;obtain⟨rfl,q⟩:=h;cases e;refine isnot_none_gen (lE I q ?_);cases x <;> first
  |(cases d;rfl)
  |(obtain⟨g,rfl⟩:=d;rfl)
theorem nD(b:Expr){op:CmpOp}(h:op≠.In:=by decide)(e:op≠.NotIn:=by decide):behindInMarks op b=false:=by
 have e1:(op == CmpOp.In)=false:=by cases op <;> first|rfl|exact absurd rfl h
 have d:(op == CmpOp.NotIn)=false:=by cases op <;> first|rfl|exact absurd rfl e
 cases b <;> simp[behindInMarks,e1,d]
theorem jD{op:CmpOp}{r:R2}(o:OpR X (compareOp op) r)(i:PE X a ta)(e:PE X b tb)(d:behindInMarks op b=false):PE X (.Compare a [op] [b] pos) (tOp r ta tb):=by
 intro m s j H Q I h;exact wpAny_Compare1 (binT i e I h λv u k x y f l g n q=>o m k j f x y v u Q l g n q) d
def bE(t:TE):TT:=λσ H Q=>t σ H λx H'=>∃k,x=.bl k/\Q k H'
theorem nH{op:CmpOp}{r:R2}(l:OpR X (compareOp op) r)(i:PE X a ta)(t:PE X b tb)(q:behindInMarks op b=false):PT X (.Compare a [op] [b] pos) (bE (tOp r ta tb)):=by
 intro f s d H Q I h;refine wpAny_isTrue_Compare1 (thn (i f s d H _ I h) λv G⟨x,j,C,r1,w⟩=>thn (t f G d j _ C w) λu F⟨y,g,o,r2,J⟩ =>
  thn (l f F d g x y v u _ o r1 r2 J) λc K⟨z,D,p,n,k,e,m⟩=>?_) q
 subst e;cases n;exact uR ⟨D,p,m⟩
theorem bF:(sizeLine:Nat)<2^63:=by rw[sizeLine_eq];decide
theorem jE{x:V}{us:LW}(r:Vals [x] us):∃u,us=[u]/\RelV x u:=by
 cases r with
 |cons r1 r2=>cases r2;exact⟨_,rfl,r1⟩
theorem dI:lK X (.builtin "abs") (λxs H Q=>∃i,xs=[.int i]/\Q (.int (if i<0 then -i else i)) H):=by
 intro d s e H xs us Q I r h;obtain⟨i,rfl,q⟩:=h;obtain⟨u,rfl,f,rfl⟩:=jE r;exact call_abs_int λu tk=>⟨.int (if i<0 then -i else i),H,I.tok _,⟨_,rfl⟩,q⟩
theorem Fs:lK X (.type "int") (λxs H Q=>(∃i,xs=[.int i]/\Q (.int i) H)\/∃k,xs=[.bl k]/\Q (.int (if k then 1 else 0)) H):=by
 intro d s e H xs us Q I r h;rcases h with⟨i,rfl,q⟩|⟨k,rfl,q⟩
 ·obtain⟨u,rfl,f,rfl⟩:=jE r;exact call_int_int ⟨.int i,H,I,⟨_,rfl⟩,q⟩
 ·obtain⟨u,rfl,r1⟩:=jE r;cases r1;exact call_int_bool ⟨.int (if k then 1 else 0),H,I.tok _,⟨_,rfl⟩,q⟩
end
structure ObjM(h:Heap)(x dx C:Addr)(mA:MT):Prop where
 obj:h.get? x=some (PySem.W.instObj C dx)
 ns:h.Ns1 dx mA
 ne:dx≠x
theorem Ng{h:Heap}{b:Addr}{d:MT}(n:h.Ns1 b d):∃c,h.get? b=some c/\∀name,PySem.W.lookIn name c=some (d name):=by
 obtain⟨o,es,ep,l,k,m,_,g⟩:=n;refine⟨o,l,λname=>?_⟩;have e:=g name;unfold nsFind findBy at e;rw[←Array.find?_toList]at e;unfold PySem.W.lookIn;rw[k];dsimp only;split
 ·rename_i y q;rw[q]at e;exact wI some e
 ·rename_i q;rw[q]at e;have a:es.toList.any (·.refKey)=false:=by
   rw[List.any_eq_false];intro y f;obtain⟨z,p,j⟩:=m y (Array.mem_toList_iff.mp f);simp[DictEntry.refKey,j]
  have i:¬ es.toList.any (·.refKey)=true:=by rw[a];exact zX
  rw[zD i];exact wI some e
theorem ObjM.look{h:Heap}{x b C:Addr}{c:MT}(I:ObjM h x b C c):∃a,PySem.W.InstAt h x (PySem.W.instObj C b) C (some a)/\∀name,PySem.W.lookIn name a=some (c name):=
 let ⟨a,d,hl⟩:=Ng I.ns
 ⟨a,⟨I.obj,rfl,rfl,d⟩,hl⟩
section
variable {prog:Program} {w:World} {A:Around} {E:VP} {s:Shared} {K:Frag} {x dx C f:Addr} {mA:MT} {name:Str} {v:Value}
theorem Nf{b:Bool}{Q:VP}(X:K.In s.heap)(I:ObjM s.heap x dx C mA)(d:PySem.W.plainGet K C name=true)(hh:PySem.W.hasDictIn K C=true)
  (e:PySem.W.findIn K (.ref C) name=some none)(g:mA name=some v)(a:PySem.W.handedIn v=true)(h:Q v {s with toks:=s.toks+1}):
  wpAny (model prog w) A (getAttr (.ref x) name b) Q E s:=by
 obtain⟨i,c,hl⟩:=I.look;exact PySem.W.get_value X c (rQ d).1 (PySem.W.findObj_own hh e rfl (by rw[hl,g])) a h
theorem Nd{pl:Sem Bool}{Q:Value×LW->Shared->Prop}(X:K.In s.heap)(I:ObjM s.heap x dx C mA)(a:PySem.W.plainGet K C name=true)
  (d:PySem.W.findIn K (.ref C) name=some (some (.ref f)))(e:PySem.W.isFn K (.ref f)=true)(g:mA name=none)(h:Q (.ref f,[.ref x]) s):
  wpAny (model prog w) A (getMethod (.ref x) name pl) Q E s:=by
 obtain⟨b,c,hl⟩:=I.look;exact PySem.W.method_fn X c (rQ a).1 (rQ a).2 d (pW.mp e) (by show(PySem.W.lookIn name b).map (·.isSome)=some false;rw[hl,g];rfl) h
theorem Nc{ns:List Str}{Q:Unit->Shared->Prop}(X:K.In s.heap)(I:ObjM s.heap x dx C mA)
  (n:PySem.W.findIn K (.ref C) "__setattr__"=some (some (.builtin "object.__setattr__")))(p:PySem.W.plainOver K C=true)(o:PySem.W.takerIn K C name=some none)(hh:PySem.W.hasDictIn K C=true)
  (l:PySem.Within mA ns)(hsz:ns.length<=sizeLine)
  (h:∀h',ObjM h' x dx C (λy=>if y=name then some v else mA y)->Heap.SameBut dx s.heap h'->Q () {s with heap:=h',toks:=s.toks+2}):
  wpAny (model prog w) A (setAttr (.ref x) name v) Q E s:=by
 obtain⟨t,a,hl⟩:=I.look;refine PySem.W.set_plain X a n (PySem.W.osa_open (s:={s with toks:=s.toks+1}) (r:=none) X a p o λb=>?_);obtain⟨z,g,i⟩:=sV hh;have e:s.heap.get? x=some ⟨.ref C,some dx,.plain,#[]⟩:=I.obj;refine zA (zB (zA (zA (pK e (zA (wX (s:={s with toks:=s.toks+1}) (rR X g) ?_))))));rw[i];refine zB (a:=some dx) (zA (zB (zA ?_)));refine wpAny_nsSet1 (s:={s with toks:=s.toks+1}) I.ns λh' c d=>?_;obtain⟨q,u,r,m,j,k⟩:=c.count (PySem.Within.cons name v l);refine zA (wpAny_lookBehind m (by rw[j];exact pastItsLine_dict (yG k (by rw[zU];omega))) ?_);exact zB (h _ ⟨(d.2 _ (yA I.ne)).trans I.obj,c,I.ne⟩ d)
theorem Fr{R:Result->Shared->Prop}{vs:LW}{a:List (Str×Value)}(X:K.In s.heap)(b:PySem.W.makesIn K C=true)
  (hi:PySem.W.findIn K (.ref C) "__init__"=some (some (.ref f)))(c:PySem.W.typeIn K (.ref f)=some (.type "function"))
  (h:codeAny (model prog w) (A.under (.builtin "type.__call__" ⟨.ref C:: vs,a⟩)) (.call (.ref f) ⟨.ref (s.heap.objs.size+1):: vs,a⟩) (PySem.W.InitBack (s.heap.objs.size+1) R)
   {s with heap:=(s.heap.push PySem.W.emptyDict).push (PySem.W.instObj C s.heap.objs.size)}):
  codeAny (model prog w) A (.call (.ref C) ⟨vs,a⟩) R s:=by
 obtain⟨hh,g,d,j,i⟩:=s;exact PySem.W.make_core (PySem.W.makes_of X b) (vR X hi) (λe=>PySem.W.bind_fn X e c) (.inl rfl) h
end
noncomputable def putF(f:Str)(v:V):List (Str×V)->List (Str×V)
 |[]=>[(f,v)]
 |(g,x):: r=>if g=f then(g,v):: r else(g,x):: putF f v r
theorem Fq(f g:Str)(v:V):∀fs:List (Str×V),(putF f v fs).lookup g=if g=f then some v else fs.lookup g
 |[]=>by
  show List.lookup g [(f,v)]=_
  by_cases h:g=f
  ·have a:(g == f)=true:=pW.mpr h;simp only[List.lookup,a,if_pos h]
  ·have a:(g == f)=false:=pY.mpr h;simp only[List.lookup,a,if_neg h]
 | (k,x):: r=>by
  have c:=Fq f g v r;rw[show putF f v ((k,x):: r)=(if k=f then(k,v):: r else(k,x):: putF f v r) from rfl]
  by_cases b:k=f
  ·rw[zF b]
   by_cases h:g=k
   ·have a:(g == k)=true:=pW.mpr h;simp only[List.lookup,a,if_pos (h.trans b)]
   ·have a:(g == k)=false:=pY.mpr h;simp only[List.lookup,a,if_neg (λe:g=f=>h (e.trans b.symm))]
  ·rw[zD b]
   by_cases h:g=k
   ·have a:(g == k)=true:=pW.mpr h;simp only[List.lookup,a,if_neg (λe:g=f=>b (h.symm.trans e))]
   ·have a:(g == k)=false:=pY.mpr h;simp only[List.lookup,a];exact c
theorem Al(f:Str)(v:V):∀fs:List (Str×V),f∈(putF f v fs).map (·.1)/\∀g,g∈fs.map (·.1)->g∈(putF f v fs).map (·.1)
 |[]=>⟨by simp[putF],λg h=>by simp at h⟩
 | (k,x):: r=>by
  obtain⟨c,b⟩:=Al f v r;rw[show putF f v ((k,x):: r)=(if k=f then(k,v):: r else(k,x):: putF f v r) from rfl]
  by_cases a:k=f
  ·rw[zF a];subst a;exact⟨by simp,λg h=>by simpa using h⟩
  ·rw[zD a];refine⟨?_,λg h=>?_⟩
   ·rw[zK];exact zO _ c
   ·rw[zK]at h ⊢;rcases xH.mp h with e|e
    ·exact xH.mpr (.inl e)
    ·exact zO _ (b g e)
theorem Fp(f:Str)(v:V):∀fs:List (Str×V),(putF f v fs).length<=fs.length+1
 |[]=>by simp[putF]
 |(k,x):: r=>by
  have b:=Fp f v r;rw[show putF f v ((k,x):: r)=(if k=f then(k,v):: r else(k,x):: putF f v r) from rfl]
  by_cases a:k=f
  ·rw[zF a,zU,zU];omega
  ·rw[zD a,zU,zU];omega
theorem RelO.some_of{v:V}{o:Option Value}(r:RelO (some v) o):∃u,o=some u/\RelV v u:=by
 cases o with
 |none=>exact(show False from r).elim
 |some u=>exact⟨u,rfl,r⟩
theorem RelO.none_of{o:Option Value}(r:RelO none o):o=none:=by
 cases o with
 |none=>rfl
 |some u=>exact(show False from r).elim
theorem Nb{v:V}{u:Value}(r:RelV v u):PySem.W.handedIn u=true:=by
 cases v with
 |non=>cases(show u=Value.none from r);rfl
 |bl b=>cases(show u=Value.bool b from r);rfl
 |int i=>obtain⟨t,e⟩:=(show∃t,u=Value.int i t from r);cases e;rfl
 |str x=>obtain⟨t,e⟩:=(show∃t,u=Value.str x t from r);cases e;rfl
 |byt b=>obtain⟨t,e⟩:=(show∃t,u=Value.bytes b t from r);cases e;rfl
 |flt b=>obtain⟨t,e⟩:=(show∃t,u=Value.float b t from r);cases e;rfl
 |ref a=>cases(show u=Value.ref a from r);rfl
 |ty n=>cases(show u=Value.type n from r);rfl
section
variable {P:Program} {w:World} {H H':Hp} {h h':Heap} {a C dx:Addr} {fs fs':List (Str×V)}
theorem bG(c:HOk P w H h)(e:H a=some (.ins C dx fs)):∃b,ObjM h a dx C b/\(∀f,RelO (fs.lookup f) (b f))/\PySem.Within b (fs.map (·.1))/\fs.length<=1000/\H dx=some (.own a):=by
 obtain⟨d,z,g,i,b,n,r,q⟩:=(show nO P w H h a (.ins C dx fs) from c a _ e);exact⟨b,⟨i,n,g⟩,r,q,z,d⟩
end
structure Cls(K:Frag)(C:Addr):Prop where
 pg:PySem.W.plainGet K C Str.empty=true
 hd:PySem.W.hasDictIn K C=true
 po:PySem.W.plainOver K C=true
 sa:PySem.W.findIn K (.ref C) "__setattr__"=some (some (.builtin "object.__setattr__"))
theorem Cls.get{K:Frag}{C:Addr}(c:Cls K C)(f:Str):PySem.W.plainGet K C f=true:=c.pg
def gR(K:Frag)(C:Addr)(f:Str):Prop:=PySem.W.findIn K (.ref C) f=some none
theorem gR.taker{K:Frag}{C:Addr}{f:Str}(n:gR K C f):PySem.W.takerIn K C f=some none:=by
 unfold PySem.W.takerIn;rw[show PySem.W.findIn K (.ref C) f=some none from n];rfl
structure Meth(K:Frag)(C:Addr)(m:Str)(f:Addr):Prop where
 at_:PySem.W.findIn K (.ref C) m=some (some (.ref f))
 fn:PySem.W.isFn K (.ref f)=true
 kp:PySem.W.keepIn K (.ref f)=true
section
variable {X:Cx} {pins:PN} {σ:St} {H:Hp} {s:Shared} {a C dx:Addr} {fs:List (Str×V)} {f:Str} {v:V} {A:Around} {E:VP}
theorem Na{b:Bool}{Q:VP}(I:Inv X pins σ H s)(e:H a=some (.ins C dx fs))(c:Cls X.K C)(n:gR X.K C f)(l:fs.lookup f=some v)
  (h:∀u d,Inv X pins σ H d->RelV v u->Q u d):wpAny (model X.prog X.w) A (getAttr (.ref a) f b) Q E s:=by
 obtain⟨i,O,r,_,_,_⟩:=bG I.hok e;obtain⟨u,j,g⟩:=RelO.some_of (v:=v) (o:=i f) (by rw[←l];exact r f);exact Nf I.kIn O (c.get f) c.hd n j (Nb g) (h u _ (I.tok _) g)
theorem Fo{m:Str}{g:Addr}{pl:Sem Bool}{Q:Value×LW->Shared->Prop}(I:Inv X pins σ H s)(e:H a=some (.ins C dx fs))(c:Cls X.K C)(k:Meth X.K C m g)(l:fs.lookup m=none)
  (h:Q (.ref g,[.ref a]) s):wpAny (model X.prog X.w) A (getMethod (.ref a) m pl) Q E s:=by
 obtain⟨d,O,r,_,_,_⟩:=bG I.hok e;have b:d m=none:=RelO.none_of (by rw[←l];exact r m);exact Nd I.kIn O (c.get m) k.at_ k.fn b h
theorem Oz{y:V}{u:Value}{Q:Unit->Shared->Prop}(I:Inv X pins σ H s)(e:H a=some (.ins C dx fs))(c:Cls X.K C)(n:gR X.K C f)(hl:fs.length<1000)(F:RelV y u)
  (h:∀l,Inv X pins σ (upd H a (.ins C dx (putF f y fs))) l->Q () l):wpAny (model X.prog X.w) A (setAttr (.ref a) f u) Q E s:=by
 obtain⟨i,O,r,j,_,k⟩:=bG I.hok e;have x:(fs.map (·.1)).length<=sizeLine:=by rw[yS,sizeLine_eq];omega
 refine Nc I.kIn O c.sa c.po n.taker c.hd j x λh' d D=>h _ ?_;have p:∃o,h'.get? dx=some o:=let ⟨o,_,_,t,_⟩:=d.ns;⟨o,t⟩
 refine I.write (x:=a) (e:=dx) (by rw[e];exact True.intro) (.inr k) (λb q m z=>(D.2 b m).trans z) p ?_;refine⟨by rw[oT O.ne];exact k,?_,O.ne,d.obj,_,d.ns,λg=>?_,λg w=>?_⟩
 ·have:=Fp f y fs;omega
 ·show RelO ((putF f y fs).lookup g) (if g=f then some u else i g);rw[Fq]
  by_cases q:g=f
  ·rw[zF q,zF q];exact F
  ·rw[zD q,zD q];exact r g
 ·by_cases q:g=f
  ·rw[q];exact(Al f y fs).1
  ·refine(Al f y fs).2 g (j g λz=>w ?_);show(if g=f then some u else i g)=none;rw[zD q];exact z
theorem Inv.made(I:Inv X pins σ H s):Inv X pins σ (upd (upd H s.heap.objs.size (.own (s.heap.objs.size+1))) (s.heap.objs.size+1) (.ins C s.heap.objs.size []))
  {s with heap:=(s.heap.push PySem.W.emptyDict).push (PySem.W.instObj C s.heap.objs.size)}:=by
 have e1:(s.heap.push PySem.W.emptyDict).get? s.heap.objs.size=some PySem.W.emptyDict:=zS s.heap rfl;have d:((s.heap.push PySem.W.emptyDict).push (PySem.W.instObj C s.heap.objs.size)).get? (s.heap.objs.size+1)=some (PySem.W.instObj C s.heap.objs.size):=by
  have:=zS (s.heap.push PySem.W.emptyDict) (o:=PySem.W.instObj C s.heap.objs.size) rfl
  rwa[xR]at this
 have k:(s.heap.push PySem.W.emptyDict).Ns s.heap.objs.size (λ_=>none):=⟨PySem.W.emptyDict,#[],_,e1,rfl,(λe i=>absurd i (by simp)),λ_=>rfl⟩;have j:=I.laid (a:=s.heap.objs.size) (o:=.own (s.heap.objs.size+1)) (h':=s.heap.push PySem.W.emptyDict) (t':=s.toks) (λb u q=>zC _ q) (zE _) ⟨_,e1⟩;refine j.laid (a:=s.heap.objs.size+1) (o:=.ins C s.heap.objs.size []) (t':=s.toks) (λb u q=>zC _ q) (tX (xR _ _)) ?_;have c:s.heap.objs.size≠s.heap.objs.size+1:=zY (vX _);refine⟨by rw[oT c,oP],yB _,c,d,λ_=>none,(Heap.Ns1.of_empty k).at λo q=>zC _ q,λ_=>True.intro,λy g=>absurd rfl g⟩
theorem Oy{prog:Program}{w:World}{env:Env}{e:Expr}{f:Str}{b:Pos}{s:Shared}{Q:VP}(c:attributeBase e f env (eval e env)=eval e env)
  (h:wpAny (model prog w) A (eval e env) (λo d=>wpAny (model prog w) A (getAttr o f true) Q E d) E s):wpAny (model prog w) A (eval (.Attribute e f b) env) Q E s:=
 Attribute_any_ h (by rw[arm_eval_Attribute,c])
end
def tFld(K:Frag)(ta:TE)(f:Str):TE:=λσ H Q=>ta σ H λx H1=>∃a C dx fs v,x=.ref a/\H1 a=some (.ins C dx fs)/\Cls K C/\gR K C f/\fs.lookup f=some v/\Q v H1
def sFld(K:Frag)(ta tv:TE)(f:Str):TS:=λD σ H=>tv σ H λy H1=>ta σ H1 λx H2=>∃a C dx fs,x=.ref a/\H2 a=some (.ins C dx fs)/\Cls K C/\gR K C f/\fs.length<1000 /\
 D.nx σ (upd H2 a (.ins C dx (putF f y fs)))
section
variable {X:Cx} {o e value:Expr} {f:Str} {pos pos' tpos:Pos} {ta tv:TE}
theorem iE(d:PE X e ta)(b:attributeBase e f X.env (eval e X.env)=eval e X.env):PE X (.Attribute e f pos) (tFld X.K ta f):=by
 intro r s k H Q I h;refine Oy b (thn (d r s k H _ I h) ?_);rintro u D ⟨x,p,g,i,a,C,F,fs,v,w,j,c,n,l,q⟩;subst w;obtain rfl:u=Value.ref a:=i;exact Na g j c n l λy z m t=>⟨v,p,m,t,q⟩
theorem dJ(g:PE X o ta)(z:PE X value tv)(r:swapsWith value (some (.Attribute o f pos')) pos.line X.env=pure false):PS X (.Assign [.Attribute o f pos'] value pos) (sFld X.K ta tv f):=by
 intro d s b H D I h;refine plainObj_wpAny_Assign_Attribute (thn (z d s b H _ I h) λu F⟨y,j,w,m,q⟩=>thn (g d F b j _ w q) ?_) r;rintro i N ⟨x,K,t,k,a,C,M,fs,J,p,c,n,l,G⟩;subst J;obtain rfl:i=Value.ref a:=k;exact Oz t p c n l m λL v=>⟨b,_,v,G⟩
end
section
variable {X:Cx} {pins:PN} {σ:St} {H:Hp} {s:Shared} {A:Around} {E:VP} {Q:VP} {c:Value} {b:Bool}
inductive TyOf(K:Frag)(H:Hp):V->Value->Prop where
 |non:TyOf K H .non (.type "NoneType")
 |bl (x:Bool):TyOf K H (.bl x) (.type "bool")
 |int (i:Int):TyOf K H (.int i) (.type "int")
 |str (x:Str):TyOf K H (.str x) (.type "str")
 |flt (x:UInt64):TyOf K H (.flt x) (.type "float")
 |lst {a:Addr} {xs:List V} (e:H a=some (.lst xs)):TyOf K H (.ref a) (.type "list")
 |frz {a:Addr} {o:Obj} {xs:List V} (e:H a=some (.frz o (.lst xs))):TyOf K H (.ref a) (.type "list")
 |tup {a:Addr} {xs:List V} (e:H a=some (.tup xs)):TyOf K H (.ref a) (.type "tuple")
 |dK {a:Addr} {kvs:List (Key×V)} (e:H a=some (.dK kvs)):TyOf K H (.ref a) (.type "dict")
 |dT {a:Addr} {kvs:List (List Key×V)} (e:H a=some (.dT kvs)):TyOf K H (.ref a) (.type "dict")
 | ins {a C dx:Addr} {fs:List (Str×V)} (e:H a=some (.ins C dx fs)) (cl:Cls K C) (ha:PySem.W.findIn K (.ref C) "__class__"=some (some (.builtin "object.__class__")))
   (hn:PySem.W.specialIn K (.builtin "object.__class__") "__get__"=some (some (.builtin "getset_descriptor.__get__"))) (htk:PySem.W.takesIn K (.builtin "object.__class__")=some true)
   (hm:PySem.W.mroIn K C (.type "object")=some true):TyOf K H (.ref a) (.ref C)
theorem Ox{x:V}{u g:Value}(I:Inv X pins σ H s)(d:RelV x u)(ty:TyOf X.K H x g)(e:PySem.W.kitOne X.K g c=some b)(h:∀tk,Q (.bool b) {s with toks:=tk}):
  wpAny (model X.prog X.w) A (call (.builtin "isinstance") [u,c]) Q E s:=by
 cases ty with
 |non=>cases(show u=Value.none from d);exact xM PySem.W.kitx_none I.kIn True.intro e (λz=>nomatch z) h
 |bl y=>cases(show u=Value.bool y from d);exact xM PySem.W.kitx_bool I.kIn True.intro e (λz=>nomatch z) h
 |int i=>obtain⟨g,q⟩:=(show∃g,u=Value.int i g from d);cases q;exact xM PySem.W.kitx_int I.kIn True.intro e (λz=>nomatch z) h
 |str y=>obtain⟨g,q⟩:=(show∃g,u=Value.str y g from d);cases q;exact xM PySem.W.kitx_str I.kIn True.intro e (λz=>nomatch z) h
 |flt y=>obtain⟨g,q⟩:=(show∃g,u=Value.float y g from d);cases q;exact xM PySem.W.kitx_float I.kIn True.intro e (λz=>nomatch z) h
 |@lst a xs f =>
  cases(show u=Value.ref a from d);obtain⟨_,_,n,_,j⟩:=(show nO X.prog X.w H s.heap a (.lst xs) from I.hok a _ f);exact xM qO I.kIn ⟨_,j,rfl⟩ e (λz=>nomatch z) h
 |@frz a D xs f =>
  cases(show u=Value.ref a from d);obtain⟨_,_,_,n,_,j⟩:=(show nO X.prog X.w H s.heap a (.frz D (.lst xs)) from I.hok a _ f);exact xM qO I.kIn ⟨_,j,rfl⟩ e (λz=>nomatch z) h
 |@tup a xs f =>
  cases(show u=Value.ref a from d);obtain⟨_,_,_,p⟩:=(show nO X.prog X.w H s.heap a (.tup xs) from I.hok a _ f);obtain⟨o,j,k,_⟩:=p;exact xM PySem.W.kitx_tuple I.kIn ⟨o,j,k⟩ e (λz=>nomatch z) h
 |@dK a kvs f =>
  cases(show u=Value.ref a from d);obtain⟨_,_,vs,_,p⟩:=(show nO X.prog X.w H s.heap a (.dK kvs) from I.hok a _ f);obtain⟨o,es,ep,j,k,_⟩:=p;exact xM PySem.W.kitx_dict I.kIn ⟨o,j,k.1⟩ e (λz=>nomatch z) h
 |@dT a kvs f =>
  cases(show u=Value.ref a from d);obtain⟨_,_,xs,_,o,es,ep,j,k,_⟩:=(show nO X.prog X.w H s.heap a (.dT kvs) from I.hok a _ f);exact xM PySem.W.kitx_dict I.kIn ⟨o,j,k.1⟩ e (λz=>nomatch z) h
 |@ins a C J fs f l w r m t =>
  cases(show u=Value.ref a from d);obtain⟨F,O,_⟩:=bG I.hok f;obtain⟨G,v,_⟩:=O.look;exact xM (PySem.W.kitx_own (l.get _) l.hd w r m t) I.kIn v e (λz=>nomatch z) h
end
structure Room(k:Nat)(A:Around):Prop where
 hd:A.handled=none
 dp:A.depth+3*k+5<recursionLimit
 un:A.units+16*k+200<cLine
theorem Room.mono{j k:Nat}{A:Around}(r:Room k A)(h:j<=k):Room j A:=⟨r.hd,by have:=r.dp;omega,by have:=r.un;omega⟩
theorem Room.mo{j k:Nat}{A:Around}(r:Room k A)(h:j<=k:=by first|decide|omega):Room j A:=r.mono h
theorem Room.deeper{k:Nat}{A:Around}(r:Room (k+1) A)(env:Env):Room k (A.deeper env):=
 ⟨r.hd,by have:=r.dp;show A.depth+1+3*k+5<_;omega,by have:=r.un;show A.units+3+16*k+200<_;omega⟩
theorem Ow{A:Around}{C:Addr}{us:LW}{a:List (Str×Value)}:(A.under (.builtin "type.__call__" ⟨.ref C:: us,a⟩)).depth=A.depth+1:=by
 first|rfl|simp[Around.under,Code.weight,Code.isCreation,Code.isGuard,Code.isCaller,Code.frames,Code.isFrame,guardIds]
theorem Ov{A:Around}{C:Addr}{us:LW}{a:List (Str×Value)}:(A.under (.builtin "type.__call__" ⟨.ref C:: us,a⟩)).units=A.units+1:=by
 first|rfl|simp[Around.under,Code.cUnits,Code.frames,Code.isFrame]
theorem Room.make{k:Nat}{A:Around}(r:Room (k+1) A)(C:Addr)(us:LW)(a:List (Str×Value)):Room k (A.under (.builtin "type.__call__" ⟨.ref C:: us,a⟩)):=
 ⟨r.hd,by have:=r.dp;rw[Ow];omega,by have:=r.un;rw[Ov];omega⟩
theorem Room.depth{k:Nat}{A:Around}(r:Room k A):A.depth<recursionLimit:=by have:=r.dp;omega
theorem Room.units{k:Nat}{A:Around}(r:Room k A):A.units+64<cLine:=by have:=r.un;omega
def tNil:TA:=λ_ H Q=>Q [] H
def nF(ta:TE)(tr:TA):TA:=λσ H Q=>ta σ H λx H1=>tr σ H1 λxs H2=>Q (x:: xs) H2
section
variable {X:Cx} {e:Expr} {es:List Expr} {te:TE} {t:TA} {pos:Pos}
theorem oK:PA X [] tNil:=λ_ _ _ _ H Q I h=>Calls.spliced_nil ⟨[],H,I,.nil,h⟩
theorem oJ(g:PE X e te)(hr:PA X es t)(i:starEach (e:: es) X.env=(false,eval e X.env):: starEach es X.env:=by rfl):PA X (e:: es) (nF te t):=by
 intro pos b s a H Q I h;rw[i];show wpAny _ _ (spliced ((false,eval e X.env):: backTo pos (starEach es X.env))) _ _ s;refine Calls.spliced_cons (thn (g b s a H _ I h) ?_);rintro u l ⟨x,j,d,r1,c⟩;exact thn (hr pos b l a j _ d c) λus n⟨xs,f,k,r2,m⟩=>⟨x:: xs,f,k,.cons r1 r2,m⟩
def tTup(t:TA):TE:=λσ H Q=>t σ H λxs H1=>xs.length<=sizeLine/\∀p,H1 p=none->Q (.ref p) (upd H1 p (.tup xs))
def tLst(t:TA):TE:=λσ H Q=>t σ H λxs H1=>xs.length<=sizeLine/\∀p,H1 p=none->Q (.ref p) (upd H1 p (.lst xs))
theorem lV{g}(h:PA X es t):PE X (.Tuple es g pos) (tTup t):=by
 intro k s j H Q I f;refine wpAny_Tuple_spliced (thn (h pos k s j H _ I f) λus a⟨xs,d,c,r,z,q⟩=>⟨by rw[←r.length];exact z,?_⟩);have i:d a.heap.objs.size=none:=c.hok.fresh (zE _);refine⟨.ref a.heap.objs.size,upd d a.heap.objs.size (.tup xs),c.laid (t':=a.toks) (λb u e=>zC _ e) (zE _) ?_,rfl,q _ i⟩;exact⟨z,us,r,⟨_,zS _ rfl,rfl,_,rfl⟩⟩
theorem nI(h:PA X es t):PE X (.List es pos) (tLst t):=by
 intro j s i H Q I f;refine wpAny_List_spliced (thn (h pos j s i H _ I f) λus a⟨xs,d,c,r,z,q⟩=>⟨by rw[←r.length];exact z,?_⟩);have g:d a.heap.objs.size=none:=c.hok.fresh (zE _);refine⟨.ref a.heap.objs.size,upd d a.heap.objs.size (.lst xs),c.laid (t':=a.toks) (λb u e=>zC _ e) (zE _) ?_,rfl,q _ g⟩;exact⟨z,us,0,r,zS _ rfl⟩
end
abbrev Sp:=List V->Hp->VK->XK->Prop
abbrev CXT:=List Env->Hp->Shared->XK->VP
structure Env0(P:Program)(w:World)(K:Frag)(mg:MT)(base:Heap)(A:Around)(outer:List Env)(s:Shared)(H:Hp):Prop where
 frames:A.frames=some outer
 mod:Mod K mg base
 bs:∀b o,base.get? b=some o->s.heap.get? b=some o/\H b=none
 bsz:base.objs.size<=s.heap.objs.size
 funs:s.heap.FunFrames base outer
 frf:∀b∈frs outer,H b=none
 hok:HOk P w H s.heap
 bare:AllBare s.gens
def CE(outer:List Env)(P:Program)(w:World)(H:Hp)(s:Shared)(Q:VK)(u:Value)(s':Shared):Prop:=
 ∃v H',s'.os=s.os/\AllBare s'.gens/\Un (frs outer) [] H H' s.heap s'.heap/\HOk P w H' s'.heap/\RelV v u/\Q v H'
def CR(CX:CXT)(outer:List Env)(P:Program)(w:World)(H:Hp)(s:Shared)(Q:VK)(E:XK)(r:Result)(s':Shared):Prop:=
 match r with
 |.ok (.ret u)=>CE outer P w H s Q u s'
 |.ok _=>False
 |.error e=>CX outer H s E e s'
structure FnOk(P:Program)(w:World)(K:Frag)(mg:MT)(base:Heap)(CX:CXT)(k:Nat)(f:Addr)(fd:FuncData)(ps:List Str)(sp:Sp):Prop where
 len:∀vs H Q E,sp vs H Q E->vs.length=ps.length
 run:∀(A:Around)(outer:List Env)(s:Shared)(H:Hp)(args:Args)(us:LW)(vs:List V)(Q:VK)(E:XK),Room k A->Env0 P w K mg base A outer s H->BindsTo s fd args (ps.zip us)->Vals vs us->sp vs H Q E ->
  codeAny (model P w) A (.call (.ref f) args) (CR CX outer P w H s Q E) s
theorem Env0.make{P:Program}{w:World}{K:Frag}{a:MT}{base:Heap}{A:Around}{outer:List Env}{s:Shared}{H:Hp}(e:Env0 P w K a base A outer s H)(C:Addr)(us:LW)(b:List (Str×Value)):
  Env0 P w K a base (A.under (.builtin "type.__call__" ⟨.ref C:: us,b⟩)) outer s H:=⟨by first|exact e.frames|(simpa [Around.under,Code.envs,Code.isFrame,pushEnvs]using e.frames),e.mod,e.bs,e.bsz,e.funs,e.frf,e.hok,e.bare⟩
section
variable {X:Cx} {pins:PN} {σ:St} {H:Hp} {s s':Shared}
theorem Inv.env0(I:Inv X pins σ H s):Env0 X.prog X.w X.K X.mg X.base X.A X.stack s H:=
 ⟨I.ok.frames,I.ok.mod,I.bs,yG I.ok.bsz I.sz,I.stack,I.stkFree,I.hok,I.bare⟩
theorem Inv.after{Q:VK}{u:Value}(I:Inv X pins σ H s)(h:CE X.stack X.prog X.w H s Q u s'):EP X pins σ Q u s':=by
 obtain⟨v,H',e,i,un,a,r,q⟩:=h;obtain⟨hh,g,d,f,c⟩:=s';obtain rfl:c=s.os:=e;exact⟨v,H',I.call (h':=hh) (g':=g) (d':=d) (t':=f) (ch:=[]) un a i (λb z=>absurd z (by simp)),r,q⟩
end
def mS(sp:Sp)(dvs:List V)(E:XK)(t:TA):TE:=λσ H Q=>t σ H λvs H1=>sp (vs++dvs) H1 Q E
def lF(C:Addr)(m:Str)(sp:Sp)(dvs:List V)(E:XK)(ta:TE)(t:TA):TE:=λσ H Q=>ta σ H λx H1=>∃a dx fs,x=.ref a/\H1 a=some (.ins C dx fs)/\fs.lookup m=none /\
 t σ H1 λvs H2=>sp (x:: (vs++dvs)) H2 Q E
def Ak(C:Addr)(sp:Sp)(dvs:List V)(E:XK)(t:TA):TE:=λσ H Q=>t σ H λvs H1=>∀x dx,H1 x=none->H1 dx=none->dx≠x ->
 sp (.ref x:: (vs++dvs)) (upd (upd H1 dx (.own x)) x (.ins C dx [])) (λv H2=>v=.non/\Q (.ref x) H2) E
def nZ(K:Frag)(fd:FuncData)(ps:List Str)(ds:LW):Prop:=
 ∀(s:Shared)(us:LW),K.In s.heap->(us++ds).length=ps.length->BindsTo s fd ⟨us,[]⟩ (ps.zip (us++ds))
theorem nZ.all{K:Frag}{a:FuncData}{ps:List Str}(h:∀us:LW,us.length=ps.length->bindArgs a ⟨us,[]⟩=pure (ps.zip us)):nZ K a ps []:=λs us _ hl=>by
 rw[wN]at hl ⊢;exact .of_eq (h us hl)
def iF(CX:CXT)(X:Cx)(E:XK):Prop:=∀(pins:PN)(σ:St)(H:Hp)(s:Shared)(e:Value)(s':Shared),Inv X pins σ H s->CX X.stack H s E e s'->X.xe e s'
section
variable {X:Cx} {CX:CXT} {k:Nat} {f C:Addr} {fd:FuncData} {ps:List Str} {sp:Sp} {dvs:List V} {ds:LW} {E:XK} {x m:Str} {p pos apos:Pos} {e o:Expr} {es:List Expr} {ta:TE} {t:TA}
theorem Aj{c:PN}{b:St}{H:Hp}{s:Shared}{Q:VK}{us:LW}{vs:List V}(F:FnOk X.prog X.w X.K X.mg X.base CX k f fd ps sp)(hr:Room k X.A)(g:nZ X.K fd ps ds)(i:Vals dvs ds)(d:iF CX X E)
  (I:Inv X c b H s)(r:Vals vs us)(h:sp (vs++dvs) H Q E):wpAny (model X.prog X.w) X.A (call (.ref f) us) (EP X c b Q) X.xe s:=by
 have r2:Vals (vs++dvs) (us++ds):=r.append i;have hl:(us++ds).length=ps.length:=by rw[←r2.length];exact F.len _ _ _ _ h
 refine tL (uV (F.run X.A X.stack s H ⟨us,[]⟩ (us++ds) (vs++dvs) Q E hr I.env0 (g s us I.kIn hl) r2 h) λr j a=>?_);cases r with
 |error e=>exact d c b H s e j I a
 |ok fl =>
  cases fl with
  |ret u=>exact I.after a
  |next=>exact False.elim a
  |brk=>exact False.elim a
  |cont=>exact False.elim a
theorem dL(F:FnOk X.prog X.w X.K X.mg X.base CX k f fd ps sp)(hr:Room k X.A)(n:Gl X x)(c:X.mg x=some (.ref f))(y:PySem.W.keepIn X.K (.ref f)=true)(d:nZ X.K fd ps ds)(i:Vals dvs ds)(b:iF CX X E)
  (v:PA X (e:: es) t)(w:(x == ("__debug__" :Str))=false:=by decide)(j:starEach (e:: es) X.env=(false,eval e X.env):: starEach es X.env:=by rfl)(g:(backTo pos (starEach es X.env)).any (·.1)=false:=by rfl):
  PE X (.Call (.Name x p) (e:: es) [] pos) (mS sp dvs E t):=by
 intro l s u H Q I h;refine wH (iC I n c ?_ w);refine uH (h₀:=X.base) I.ok.mod.kin y (thn (v pos l s u H _ I h) λus D⟨vs,z,a,r,q⟩=>⟨a.kIn,?_⟩) j g;exact Aj F hr d i b a r q
theorem iG{pl:Sem Bool}(N:PE X o ta)(c:Cls X.K C)(j:Meth X.K C m f)(F:FnOk X.prog X.w X.K X.mg X.base CX k f fd ps sp)(hr:Room k X.A)(M:nZ X.K fd ps ds)(J:Vals dvs ds)(v:iF CX X E)(y:PA X (e:: es) t)
  (z:starEach (e:: es) X.env=(false,eval e X.env):: starEach es X.env:=by rfl)(w:(backTo pos (starEach es X.env)).any (·.1)=false:=by rfl)
  (L:eval (.Call (.Attribute o m apos) (e:: es) [] pos) X.env=(do
   let b ←eval o X.env
   standAt apos.atName
   let (f,first) ←holding [b] (getMethod b m pl)
   callWith pos f first (backTo pos (starEach (e:: es) X.env)) (backToKw pos (keywordEach [] X.env))):=by rfl):
  PE X (.Call (.Attribute o m apos) (e:: es) [] pos) (lF C m sp dvs E ta t):=by
 intro i s d H Q I h;refine sZ (pl:=pl) (thn (N i s d H _ I h) ?_) L;rintro u O ⟨x,D,n,G,a,T,fs,R,K,l,q⟩;subst R;obtain rfl:u=Value.ref a:=G;refine Fo n K c j l ?_;refine uH (first:=[.ref a]) (h₀:=X.base) I.ok.mod.kin j.kp (thn (y pos i O d D _ n q) λus U⟨vs,S,g,r,P⟩=>⟨g.kIn,?_⟩) z w;exact Aj (us:=.ref a:: us) (vs:=.ref a:: vs) F hr M J v g (.cons rfl r) P
theorem kB{pl:Sem Bool}(r:PE X o ta)(c:Cls X.K C)(d:Meth X.K C m f)(F:FnOk X.prog X.w X.K X.mg X.base CX k f fd ps sp)(hr:Room k X.A)(j:nZ X.K fd ps ds)(n:Vals dvs ds)(i:iF CX X E)
  (y:eval (.Call (.Attribute o m apos) [] [] pos) X.env=(do
   let g ←eval o X.env
   standAt apos.atName
   let (f,first) ←holding [g] (getMethod g m pl)
   callWith pos f first (backTo pos (starEach [] X.env)) (backToKw pos (keywordEach [] X.env))):=by rfl):
  PE X (.Call (.Attribute o m apos) [] [] pos) (lF C m sp dvs E ta tNil):=by
 intro D s w H Q I h;refine sZ (pl:=pl) (thn (r D s w H _ I h) ?_) y;rintro u K ⟨x,J,b,v,a,L,fs,G,z,l,q⟩;subst G;obtain rfl:u=Value.ref a:=v;refine Fo b z c d l ?_;exact PySem.W.callWith_K0 (first:=[.ref a]) b.kIn d.kp (Aj (us:=[.ref a]) (vs:=[.ref a]) F hr j n i b (.cons rfl .nil) q)
structure Mk(K:Frag)(C f:Addr):Prop where
 makes:PySem.W.makesIn K C=true
 init:PySem.W.findIn K (.ref C) "__init__"=some (some (.ref f))
 fn:PySem.W.isFn K (.ref f)=true
 kp:PySem.W.keepIn K (.ref C)=true
theorem Ou{g:PN}{d:St}{H:Hp}{s:Shared}{Q:VK}{us:LW}{vs:List V}(M:Mk X.K C f)(F:FnOk X.prog X.w X.K X.mg X.base CX k f fd ps sp)(hr:Room (k+1) X.A)(l:nZ X.K fd ps ds)(w:Vals dvs ds)
  (j:iF CX X E)(I:Inv X g d H s)(r:Vals vs us)
  (h:∀x c,H x=none->H c=none->c≠x->sp (.ref x:: (vs++dvs)) (upd (upd H c (.own x)) x (.ins C c [])) (λv y=>v=.non/\Q (.ref x) y) E):
  wpAny (model X.prog X.w) X.A (call (.ref C) us) (EP X g d Q) X.xe s:=by
 have i:=h (s.heap.objs.size+1) s.heap.objs.size (I.hok.fresh (uM _)) (I.hok.fresh (zE _)) (zY (vX _));have b:=Inv.made (C:=C) I;have r2:Vals (V.ref (s.heap.objs.size+1):: (vs++dvs)) (Value.ref (s.heap.objs.size+1):: (us++ds)):=.cons rfl (r.append w);have hl:(Value.ref (s.heap.objs.size+1):: us++ds).length=ps.length:=by
  have e:=r2.length;rw[F.len _ _ _ _ i]at e;exact e.symm
 refine tL (Fr (f:=f) I.kIn M.makes M.init (pW.mp M.fn) (uV (F.run _ X.stack _ _ ⟨Value.ref (s.heap.objs.size+1):: us,[]⟩ (Value.ref (s.heap.objs.size+1):: (us++ds)) _ _ E (hr.make C us [])
  (b.env0.make C us []) (l _ (Value.ref (s.heap.objs.size+1):: us) b.kIn hl) r2 i) λr G a=>?_))
 cases r with
 |error e=>exact j g d _ _ e G b a
 | ok fl =>
  cases fl with
  |ret u =>
   obtain⟨v,H',q,z,D,n⟩:=b.after a;subst D;exact⟨z,⟨V.ref (s.heap.objs.size+1),H',q,rfl,n⟩⟩
  |next=>exact False.elim a
  |brk=>exact False.elim a
  |cont=>exact False.elim a
theorem Fn(M:Mk X.K C f)(F:FnOk X.prog X.w X.K X.mg X.base CX k f fd ps sp)(hr:Room (k+1) X.A)(n:Gl X x)(c:X.mg x=some (.ref C))(d:nZ X.K fd ps ds)(i:Vals dvs ds)(b:iF CX X E)
  (v:PA X (e:: es) t)(w:(x == ("__debug__" :Str))=false:=by decide)(j:starEach (e:: es) X.env=(false,eval e X.env):: starEach es X.env:=by rfl)(g:(backTo pos (starEach es X.env)).any (·.1)=false:=by rfl):
  PE X (.Call (.Name x p) (e:: es) [] pos) (Ak C sp dvs E t):=by
 intro l s u H Q I h;refine wH (iC I n c ?_ w);refine uH (h₀:=X.base) I.ok.mod.kin M.kp (thn (v pos l s u H _ I h) λus z⟨vs,y,a,r,q⟩=>⟨a.kIn,?_⟩) j g;exact Ou M F hr d i b a r q
end
section
variable {X:Cx} {CX:CXT} {k:Nat} {f C:Addr} {fd:FuncData} {ps ks:List Str} {sp:Sp} {E:XK} {x m:Str} {p pos apos kpos:Pos} {e o:Expr} {es:List Expr} {kws:List Keyword} {te ta:TE} {t tk:TA} {nm:Option Str}
variable {g:LW->LW->LW} {gV:List V->List V->List V}
end
structure nA(N P:List Str)(sc:Scope):Prop where
 kind:sc.kind=.function
 co:sc.isCoroutine=false
 gen:sc.isGenerator=false
 nd:N.Nodup
 pre:N.take P.length=P
 par:∀x∈P,sc.names.lookup x=some .local\/sc.names.lookup x=some .cell
 nofree:∀y∈sc.names,y.2≠.free
theorem Fm{b:Str->Option NameKind}{x:Str}:∀{binds:List (Str×Value)}{m:MT},(∀v,(x,v)∉binds)->bindL b binds m x=m x
 |[],_,_=>rfl
 | (n,v):: r,m,h=>by
  unfold bindL;rw[Fm λw a=>h w (zO _ a)];split
  ·have:x≠n:=by rintro rfl;exact h v zZ
   simp[this]
  ·rfl
theorem Fl{b:Str->Option NameKind}{x:Str}:∀{binds:List (Str×Value)}{m:MT},(∀v,(x,v)∉binds)->bindC b binds m x=m x
 |[],_,_=>rfl
 | (n,v):: r,m,h=>by
  unfold bindC;rw[Fl λw a=>h w (zO _ a)];split
  ·rfl
  ·have:x≠n:=by rintro rfl;exact h v zZ
   simp[this]
theorem Fk{a:Str->Option NameKind}{x:Str}{v:Value}:∀{P:List Str}{vs:LW}{i:Nat}{m:MT},P.Nodup->P[i]?=some x->vs[i]?=some v->a x=some .local ->
  bindL a (P.zip vs) m x=some v
 |[],_,_,_,_,h,_,_=>by simp at h
 |_:: _,[],_,_,_,_,h,_=>by simp at h
 |p:: P,w:: vs,0,m,nd,c,b,d=>by
  simp at c b;subst c;subst b;show bindL a ((p,w):: P.zip vs) m p=_;unfold bindL;rw[Fm λv e=>(tV.mp nd).1 (rN e).1,zF d];simp
 |p:: P,w:: vs,i+1,m,nd,c,b,d=>by
  show bindL a ((p,w):: P.zip vs) m x=_;unfold bindL;exact Fk (i:=i) (tV.mp nd).2 (by simpa using c) (by simpa using b) d
theorem Fj{a:Str->Option NameKind}{x:Str}{v:Value}:∀{P:List Str}{vs:LW}{i:Nat}{m:MT},P.Nodup->P[i]?=some x->vs[i]?=some v->a x≠some .local ->
  bindC a (P.zip vs) m x=some v
 |[],_,_,_,_,h,_,_=>by simp at h
 |_:: _,[],_,_,_,_,h,_=>by simp at h
 |p:: P,w:: vs,0,m,nd,c,b,d=>by
  simp at c b;subst c;subst b;show bindC a ((p,w):: P.zip vs) m p=_;unfold bindC;rw[Fl λv e=>(tV.mp nd).1 (rN e).1,zD d];simp
 |p:: P,w:: vs,i+1,m,nd,c,b,d=>by
  show bindC a ((p,w):: P.zip vs) m x=_;unfold bindC;exact Fj (i:=i) (tV.mp nd).2 (by simpa using c) (by simpa using b) d
noncomputable def jQ(N:List Str)(vs:List V):St:=vs.map some++List.replicate (N.length-vs.length) none
noncomputable def cxOf(CX:CXT)(P:Program)(w:World)(K:Frag)(mg:MT)(base:Heap)(N:List Str)(qual:Str)(scope:Scope)(f:Addr)(cd:Value)(A:Around)(outer:List Env)(s:Shared)(H:Hp)(E:XK):Cx where
 prog:=P
 w:=w
 K:=K
 mg:=mg
 base:=base
 A:=A.deeper (envOfC qual scope s.heap.objs.size f cd)
 N:=N
 s₀:=s
 H₀:=H
 env:=envOfC qual scope s.heap.objs.size f cd
 outer:=outer
 stack:=envOfC qual scope s.heap.objs.size f cd:: outer
 ex:=[]
 calm:=true
 fn:=λ_=>true
 pn:=[]
 xe:=λe s'=>wpAny (model P w) (A.deeper (envOfC qual scope s.heap.objs.size f cd)) (leaving (envOfC qual scope s.heap.objs.size f cd) e) (λ_ s''=>CX outer H s E e s'') (λe' s''=>CX outer H s E e' s'') s'
theorem Fi{sc:Scope}{n:Nat}{x:Str}(h:sc.names.lookup x=some .cell):∃c,(cellsFrom n sc.names []).lookup x=some c:=by
 have q:=PySem.W.cellsFrom_some sc.names n [] (.inl h);exact Option.isSome_iff_exists.mp q
theorem Ot{L:CXT}{P:Program}{w:World}{K:Frag}{C:MT}{base:Heap}{N ps:List Str}{o:Str}{j:Scope}{f:Addr}{n:Value}{A:Around}{outer:List Env}{s I:Shared}{H:Hp}{E:XK}{us:LW}{vs:List V}
  (S:nA N ps j)(O:A.handled=none)(g:Env0 P w K C base A outer s H)(hl:vs.length=ps.length)(r:Vals vs us)
  (x:InCallC s s.heap.objs.size (bindL (envOfC o j s.heap.objs.size f n).kindOf (ps.zip us) λ_=>none) (cellsFrom (s.heap.objs.size+1) j.names []) (bindC (envOfC o j s.heap.objs.size f n).kindOf (ps.zip us) λ_=>none) I):
  Inv (cxOf L P w K C base N o j f n A outer s H E) [] (jQ N vs) H I:=by
 have T:ps.length<=N.length:=by have:=wI List.length S.pre;rw[yJ]at this;omega
 obtain⟨t,tk,rfl,F⟩:=x.done;have D:∀b:Addr,b∉(cxOf L P w K C base N o j f n A outer s H E).ex:=λb z=>absurd (show b∈([]:LA) from z) (by simp);refine⟨⟨g.mod,S.kind,rfl,rfl,zE _,λy z c t d=>?_,λy l=>?_,λy c _ h=>?_,λ_=>O,Around.frames_deeper g.frames,.inr ⟨rfl,rfl⟩,λb z=>absurd z (D b),g.bs,g.bsz,λb _ _=>D b,λb z=>absurd z (D b),g.funs,g.frf⟩,
  rfl,g.bare,Un.kept F,⟨_,x.toInCall.ns,λi y v t d U=>?_⟩,λy c h=>⟨_,x.cell y c h⟩,g.hok.fresh (zE _),λy c h=>?_,λp m=>absurd (show p∈([]:PN) from m) (by simp),g.hok.kept F,?_⟩
 ·exact name_of_addr x.apart (vC t) (vC d)
 ·have l:j.names.lookup y=some .cell\/j.names.lookup y=some .free:=l;rcases l with l|l
  ·exact Fi l
  ·exact absurd rfl (S.nofree _ (vC l))
 ·exact uF (x.above y c (vC h))
 ·have hi:i<vs.length:=by
   unfold jQ at d
   by_cases hi:i<vs.length
   ·exact hi
   ·rw[zV (by simpa using hi)]at d;rw[List.getElem?_replicate]at d;split at d <;> cases d
  have M:vs[i]?=some v:=by
   unfold jQ at d;rw[yD (by simpa using hi),zI]at d;cases e:vs[i]? with
   |none=>rw[e]at d;cases d
   |some a=>rw[e]at d;cases d;rfl
  obtain⟨u,J,R⟩:=r.get M;have m:ps[i]?=some y:=by
   rw[←S.pre,uA ⋯];exact t
  have G:ps.Nodup:=by rw[←S.pre];exact S.nd.sublist (List.take_sublist _ _)
  refine⟨u,R,?_⟩;rcases S.par y (yF m) with k|k
  ·exact .inl ⟨k,Fk G m J k⟩
  ·obtain⟨c,e⟩:=Fi (n:=s.heap.objs.size+1) k;refine .inr ⟨.inl k,c,e,?_⟩;have q:=x.cell y c e;rw[Fj G m J (by show j.names.lookup y≠_;rw[k];decide)]at q;exact q
 ·exact g.hok.fresh (uF (x.above y c (vC h)))
 ·unfold jQ;show _=N.length;rw[yE,yS,rC];omega
theorem Ai{m:CXT}{P:Program}{w:World}{K:Frag}{l:MT}{base:Heap}{k:Nat}{f:Addr}{name d:Str}{M:Arguments}{body:List Stmt}{a:Scope}{T kV L F cdv G a7:Value}{D a0:Option Addr}
  {U:Array (Option Value)}{N ps:List Str}{p:Sp}(X:K.lookup f=some ⟨a7,a0,.func (PySem.W.fnOf name d M body a T kV L F D cdv G),U⟩)(Z:PySem.W.codeIn K cdv d=true)(S:nA N ps a)
  (len:∀vs H Q E,p vs H Q E->vs.length=ps.length)
  (a3:∀(A:Around)(outer:List Env)(s:Shared)(H:Hp)(vs:List V)(Q:VK)(E:XK),Room k (A.deeper (envOfC d a s.heap.objs.size f cdv))->p vs H Q E ->
   ∃t,PSs (cxOf m P w K l base N d a f cdv A outer s H E) body t/\t {nx:=λ_ H'=>Q .non H',rt:=Q} (jQ N vs) H):
  FnOk P w K l base m (k+1) f (PySem.W.fnOf name d M body a T kV L F D cdv G) ps p:=by
 refine⟨len,λA outer s H a8 us vs Q E hr i a5 r R=>?_⟩;have hl:=len _ _ _ _ R;have KX:K.In s.heap:=i.mod.kin.keeps λb o e=>(i.bs b o e).1;have W:s.heap.NoLimit:=i.mod.nolimit.keeps λb o e=>(i.bs b o e).1;have a2:∀y∈ps.zip us,a.names.lookup y.1=some .local\/(a.names.lookup y.1=some .cell/\((cellsFrom (s.heap.objs.size+1) a.names []).lookup y.1).isSome=true):=λ⟨n,v⟩a4=>by
  rcases S.par n (rN a4).1 with q|q
  ·exact .inl q
  ·exact .inr ⟨q,PySem.W.cellsFrom_some _ _ _ (.inl q)⟩
 refine codeAny_call_function hr.depth (KX _ _ X) rfl S.co S.gen rfl (PySem.W.codeRec_of KX Z) (a5 _ _ _ _ ?_);refine wpAny_newFunctionEnv_cells S.kind a2 λenv a6 J x=>?_;subst a6;refine⟨W.keeps x.toInCall.keep,codeAny_func ?_⟩;obtain⟨t,a1,Y⟩:=a3 A outer s H vs Q E (hr.deeper _) R;have I:Inv (cxOf m P w K l base N d a f cdv A outer s H E) [] (jQ N vs) H J:=Ot S hr.hd i hl r x;refine yU (a1 [] J (jQ N vs) H _ I Y) (λfl z g=>?_) λe z g=>g;have O:∀{j:St}{H':Hp}{v:V}{u:Value},Inv (cxOf m P w K l base N d a f cdv A outer s H E) [] j H' z->RelV v u->Q v H'->CE outer P w H s Q u z:=
  λ{j H' v u}c C q=>⟨v,H',c.os,c.bare,c.base,c.hok,C,q⟩
 cases fl with
 |ret u =>
  obtain⟨v,j,H',c,C,q⟩:=g;exact O c C q
 |next =>
  obtain⟨j,H',c,q⟩:=g;exact O (v:=V.non) (u:=Value.none) c rfl q
 |brk =>
  obtain⟨_,_,_,q⟩:=g;exact False.elim q
 |cont =>
  obtain⟨_,_,_,q⟩:=g;exact False.elim q
section
variable {X:Cx} {x:Str} {p pos:Pos} {e:Expr} {es:List Expr} {t:TA} {id T:String} {r:List V->Hp->VK->Prop}
def tCB(r:List V->Hp->VK->Prop)(t:TA):TE:=λσ H Q=>t σ H λvs H1=>r vs H1 Q
theorem lN(d:lK X (.builtin id) r)(l:Gl X x)(f:X.mg x=none)(o:bootBuiltins x=some (.builtin id))(m:PA X (e:: es) t)(c:x≠"__name__" := by decide)(q:(x == ("__debug__" :Str))=false:=by decide)
  (j:starEach (e:: es) X.env=(false,eval e X.env):: starEach es X.env:=by rfl)(i:(backTo pos (starEach es X.env)).any (·.1)=false:=by rfl):PE X (.Call (.Name x p) (e:: es) [] pos) (tCB r t):=by
 intro a s b H Q I h;refine wH (iD I l f o ?_ c q);exact PyProof.Rows.callWith_builtin1 (thn (m pos a s b H _ I h) λus u⟨vs,n,k,r1,g⟩=>d a u b n vs us Q k r1 g) j i
theorem mB(d:lK X (.type T) r)(l:Gl X x)(f:X.mg x=none)(o:bootBuiltins x=some (.type T))(m:PA X (e:: es) t)(c:x≠"__name__" := by decide)(q:(x == ("__debug__" :Str))=false:=by decide)
  (j:starEach (e:: es) X.env=(false,eval e X.env):: starEach es X.env:=by rfl)(i:(backTo pos (starEach es X.env)).any (·.1)=false:=by rfl):PE X (.Call (.Name x p) (e:: es) [] pos) (tCB r t):=by
 intro a s b H Q I h;refine wH (iD I l f o ?_ c q);exact xP (thn (m pos a s b H _ I h) λus u⟨vs,n,k,r1,g⟩=>d a u b n vs us Q k r1 g) j i
end
end L2
namespace HT
open PySem PyProof.Rows
section
open PySem.SeqAt
open PySem.AutoSeq1 (wpAny_loadPart')
open PySem.MeetsSeq PySem.MeetsSeq2 PySem.MeetsSeq3
end
section
variable {prog:Program} {w:World} {A:Around} {E:VP} {s:Shared}
noncomputable def sIx(n d:Nat):Option Int->Nat
 |none=>d
 |some v=>if v<0 then(v+(n:Int)).toNat else min v.toNat n
theorem sIx_none(n d:Nat):sIx n d none=d:=rfl
theorem sIx_nat(n d k:Nat):sIx n d (some (k:Int))=min k n:=by
 show(if(k:Int)<0 then((k:Int)+(n:Int)).toNat else min (k:Int).toNat n)=min k n;rw[zD ⋯,zQ]
theorem Os(n d:Nat)(b:d<=n)(o:Option Int):sIx n d o<=n:=by
 cases o with
 |none=>exact b
 |some v =>
  show(if v<0 then(v+(n:Int)).toNat else min v.toNat n)<=n
  by_cases a:v<0
  ·rw[zF a];omega
  ·rw[zD a];exact Nat.min_le_right _ _
theorem Fh(v:Int)(n d:Nat):(if v<0 then max (v+(n:Int)) 0 else min v (n:Int))=((sIx n d (some v):Nat):Int):=by
 show(if v<0 then max (v+(n:Int)) 0 else min v (n:Int))=(((if v<0 then(v+(n:Int)).toNat else min v.toNat n):Nat):Int)
 by_cases a:v<0
 ·simp only[if_pos a];omega
 ·simp only[if_neg a];omega
theorem Oq(lo hi:Option Int)(n:Nat):Builtin.Slice.sliceAdjust lo hi 1 (n:Int)=(((sIx n 0 lo:Nat):Int),((sIx n n hi:Nat):Int)):=by
 have a:¬ ((1:Int)<0):=⋯
 unfold Builtin.Slice.sliceAdjust;simp only[a,if_false];refine Prod.ext ?_ ?_
 ·cases lo with
  |none=>rfl
  |some v=>exact Fh v n 0
 ·cases hi with
  |none=>rfl
  |some v=>exact Fh v n n
theorem Op(i j:Nat):Builtin.Slice.slicePlaces (i:Int) (j:Int) 1=j-i:=by
 unfold Builtin.Slice.slicePlaces;have a:(1:Int) > 0:=⋯
 simp only[a,if_true,Int.ediv_one];split <;> omega
theorem Fg{v:Value}{o:Option Int}{Q:Option Int->Shared->Prop}(p:IsPart v o)(h:Q o s):wpAny (model prog w) A (Builtin.Slice.slicePartIndex v) Q E s:=by
 cases p with
 |none=>exact slicePart_none h
 |int i t=>exact slicePart_int h
theorem Oo{e:Addr}{a d:Value}{lo hi:Option Int}{n:Nat}{Q:Int×Int×Nat->Shared->Prop}(g:s.heap.IsSliceOf e a d .none)(pl:IsPart a lo)(f:IsPart d hi)
  (h:Q (((sIx n 0 lo:Nat):Int),1,sIx n n hi-sIx n 0 lo) s):wpAny (model prog w) A (Builtin.Slice.sliceApplied (.ref e) (pure (n:Int))) Q E s:=by
 obtain⟨j,c,i,b⟩:=id g;unfold Builtin.Slice.sliceApplied Builtin.Slice.sliceFields;refine zA (zA (xV c b (x:=a) rfl (zA (xV c b (x:=d) rfl (zA (xV c b (x:=.none) rfl (zB ?_)))))));refine zA (slicePart_none ?_);show wpAny _ _ (if((1:Int) == 0)=true then _ else _) _ _ s;rw[zD ∅];refine zA (Fg pl (zA (Fg f (zA (zB ?_)))));show wpAny _ _ (match Builtin.Slice.sliceAdjust lo hi 1 (n:Int) with|(lo,hi)=>pure (lo,(1:Int),Builtin.Slice.slicePlaces lo hi 1)) _ _ s;rw[Oq lo hi n];show wpAny _ _ (pure (((sIx n 0 lo:Nat):Int),(1:Int),Builtin.Slice.slicePlaces ((sIx n 0 lo:Nat):Int) ((sIx n n hi:Nat):Int) 1)) _ _ s;rw[Op];exact zB h
theorem On(xs:Array Value)(i k:Nat):((List.range k).filterMap λ(m:Nat)=>xs[((i:Int)+(m:Int)*1).toNat]?).toArray=((xs.toList.drop i).take k).toArray:=by
 have e:(λ(m:Nat)=>xs[((i:Int)+(m:Int)*1).toNat]?)=λm=>xs[i+m]?:=by
  funext m
  have:((i:Int)+(m:Int)*1).toNat=i+m:=⋯
  rw[this]
 rw[e];have:=pick_run xs i k;rw[List.filterMap_map]at this;have a:((λx=>xs[x]?)∘ λx=>i+x)=λm=>xs[i+m]?:=rfl;rw[a]at this;rw[this]
theorem getItem_tuple_cut{d c:Addr}{items:Array Value}{e g:Value}{lo hi:Option Int}{Q:VP}(b:IsTup s.heap d items)(f:s.heap.IsSliceOf c e g .none)(pl:IsPart e lo)(n:IsPart g hi)
  (l:¬ (sIx items.size 0 lo=0/\sIx items.size items.size hi=items.size))
  (h:Q (.ref s.heap.objs.size) {s with heap:=s.heap.push {cls:=.type "tuple",data:=.seq ((items.toList.drop (sIx items.size 0 lo)).take (sIx items.size items.size hi-sIx items.size 0 lo)).toArray}})
  (hsz:items.size<=sizeLine):wpAny (model prog w) A (getItem (.ref d) (.ref c)) Q E s:=by
 have a:sizeOk (.seq ((items.toList.drop (sIx items.size 0 lo)).take (sIx items.size items.size hi-sIx items.size 0 lo)).toArray):=by
  show((items.toList.drop (sIx items.size 0 lo)).take (sIx items.size items.size hi-sIx items.size 0 lo)).toArray.size<=sizeLine;rw[zT,yJ,tJ,zM];omega
 have u:sIx items.size items.size hi<=items.size:=Os _ _ (zE _) hi;obtain⟨m,o,j,r⟩:=id f;have k:s.TypeIs (.ref c) "slice" := ⟨m,o,j⟩;unfold getItem
 try with_reducible refine xB ?_
 first|refine zA (zB ?_)|skip
 refine zA (wpAny_sequenceKey b.typeIs ∅ ?_);refine zA (wB (name:=Str.ofString "__getitem__") b.typeIs PyProof.Rows.slot_tuple_getitem
  (xW PyProof.Rows.slot_tuple_getitem b.typeIs entry_tuple_getitem ?_ (args_tuple_getitem _ _)))
 show wpAny _ _ (Builtin.Tuple.tupleItemsOf (.ref d) >>= _) _ _ s;refine zA (tupleItemsOf_ b ?_);refine zA (uW k ?_);rw[zF ∅];refine zA (Oo f pl n ?_);have i:¬ ((((sIx items.size 0 lo:Nat):Int) == 0 && (1:Int) == 1 && (sIx items.size items.size hi-sIx items.size 0 lo) == items.size)=true):=by
  intro q;rw[zR,zR]at q;have p:((sIx items.size 0 lo:Nat):Int)=0:=yN q.1.1;have t:sIx items.size items.size hi-sIx items.size 0 lo=items.size:=yN q.2;exact l ⟨⋯,⋯⟩
 show wpAny _ _ (if(((sIx items.size 0 lo:Nat):Int) == 0 && (1:Int) == 1 && (sIx items.size items.size hi-sIx items.size 0 lo) == items.size)=true then _ else _) _ _ s;rw[zD i,On]
 first
  |exact zA (m:=Builtin.Tuple.tupleExact _) (xL (zB ⟨_,rfl,zB h⟩) a)
  |exact zA (m:=Builtin.Tuple.tupleExact _) (xL (zA (zB (zB ⟨_,rfl,zB h⟩))) a)
  |exact zA (zA (m:=Builtin.Tuple.tupleExact _) (xL (zB (zB ⟨_,rfl,zB h⟩)) a))
  |exact zA (zA (m:=Builtin.Tuple.tupleExact _) (xL (zB ⟨_,rfl,zB h⟩) a))
end
end HT
namespace L2
open PySem PySem.Spec PyProof.Rows
open PySem.W (Frag)
abbrev TO:=St->Hp->(Option Int->Hp->Prop)->Prop
def PO(X:Cx)(e:Option Expr)(t:TO):Prop:=
 ∀(pins:PN)(s:Shared)(σ:St)(H:Hp)(Q:Option Int->Hp->Prop),Inv X pins σ H s->t σ H Q ->
  wpAny (model X.prog X.w) X.A (evalPart e X.env) (λu s'=>∃o H',Inv X pins σ H' s'/\IsPart u o/\Q o H') X.xe s
def Ah:TO:=λ_ H Q=>Q none H
def Ag(t:TE):TO:=λσ H Q=>t σ H λx H1=>∃i,x=.int i/\Q (some i) H1
section
variable {X:Cx} {e:Expr} {te:TE} {lo hi:Option Expr} {tl th:TO} {pos p2:Pos}
theorem Af:PO X none Ah:=by
 intro a s b H Q I h;rw[evalPart_none];exact zB ⟨none,H,I,.none,h⟩
theorem dM(h:PE X e te):PO X (some e) (Ag te):=by
 intro j s d H Q I c;rw[evalPart_some];refine thn (h j s d H _ I c) ?_;rintro u k ⟨x,g,b,r1,a⟩;obtain⟨i,rfl,q⟩:=a;obtain⟨f,rfl⟩:=r1;exact⟨some i,g,b,.int i f,q⟩
def SlR(X:Cx)(r:V->Option Int->Option Int->Hp->VK->Prop):Prop:=
 ∀(pins:PN)(s:Shared)(σ:St)(H:Hp)(x:V)(v vl vu:Value)(lo hi:Option Int)(sl:Addr)(Q:VK),Inv X pins σ H s->RelV x v->s.heap.IsSliceOf sl vl vu .none->IsPart vl lo->IsPart vu hi->r x lo hi H Q ->
  ∃T id,typeLookup (.type T) "__getitem__"=pure (some (.builtin id))/\s.TypeIs v T/\wpAny (model X.prog X.w) X.A (getItem v (.ref sl)) (EP X pins σ Q) X.xe s
def tSl(r:V->Option Int->Option Int->Hp->VK->Prop)(te:TE)(tl th:TO):TE:=λσ H Q=>te σ H λx H1=>tl σ H1 λl H2=>th σ H2 λu H3=>r x l u H3 Q
theorem bH{r:V->Option Int->Option Int->Hp->VK->Prop}(hr:SlR X r)(C:PE X e te)(hl:PO X lo tl)(G:PO X hi th):PE X (.Subscript e (.Slice lo hi none p2) pos) (tSl r te tl th):=by
 intro d s c H Q I h;refine Subscript_ (thn (C d s c H _ I h) ?_);rintro v K ⟨x,m,D,r1,z⟩;refine wpAny_Slice (thn (hl d K c m _ D z) λg F⟨l,k,w,pl,L⟩=>thn (G d F c k _ w L) ?_);rintro f a ⟨u,i,y,p,n⟩;rw[evalPart_none];refine zB ?_;have J:Inv X d c i {a with heap:=a.heap.push {cls:=.type "slice",data:=.fields #[g,f,.none]}}:=y.kept (t':=a.toks) λb M q=>zC _ q;obtain⟨T,id,j,t,o⟩:=hr d {a with heap:=a.heap.push {cls:=.type "slice",data:=.fields #[g,f,.none]}} c i x v g f l u a.heap.objs.size Q J r1 (Heap.IsSliceOf.new ..) pl p n;show wpAny (model X.prog X.w) X.A (subscriptTail e (.Slice lo hi none p2) v (.ref a.heap.objs.size)) (EP X d c Q) X.xe {a with heap:=a.heap.push {cls:=.type "slice",data:=.fields #[g,f,.none]}};exact tail_any (ops:=[.ref a.heap.objs.size,v]) t j o (by with_unfolding_all rfl)
noncomputable def cutV(xs:List V)(lo hi:Option Int):List V:=(xs.drop (HT.sIx xs.length 0 lo)).take (HT.sIx xs.length xs.length hi-HT.sIx xs.length 0 lo)
theorem Ff(xs:List V)(lo hi:Option Int):(cutV xs lo hi).length<=xs.length:=by
 unfold cutV;rw[yJ,tJ];omega
def rSlT(K:Frag):V->Option Int->Option Int->Hp->VK->Prop:=λx lo hi H Q=>∃a xs,x=.ref a/\SqT K H a xs /\
 ¬ (HT.sIx xs.length 0 lo=0/\HT.sIx xs.length xs.length hi=xs.length)/\∀p,H p=none->Q (.ref p) (upd H p (.tup (cutV xs lo hi)))
theorem Om:SlR X (rSlT X.K):=by
 intro p s o H x v m u lo hi n Q I i l pl k h;obtain⟨a,xs,rfl,g,j,q⟩:=h;cases i;obtain⟨its,r,f,d⟩:=I.tuple g;have c:its.toArray.size=xs.length:=by rw[zT];exact r.length.symm
 refine⟨"tuple",_,PyProof.Rows.slot_tuple_getitem.lookup,f.typeIs,?_⟩;refine HT.getItem_tuple_cut f l pl k (by rw[c];exact j) ?_ (by rw[c];exact d);rw[c];refine⟨.ref s.heap.objs.size,_,I.laid (t':=s.toks) (o:=.tup (cutV xs lo hi)) (λb t q=>zC _ q) (zE _) ?_,rfl,q _ (I.hok.fresh (zE _))⟩;exact⟨yG (Ff xs lo hi) d,_,(r.drop (HT.sIx xs.length 0 lo)).take (HT.sIx xs.length xs.length hi-HT.sIx xs.length 0 lo),IsTup.new _ _⟩
end
noncomputable def ixN(n:Nat)(i:Int):Option Nat:=if 0<=i then(if i<n then some i.toNat else none) else if -(n:Int)<=i then some (i+n).toNat else none
noncomputable def atI{α:Type}(xs:List α)(i:Int):Option α:=(ixN xs.length i).bind λj=>xs[j]?
theorem Fe{n:Nat}{i:Int}{j:Nat}(h:ixN n i=some j):seqIndex? i n=some j/\j<n/\-(n:Int)<=i/\i<n:=by
 unfold ixN at h
 by_cases b:0<=i
 ·rw[zF b]at h
  by_cases a:i<n
  ·rw[zF a]at h;have e:i.toNat=j:=zW h;exact⟨by rw[pG b a,e],⋯,⋯,a⟩
  ·rw[zD a]at h;cases h
 ·rw[zD b]at h
  by_cases a:-(n:Int)<=i
  ·rw[zF a]at h;have e:(i+n).toNat=j:=zW h;exact⟨by rw[pQ ⋯ a,e],⋯,a,⋯⟩
  ·rw[zD a]at h;cases h
theorem Fd{a:Type}{xs:List a}{i:Int}{v:a}(h:atI xs i=some v):∃j,seqIndex? i xs.length=some j/\xs[j]?=some v/\j<xs.length/\-(xs.length:Int)<=i/\i<xs.length:=by
 unfold atI at h;cases e:ixN xs.length i with
 |none=>rw[e]at h;cases h
 |some j =>
  rw[e]at h;obtain⟨f,d,b,c⟩:=Fe e;exact⟨j,f,h,d,b,c⟩
theorem Ol{a:Type}{xs:List a}{j:Nat}{v:a}(h:xs[j]?=some v):atI xs (j:Int)=some v:=by
 have b:j<xs.length:=(oH.mp h).1;have e:ixN xs.length (j:Int)=some j:=by
  unfold ixN;rw[zF ⋯,zF ⋯];simp
 unfold atI;rw[e];exact h
theorem Oj{a:Type}(xs:List a)(v:a):atI (xs++[v]) (-1)=some v:=by
 have hl:(xs++[v]).length=xs.length+1:=by simp
 have e:ixN (xs++[v]).length (-1)=some xs.length:=by
  unfold ixN;rw[hl,zD ∅,zF ⋯];congr 1;omega
 unfold atI;rw[e];show(xs++[v])[xs.length]?=some v;simp
def Oi(b:Expr):Prop:=∀o i,subscripted b false o i=operate [o,i] (getItem o i)
def IxR(X:Cx)(r:R2):Prop:=
 ∀(value slice:Expr)(pins:PN)(s:Shared)(σ:St)(H:Hp)(x y:V)(v u:Value)(Q:VK),Inv X pins σ H s->RelV x v->RelV y u->r x y H Q ->
  subscripted slice false v u=operate [v,u] (getItem v u)->wpAny (model X.prog X.w) X.A (subscriptTail value slice v u) (EP X pins σ Q) X.xe s
def MtR(X:Cx)(id:String)(r:V->List V->Hp->VK->Prop):Prop:=
 ∀(pins:PN)(s:Shared)(σ:St)(H:Hp)(x:V)(xs:List V)(v:Value)(us:LW)(Q:VK),Inv X pins σ H s->RelV x v->Vals xs us->r x xs H Q ->
  wpAny (model X.prog X.w) X.A (call (.builtin id) (v:: us)) (EP X pins σ Q) X.xe s
section
variable {X:Cx} {a b:Expr} {ta tb:TE} {pos:Pos}
theorem nQ{r:R2}(hr:IxR X r)(g:PE X a ta)(c:PE X b tb)(i:Oi b):PE X (.Subscript a b pos) (tOp r ta tb):=by
 intro l s f H Q I h;exact Subscript_ (binT g c I h λv u k x y d j e m q=>hr a b l k f d x y v u Q j e m q (i _ _))
def rIxL(K:Frag):R2:=λx y H Q=>∃p xs i v,x=.ref p/\y=.int i/\SqL K H p xs/\atI xs i=some v/\Q v H
def rIxT(K:Frag):R2:=λx y H Q=>∃p xs i v,x=.ref p/\y=.int i/\SqT K H p xs/\atI xs i=some v/\Q v H
theorem Oh:IxR X (rIxL X.K):=by
 intro P R k s e H x y v u Q I C D h g;obtain⟨p,xs,i,z,rfl,rfl,t,J,q⟩:=h;cases C;obtain⟨O,rfl⟩:=D;obtain⟨its,r,pl,N⟩:=I.list t;obtain⟨j,c,F,L,o,K⟩:=Fd J;obtain⟨w,f,n⟩:=r.get F;have hl:=r.length;have M:=bF;have m:EP X k e Q w s:=⟨z,H,I,n,q⟩
 by_cases l:0<=i
 ·have d:i.toNat=j:=by
   rw[pG l K]at c;exact zW c
  exact item_listR pl.isList l ⋯ (by rw[d];simpa using f) m g
 ·have d:(i+(its.toArray.size:Int)).toNat=j:=by
   rw[pQ ⋯ o]at c;rw[zT,←hl];exact zW c
  exact sQ (x:=w) pl.isList.typeIs slot_list_getitem.lookup
   (wpAny_getItem_list_neg (Q:=λr G=>r=w/\EP X k e Q r G) pl.isList ⋯ (by rw[zT] <;> omega) ⋯ (by rw[d];simpa using f) ⟨rfl,m⟩) g
theorem Og:IxR X (rIxT X.K):=by
 intro M O d s c H x y v u Q I g k h m;obtain⟨p,xs,i,z,rfl,rfl,f,t,q⟩:=h;cases g;obtain⟨L,rfl⟩:=k;obtain⟨its,r,pl,K⟩:=I.tuple f;obtain⟨j,C,n,F,G,N⟩:=Fd t;obtain⟨w,l,e⟩:=r.get n;have hl:=r.length;have J:=bF;have D:EP X d c Q w s:=⟨z,H,I,e,q⟩;exact sQ (x:=w) pl.typeIs slot_tuple_getitem.lookup
  (getItem_tuple (j:=j) (Q:=λr o=>r=w/\EP X d c Q r o) pl ⋯ ⋯ (by rw[zT,←hl];exact C) (by simpa using l) ⟨rfl,D⟩) m
theorem Of(its:LW)(n j:Nat)(u:Value):Obj.mapSeq (·.setIfInBounds j u) {cls:=.type "list",data:=.seq its.toArray n}={cls:=.type "list",data:=.seq (its.set j u).toArray n}:=by
 simp[Obj.mapSeq]
theorem Inv.lst{c:PN}{d:St}{H:Hp}{s:Shared}{p:Addr}{xs:List V}(I:Inv X c d H s)(h:H p=some (.lst xs)):
  ∃(its:LW)(n:Nat),Vals xs its/\s.heap.get? p=some {cls:=.type "list",data:=.seq its.toArray n}/\xs.length<=sizeLine:=by
 obtain⟨z,its,n,r,e⟩:=I.hok p _ h;exact⟨its,n,r,e,z⟩
theorem Inv.lstUpd{i:PN}{g:St}{H:Hp}{s:Shared}{p:Addr}{xs ys:List V}{its its':LW}{n c:Nat}{f:Obj->Obj}(I:Inv X i g H s)(h:H p=some (.lst xs))
  (m:s.heap.get? p=some {cls:=.type "list",data:=.seq its.toArray n})(d:f {cls:=.type "list",data:=.seq its.toArray n}={cls:=.type "list",data:=.seq its'.toArray c})(r:Vals ys its')(k:ys.length<=sizeLine)(l:Nat):
  Inv X i g (upd H p (.lst ys)) {s with heap:=s.heap.update p f,toks:=l}:=by
 have e:(s.heap.update p f).get? p=some {cls:=.type "list",data:=.seq its'.toArray c}:=by
  rw[wF f m (by rw[d] <;> rfl),d]
 refine I.write (x:=p) (e:=p) (by rw[h];trivial) (.inl rfl) (λb u j q=>(vH _ _ (yA j)).trans q) ⟨_,e⟩ ?_;exact⟨k,its',c,r,e⟩
def dN:V->V->V->Hp->(Hp->Prop)->Prop:=λo i v H Q=>∃p xs k j,o=.ref p/\i=.int k/\H p=some (.lst xs)/\ixN xs.length k=some j/\Q (upd H p (.lst (xs.set j v)))
theorem bI:PSet X dN:=by
 intro z s w H o i v G J u Q I D C F h;obtain⟨p,xs,k,j,rfl,rfl,m,x,q⟩:=h;cases D;obtain⟨L,rfl⟩:=C;obtain⟨its,n,r,d,y⟩:=I.lst m;obtain⟨c,M,g,l⟩:=Fe x;have hl:=r.length;have K:=bF;have f:Inv X z w (upd H p (.lst (xs.set j v))) {s with heap:=s.heap.update p (Obj.mapSeq (·.setIfInBounds j u))}:=
  I.lstUpd m d (Of its n j u) (r.set F j) (by rw[List.length_set];exact y) s.toks
 by_cases t:0<=k
 ·have e:k.toNat=j:=by
   rw[pG t l]at c;exact zW c
  exact PySem.W.ki_setAt d t ⋯ (by rw[zT,←hl];exact l) (by rw[e];exact⟨_,f,q⟩)
 ·have e:(k+(its.toArray.size:Int)).toNat=j:=by
   rw[pQ ⋯ g]at c;rw[zT,←hl];exact zW c
  exact PySem.W.ki_setBack d ⋯ (by rw[zT,←hl];exact g) ⋯ (by rw[e];exact⟨_,f,q⟩)
theorem Oe(lo hi:Option Int)(n:Nat):(sliceBounds lo hi none n).1=((HT.sIx n 0 lo:Nat):Int)/\(sliceBounds lo hi none n).2.1=((HT.sIx n n hi:Nat):Int)/\(sliceBounds lo hi none n).2.2=1:=by
 refine⟨?_,?_,rfl⟩
 ·cases lo with
  |none=>simp[sliceBounds,HT.sIx]
  |some i =>
   simp only[sliceBounds,HT.sIx,Option.getD_none,show(1:Int) > 0 by decide,if_true]
   by_cases h:i<0
   ·simp only[h,if_true] <;> omega
   ·simp only[h,if_false] <;> omega
 ·cases hi with
  |none=>simp[sliceBounds,HT.sIx]
  |some i =>
   simp only[sliceBounds,HT.sIx,Option.getD_none,show(1:Int) > 0 by decide,if_true]
   by_cases h:i<0
   ·simp only[h,if_true] <;> omega
   ·simp only[h,if_false] <;> omega
theorem Od(its:LW)(lo hi:Option Int):slicePick its.toArray lo hi none=((its.drop (HT.sIx its.length 0 lo)).take (HT.sIx its.length its.length hi-HT.sIx its.length 0 lo)).toArray:=by
 obtain⟨e,d,c⟩:=Oe lo hi its.toArray.size;unfold slicePick;rw[e,d,c];simp only[sliceRange_one,pick_run,List.size_toArray] <;> rfl
def rSlL(K:Frag):V->Option Int->Option Int->Hp->VK->Prop:=λx lo hi H Q=>∃a xs,x=.ref a/\SqL K H a xs/\∀p,H p=none->Q (.ref p) (upd H p (.lst (cutV xs lo hi)))
theorem Oc:SlR X (rSlL X.K):=by
 intro n s m H x v k p lo hi l Q I f j pl i h;obtain⟨a,xs,rfl,d,q⟩:=h;cases f;obtain⟨its,r,c,g⟩:=I.list d;have e:=r.length;refine⟨"list",_,slot_list_getitem.lookup,c.isList.typeIs,?_⟩;refine wpAny_getItem_list_slice c.isList j pl i .none (by simp) ?_ (by rw[List.size_toArray] <;> omega);rw[Od,←e];refine⟨.ref s.heap.objs.size,_,I.laid (t':=s.toks) (o:=.lst (cutV xs lo hi)) (λb o q=>zC _ q) (zE _) ?_,rfl,q _ (I.hok.fresh (zE _))⟩;exact⟨yG (Ff xs lo hi) g,_,0,(r.drop (HT.sIx xs.length 0 lo)).take (HT.sIx xs.length xs.length hi-HT.sIx xs.length 0 lo),zS _ rfl⟩
noncomputable def iW:V->Bool
 |.non=>true
 |.bl _=>true
 |.int _=>true
 |.str _=>true
 |_=>false
noncomputable def eqV:V->V->Bool
 |.non,.non=>true
 |.bl a,.bl b=>a == b
 |.bl a,.int b=>(if a then 1 else 0) == b
 |.int a,.bl b=>a == (if b then 1 else 0)
 |.int a,.int b=>a == b
 |.str a,.str b=>a == b
 |_,_=>false
theorem Ob{A:Around}{s:Shared}{y x:V}{u v:Value}(f:RelV y u)(c:RelV x v)(g:iW y=true)(e:iW x=true):SeqAt.EqAt A s u v (eqV y x):=by
 cases y with
 |non =>
  cases f;cases x with
  |non=>cases c;exact SeqAt.EqAt.same _
  |bl b=>cases c;exact SeqAt.EqAt.none_bool b
  |int b=>obtain⟨d,rfl⟩:=c;exact SeqAt.EqAt.none_int b d
  |str b=>obtain⟨d,rfl⟩:=c;exact SeqAt.EqAt.none_str b d
  |_=>exact absurd (show false=true from e) zX
 |bl a =>
  cases f;cases x with
  |non=>cases c;exact SeqAt.EqAt.bool_none a
  |bl b=>cases c;exact SeqAt.EqAt.bool_bool a b
  |int b=>obtain⟨d,rfl⟩:=c;exact SeqAt.EqAt.bool_int a b d
  |str b=>obtain⟨d,rfl⟩:=c;exact SeqAt.EqAt.bool_str a b d
  |_=>exact absurd (show false=true from e) zX
 |int a =>
  obtain⟨t',rfl⟩:=f;cases x with
  |non=>cases c;exact SeqAt.EqAt.int_none a t'
  |bl b=>cases c;exact SeqAt.EqAt.int_bool a t' b
  |int b=>obtain⟨d,rfl⟩:=c;exact SeqAt.EqAt.int_int a t' b d
  |str b=>obtain⟨d,rfl⟩:=c;exact SeqAt.EqAt.int_str a t' b d
  |_=>exact absurd (show false=true from e) zX
 |str a =>
  obtain⟨t',rfl⟩:=f;cases x with
  |non=>cases c;exact SeqAt.EqAt.str_none a t'
  |bl b=>cases c;exact SeqAt.EqAt.str_bool a t' b
  |int b=>obtain⟨d,rfl⟩:=c;exact SeqAt.EqAt.str_int a t' b d
  |str b=>obtain⟨d,rfl⟩:=c;exact SeqAt.EqAt.str_str a t' b d
  |_=>exact absurd (show false=true from e) zX
 |_=>exact absurd (show false=true from g) zX
noncomputable def eqU(x:V)(u:Value):Bool:=match u with
 |.none=>eqV .non x
 |.bool b=>eqV (.bl b) x
 |.int i _=>eqV (.int i) x
 |.str z _=>eqV (.str z) x
 |_=>false
theorem Fc{x y:V}{u:Value}(r:RelV y u)(f:iW y=true):eqU x u=eqV y x:=by
 cases y with
 |non=>cases r;rfl
 |bl b=>cases r;rfl
 |int i=>obtain⟨t,rfl⟩:=r;rfl
 |str z=>obtain⟨t,rfl⟩:=r;rfl
 |_=>exact absurd (show false=true from f) zX
theorem Ae{x:V}:∀{xs:List V}{us:LW},Vals xs us->xs.all iW=true->us.any (eqU x)=xs.any λy=>eqV y x
 |_,_,.nil,_=>rfl
 |y:: xs,u:: us,.cons r t,f=>by
  rw[xI,zR]at f;rw[qE,qE,Fc r f.1,Ae t f.2]
theorem Ad{A:Around}{s:Shared}{x:V}{v:Value}(e:RelV x v)(d:iW x=true):∀{xs:List V}{us:LW},Vals xs us->xs.all iW=true->∀u∈us,SeqAt.EqAt A s u v (eqU x u)
 |_,_,.nil,_=>λu c=>by cases c
 |y:: xs,u:: us,.cons r i,f=>λg c=>by
  rw[xI,zR]at f;rcases xH.mp c with rfl|c
  ·rw[Fc r f.1];exact Ob r e f.1 d
  ·exact Ad e d i f.2 g c
noncomputable def inV(x:V)(xs:List V):Bool:=xs.any λy=>eqV y x
def rIn(K:Frag)(neg:Bool):R2:=λx y H Q=>∃p xs,y=.ref p/\(SqL K H p xs\/SqT K H p xs)/\iW x=true/\xs.all iW=true/\Q (.bl (if neg then !inV x xs else inV x xs)) H
theorem Ac:OpR X (compareOp .NotIn) (rIn X.K true):=by
 intro k s j H x y v u Q I f i h;obtain⟨p,xs,rfl,c,e,fs,q⟩:=h;cases i;rcases c with c|c
 ·obtain⟨its,r,pl,g⟩:=I.list c;refine SeqAt.notIn_listAt (eqU x) pl.isList (λw d=>Ad f e r fs w (by simpa using d)) ⟨.bl _,H,I,rfl,?_⟩;rw[show its.toArray.any (eqU x)=its.any (eqU x) by simp,Ae r fs];exact q
 ·obtain⟨its,r,pl,g⟩:=I.tuple c;refine SeqAt.notIn_tupleAt (eqU x) pl (λw d=>Ad f e r fs w (by simpa using d)) ⟨.bl _,H,I,rfl,?_⟩;rw[show its.toArray.any (eqU x)=its.any (eqU x) by simp,Ae r fs];exact q
theorem Oa:lK X (.builtin "len") (λxs H Q=>∃p ys,xs=[.ref p]/\(SqL X.K H p ys\/SqT X.K H p ys)/\Q (.int ys.length) H):=by
 intro k s j H xs us Q I r h;obtain⟨p,ys,rfl,c,q⟩:=h;obtain⟨u,rfl,f⟩:=jE r;cases f;have i:=bF;rcases c with c|c
 ·obtain⟨its,d,pl,g⟩:=I.list c;have e:=d.length;exact Calls.call_len_list pl.isList (by simp only[List.size_toArray] <;> omega) ⟨.int ys.length,H,I.tok _,⟨s.toks+1,by rw[zT,e]⟩,q⟩
 ·obtain⟨its,d,pl,g⟩:=I.tuple c;have e:=d.length;exact len_tuple pl (by simp only[List.size_toArray] <;> omega) ⟨.int ys.length,H,I.tok _,⟨s.toks+1,by rw[zT,e]⟩,q⟩
theorem Pz:lK X (.type "list") (λxs H Q=>∃p ys,xs=[.ref p]/\(SqL X.K H p ys\/SqT X.K H p ys)/\∀l,H l=none->Q (.ref l) (upd H l (.lst ys))):=by
 intro y s x H xs us Q I r h;obtain⟨p,ys,rfl,f,q⟩:=h;obtain⟨u,rfl,w⟩:=jE r;cases w;have v:∀(its:LW),Vals ys its->ys.length<=sizeLine->∀(h':Heap)(d:Nat),(∀b t,s.heap.get? b=some t->h'.get? b=some t) ->
   h'.get? s.heap.objs.size=some {cls:=.type "list",dict:=none,data:=.seq its.toArray d,slots:=#[]}->EP X y x Q (.ref s.heap.objs.size) {s with heap:=h'}:=λits c i h' d g e =>
  ⟨.ref s.heap.objs.size,_,I.laid (t':=s.toks) g (zE _) (show nO X.prog X.w _ h' _ (.lst ys) from⟨i,its,d,c,e⟩),rfl,q _ (I.hok.fresh (zE _))⟩
 rcases f with f|f
 ·obtain⟨its,c,pl,i⟩:=I.list f;have z:=c.length;obtain⟨o,m,j,n,k⟩:=pl.isList;exact call_list_seq p (.inl rfl) m j k (λh' d g e=>v its c i h' d g e) (by simp only[List.size_toArray] <;> omega)
 ·obtain⟨its,c,pl,i⟩:=I.tuple f;have z:=c.length;obtain⟨o,m,j,n,k⟩:=pl;exact call_list_seq p (.inr rfl) m j k (λh' d g e=>v its c i h' d g e) (by simp only[List.size_toArray] <;> omega)
theorem Py:lK X (.type "tuple") (λxs H Q=>∃p ys,xs=[.ref p]/\((SqL X.K H p ys/\∀l,H l=none->Q (.ref l) (upd H l (.tup ys)))\/(SqT X.K H p ys/\Q (.ref p) H))):=by
 intro j s i H xs us Q I r h;obtain⟨p,ys,rfl,h⟩:=h;obtain⟨u,rfl,m⟩:=jE r;cases m;rcases h with⟨c,q⟩|⟨c,q⟩
 ·obtain⟨its,d,pl,g⟩:=I.list c;have t:=d.length;refine call_tuple_list pl.isList (λh' k=>?_) (by simp only[List.size_toArray] <;> omega);have f:Inv X j i H {s with heap:=h'}:=I.kept (t':=s.toks) k;have n:Inv X j i (upd H h'.objs.size (.tup ys)) {s with heap:=h'.push {cls:=.type "tuple",data:=.seq its.toArray}}:=
   f.laid (t':=s.toks) (λb o e=>zC _ e) (zE _) (show nO X.prog X.w _ _ _ (.tup ys) from⟨g,its,d,IsTup.new _ _⟩)
  exact⟨.ref h'.objs.size,_,n,rfl,q _ (f.hok.fresh (zE _))⟩
 ·obtain⟨its,d,pl,g⟩:=I.tuple c;exact call_tuple_same pl ⟨.ref p,H,I,rfl,q⟩
def tyV(K:Frag)(T:String)(x:V)(H:Hp):Prop:=match x with
 |.str _=>T="str"
 |.int _=>T="int"
 | .ref p=>(T="list" /\ ∃xs,SqL K H p xs)\/(T="tuple" /\ ∃o,K.lookup p=some o/\o.cls=.type "tuple" /\ o.dict=none) \/
   (T="dict" /\ ((∃kvs,H p=some (.dK kvs))\/∃kvs,H p=some (.dT kvs)))\/(T="set" /\ ∃S n,H p=some (.set S n))
 |_=>False
theorem Fb{u:PN}{t:St}{H:Hp}{s:Shared}{T:String}{x:V}{v:Value}(I:Inv X u t H s)(r:RelV x v)(ty:tyV X.K T x H):
  s.TypeIs v T/\∀a,v=.ref a->∃l,s.heap.get? a=some l/\l.dict=none:=by
 cases x with
 |str z =>
  obtain⟨k,rfl⟩:=r;cases(show T="str" from ty);exact⟨typeIs_str s z k,λ_ e=>nomatch e⟩
 |int i =>
  obtain⟨k,rfl⟩:=r;cases(show T="int" from ty);exact⟨typeIs_int s i k,λ_ e=>nomatch e⟩
 | ref p =>
  cases r;rcases ty with⟨rfl,xs,m⟩|⟨rfl,o,d,q,j⟩|⟨rfl,d⟩|⟨rfl,S,n,d⟩
  ·obtain⟨its,_,pl,_⟩:=I.list m;refine⟨pl.isList.typeIs,λa e=>?_⟩;cases e;obtain⟨o,n,e,c,j,_⟩:=pl;exact⟨o,e,j⟩
  ·refine⟨⟨o,I.kIn p o d,q⟩,λa e=>?_⟩;cases e;exact⟨o,I.kIn _ o d,j⟩
  ·have z:∃o,s.heap.get? p=some o/\o.ExactDict:=by
    rcases d with⟨kvs,d⟩|⟨kvs,d⟩
    ·obtain⟨_,_,_,_,o,_,_,e,f,_⟩:=I.hok p _ d;exact⟨o,e,f⟩
    ·obtain⟨_,_,_,_,o,_,_,e,f,_⟩:=I.hok p _ d;exact⟨o,e,f⟩
   obtain⟨o,e,f⟩:=z;refine⟨⟨o,e,f.1⟩,λa g=>?_⟩;cases g;exact⟨o,e,f.2.1⟩
  ·obtain⟨o,_,_,_,e,f,_⟩:=I.hok p _ d;refine⟨⟨o,e,f.1⟩,λa g=>?_⟩;cases g;exact⟨o,e,f.2.1⟩
 |_=>exact False.elim ty
def tBM0(K:Frag)(T:String)(r:V->List V->Hp->VK->Prop)(to:TE):TE:=λσ H Q=>to σ H λx H1=>tyV K T x H1/\r x [] H1 Q
def tBM(K:Frag)(T:String)(r:V->List V->Hp->VK->Prop)(to:TE)(t:TA):TE:=λσ H Q=>to σ H λx H1=>tyV K T x H1/\t σ H1 λxs H2=>r x xs H2 Q
variable {o e:Expr} {es:List Expr} {to:TE} {t:TA} {name:Str} {apos cpos:Pos} {T id:String} {r:V->List V->Hp->VK->Prop}
theorem Fa(l:PlainAttrs T)(g:Slot T name id)(n:typeOf (.builtin id)=pure (.type "method_descriptor"))(i:MtR X id r)(y:PE X o to)
  (q:attributeBase o name X.env (eval o X.env)=eval o X.env:=by rfl)(p:(apos.endLine == cpos.line)=true:=by rfl):PE X (.Call (.Attribute o name apos) [] [] cpos) (tBM0 X.K T r to):=by
 intro f s d H Q I h;refine wpAny_Call_method0_late q p (thn (y f s d H _ I h) ?_);rintro v j ⟨x,u,c,r1,ty,k⟩;obtain⟨m,w⟩:=Fb c r1 ty;exact⟨T,id,l,g,n,m,w,uN rfl (PySem.evalArgs_none (i f j d u x [] v [] Q c r1 .nil k))⟩
theorem jF(i:PlainAttrs T)(q:Slot T name id)(w:typeOf (.builtin id)=pure (.type "method_descriptor"))(F:MtR X id r)(p:PE X o to)(l:PA X (e:: es) t)
  (n:attributeBase o name X.env (eval o X.env)=eval o X.env:=by rfl)
  (k:((backTo cpos (starEach (e:: es) X.env)).all (λx=>!x.1) && (backToKw cpos (keywordEach [] X.env)).all (λx=>x.1.isSome)
   && decide ((e:: es).length+([]:List Keyword).length+(if([]:List Keyword).isEmpty then 0 else 1)<30))=true:=by rfl)
  (y:(apos.endLine == cpos.line)=true:=by rfl)(u:starEach (e:: es) X.env=(false,eval e X.env):: starEach es X.env:=by rfl)(D:(backTo cpos (starEach es X.env)).any (·.1)=false:=by rfl):
  PE X (.Call (.Attribute o name apos) (e:: es) [] cpos) (tBM X.K T r to t):=by
 intro d s c H Q I h;refine wpAny_Call_method_late n k y rfl (thn (p d s c H _ I h) ?_);rintro v L ⟨x,m,g,r1,ty,G⟩;obtain⟨K,z⟩:=Fb g r1 ty;refine⟨T,id,i,q,w,K,z,?_⟩;have f:=l cpos d L c m _ g G;rw[u]at f ⊢;refine uN (by show(false || (backTo cpos (starEach es X.env)).any (·.1))=false;rw[D] <;> rfl) (vS ?_);exact thn f λus J⟨vs,j,C,r2,M⟩=>F d J c j x vs v us Q C r1 r2 M
end
def MtM(X:Cx)(id:String)(r:V->List V->Hp->VK->Prop):Prop:=
 ∀(pins:PN)(s:Shared)(σ:St)(H:Hp)(x:V)(xs:List V)(v:Value)(us:LW)(Q:VK),Inv X pins σ H s->RelV x v->Vals xs us->r x xs H Q ->
  wpAny (model X.prog X.w) X.A (call (.builtin id) (v:: us)) (EP X pins σ Q) X.xe s
theorem Vals.one{x:V}{us:LW}(h:Vals [x] us):∃u,us=[u]/\RelV x u:=by
 cases h with|cons r h=>cases h;exact⟨_,rfl,r⟩
theorem Vals.two{x y:V}{us:LW}(h:Vals [x,y] us):∃u v,us=[u,v]/\RelV x u/\RelV y v:=by
 cases h with|cons r h=>obtain⟨v,rfl,q⟩:=Vals.one h;exact⟨_,_,rfl,r,q⟩
theorem Vals.zero:∀{us:LW},Vals [] us->us=[]
 |_,.nil=>rfl
theorem Vals.dropLast{xs:List V}{us:LW}(h:Vals xs us):Vals xs.dropLast us.dropLast:=by
 induction h with
 |nil=>exact .nil
 |cons r b a =>
  cases b with
  |nil=>exact .nil
  |cons q t'=>exact .cons r a
theorem Vals.eraseIdx:∀{xs:List V}{us:LW}(i:Nat),Vals xs us->Vals (xs.eraseIdx i) (us.eraseIdx i)
 |_,_,_,.nil=>.nil
 |_,_,0,.cons _ t=>t
 |_,_,i+1,.cons r t=>.cons r (Vals.eraseIdx i t)
theorem Vals.rep{xs:List V}{us:LW}(h:Vals xs us):∀k:Nat,Vals (List.replicate k xs).flatten (List.replicate k us).flatten
 |0=>.nil
 |k+1=>by
  rw[wP,wP,sK,sK];exact Vals.append h (Vals.rep h k)
theorem Px{d:Type}(l:List d):l.eraseIdx (l.length-1)=l.dropLast:=by
 induction l with
 |nil=>rfl
 | cons a r c =>
  cases r with
  |nil=>rfl
  | cons b r =>
   have e:(a:: b:: r).length-1=((b:: r).length-1)+1:=by
    have g:(a:: b:: r).length=r.length+2:=rfl;have f:(b:: r).length=r.length+1:=rfl;omega
   rw[e,List.eraseIdx_cons_succ,c]
   all_goals rfl
theorem Gz{a:Type}:∀(l:List a)(i:Nat),(l.eraseIdx i).length<=l.length
 |[],_=>zE _
 |_:: _,0=>uM _
 |_:: r,i+1=>qP (Gz r i)
theorem Gy(its:LW):∀(k:Nat)(acc:LW),
  List.foldl (λc b=>c++b) acc.toArray (List.replicate k its.toArray)=(acc++(List.replicate k its).flatten).toArray
 |0,acc=>by simp
 | k+1,acc=>by
  have e:acc.toArray++its.toArray=(acc++its).toArray:=by simp
  have a:(acc++its)++(List.replicate k its).flatten=acc++(List.replicate (k+1) its).flatten:=by
   rw[wP,sK,yI]
  rw[←a,←Gy its k (acc++its),←e,wP,wM]
section
variable {X:Cx} {pins:PN} {σ:St} {H:Hp} {s:Shared} {l b:Addr} {xs ys zs:List V}
theorem Inv.lset{its its':LW}{n:Nat}{f:Array Value->Array Value}{t':Nat}(I:Inv X pins σ H s)(j:H l=some (.lst xs))
  (e:s.heap.get? l=some {cls:=.type "list",data:=.seq its.toArray n})(c:f its.toArray=its'.toArray)(i:Vals ys its')(d:ys.length<=sizeLine):
  Inv X pins σ (upd H l (.lst ys)) {s with heap:=s.heap.update l (Obj.mapSeq f),toks:=t'}:=by
 have q:=PySem.IsL.update e f;rw[c]at q;refine I.write (x:=l) (e:=l) (by rw[j];exact trivial) (.inl rfl) (λk u a g=>(vH s.heap (Obj.mapSeq f) (yA a)).trans g) ⟨_,q⟩ ?_;exact⟨d,its',_,i,q⟩
theorem Inv.lnew{its:LW}{t':Nat}(I:Inv X pins σ H s)(c:Vals ys its)(a:ys.length<=sizeLine):
  Inv X pins σ (upd H s.heap.objs.size (.lst ys)) {s with heap:=s.heap.push {cls:=.type "list",data:=.seq its.toArray},toks:=t'}:=
 I.laid (λ_ _ q=>zC _ q) (zE _) ⟨a,its,0,c,zS _ rfl⟩
theorem Inv.fresh(I:Inv X pins σ H s):H s.heap.objs.size=none:=I.hok.fresh (zE _)
theorem Inv.lstM(I:Inv X pins σ H s)(a:H l=some (.lst xs)):xs.length<=sizeLine/\∃(its:LW)(n:Nat),Vals xs its/\xs.length=its.length/\s.heap.get? l=some {cls:=.type "list",data:=.seq its.toArray n}:=by
 obtain⟨z,its,n,r,e⟩:=I.hok l _ a;exact⟨z,its,n,r,r.length,e⟩
theorem Pw{n:Nat}(h:n<=sizeLine):Builtin.List.listTooLong n=false:=by
 unfold Builtin.List.listTooLong;exact zN ⋯
end
section
variable {X:Cx}
def Pu:V->List V->Hp->VK->Prop:=λx vs H Q=>∃l xs y,x=.ref l/\vs=[y]/\H l=some (.lst xs)/\xs.length<sizeLine/\Q .non (upd H l (.lst (xs++[y])))
theorem jG:MtM X "list.append" Pu:=by
 intro i s g H x vs v us Q I c b h;obtain⟨l,xs,y,rfl,rfl,a,f,q⟩:=h;cases c;obtain⟨u,rfl,d⟩:=b.one;obtain⟨z,its,n,r,hl,e⟩:=I.lstM a;refine rG F.slot_list_append ⟨_,e,rfl⟩ F.entry_list_append (F.args_list_append_2 _ _) (PySem.list_append l its.toArray n u (by rw[zT];omega)) ⟨e,?_⟩;refine⟨.non,_,I.lset (its':=its++[u]) a e (by simp) (r.append (.cons d .nil)) ?_,rfl,q⟩;rw[yE,List.length_singleton];omega
def rPop:V->List V->Hp->VK->Prop:=λx vs H Q=>∃l xs y,x=.ref l/\vs=[]/\H l=some (.lst xs)/\xs[xs.length-1]?=some y/\Q y (upd H l (.lst xs.dropLast))
theorem Pt:MtM X "list.pop" rPop:=by
 intro m s k H x vs v us Q I f d h;obtain⟨l,xs,y,rfl,rfl,a,b,q⟩:=h;cases f;have c:=d.zero;subst c;obtain⟨z,its,n,r,hl,e⟩:=I.lstM a;obtain⟨u,g,j⟩:=r.get b;have i:its.toArray[its.toArray.size-1]?=some u:=by
  show its.toArray[its.length-1]?=some u;rw[←yH,←hl];exact g
 refine rG F.slot_list_pop ⟨_,e,rfl⟩ F.entry_list_pop (F.args_list_pop_1 _) (MeetsSeq.list_pop_last l its.toArray n u i (by rw[zT];omega)) ⟨e,?_⟩;refine⟨y,_,I.lset (its':=its.dropLast) a e ?_ r.dropLast ?_,j,q⟩
 ·show its.toArray.eraseIdxIfInBounds (its.toArray.size-1)=its.dropLast.toArray;rw[zT,List.eraseIdxIfInBounds_toArray,Px]
 ·rw[List.length_dropLast];omega
def Ps:V->List V->Hp->VK->Prop:=λx vs H Q=>∃l xs i k y,x=.ref l/\vs=[.int i]/\H l=some (.lst xs)/\-(2^63)<=i/\i<2^63/\seqIndex? i xs.length=some k/\xs[k]?=some y/\Q y (upd H l (.lst (xs.eraseIdx k)))
theorem Pq:MtM X "list.pop" Ps:=by
 intro D s C H x vs v us Q I f d h;obtain⟨l,xs,i,k,y,rfl,rfl,a,o,j,t,c,q⟩:=h;cases f;obtain⟨u,rfl,p⟩:=d.one;obtain⟨m,rfl⟩:=p;obtain⟨z,its,n,r,hl,e⟩:=I.lstM a;obtain⟨w,g,b⟩:=r.get c;refine rG F.slot_list_pop ⟨_,e,rfl⟩ F.entry_list_pop (F.args_list_pop_2 _ _)
  (MeetsSeq.list_pop_at l its.toArray n i m k w (fitsIndex_both o j) (by rw[zT,←hl];exact t) (by rw[←yH];exact g) (by rw[zT];omega)) ⟨e,?_⟩
 refine⟨y,_,I.lset (its':=its.eraseIdx k) a e ?_ (r.eraseIdx k) ?_,b,q⟩
 ·show its.toArray.eraseIdxIfInBounds k=(its.eraseIdx k).toArray;rw[List.eraseIdxIfInBounds_toArray]
 ·have:=Gz xs k;omega
def Pp:V->List V->Hp->VK->Prop:=λx vs H Q=>∃l xs,x=.ref l/\vs=[]/\H l=some (.lst xs)/\Q .non (upd H l (.lst []))
theorem Po:MtM X "list.clear" Pp:=by
 intro g s f H x vs v us Q I d c h;obtain⟨l,xs,rfl,rfl,a,q⟩:=h;cases d;have b:=c.zero;subst b;obtain⟨z,its,n,r,hl,e⟩:=I.lstM a;refine rG F.slot_list_clear ⟨_,e,rfl⟩ F.entry_list_clear (F.args_list_clear_1 _) (AutoSeq1.list_clear_list_0 l its.toArray n (by rw[zT];omega)) ⟨e,?_⟩;exact⟨.non,_,I.lset (its':=[]) (ys:=[]) a e rfl .nil (yB _),rfl,q⟩
def rCat:R2:=λx y H Q=>∃l b xs zs,x=.ref l/\y=.ref b/\H l=some (.lst xs)/\H b=some (.lst zs)/\xs.length+zs.length<=sizeLine/\∀p,H p=none->Q (.ref p) (upd H p (.lst (xs++zs)))
theorem dO:OpR X (binaryOp .Add) rCat:=by
 intro t s o H x y v u Q I d i h;obtain⟨l,b,xs,zs,rfl,rfl,j,g,m,q⟩:=h;cases d;cases i;obtain⟨z,its,n,r,hl,e⟩:=I.lstM j;obtain⟨p,a,k,r2,w,c⟩:=I.lstM g;refine PySem.P.add_list e c ?_ (by rw[zT,zT];omega);have f:its.toArray++a.toArray=(its++a).toArray:=by simp
 rw[f];exact⟨.ref _,_,I.lnew (t':=s.toks) (r.append r2) (by rw[yE];omega),rfl,q _ I.fresh⟩
def rRep:R2:=λx y H Q=>∃l k xs,x=.ref l/\y=.int k/\H l=some (.lst xs)/\-(2^63)<=k/\k<2^63/\xs.length*k.toNat<=sizeLine /\
 ∀p,H p=none->Q (.ref p) (upd H p (.lst (List.replicate k.toNat xs).flatten))
theorem Pn{b:Type}(xs:List b)(k:Nat):(List.replicate k xs).flatten.length=k*xs.length:=by
 induction k with
 |zero=>simp
 |succ k a=>rw[wP,sK,yE,a,qZ,Nat.add_comm]
theorem Ab:OpR X (binaryOp .Mult) rRep:=by
 intro N s L H x y v u Q I j p h;obtain⟨l,k,xs,rfl,rfl,K,G,w,f,q⟩:=h;cases j;obtain⟨b,rfl⟩:=p;obtain⟨z,its,n,r,hl,e⟩:=I.lstM K;have o:its.toArray.size*k.toNat<=sizeLine:=by rw[zT,←hl];exact f
 have t:¬ its.toArray.size*k.toNat > (2^63-1)/8:=by
  have:(sizeLine:Nat)<=(2^63-1)/8:=∅
  omega
 have D:¬ (!Builtin.List.listFitsIndex k)=true:=by
  rw[fitsIndex_both G w];exact zX
 have J:¬ Builtin.List.listTooLong (its.toArray.size*k.toNat)=true:=by
  rw[Pw o];exact zX
 have g:List.foldl (λc d=>c++d) #[] (List.replicate (if its.toArray.isEmpty=true then 0 else k.toNat) its.toArray)=(List.replicate k.toNat its).flatten.toArray:=by
  have i:∀m:Nat,List.foldl (λc d=>c++d) #[] (List.replicate m its.toArray)=(List.replicate m its).flatten.toArray:=λm=>by
   have:=Gy its m [];rw[List.nil_append]at this;exact this
  rw[i];cases its with
  |nil=>simp
  |cons a M=>rw[zD (by simp)]
 refine wpAny_binaryOp_repeat_ref (T:= "list") (U:= "int") ∅ ⟨_,e,rfl⟩ (λC=>typeIs_int C k b) noFill_list_mul F.fills_int_mul F.slot_int_rmul repeat_list F.slot_int_index.lookup
  (rG F.slot_int_rmul (typeIs_int s k b) F.entry_int_rmul (F.args_int_rmul_2 _ _) (int___rmul___int_list k b l its.toArray n)
   ⟨e,rfl,⟨_,e,rfl⟩,rG F.slot_list_mul ⟨_,e,rfl⟩ F.entry_list_mul (F.args_list_mul_2 _ _) (AutoListH.list___mul___list_int_3 l its.toArray n k b D t J) ⟨e,?_⟩⟩)
 rw[g];exact⟨.ref _,_,I.lnew (t':=s.toks) (r.rep k.toNat) (by rw[Pn,tZ];exact f),rfl,q _ I.fresh⟩
end
section
variable {prog:Program} {w:World} {A:Around} {E:VP} {s:Shared}
set_option maxRecDepth 100000 in
end
end L2
namespace Att
open PySem PySem.W PySem.Calls PyProof.Rows
theorem Pm{P:Params}{h:Heap}:∀(ns:LI')(vs:LW),WellAll P h vs (ns.map WData.int)->IntsAre vs ns:=by
 intro ns
 induction ns with
 |nil =>
  intro vs w;rw[rD]at w;cases w;exact .nil
 | cons n ns c =>
  intro vs w;rw[zK]at w;cases w with
  |cons a b =>
   cases a;exact .cons _ _ (c _ b)
theorem Pl{l:OpenLaw}{n:Nat}(i:l.most=some n){P:Params}{h:Heap}{args:List WData}{vals:LW}
  (f:l.row.toRowW.claim.pre args=true)(m:WellAll P h vals args):
  ∃a vs ns,vals=[Value.ref a]/\args=[WData.list (ns.map WData.int)]/\h.get? a=some {cls:=.type "list",data:=.seq vs.toArray}/\IntsAre vs ns/\ns.length<=n:=by
 have k:WShape.hasAll [] args [.list .int]=true:=(pre_splitW f).1;have e:l.pre.holds [] {args:=args}=true:=(pre_splitW f).2;obtain⟨d,r,rfl,u,t⟩:=hasAllW_cons k;obtain rfl:=hasAllW_nil t;obtain⟨xs,rfl,o⟩:=hasW_list u;obtain⟨ns,rfl⟩:=items_int o;have w:ns.length<=n:=by
  unfold OpenLaw.pre at e;have c:(WTm.not (.lt (.lit (.int (n:Int))) (.len (.arg 0)))).holds [] {args:=[.list (ns.map .int)]}=true:=by
   have c:=(holds_andW e).1;rw[i]at c;exact c
  have b:=condW_of c (w_not (w_lt w_lit (w_len_list (w_arg rfl))));rw[yS]at b;refine Nat.le_of_not_lt λq=>?_;have g:(n:Int)<((ns.length:Nat):Int):=⋯
  first
   |(rw[zP g]at b;exact absurd b ∅)
   |(simp at b;omega)
 cases m with
 |cons j p =>
  cases p;cases j with
  |list x v=>exact⟨_,_,ns,rfl,rfl,x,Pm ns _ v,w⟩
theorem Pk(l:OpenLaw)(args:List WData):l.row.toRowW.claim.post args (.bool true) args=true:=
 postW_of (r:=l.row.toRowW) (X:=(true == true))
  (show WShape.has [] (.bool true) .bool=true by first|rfl|decide|simp[WShape.has,WShape.arms,WShape.armsAll])
  (show(WTm.eq .res (.lit (.bool true))).value [] {args:=args,res:=some (.bool true),after:=args}=some (.bool (true == true)) from w_eq_bool (w_res rfl) w_lit) rfl
section
variable {prog:Program} {w:World} {A:Around} {E:VP} {s:Shared} {K:Frag}
noncomputable def u_z(h:Heap)(L d:Addr):PN:=(List.range h.objs.size).filterMap λa=>if a=L\/a=d then none else(h.get? a).map λo=>(a,o)
end
end Att
namespace L2
open PySem PySem.Spec PyProof.Rows
open PySem.W (Frag)
theorem Gx:∀{vs:LW}{ns:LI'},IntsAre vs ns->Vals (ns.map V.int) vs
 |_,_,.nil=>.nil
 |_,_,.cons n t h=>.cons ⟨t,rfl⟩ (Gx h)
def Only(H:Hp):Prop:=∀b,H b=none\/∃o xs,H b=some (.frz o (.lst xs))
theorem Pj{P:Program}{w:World}{K:Frag}{j C:MT}{T:CXT}{k:Nat}{y a:Addr}{S:FuncData}{x:Str}{I:Sp}{c:Shared}{vs:LW}{ns:LI'}
  (KX:K.In c.heap)(G:c.heap.Ns mainGlobals j)(f:c.heap.Ns builtinsNs C)(X:∀x:Str,x≠"__name__" -> C x=bootBuiltins x)(Y:c.heap.NoLimit)(a6:c.gens=#[])
  (p:c.heap.get? a=some {cls:=.type "list",data:=.seq vs.toArray})(hi:IntsAre vs ns)(hl:ns.length<=sizeLine)(hr:Room k callerA)
  (F:∀base:Heap,K.In base->base.Ns mainGlobals j->FnOk P w K j base T k y S [x] I)(b4:∀(s:Shared)(u:Value),BindsTo s S ⟨[u],[]⟩ [(x,u)])
  (b7:∀H:Hp,Only H->SqL K H a (ns.map V.int)->I [.ref a] H (λv _=>v=.bl true) λ_ _ _=>False)
  (U:∀H e g,T [] H c (λ_ _ _=>False) e g->False):
  codeAny (model P w) callerA (.call (.ref y) ⟨[.ref a],[]⟩) (λr g=>r=.ok (.ret (.bool true))/\OldK c.heap g.heap/\g.os=c.os/\AllBare g.gens) c:=by
 have R:=Gx hi;have Z:=hi.length
 -- from an abstract heap in which nothing but the script may be tracked
 have J:∀H:Hp,Only H->SqL K H a (ns.map V.int)->HOk P w H c.heap->(∀b,H b≠none->b=a)->(H a≠none->K.lookup a=none) ->
   codeAny (model P w) callerA (.call (.ref y) ⟨[.ref a],[]⟩) (λr g=>r=.ok (.ret (.bool true))/\OldK c.heap g.heap/\g.os=c.os/\AllBare g.gens) c:=by
  intro H N a4 D L a8;have M:∀{b:Addr}{o:Obj},c.heap.get? b=some o->H b=none->(hidT c.heap H).get? b=some o:=λe n=>Mi e n;have b6:∀{b:Addr}{o:Obj}{es:Array DictEntry}{ep:Nat},c.heap.get? b=some o->o.data=.dict es ep->H b=none:=λ{b o es ep}e d=>by
   cases q:H b with
   |none=>rfl
   |some u =>
    have t:b=a:=L b (by rw[q];simp);subst t;rw[p]at e;cases e;have d':Data.seq vs.toArray _=Data.dict es ep:=d;cases d'
  have l:∀{b:Addr}{m:MT},c.heap.Ns b m->(hidT c.heap H).Ns b m:=λ{b m}⟨o,es,ep,e,d,r⟩=>⟨o,es,ep,M e (b6 e d),d,r⟩;have O:K.In (hidT c.heap H):=λb o e=>M (KX b o e) (by
   cases q:H b with
   |none=>rfl
   |some u =>
    have t:b=a:=L b (by rw[q];simp);subst t;rw[a8 (by rw[q];simp)]at e;cases e)
  have a7:Mod K j (hidT c.heap H):=⟨O,l G,⟨C,l f,X⟩,let ⟨b3,b5,a9⟩:=Y;⟨b3,l b5,a9⟩⟩;have W:Env0 P w K j (hidT c.heap H) callerA [] c H:=⟨rfl,a7,λb o e=>Mh e,tX (Mj _ _),trivial,λb f=>absurd (show b∈([]:LA) from f) (by simp),D,.of_eq a6⟩;refine uV ((F _ O (l G)).run callerA [] c H ⟨[.ref a],[]⟩ [.ref a] [.ref a] _ _ hr W (b4 c (.ref a)) (.cons rfl .nil) (b7 H N a4)) λr g h=>?_;cases r with
  |error e=>exact(U H e g h).elim
  | ok fl =>
   cases fl with
   |next=>exact False.elim h
   |brk=>exact False.elim h
   |cont=>exact False.elim h
   | ret u =>
    obtain⟨v,H',a0,b1,un,a3,a5,q⟩:=h;have a2:v=.bl true:=q;subst a2;obtain rfl:u=Value.bool true:=a5;refine⟨rfl,OldK.of_keep λb o e=>?_,a0,b1⟩;cases q:H b with
    |none=>exact un.keep b o e q (by intro z;exact absurd (show b∈([]:LA) from z) (by simp)) (by simp)
    |some u =>
     rcases N b with z|⟨a1,xs,z⟩
     ·rw[q]at z;cases z
     ·have b0:=un.frzs b a1 _ z;obtain⟨e1,_⟩:=D b _ z;obtain⟨b2,_⟩:=a3 b _ b0;rw[e]at e1;cases e1;exact b2
 cases hk:K.lookup a with
 |some o =>
  -- the script is one of the module's own objects
  have e:=KX a o hk;rw[p]at e;cases e;refine J (λ_=>none) (λ_=>.inl rfl) (.inr ⟨_,vs.toArray,_,hk,rfl,rfl,rfl,by rw[zT,Z];exact hl,by simpa using R⟩) (λb u z=>by have i:(none:Option HO)=some u:=z;cases i) (λb z=>absurd rfl z) λz=>absurd rfl z
 | none =>
  refine J (λb=>if b=a then some (.frz {cls:=.type "list",data:=.seq vs.toArray} (.lst (ns.map V.int))) else none) (λb=>?_) (.inl (.inr ⟨{cls:=.type "list",data:=.seq vs.toArray},zF rfl⟩)) (λb u z=>?_) (λb z=>?_) λ_=>hk
  ·by_cases f:b=a
   ·exact .inr ⟨_,_,zF f⟩
   ·exact .inl (zD f)
  ·by_cases f:b=a
   ·have i:=(zF f).symm.trans z;cases i;subst f;exact⟨p,by rw[yS];exact hl,vs,_,R,p⟩
   ·have i:=(zD f).symm.trans z;cases i
  ·by_cases f:b=a
   ·exact f
   ·exact absurd (zD f) z
noncomputable abbrev KOf{K:Frag}{h:Heap}(_:K.In h):Frag:=K
noncomputable def iX(s:Stmt)(j:Nat):Stmt:=match s with
 |.ClassDef _ _ _ body _ _ _ _ _ _ _=>body.getD j (.Pass ⟨0,0,0,0⟩)
 |_=>.Pass ⟨0,0,0,0⟩
noncomputable def jR(s:Stmt):Arguments:=match s with
 |.FunctionDef _ a _ _ _ _ _ _ _ _=>a
 |_=>{posonlyargs:=[],args:=[],vararg:=none,kwonlyargs:=[],kw_defaults:=[],kwarg:=none,defaults:=[]}
noncomputable def kH(s:Stmt):List Stmt:=match s with
 |.FunctionDef _ _ b _ _ _ _ _ _ _=>b
 |_=>[]
noncomputable def oR(s:Stmt):Scope:=match s with
 |.FunctionDef _ _ _ _ _ _ sc _ _ _=>sc
 |_=>{kind:=.function,names:=[],isGenerator:=false,isCoroutine:=false}
abbrev CX0:CXT:=λ_ _ _ _ _ _=>False
abbrev E0:XK:=λ_ _ _=>False
theorem mC{X:Cx}:iF CX0 X E0:=λ_ _ _ _ _ _ _ h=>h.elim
structure Fun(K:Frag)(x qual:Str)(st:Stmt)(f:Addr)(fd:FuncData):Prop where
 ex:∃(oc:Value)(od:Option Addr)(kV doc pm:Value)(an:Option Addr)(cdv ct:Value)(osl:Array (Option Value)),
  fd=PySem.W.fnOf x qual (jR st) (kH st) (oR st) .none kV doc pm an cdv ct/\K.lookup f=some ⟨oc,od,.func fd,osl⟩/\PySem.W.codeIn K cdv qual=true
 kp:PySem.W.keepIn K (.ref f)=true
section
variable {P:Program} {w:World} {K:Frag} {mg:MT} {base:Heap}
theorem Fun.ok{x b:Str}{st:Stmt}{f:Addr}{d:FuncData}{N ps:List Str}{k:Nat}{c:Sp}(F:Fun K x b st f d)(S:nA N ps (oR st))(len:∀vs H Q E,c vs H Q E->vs.length=ps.length)
  (g:∀(cdv:Value)(A:Around)(outer:List Env)(s:Shared)(H:Hp)(vs:List V)(Q:VK)(E:XK),Room k (A.deeper (envOfC b (oR st) s.heap.objs.size f cdv))->c vs H Q E ->
   ∃a,PSs (cxOf CX0 P w K mg base N b (oR st) f cdv A outer s H E).nox (kH st) a/\a {nx:=λ_ H'=>Q .non H',rt:=Q} (jQ N vs) H):FnOk P w K mg base CX0 (k+1) f d ps c:=by
 obtain⟨p,o,kV,n,t,l,cdv,m,r,rfl,i,e⟩:=F.ex;refine Ai i e S len λA outer s H vs Q E hr j=>?_;obtain⟨a,h,q⟩:=g cdv A outer s H vs Q E hr j;exact⟨a,h.nox,q⟩
theorem Fun.binds{x g:Str}{st:Stmt}{f:Addr}{e:FuncData}{ps:List Str}(F:Fun K x g st f e)
  (h:∀(kV c d:Value)(a:Option Addr)(cdv b:Value)(us:LW),us.length=ps.length->bindArgs (PySem.W.fnOf x g (jR st) (kH st) (oR st) .none kV c d a cdv b) ⟨us,[]⟩=pure (ps.zip us)):nZ K e ps []:=by
 obtain⟨k,j,kV,c,d,a,cdv,b,l,rfl,m,i⟩:=F.ex;exact .all (h kV c d a cdv b)
theorem fun_mk{x a:Str}{st:Stmt}{f:Addr}{m:Value}{i b:Option Addr}{j:Array (Option Value)}{kV d g cdv e:Value}(l:K.lookup f=some ⟨m,i,.func (PySem.W.fnOf x a (jR st) (kH st) (oR st) .none kV d g b cdv e),j⟩)
  (c:PySem.W.codeIn K cdv a=true)(k:PySem.W.keepIn K (.ref f)=true):Fun K x a st f (PySem.W.fnOf x a (jR st) (kH st) (oR st) .none kV d g b cdv e):=⟨⟨m,i,kV,d,g,b,cdv,e,j,rfl,l,c⟩,k⟩
end
theorem iH{n:Nat}(h:n<=1000):n<sizeLine:=wW h ∅
section
variable {X:Cx}
theorem pv(i:Nat){x:Str}{a:Pos}(d:X.N[i]?=some x:=by rfl)(e:Vis X.env.scope x:=by first|exact Or.inl rfl|exact Or.inr (Or.inl rfl)|exact Or.inr (Or.inr rfl))(c:(x == ("__debug__" :Str))=false:=by decide)
  (b:(x == ("__classdict__" :Str))=false:=by decide):PE X (.Name x a) (tVar i):=Mf d e c b
end
theorem iteF{A B:Prop}(h:B):if false=true then A else B:=by
 rw[zD zX];exact h
theorem iteT{A B:Prop}(h:A):if true=true then A else B:=by
 rw[zF rfl];exact h
theorem ite2{c A B:Prop}[Decidable c](b:c->A)(a:¬ c->B):if c then A else B:=by
 by_cases h:c
 ·rw[zF h];exact b h
 ·rw[zD h];exact a h
def Same(H H':Hp):Prop:=∀b o,H b=some o->H' b=some o
theorem Same.refl(H:Hp):Same H H:=λ_ _ h=>h
theorem Same.trans{H d e:Hp}(a:Same H d)(b:Same d e):Same H e:=λc o h=>b c o (a c o h)
theorem Same.seq{K:Frag}{H H':Hp}{a:Addr}{xs:List V}(e:Same H H')(h:SqL K H a xs):SqL K H' a xs:=by
 rcases h with(h|⟨o,h⟩)|h
 ·exact .inl (.inl (e _ _ h))
 ·exact .inl (.inr ⟨o,e _ _ h⟩)
 ·exact .inr h
end L2
set_option maxHeartbeats 4000000
namespace L2
open PySem PySem.Spec PyProof.Rows
open PySem.W (Frag)
inductive E1{T0:Type}(P:T0->Prop):Prop
 |mk (x0:T0):P x0->E1 P
inductive E2{T0 T1:Type}(P:T0->T1->Prop):Prop
 |mk (x0:T0) (x1:T1):P x0 x1->E2 P
inductive E3{T0 T1 T2:Type}(P:T0->T1->T2->Prop):Prop
 |mk (x0:T0) (x1:T1) (x2:T2):P x0 x1 x2->E3 P
inductive E4{T0 T1 T2 T3:Type}(P:T0->T1->T2->T3->Prop):Prop
 |mk (x0:T0) (x1:T1) (x2:T2) (x3:T3):P x0 x1 x2 x3->E4 P
inductive E5{T0 T1 T2 T3 T4:Type}(P:T0->T1->T2->T3->T4->Prop):Prop
 |mk (x0:T0) (x1:T1) (x2:T2) (x3:T3) (x4:T4):P x0 x1 x2 x3 x4->E5 P
inductive E6{T0 T1 T2 T3 T4 T5:Type}(P:T0->T1->T2->T3->T4->T5->Prop):Prop
 |mk (x0:T0) (x1:T1) (x2:T2) (x3:T3) (x4:T4) (x5:T5):P x0 x1 x2 x3 x4 x5->E6 P
inductive E7{T0 T1 T2 T3 T4 T5 T6:Type}(P:T0->T1->T2->T3->T4->T5->T6->Prop):Prop
 |mk (x0:T0) (x1:T1) (x2:T2) (x3:T3) (x4:T4) (x5:T5) (x6:T6):P x0 x1 x2 x3 x4 x5 x6->E7 P
inductive E8{T0 T1 T2 T3 T4 T5 T6 T7:Type}(P:T0->T1->T2->T3->T4->T5->T6->T7->Prop):Prop
 |mk (x0:T0) (x1:T1) (x2:T2) (x3:T3) (x4:T4) (x5:T5) (x6:T6) (x7:T7):P x0 x1 x2 x3 x4 x5 x6 x7->E8 P
inductive E9{T0 T1 T2 T3 T4 T5 T6 T7 T8:Type}(P:T0->T1->T2->T3->T4->T5->T6->T7->T8->Prop):Prop
 |mk (x0:T0) (x1:T1) (x2:T2) (x3:T3) (x4:T4) (x5:T5) (x6:T6) (x7:T7) (x8:T8):P x0 x1 x2 x3 x4 x5 x6 x7 x8->E9 P
inductive E10{T0 T1 T2 T3 T4 T5 T6 T7 T8 T9:Type}(P:T0->T1->T2->T3->T4->T5->T6->T7->T8->T9->Prop):Prop
 |mk (x0:T0) (x1:T1) (x2:T2) (x3:T3) (x4:T4) (x5:T5) (x6:T6) (x7:T7) (x8:T8) (x9:T9):P x0 x1 x2 x3 x4 x5 x6 x7 x8 x9->E10 P
inductive E11{T0 T1 T2 T3 T4 T5 T6 T7 T8 T9 T10:Type}(P:T0->T1->T2->T3->T4->T5->T6->T7->T8->T9->T10->Prop):Prop
 |mk (x0:T0) (x1:T1) (x2:T2) (x3:T3) (x4:T4) (x5:T5) (x6:T6) (x7:T7) (x8:T8) (x9:T9) (x10:T10):P x0 x1 x2 x3 x4 x5 x6 x7 x8 x9 x10->E11 P
inductive E13{T0 T1 T2 T3 T4 T5 T6 T7 T8 T9 T10 T11 T12:Type}(P:T0->T1->T2->T3->T4->T5->T6->T7->T8->T9->T10->T11->T12->Prop):Prop
 |mk (x0:T0) (x1:T1) (x2:T2) (x3:T3) (x4:T4) (x5:T5) (x6:T6) (x7:T7) (x8:T8) (x9:T9) (x10:T10) (x11:T11) (x12:T12):P x0 x1 x2 x3 x4 x5 x6 x7 x8 x9 x10 x11 x12->E13 P
inductive A3(a b c:Prop):Prop|mk:a->b->c->A3 a b c
inductive A4(a b c d:Prop):Prop|mk:a->b->c->d->A4 a b c d
inductive A5(a b c d e:Prop):Prop|mk:a->b->c->d->e->A5 a b c d e
inductive A6(a b c d e f:Prop):Prop|mk:a->b->c->d->e->f->A6 a b c d e f
inductive A7(a b c d e f g:Prop):Prop|mk:a->b->c->d->e->f->g->A7 a b c d e f g
inductive A8(a b c d e f g h:Prop):Prop|mk:a->b->c->d->e->f->g->h->A8 a b c d e f g h
inductive A9(a b c d e f g h i:Prop):Prop|mk:a->b->c->d->e->f->g->h->i->A9 a b c d e f g h i
inductive A10(a b c d e f g h i j:Prop):Prop|mk:a->b->c->d->e->f->g->h->i->j->A10 a b c d e f g h i j
inductive A11(a b c d e f g h i j k:Prop):Prop|mk:a->b->c->d->e->f->g->h->i->j->k->A11 a b c d e f g h i j k
inductive A12(a b c d e f g h i j k l:Prop):Prop|mk:a->b->c->d->e->f->g->h->i->j->k->l->A12 a b c d e f g h i j k l
inductive A13(a b c d e f g h i j k l m:Prop):Prop|mk:a->b->c->d->e->f->g->h->i->j->k->l->m->A13 a b c d e f g h i j k l m
inductive A14(a b c d e f g h i j k l m n:Prop):Prop|mk:a->b->c->d->e->f->g->h->i->j->k->l->m->n->A14 a b c d e f g h i j k l m n
inductive A17(a b c d e f g h i j k l m n o p q:Prop):Prop|mk:a->b->c->d->e->f->g->h->i->j->k->l->m->n->o->p->q->A17 a b c d e f g h i j k l m n o p q
noncomputable def clOf(env:Env):List (Str×NameKind)->List (Str×Addr)->List (Str×Addr)
 |[],cs=>cs
 |(n,k):: r,cs=>clOf env r (if k == .free then(n,(env.cells.lookup n).getD 0):: cs else cs)
theorem Gw{env:Env}{n:Str}{c:Addr}:∀{l:List (Str×NameKind)}{cs:List (Str×Addr)},(∀y∈l,y.2=.free->∃c,env.cells.lookup y.1=some c) ->
  (clOf env l cs).lookup n=some c->cs.lookup n=some c\/env.cells.lookup n=some c
 |[],_,_,h=>.inl h
 | (m,k):: r,cs,hl,h=>by
  have hr:∀y∈r,y.2=.free->∃c,env.cells.lookup y.1=some c:=λy d=>hl y (zO _ d);rcases Gw hr h with q|q
  ·by_cases a:(k == NameKind.free)=true
   ·rw[zF a]at q;obtain⟨i,e⟩:=hl (m,k) zZ (by simpa using a);rw[xG]at q;cases hm:n == m with
    |true =>
     rw[hm]at q;have b:(env.cells.lookup m).getD 0=c:=zW q;have f:n=m:=by simpa using hm
     rw[e]at b;have g:i=c:=b;rw[f,e,g];exact .inr rfl
    |false =>
     rw[hm]at q;exact .inl q
   ·rw[zD a]at q;exact .inl q
  ·exact .inr q
theorem Aa{env:Env}{n:Str}:∀{l:List (Str×NameKind)}{cs:List (Str×Addr)},((n,NameKind.free)∈l\/∃c,cs.lookup n=some c)->∃c,(clOf env l cs).lookup n=some c
 |[],_,h=>by
  rcases h with h|h
  ·simp at h
  ·exact h
 | (m,k):: r,cs,h=>by
  refine Aa (l:=r) ?_
  by_cases a:(n,NameKind.free)∈r
  ·exact .inl a
  ·refine .inr ?_;rcases h with h|⟨c,h⟩
   ·rcases xH.mp h with e|e
    ·cases e;rw[zF ∅];exact⟨(env.cells.lookup n).getD 0,by rw[xG];simp⟩
    ·exact absurd e a
   ·by_cases b:(k == NameKind.free)=true
    ·rw[zF b,xG];cases hm:n == m with
     |true=>exact⟨_,rfl⟩
     |false=>exact⟨c,h⟩
    ·rw[zD b];exact⟨c,h⟩
theorem Gv{b:Scope}{env:Env}(h:∀y∈b.names,y.2=.free->∃c,env.cells.lookup y.1=some c):closureFor b env=pure (clOf env b.names []):=by
 have go:∀(l:List (Str×NameKind))(cs:List (Str×Addr)),(∀y∈l,y.2=.free->∃c,env.cells.lookup y.1=some c) ->
   (forIn l cs (λ(x:Str×NameKind)(r:List (Str×Addr))=>if x.2 == NameKind.free then(do let a ←cellOf env x.1;pure (ForInStep.yield ((x.1,a):: r))) else(pure (ForInStep.yield r):Sem _)):Sem _)=pure (clOf env l cs):=by
  intro l
  induction l with
  |nil=>intro cs _;rfl
  | cons y r f =>
   intro cs hl;obtain⟨n,k⟩:=y;have hr:∀y∈r,y.2=.free->∃c,env.cells.lookup y.1=some c:=λy g=>hl y (zO _ g);rw[uJ]
   by_cases d:(k == NameKind.free)=true
   ·obtain⟨c,e⟩:=hl (n,k) zZ (by simpa using d);have e1:cellOf env n=pure c:=by unfold cellOf;rw[show env.cells.lookup n=some c from e]
    dsimp only;rw[zF d,e1];simp only[pure_bind];rw[f _ hr];show _=pure (clOf env r _);rw[zF d,show env.cells.lookup n=some c from e]
    all_goals rfl
   ·dsimp only;rw[zD d];simp only[pure_bind];rw[f _ hr];show _=pure (clOf env r _);rw[zD d]
 have e:closureFor b env=(forIn b.names ([]:List (Str×Addr)) (λ(x:Str×NameKind)(r:List (Str×Addr))=>if x.2 == NameKind.free then(do let a ←cellOf env x.1;pure (ForInStep.yield ((x.1,a):: r))) else(pure (ForInStep.yield r):Sem _)):Sem _):=by
  unfold closureFor
  first
   |rfl
   |(simp only[bind_pure];rfl)
   |(simp;done)
 rw[e];exact go _ _ h
theorem Gu{env:Env}:∀{b:List (Str×NameKind)}{x:Str},b.lookup x=some .free ->
  (b.map λ(n,k)=>if(k == NameKind.free && env.scope.kind == .function && env.kindOf n == some .cell) then(n,NameKind.cell) else(n,k)).lookup x=some .cell \/
  (b.map λ(n,k)=>if(k == NameKind.free && env.scope.kind == .function && env.kindOf n == some .cell) then(n,NameKind.cell) else(n,k)).lookup x=some .free
 |[],_,h=>by simp at h
 | (n,k):: r,x,h=>by
  have c:=@Gu env r x;cases hx:x == n with
  |true =>
   simp only[List.lookup_cons,hx]at h;cases h
   by_cases a:(NameKind.free == NameKind.free && env.scope.kind == .function && env.kindOf n == some .cell)=true
   ·refine .inl ?_;rw[zK];dsimp only;rw[zF a,xG,hx]
   ·refine .inr ?_;rw[zK];dsimp only;rw[zD a,xG,hx]
  |false =>
   simp only[List.lookup_cons,hx]at h;rw[zK];dsimp only
   by_cases a:(k == NameKind.free && env.scope.kind == .function && env.kindOf n == some .cell)=true
   ·rw[zF a,xG,hx];exact c h
   ·rw[zD a,xG,hx];exact c h
structure u_A(X:Cx)(scope:Scope)(x:Str)(fr:List (Str×Nat)):Prop where
 kind:scope.kind=.function
 cell:∀y∈scope.names,y.2≠.cell
 free:∀y∈scope.names,y.2=.free->X.env.kindOf y.1=some .cell\/X.env.kindOf y.1=some .free
 loc:∀y∈scope.names,y.2=.local->scope.names.lookup y.1=some .local
 name:scope.names.lookup x=some .local
 nd:(x:: fr.map (·.1)).Nodup
 fr:∀p∈fr,X.N[p.2]?=some p.1/\scope.names.lookup p.1=some .free
noncomputable def mI(fr:List (Str×Nat))(σ:St):St:=fr.map λp=>σ.getD p.2 none
section
variable {X:Cx} {scope:Scope} {x:Str} {fr:List (Str×Nat)}
def Gs(i:Nat)(te:TE):TS:=λD σ H=>te σ H λv H1=>D.nx (σ.set i (some v)) H1
end
theorem nO.there{P:Program}{w:World}{H:Hp}{h:Heap}{a:Addr}{o:HO}(x:nO P w H h a o):∃b,h.get? a=some b:=by
 cases o with
 |lst xs=>obtain⟨_,_,_,_,e⟩:=x;exact⟨_,e⟩
 |tup xs=>obtain⟨_,_,_,b,e,_⟩:=x;exact⟨b,e⟩
 |dK kvs=>obtain⟨_,_,_,_,o,_,_,e,_⟩:=x;exact⟨_,e⟩
 |dT kvs=>obtain⟨_,_,_,_,o,_,_,e,_⟩:=x;exact⟨_,e⟩
 |set S n=>obtain⟨o,_,_,_,e,_⟩:=x;exact⟨_,e⟩
 |ins C c fs=>obtain⟨_,_,_,e,_⟩:=x;exact⟨_,e⟩
 |own y=>exact x
 |xd fs=>obtain⟨_,⟨_,_,_,e,_⟩,_⟩:=x;exact⟨_,e⟩
 |rng lo hi=>obtain⟨_,_,_,e⟩:=x;exact⟨_,e⟩
 |frz b u=>exact⟨_,x.1⟩
 |tbl ps=>exact⟨_,x⟩
 |met f y=>exact⟨_,x⟩
 |ext d=>exact x.2.1
abbrev Cov(fs:LA)(h₀:Heap)(H:Hp)(h B:Heap):Prop:=∀b o,h.get? b=some o->b∉fs->((∃o',h₀.get? b=some o')\/∃u,H b=some u)->B.get? b=some o
def FlyX(X:Cx)(pins:PN)(H:Hp)(e:Addr)(C:Value)(h:Heap):Prop:=∃B a0,Heap.FlyingW B X.stack e C a0 h/\Cov (frs X.stack) X.s₀.heap H h B/\∀p∈X.pn++pins,B.get? p.1=some p.2
def CX1(P:Program)(w:World):CXT:=λouter H s E ev s'=>∃e C H' B a0,ev=.ref e/\s'.os=s.os/\AllBare s'.gens/\Un (frs outer) [] H H' s.heap s'.heap/\HOk P w H' s'.heap /\
 Heap.FlyingW B outer e C a0 s'.heap/\Cov (frs outer) s.heap H' s'.heap B/\E C none H'
abbrev XE:=St->Value->Hp->Prop
def fP(X:Cx)(EX:XE):Prop:=∀(pins:PN)(σ:St)(H:Hp)(s:Shared)(e:Addr)(C:Value),Inv X pins σ H s->FlyX X pins H e C s.heap->EX σ C H->X.xe (.ref e) s
def Gr(X:Cx)(EX:XE):Prop:=∀(pins:PN)(σ:St)(H:Hp)(s:Shared)(h':Heap)(e:Addr)(C:Value)(vs:LW),Inv X pins σ H s->Heap.MadeExcOf s.heap h' e C vs->EX σ C H->X.xe (.ref e) {s with heap:=h'}
theorem bJ{X:Cx}{L:PN}{C:St}{H:Hp}{s:Shared}{g B:Heap}(I:Inv X L C H s)(D:X.stack=X.env:: X.outer)(F:X.env.frame=some X.env.locals)(K:X.ex=[])
  (stay:B.StaysIn g)(sm:s.heap.UpToSlots g)(w:Cov (frs X.stack) X.s₀.heap H s.heap B):
  Un X.fs [] X.H₀ H X.s₀.heap g/\HOk X.prog X.w H g/\Cov X.fs X.s₀.heap H g B:=by
 have u:=I.base;rw[K]at u;have G:frs X.stack=X.env.locals:: X.fs:=by
  rw[D];unfold frs;rw[tO,F];rfl
 have l:∀b o,X.s₀.heap.get? b=some o->b∉X.fs->b∉frs X.stack:=λb o e c m=>by
  rw[G]at m;rcases xH.mp m with z|z
  ·exact absurd (zJ (zL e) I.ok.above) (by rw[z];exact xC _)
  ·exact c z
 have trk:∀b v,H b=some v->b∉frs X.stack:=λb v e m=>by
  have:=I.stkFree b m;rw[e]at this;cases this
 have j:∀b o,s.heap.get? b=some o->b∉frs X.stack->((∃f,X.s₀.heap.get? b=some f)\/∃v,H b=some v)->g.get? b=some o:=λb o e c t=>stay b o (w b o e c t);have y:∀b,b∈X.fs->∀o,s.heap.get? b=some o->∃p,g.get? b=some {o with slots:=p}:=λb c o e=>by
  obtain⟨_,f,d,M⟩:=I.funs.mem c;rw[e]at d;cases d;exact sm b o e M
 refine⟨⟨λb o e n c k=>?_,λb o e n c k=>?_,u.free,λb o e k=>?_,u.tups,u.frzs,u.tbls⟩,λa o r=>?_,λb o e c t=>?_⟩
 ·exact j b o (u.keep b o e n c k) (l b o e c) (.inl ⟨o,e⟩)
 ·obtain⟨p,e1⟩:=u.slot b o e n c k;obtain⟨J,x⟩:=y b c _ e1;exact⟨J,x⟩
 ·obtain⟨i,e1⟩:=u.there b o e k
  by_cases c:b∈X.fs
  ·obtain⟨p,x⟩:=y b c _ e1;exact⟨_,x⟩
  ·exact⟨i,j b i e1 (l b o e c) (.inl ⟨o,e⟩)⟩
 ·refine(I.hok a o r).stay (λb v c q=>?_) (λ_ q=>q) λ_ _ q=>q;rcases c with c|c
  ·subst c;exact j b v q (trk b o r) (.inr ⟨o,r⟩)
  ·exact j b v q (trk b _ c) (.inr ⟨_,c⟩)
 ·rcases t with⟨f,d⟩|⟨v,d⟩
  ·obtain⟨i,e1⟩:=u.there b f d (by simp);have q:=j b i e1 (l b f d c) (.inl ⟨f,d⟩);rw[e]at q;cases q;exact w b o e1 (l b f d c) (.inl ⟨f,d⟩)
  ·obtain⟨i,e1⟩:=(I.hok b v d).there;have q:=j b i e1 (trk b v d) (.inr ⟨v,d⟩);rw[e]at q;cases q;exact w b o e1 (trk b v d) (.inr ⟨v,d⟩)
section
variable {P:Program} {w:World} {K:Frag} {mg:MT} {base:Heap} {N:List Str} {qual:Str} {scope:Scope} {f:Addr} {cd:Value} {A:Around} {outer:List Env} {s₀:Shared} {H₀:Hp} {E:XK}
theorem Pi:fP (cxOf (CX1 P w) P w K mg base N qual scope f cd A outer s₀ H₀ E) (λ_ C H=>E C none H):=by
 intro j i H s e C I F d;obtain⟨B,a0,fl,c,_⟩:=F;refine wpAny_leaves_onW I.ok.frames rfl fl λg a sm=>?_;obtain⟨un,ok,b⟩:=bJ I rfl rfl rfl a.1 sm c;exact⟨e,C,H,B,a0,rfl,I.os,I.bare,un,ok,a,b,d⟩
theorem fQ:Gr (cxOf (CX1 P w) P w K mg base N qual scope f cd A outer s₀ H₀ E) (λ_ C H=>E C none H):=by
 intro t p H s h' e C vs I M j;have l:=I.stack;have m:=PySem.W.funFrames_hide (as:=frs (cxOf (CX1 P w) P w K mg base N qual scope f cd A outer s₀ H₀ E).stack) l (λenv i a k=>oG.mpr ⟨env,i,k⟩);refine wpAny_leaves_madeW (s:={s with heap:=h'}) (h:=s.heap) I.ok.frames rfl (λb o q=>rX _ q) m M λn r c _ _ sm=>?_;obtain⟨un,ok,g⟩:=bJ I rfl rfl rfl c.1 ((Heap.UpToSlots.of_keeps M.keeps).trans sm) λb o q d _=>rP _ q d;exact⟨e,C,H,_,_,rfl,I.os,I.bare,un,ok,c,g,j⟩
end
section
variable {X:Cx} {EX:XE} {k:Nat} {f:Addr} {fd:FuncData} {ps:List Str} {sp:Sp} {dvs:List V} {ds:LW} {x:Str} {p pos:Pos} {e:Expr} {es:List Expr} {t:TA}
def Ph(sp:Sp)(dvs:List V)(EX:XE)(t:TA):TE:=λσ H Q=>t σ H λvs H1=>sp (vs++dvs) H1 Q λC _ H'=>EX σ C H'
theorem Pg{d:PN}{a:St}{H:Hp}{s:Shared}{Q:VK}{us:LW}{vs:List V}(F:FnOk X.prog X.w X.K X.mg X.base (CX1 X.prog X.w) k f fd ps sp)(hr:Room k X.A)(i:nZ X.K fd ps ds)(L:Vals dvs ds)(w:fP X EX)
  (J:X.ex=[])(I:Inv X d a H s)(r:Vals vs us)(h:sp (vs++dvs) H Q λC _ H'=>EX a C H'):wpAny (model X.prog X.w) X.A (call (.ref f) us) (EP X d a Q) X.xe s:=by
 have r2:Vals (vs++dvs) (us++ds):=r.append L;have hl:(us++ds).length=ps.length:=by rw[←r2.length];exact F.len _ _ _ _ h
 refine tL (uV (F.run X.A X.stack s H ⟨us,[]⟩ (us++ds) (vs++dvs) Q _ hr I.env0 (i s us I.kIn hl) r2 h) λr n c=>?_);cases r with
 | error S =>
  obtain⟨e,C,H',B,a0,rfl,D,M,un,ok,fl,m,q⟩:=c;have j:Inv X d a H' n:=I.call' D un ok M λb z=>absurd z (by simp);refine w d a H' n e C j ⟨B,a0,fl,λb o e1 i g=>m b o e1 i ?_,λp l=>?_⟩ q
  ·rcases g with⟨v,y⟩|g
   ·obtain⟨K,N⟩:=I.base.there b v y (by rw[J];simp);exact .inl ⟨K,N⟩
   ·exact .inr g
  ·obtain⟨e1,R,G,P,_⟩:=j.pin p l;refine m p.1 p.2 e1 (λO=>?_) (.inl ⟨_,(I.pin p l).1⟩);rcases xH.mp (I.stkSub p.1 O) with z|z
   ·exact G z
   ·exact P z
 |ok fl =>
  cases fl with
  |ret u=>exact I.after c
  |next=>exact False.elim c
  |brk=>exact False.elim c
  |cont=>exact False.elim c
theorem Pf(F:FnOk X.prog X.w X.K X.mg X.base (CX1 X.prog X.w) k f fd ps sp)(hr:Room k X.A)(m:Gl X x)(c:X.mg x=some (.ref f))(w:PySem.W.keepIn X.K (.ref f)=true)(d:nZ X.K fd ps ds)(i:Vals dvs ds)(b:fP X EX)
  (o:PA X (e:: es) t)(v:X.ex=[]:=by rfl)(u:(x == ("__debug__" :Str))=false:=by decide)(j:starEach (e:: es) X.env=(false,eval e X.env):: starEach es X.env:=by rfl)(g:(backTo pos (starEach es X.env)).any (·.1)=false:=by rfl):
  PE X (.Call (.Name x p) (e:: es) [] pos) (Ph sp dvs EX t):=by
 intro l s n H Q I h;refine wH (iC I m c ?_ u);refine uH (h₀:=X.base) I.ok.mod.kin w (thn (o pos l s n H _ I h) λus z⟨vs,y,a,r,q⟩=>⟨a.kIn,?_⟩) j g;exact Pg F hr d i b v a r q
theorem fR{P:Program}{w:World}{Y:Cx}:iF (CX1 P w) Y E0:=λ_ _ _ _ _ _ _ h=>by
 obtain⟨_,_,_,_,_,_,_,_,_,_,_,_,q⟩:=h;exact q.elim
end
theorem Pe{K:Frag}{h:Heap}{C:Addr}{e:LW}{newId:String}(KX:K.In h)(a:PySem.W.excIn K C e newId=true):
  ∃bm N nm b bs c sn sub ab col dd k0 k1 k2 k3 k5 mN,h.get? C=some (excClassObj nm b C N bs bm c sn sub ab col dd k0 k1 k2 k3 k5 newId)/\h.Ns N mN/\mN "__init__"=none/\OwnTail h e bm:=by
 revert a
 unfold PySem.W.excIn;split
 ·next dd o d j =>
  split
  ·next u bm k0 k1 k2 k3 m k5 p es =>
   intro a;simp only[Bool.and_eq_true,beq_iff_eq,Bool.not_eq_true']at a;obtain⟨⟨⟨⟨⟨e1,v⟩,i⟩,r⟩,f⟩,g⟩:=a;subst e1 v;cases o with
   | mk nm bs t ns b c sn sub ab col n =>
    have q:t=Value.ref u:: bm:=p;have k:n=false:=i;subst q k;have w:d=#[k0,k1,k2,k3,some (Value.builtin m),k5]:=by
     cases d with
     |mk l=>exact wI Array.mk es
    subst w;exact⟨bm,ns,nm,b,bs,c,sn,sub,ab,col,dd,k0,k1,k2,k3,k5,_,KX _ _ j,pC (qB KX f),PySem.W.nsMap_none_of_in KX f g,PySem.W.tail_of_in KX r⟩
  ·intro z;cases z
 ·intro z;cases z
section
variable {X:Cx} {EX:XE} {C:Addr} {x:Str} {np cpos pos:Pos} {e₀:Expr} {rest:List Expr} {t:TA} {bmB:LW} {B newId initId:String}
def iI(C:Addr)(EX:XE)(t:TA):TS:=λ_ σ H=>t σ H λvs H1=>vs.length<=sizeLine/\EX σ (.ref C) H1
theorem fS(n:X.calm=true)(i:Gr X EX)(F:Gl X x)(G:X.mg x=some (.ref C))(w:PySem.W.excIn X.K C bmB newId=true)(b:ExcBaseFacts B newId initId bmB)(l:PA X (e₀:: rest) t)
  (m:(x == ("__debug__" :Str))=false:=by decide)(g:starEach (e₀:: rest) X.env=(false,eval e₀ X.env):: starEach rest X.env:=by rfl)(j:(backTo cpos (starEach rest X.env)).any (·.1)=false:=by rfl):
  PS X (.Raise (some (.Call (.Name x np) (e₀:: rest) [] cpos)) none pos) (iI C EX t):=by
 intro f s d H D I h;obtain⟨bm,N,nm,q,bs,y,sn,sub,ab,col,dd,k0,k1,k2,k3,k5,mN,v,o,p,T⟩:=Pe I.mod.kin w;have u:(backTo cpos (starEach (e₀:: rest) X.env)).any (·.1)=false:=by
  rw[g];show(false || (backTo cpos (starEach rest X.env)).any (·.1))=false;rw[j];rfl
 refine wpAny_Raise_call_subT (C:=C) (nm:=nm) (q:=q) (N:=N) (bs:=bs) (bm:=bm) (hdct:=y) (sn:=sn) (sub:=sub) (ab:=ab) (col:=col) (dd:=dd) (k0:=k0) (k1:=k1) (k2:=k2) (k3:=k3) (k5:=k5) b (mN:=mN) (T.hasType b.hasBase) (I.ok.hd n) u p
  (iC I F G ⟨rfl,?_⟩ m)
 have c:=l cpos f s d H _ I h;rw[g]at c ⊢;refine vS (thn c λus J⟨vs,k,a,r,z,K⟩=>⟨rfl,?_,a.bk _ _ v,o.keeps a.bk,T.keeps a.bk,λh' e M=>i f d k J h' e _ us a M K⟩);show us.length<=sizeLine;rw[←r.length];exact z
end
section
variable {X:Cx} {pins:PN} {σ:St} {H:Hp} {s:Shared}
theorem Inv.flown{h' B:Heap}(I:Inv X pins σ H s)(w:X.stack=X.env:: X.outer)(y:X.env.frame=some X.env.locals)(f:X.ex=[])(stay:B.StaysIn h')(sm:s.heap.UpToSlots h')(t:Cov (frs X.stack) X.s₀.heap H s.heap B)
  (C:∀p∈X.pn++pins,B.get? p.1=some p.2):Inv X pins σ H {s with heap:=h'}:=by
 obtain⟨un,ok,_⟩:=bJ I w y f stay sm t;have b:∀c v,s.heap.IsCell c v->h'.IsCell c v:=λc v⟨o,e,d⟩=>by
  obtain⟨D,n⟩:=sm c o e λvs z=>by rw[d]at z;cases z
  exact⟨_,n,d⟩
 refine⟨I.ok,I.os,I.bare,by rw[f];exact un,?_,λx c e=>?_,I.free,I.freeC,λp a=>?_,ok,I.len⟩
 ·obtain⟨m,g,hl⟩:=I.loc;refine⟨m,sm.ns g,λi x v e1 j q=>?_⟩;obtain⟨u,r,l⟩:=hl i x v e1 j q;refine⟨u,r,?_⟩;rcases l with l|⟨k,c,e,z⟩
  ·exact .inl l
  ·exact .inr ⟨k,c,e,b c _ z⟩
 ·obtain⟨v,z⟩:=I.cell x c e;exact⟨v,b c v z⟩
 ·obtain⟨_,r⟩:=I.pin p a;exact⟨stay _ _ (C p a),r⟩
noncomputable def Gq(e:Addr)(C:Value):HO:=.ext λh=>∃o,h.get? e=some o/\o.cls=C
end
noncomputable abbrev Cx.body(X:Cx)(pn:PN)(E:VP):Cx:={X with pn:=pn,xe:=E}
noncomputable abbrev Cx.suite(X:Cx)(e:Addr):Cx:={X with A:=X.A.mark (some (.ref e)),calm:=false,xe:=λ_ _=>False}
section
variable {X:Cx} {pins pins':PN} {σ:St} {H:Hp} {s:Shared} {E:VP} {e:Addr}
theorem Inv.intry(I:Inv X pins σ H s):Inv (X.body (X.pn++pins) E) [] σ H s:=
 ⟨⟨I.ok.mod,I.ok.kind,I.ok.glob,I.ok.blt,I.ok.above,I.ok.inj,I.ok.has,I.ok.cab,I.ok.hd,I.ok.frames,I.ok.stk,I.ok.exf,I.ok.bs,I.ok.bsz,I.ok.noex,I.ok.exfs,I.ok.funs,I.ok.frf⟩,
  I.os,I.bare,I.base,I.loc,I.cell,I.free,I.freeC,λp a=>I.pin p (by simpa using a),I.hok,I.len⟩
theorem Inv.offtry(I:Inv (X.body (X.pn++pins) E) pins' σ H s):Inv X pins σ H s:=
 ⟨⟨I.ok.mod,I.ok.kind,I.ok.glob,I.ok.blt,I.ok.above,I.ok.inj,I.ok.has,I.ok.cab,I.ok.hd,I.ok.frames,I.ok.stk,I.ok.exf,I.ok.bs,I.ok.bsz,I.ok.noex,I.ok.exfs,I.ok.funs,I.ok.frf⟩,
  I.os,I.bare,I.base,I.loc,I.cell,I.free,I.freeC,λp a=>I.pin p (xU _ a),I.hok,I.len⟩
theorem Inv.insuite(I:Inv X pins σ H s):Inv (X.suite e) pins σ H s:=
 ⟨⟨I.ok.mod,I.ok.kind,I.ok.glob,I.ok.blt,I.ok.above,I.ok.inj,I.ok.has,I.ok.cab,(λz=>by cases z),I.ok.frames,I.ok.stk,I.ok.exf,I.ok.bs,I.ok.bsz,I.ok.noex,I.ok.exfs,I.ok.funs,I.ok.frf⟩,
  I.os,I.bare,I.base,I.loc,I.cell,I.free,I.freeC,I.pin,I.hok,I.len⟩
theorem Inv.offsuite(I:Inv (X.suite e) pins σ H s)(ok:X.Ok):Inv X pins σ H s:=
 ⟨ok,I.os,I.bare,I.base,I.loc,I.cell,I.free,I.freeC,I.pin,I.hok,I.len⟩
theorem SP.offtry{D:Ends}{f:Flow}(h:SP (X.body (X.pn++pins) E) [] D f s):SP X pins D f s:=by
 cases f with
 |next=>obtain⟨a,H',b,q⟩:=h;exact⟨a,H',b.offtry,q⟩
 |brk=>obtain⟨a,H',b,q⟩:=h;exact⟨a,H',b.offtry,q⟩
 |cont=>obtain⟨a,H',b,q⟩:=h;exact⟨a,H',b.offtry,q⟩
 |ret u=>obtain⟨v,a,H',b,r,q⟩:=h;exact⟨v,a,H',b.offtry,r,q⟩
end
section
variable {X:Cx}
theorem nR:OpR X (binaryOp .Mult) (rI (λi j=>IntMulOk i j) λi j=>.int (i*j)):=opI λ_ _ _ _ _ _ _ a q=>mul_int q a
def iY(_ j:Int):Prop:=j≠0/\j.natAbs.log2<9000
theorem iZ:OpR X (binaryOp .FloorDiv) (rI iY λi j=>.int (i.fdiv j)):=opI λ_ _ _ _ _ _ _ a q=>floordiv_int a.1 q (.inl (PyProof.noPylong_of_log2 a.2))
end
mutual
inductive Dt(K:Frag)(H:Hp):V->PyData->Prop
 |non:Dt K H .non .none
 |bl (b):Dt K H (.bl b) (.bool b)
 |int (i):Dt K H (.int i) (.int i)
 |str (x):Dt K H (.str x) (.str x)
 |lst {a xs ds}:SqL K H a xs->Dts K H xs ds->Dt K H (.ref a) (.list ds)
 |tup {a xs ds}:SqT K H a xs->Dts K H xs ds->Dt K H (.ref a) (.tuple ds)
inductive Dts(K:Frag)(H:Hp):List V->List PyData->Prop
 |nil:Dts K H [] []
 |cons {x xs d ds}:Dt K H x d->Dts K H xs ds->Dts K H (x:: xs) (d:: ds)
end
theorem Dts.ints{K:Frag}{H:Hp}:∀(ns:LI'),Dts K H (ns.map V.int) (ns.map PyData.int)
 |[]=>.nil
 |n:: r=>.cons (.int n) (Dts.ints r)
section
variable {X:Cx} {pins:PN} {σ:St} {H:Hp} {s:Shared}
mutual
theorem Dt.reads(I:Inv X pins σ H s):∀{x:V}{d:PyData}{u:Value},Dt X.K H x d->RelV x u->∃as,Reads s.heap u d as
 |_,_,_,.non,r=>by cases(show _=Value.none from r);exact⟨_,.none⟩
 |_,_,_,.bl b,r=>by cases(show _=Value.bool b from r);exact⟨_,.bool b⟩
 |_,_,_,.int i,r=>by obtain⟨f,e⟩:=(show∃f,_=Value.int i f from r);cases e;exact⟨_,.int i f⟩
 |_,_,_,.str x,r=>by obtain⟨f,e⟩:=(show∃f,_=Value.str x f from r);cases e;exact⟨_,.str x f⟩
 |_,_,_,.lst (a:=a) h g,r=>by
  cases(show _=Value.ref a from r);obtain⟨its,j,⟨o,n,e,c,_,dd⟩,_⟩:=I.list h;obtain⟨as,q⟩:=Dts.reads I g j;exact⟨_,.list e c dd (by simpa using q)⟩
 |_,_,_,.tup (a:=a) h g,r=>by
  cases(show _=Value.ref a from r);obtain⟨its,j,⟨o,e,c,n,dd⟩,_⟩:=I.tuple h;obtain⟨as,q⟩:=Dts.reads I g j;exact⟨_,.tuple e c dd (by simpa using q)⟩
theorem Dts.reads(I:Inv X pins σ H s):∀{xs:List V}{ds:List PyData}{us:LW},Dts X.K H xs ds->Vals xs us->∃as,ReadsAll s.heap us ds as
 |_,_,_,.nil,r=>by cases r;exact⟨_,.nil⟩
 | _,_,_,.cons h b,r=>by
  cases r with
  |cons r1 r2 =>
   obtain⟨as,c⟩:=Dt.reads I h r1;obtain⟨bs,a⟩:=Dts.reads I b r2;exact⟨_,.cons c a⟩
end
end
section
variable {X:Cx}
def rEqD(K:Frag):R2:=λx y H Q=>∃d d',Dt K H x d/\Dt K H y d'/\SeqAt.shaped d=true/\SeqAt.shaped d'=true/\SeqAt.noMix d d'=true/\Q (.bl (same d d')) H
def rNeD(K:Frag):R2:=λx y H Q=>∃d d',Dt K H x d/\Dt K H y d'/\SeqAt.shaped d=true/\SeqAt.shaped d'=true/\SeqAt.noMix d d'=true/\Q (.bl (!same d d')) H
theorem dP(e:X.A.units+64<cLine):OpR X (compareOp .Eq) (rEqD X.K):=by
 intro l s k H x y v u Q I a j h;obtain⟨d,d',g,c,i,b,f,q⟩:=h;obtain⟨as,r1⟩:=g.reads I a;obtain⟨bs,r2⟩:=c.reads I j;exact eq_dataH_same r1 r2 i b e f ⟨.bl (same d d'),H,I,rfl,q⟩
theorem gS(e:X.A.units+64<cLine):OpR X (compareOp .NotEq) (rNeD X.K):=by
 intro l s k H x y v u Q I a j h;obtain⟨d,d',g,c,i,b,f,q⟩:=h;obtain⟨as,r1⟩:=g.reads I a;obtain⟨bs,r2⟩:=c.reads I j;exact ne_dataH_same r1 r2 i b e f ⟨.bl (!same d d'),H,I,rfl,q⟩
end
structure Bz(K:Frag)(C:Addr):Prop where
 ga:PySem.W.findIn K (.ref C) "__getattribute__"=some (some (.builtin "BaseException.__getattribute__"))
 gt:PySem.W.findIn K (.ref C) "__getattr__"=some none
 ca:PySem.W.findIn K (.ref C) "__class__"=some (some (.builtin "object.__class__"))
 cg:PySem.W.specialIn K (.builtin "object.__class__") "__get__"=some (some (.builtin "getset_descriptor.__get__"))
 tk:PySem.W.takesIn K (.builtin "object.__class__")=some true
 ob:PySem.W.mroIn K C (.type "object")=some true
 bx:PySem.W.mroIn K C (.type "BaseException")=some true
 cl:(PySem.W.clsIn K C).isSome=true
theorem Pd{prog:Program}{w:World}{A:Around}{E:VP}{s:Shared}{K:Frag}{x C:Addr}{Q:Option Value->Shared->Prop}(F:Bz K C)(KX:K.In s.heap)(c:∃o,s.heap.get? x=some o/\o.cls=.ref C)
  (h:Q (some (.ref C)) {s with toks:=s.toks+1}):wpAny (model prog w) A (getAttr? (.ref x) "__class__") Q E s:=by
 obtain⟨hh,g,d,e,y⟩:=s;obtain⟨o,c,a⟩:=c;have b:PySem.W.Looks (model prog w) hh (typeOf (.ref x)) (.ref C):=a ▸ (qT c).andThen .now;have f:=vR (M:=model prog w) KX F.ga;have n:=vR (M:=model prog w) KX F.gt;have j:=vR (M:=model prog w) KX F.ca;have m:=PySem.W.looks_specialIn (M:=model prog w) KX F.cg;have l:=PySem.W.looks_takesIn (M:=model prog w) KX F.tk;have k:=rO (M:=model prog w) KX F.ob;have i:=rO (M:=model prog w) KX F.bx;unfold getAttr? getAttrBy? getAttrBy;refine zA (wpAny_mkText (zA (vP (xB (zA (b.at (zA (f.at ?_))))))));show wpAny _ _ (getAttrByItsOwn _ _ _ _ _ _) _ _ _;unfold getAttrByItsOwn;refine zA (show wpAny _ _ (hookBefore (.ref C)) _ _ _ from n.at ?_);refine zA (vP (xB ?_));show wpAny _ _ (boundAndCalled _ _ _) _ _ _;unfold boundAndCalled;rw[PySem.F.attr_ValueError.ga.bind (.ref x)];refine zA (zB (tL ?_));refine tE PySem.F.attr_ValueError.ga.plain PySem.F.entry_bexc_ga ?_;have u:builtinKind "BaseException.__getattribute__"=some .slot:=nofun
 have q:splitId "BaseException.__getattribute__"=some ("BaseException","__getattribute__"):=nofun
 have v:=PySem.F.args_bexc_ga (.ref x) (.str "__class__" e);have p:PySem.W.Looks (model prog w) hh (isInstance (.ref x) (.type "BaseException")) true:=b.andThen i;show wpAny _ _ (checkBuiltinCall "BaseException.__getattribute__" ⟨[.ref x,.str "__class__" e],[]⟩) _ _ _;simp only[checkBuiltinCall,u,q];refine zA (p.at ?_)
 repeat wp_step
 rw[a];refine j.at ?_;refine zA (show wpAny _ _ (Builtin.ObjectAttr.getOf (some (.builtin "object.__class__"))) _ _ _ from m.at ?_);have t:PySem.W.Looks (model prog w) hh (Builtin.ObjectAttr.dataDescriptor? (some (.builtin "object.__class__")) (some (.builtin "getset_descriptor.__get__"))) (some (.builtin "getset_descriptor.__get__",.builtin "object.__class__")):=l.andThen .now;refine zA (t.at ?_)
 repeat wp_step
 have r:PySem.W.Looks (model prog w) hh (isInstance (.ref x) (.type "object")) true:=b.andThen k;refine tE PySem.W.KF.slot_gs.plain PySem.W.KF.entry_gs (PySem.W.KF.slot_gs.check _ _ _ _ _ _ _ _ PySem.W.KF.type_class (PySem.W.KF.args_gs _ _ _) ?_)
 (unfold Builtin.«getset_descriptor.__get__» Builtin.Getset_descriptor.descrGet;rw[PySem.W.dga_obj];refine zA (zB ?_))
 (unfold Builtin.Getset_descriptor.descrGetter Builtin.Getset_descriptor.descrCheckInstance Builtin.Getset_descriptor.descrNameAndClass;simp only[PySem.W.KF.owner_class])
 refine zA (zA (zB (zA (r.at (zB ?_)))))
 repeat wp_step
 refine⟨rW _ (nofun),tW PySem.W.KF.entry_class ?_⟩
 (unfold Builtin.«object.__class__» shownTypeOf;repeat wp_step)
 rw[a];exact zB (zB h)
theorem Pc{K:Frag}{x C:Addr}(F:Bz K C):PySem.W.KitX K (.ref x) (.ref C) (λh=>∃o,h.get? x=some o/\o.cls=.ref C) where
 ty:=λM h _⟨o,f,b⟩=>b ▸ (qT f).andThen .now
 it:=λM h KX _=>by
  have q:=F.cl;unfold PySem.W.clsIn at q;split at q
  ·next a =>
   intro m i j r k z
   (unfold isType loadHead;exact zA (pK (k _ _ (KX _ _ a)) (zB z)))
  ·cases q
 ne:=λh g dd its n l KX c=>by
  have q:=F.cl;refine pZ.mpr λz=>?_;have e:C=g:=Value.ref.inj (pW.mp z);subst e;unfold PySem.W.clsIn at q;split at q
  ·next a=>exact absurd ((KX _ _ a).symm.trans c) (by intro d;cases d)
  ·cases q
 ca:=λKX p k=>Pd F KX p k
inductive TyX(K:Frag)(H:Hp):V->Value->Prop where
 |ty {x:V} {t:Value} (h:TyOf K H x t):TyX K H x t
 |exc {e C:Addr} (h:H e=some (Gq e (.ref C))) (F:Bz K C):TyX K H (.ref e) (.ref C)
 |tupS {a:Addr} {xs:List V} (h:SqT K H a xs):TyX K H (.ref a) (.type "tuple")
noncomputable def clsV:V->Value
 |.ty n=>.type n
 |.ref a=>.ref a
 |_=>.none
noncomputable def Pb:V->Bool
 |.ty _=>true
 |.ref _=>true
 |_=>false
def rIsi(K:Frag):List V->Hp->VK->Prop:=λvs H Q=>∃x c t b,vs=[x,c]/\TyX K H x t/\Pb c=true/\PySem.W.kitOne K t (clsV c)=some b/\Q (.bl b) H
theorem Gp{X:Cx}:lK X (.builtin "isinstance") (rIsi X.K):=by
 intro m s i H xs us Q I d h;obtain⟨x,c,n,b,rfl,ty,f,e,q⟩:=h;obtain⟨u,w,rfl,r1,r2⟩:=d.two;have j:w=clsV c:=by
  cases c <;> first|exact r2|cases f
 subst j;have a:∀tk,EP X m i Q (.bool b) {s with toks:=tk}:=λtk=>⟨.bl b,H,I.tok tk,rfl,q⟩;cases ty with
 |ty h=>exact Ox I r1 h e a
 |exc h F =>
  obtain rfl:u=_:=r1;obtain⟨l,_,_⟩:=(show nO X.prog X.w H s.heap _ (Gq _ _) from I.hok _ _ h);exact xM (Pc F) I.kIn l e (λz=>nomatch z) a
 |tupS h =>
  obtain rfl:u=_:=r1;obtain⟨its,_,⟨o,g,k,_⟩,_⟩:=I.tuple h;exact xM PySem.W.kitx_tuple I.kIn ⟨o,g,k⟩ e (λz=>nomatch z) a
structure Pa(k:Nat)(A:Around):Prop where
 dp:A.depth+3*k+5<recursionLimit
 un:A.units+16*k+200<cLine
structure u_B(P:Program)(w:World)(K:Frag)(mg:MT)(base:Heap)(k:Nat)(f:Addr)(fd:FuncData)(ps:List Str)(sp:Sp):Prop where
 len:∀vs H Q E,sp vs H Q E->vs.length=ps.length
 run:∀(A:Around)(outer:List Env)(s:Shared)(H:Hp)(args:Args)(us:LW)(vs:List V)(Q:VK)(E:XK),Pa k A->Env0 P w K mg base A outer s H->BindsTo s fd args (ps.zip us)->Vals vs us->sp vs H Q E ->
  codeAny (model P w) A (.call (.ref f) args) (CR CX0 outer P w H s Q E) s
section
variable {X:Cx}
theorem lG:OpR X (compareOp .Eq) (rI0 λi j=>.bl (decide (i=j))):=opB0 λi j _ _ _ _ _ q=>eq_int (by rw[Bool.beq_eq_decide_eq];exact q)
theorem hJ:OpR X (compareOp .NotEq) (rI0 λi j=>.bl (!decide (i=j))):=opB0 λi j _ _ _ _ _ q=>ne_int (by rw[bne,Bool.beq_eq_decide_eq];exact q)
theorem PS.nox{st:Stmt}{a:TS}(h:PS X.nox st a):PS X st a:=λb s d H D I c =>
 yU (h b s d H D (I.wish _) c) (λ_ _ q=>q.unwish) λ_ _ z=>z.elim
end
section
variable {P:Program} {w:World} {K:Frag} {mg:MT} {base:Heap}
theorem Fun.okX{x a:Str}{st:Stmt}{f:Addr}{c:FuncData}{N ps:List Str}{k:Nat}{b:Sp}(F:Fun K x a st f c)(S:nA N ps (oR st))(len:∀vs H Q E,b vs H Q E->vs.length=ps.length)
  (g:∀(cdv:Value)(A:Around)(outer:List Env)(s:Shared)(H:Hp)(vs:List V)(Q:VK)(E:XK),Room k (A.deeper (envOfC a (oR st) s.heap.objs.size f cdv))->b vs H Q E ->
   ∃d,PSs (cxOf (CX1 P w) P w K mg base N a (oR st) f cdv A outer s H E) (kH st) d/\d {nx:=λ_ H'=>Q .non H',rt:=Q} (jQ N vs) H):FnOk P w K mg base (CX1 P w) (k+1) f c ps b:=by
 obtain⟨p,o,kV,n,r,l,cdv,m,q,rfl,i,e⟩:=F.ex;exact Ai i e S len λA outer s H vs Q E hr j=>g cdv A outer s H vs Q E hr j
end
end L2
namespace Att
open PySem PySem.W PySem.Calls PyProof.Rows
theorem Go:∀ns:LI',ofPys (ns.map PyData.int)=ns.map WData.int
 |[]=>rfl
 |n:: r=>by
  show ofPy (.int n):: ofPys (r.map PyData.int)=_;rw[Go r];rfl
theorem Qz{ns:LI'}(h:(WData.list (ns.map WData.int)).layable=true):∀n∈ns,Builtin.Int.intBits n<=1048576:=λn b=>by
 have e:ofPy (.list (ns.map PyData.int))=WData.list (ns.map WData.int):=by
  show WData.list (ofPys (ns.map PyData.int))=_;rw[Go]
 have a:PySem.Spec.Shape.has (.list .int) (.list (ns.map PyData.int))=true:=by
  simp[PySem.Spec.Shape.has]
 exact intBits_le_of_item b (layable0_of_all (lay0_ofPy (s:=.list .int) rfl a (by rw[e];exact h)))
theorem attach_callB{l:OpenLaw}{n:Nat}{q:Program}{t:List Str}{p:(MT)->Heap->Prop}{k:World->Heap->Prop}{d:DefRec}(F:l.most=some n)(O:d.params.defaults=[])
  (call:∀(w:World)(i b:Shared)(c j:MT)(e:Addr)(a:Addr)(vs:LW)(ns:LI'),Ground q t [] p w i c j b.heap->k w b.heap->c d.name=some (.ref e) ->
   b.heap.get? a=some {cls:=.type "list",data:=.seq vs.toArray}->IntsAre vs ns->ns.length<=n->(∀m∈ns,Builtin.Int.intBits m<=1048576)->b.gens=#[] ->
   codeAny (model l.prog w) callerA (.call (.ref e) ⟨[.ref a],[]⟩) (λr g=>r=.ok (.ret (.bool true))/\OldK b.heap g.heap/\g.os=b.os/\AllBare g.gens) b):
  WalkO q t p k l.row.toRowW d [] (λf vs=>PySem.call f vs):=by
 intro w i b c j L C e o Z Y a2 T kV W a1 X u P I U vals as K z V S a0;obtain rfl:T=.none:=Dflts.none u O;obtain rfl:kV=.none:=Dflts.noKw u;obtain⟨a,vs,ns,rfl,rfl,R,G,D⟩:=Pl F K S;have N:=Qz (layableW_arg z _ zZ);refine enter_call (uV (call w i b c j e a vs ns L C P R G D N I) λr g y=>?_);obtain⟨rfl,J,v,x⟩:=y;exact⟨.inl ⟨.bool true,.bool true,[],rfl,λ_=>rfl,.bool true,Pk l _,λ_=>⟨List.Pairwise.nil,λ_ M=>(nomatch M)⟩⟩,J,v,x⟩
end Att
namespace L2
open PySem PySem.Spec PyProof.Rows
open PySem.W (Frag)
def Gn(K:Frag):Sp:=λvs H Q _=>∃(a:Addr)(ns:LI'),vs=[.ref a]/\SqL K H a (ns.map V.int)/\ns.length<=63/\(∀m∈ns,Builtin.Int.intBits m<=1048576)/\∀H',Q (.bl true) H'
theorem walkB{l:PySem.W.OpenLaw}{k:Nat}{q:Program}{p:List Str}{o:(MT)->Heap->Prop}{j:World->Heap->Prop}{d:DefRec}{K:Params->Frag}{x:Str}
  (t:l.most=some 63)(I:d.params.defaults=[])(hr:Room k callerA)(M:∀(w:World)(h:Heap),j w h->(K w.params).In h)
  (F:∀(w:World)(b:MT)(g:Addr)(h:Heap),(K w.params).In h->h.Ns mainGlobals b->b d.name=some (.ref g) ->
   ∃i:FuncData,(∀(s:Shared)(u:Value),BindsTo s i ⟨[u],[]⟩ [(x,u)])/\∀base:Heap,(K w.params).In base->base.Ns mainGlobals b->FnOk l.prog w (K w.params) b base CX0 k g i [x] (Gn (K w.params))):
  PySem.W.WalkO q p o j l.row.toRowW d [] (λf vs=>PySem.call f vs):=by
 refine Att.attach_callB t I λw N O b R g a vs ns c r J L y m G C=>?_;have KX:=M w _ r;obtain⟨i,D,n⟩:=F w b g _ KX c.T.g J;exact Pj KX c.T.g c.T.b c.T.builtins c.T.nolimit C L y (yG m ∅) hr n D (λH _ v=>⟨a,ns,rfl,v,m,G,λ_=>rfl⟩) λH e P z=>z
theorem mT{d:TI}{g:TG}{tb:TS}{D:Ends}{a:St}{H:Hp}(h:∀B:TS,B=tb->d a H λb k=>∃W:Nat->Nat->St->Hp->Prop,(∃m,W 0 m a k)/\∀i m a H,W i m a H ->
  (b.stop i H/\D.nx a H)\/(b.go i H/\∃N:St->Hp->Prop,(∀e H',N e H'->∃c,c<m/\W (i+1) c e H')/\∀x H',b.yld i H x H'->g x a H' λj f=>B {D with nx:=N,ct:=N,bk:=D.nx} j f)):tFor d g tb D a H:=h _ rfl
theorem Gm{c:TT}{tb:TS}{D:Ends}{a:St}{H:Hp}(h:∀B:TS,B=tb->∃W:Nat->St->Hp->Prop,(∃m,W m a H)/\∀m a H,W m a H ->
  c a H λb f=>if b=true then∃N:St->Hp->Prop,(∀d H',N d H'->∃e,e<m/\W e d H')/\B {D with nx:=N,ct:=N,bk:=D.nx} a f else D.nx a f):Fw c tb D a H:=h _ rfl
theorem st{c u:TS}{D:Ends}{a:St}{H:Hp}(h:∀b:St->Hp->Prop,b=u D->c {D with nx:=b} a H):tSeq c u D a H:=h _ rfl
section
variable {g:Int->Int->V} {C:Int->Int->Prop} {f:Int->V} {i j:Int} {H:Hp} {Q:VK}
theorem t_t:rI0 g (.int i) (.int j) H Q=Q (g i j) H:=propext ⟨λ⟨_,_,e1,a,q⟩=>by cases e1;cases a;exact q,λq=>⟨_,_,rfl,rfl,q⟩⟩
theorem u_j:rI C g (.int i) (.int j) H Q=(C i j/\Q (g i j) H):=propext ⟨λ⟨_,_,e1,a,q⟩=>by cases e1;cases a;exact q,λq=>⟨_,_,rfl,rfl,q⟩⟩
theorem u_k:rU f (.int i) H Q=Q (f i) H:=propext ⟨λ⟨_,e1,q⟩=>by cases e1;exact q,λq=>⟨_,rfl,q⟩⟩
end
theorem Same.new{H:Hp}{a:Addr}{o:HO}(h:H a=none):Same H (upd H a o):=λb u e=>by rw[oT (nY e h)];exact e
theorem Same.over{H c:Hp}{a:Addr}{o:HO}(h:H a=none)(s:Same H c):Same H (upd c a o):=λb u e=>by rw[oT (nY e h)];exact s b u e
theorem Same.tup{K:Frag}{H H':Hp}{a:Addr}{xs:List V}(e:Same H H')(h:SqT K H a xs):SqT K H' a xs:=by
 rcases h with(h|⟨o,h⟩)|h
 ·exact .inl (.inl (e _ _ h))
 ·exact .inl (.inr ⟨o,e _ _ h⟩)
 ·exact .inr h
section
variable {K:Frag} {a b:Addr} {xs:List V} {te:TE} {fr:List (Str×Nat)} {σ:St} {H:Hp} {Q:VK}
def u_C(H:Hp)(a:Addr)(R:Nat->V->Prop)(i:Nat)(H1:Hp):Prop:=Same H H1/\∃ys:List V,H1 a=some (.lst ys)/\ys.length=i/\∀j y,ys[j]?=some y->R j y
end
theorem mK{b a:Type}{ys:List a}{xs:List b}{f:b->a}(hl:ys.length=xs.length)(h:∀(j:Nat)(y:a),ys[j]?=some y->∃x,xs[j]?=some x/\y=f x):ys=xs.map f:=by
 refine uB (by simpa using hl) λi e k=>?_;obtain⟨x,e1,c⟩:=h i ys[i] (by simp[e]);obtain⟨g,d⟩:=oH.mp e1;rw[uC,c,d]
noncomputable def kP(sc scope:Scope):Scope:={scope with names:=scope.names.map λ(n,k)=>if(k == .free && sc.kind == .function && sc.names.lookup n == some .cell) then(n,.cell) else(n,k)}
theorem Qy{a sc:Scope}{env:Env}(h:env.scope=sc):relabel a env=kP sc a:=by subst h;rfl
theorem dQ:∀(a:List (Str×NameKind))(n:Nat)(acc:List (Str×Addr)),cellsFrom n a acc=cellsFrom n a []++acc
 |[],_,_=>rfl
 |(x,k):: r,n,acc=>by
  unfold cellsFrom;split
  ·rw[dQ r (n+1) ((x,n):: acc),dQ r (n+1) [(x,n)],yI];rfl
  ·exact dQ r n acc
theorem By{y:Str}{b:Addr}:∀{a:List (Str×NameKind)}{n:Nat}{acc:List (Str×Addr)},(y,b)∈cellsFrom n a acc->(y,b)∈acc\/(y,NameKind.cell)∈a
 |[],_,_,h=>.inl h
 | (x,k):: r,n,acc,h=>by
  unfold cellsFrom at h;split at h
  ·rename_i d;rcases By h with q|q
   ·rcases xH.mp q with e|e
    ·have c:k=.cell:=by simpa using d
     cases e;exact .inr (by rw[c];exact zZ)
    ·exact .inl e
   ·exact .inr (zO _ q)
  ·rcases By h with q|q
   ·exact .inl q
   ·exact .inr (zO _ q)
theorem dR{y:Str}:∀{a:List (Str×NameKind)}{n:Nat}{acc:List (Str×Addr)},((y,NameKind.cell)∈a\/∃b,acc.lookup y=some b)->∃b,(cellsFrom n a acc).lookup y=some b
 |[],_,_,h=>by
  rcases h with h|h
  ·simp at h
  ·exact h
 | (x,k):: r,n,acc,h=>by
  unfold cellsFrom;split
  ·rename_i c;refine dR ?_;rcases h with h|⟨b,h⟩
   ·rcases xH.mp h with e|e
    ·cases e;exact .inr ⟨n,by rw[xG];simp⟩
    ·exact .inl e
   ·rw[xG];cases hx:y == x with
    |true=>exact .inr ⟨n,rfl⟩
    |false=>exact .inr ⟨b,h⟩
  ·rename_i c;refine dR ?_;rcases h with h|h
   ·rcases xH.mp h with e|e
    ·cases e;simp at c
    ·exact .inl e
   ·exact .inr h
theorem Bx{env:Env}{q:NameKind}:∀{f:List (Str×NameKind)}{x:Str},
  (f.map λ(n,k)=>if(k == NameKind.free && env.scope.kind == .function && env.kindOf n == some .cell) then(n,NameKind.cell) else(n,k)).lookup x=some q ->
  (q=.cell\/q=.free)->(x,NameKind.free)∈f\/(x,NameKind.cell)∈f
 |[],_,h,_=>by simp at h
 | (n,k):: r,x,h,c=>by
  have g:=@Bx env q r x;rw[zK]at h;dsimp only at h
  by_cases d:(k == NameKind.free && env.scope.kind == .function && env.kindOf n == some .cell)=true
  ·rw[zF d,xG]at h;cases hx:x == n with
   | true =>
    have b:x=n:=by simpa using hx
    have a:k=.free:=by
     have:=(zR _ _ ▸ ((zR _ _ ▸ d).1)).1;simpa using this
    rw[b,a];exact .inl zZ
   |false =>
    rw[hx]at h;exact(g h c).imp (zO _) (zO _)
  ·rw[zD d,xG]at h;cases hx:x == n with
   |true =>
    rw[hx]at h;have b:x=n:=by simpa using hx
    have a:k=q:=zW h;rcases c with e|e
    ·rw[b,a,e];exact .inr zZ
    ·rw[b,a,e];exact .inl zZ
   |false =>
    rw[hx]at h;exact(g h c).imp (zO _) (zO _)
theorem Gk{b:Type}{x:Str}{k d:b}:∀{l:List (Str×b)},(l.map (·.1)).Nodup->(x,k)∈l->(x,d)∈l->k=d
 |(n,q):: r,nd,h,h'=>by
  obtain⟨c,f⟩:=tV.mp nd;rcases xH.mp h with e|e <;> rcases xH.mp h' with a|a
  ·cases e;cases a;rfl
  ·cases e;exact absurd (oE.mpr ⟨_,a,rfl⟩) c
  ·cases a;exact absurd (oE.mpr ⟨_,e,rfl⟩) c
  ·exact Gk f e a
theorem Qx{M:Model}{A:Around}{E:VP}{s:Shared}{a:Scope}{b:Addr}{d:List (Str×Addr)}{f:Str}{e:Option Addr}{c:Value}{env:Env}{bl:Addr}{Q:Env->Shared->Prop}
  (h:Q (newEnv a s.heap.objs.size b (cellsFrom (s.heap.objs.size+1) a.names d) f e c (some env) bl) {s with heap:=pushCells (s.heap.push {cls:=.type "dict",data:=.dict #[]}) a.names}):
  wpAny M A (newFunctionEnv a b d [] f e c (some env) bl) Q E s:=by
 simp only[newFunctionEnv,Option.isSome_some,if_true];refine zA (wpAny_alloc ?_);refine zA (wpAny_layCells _ (λname g cells=>by cases hkc:g == NameKind.cell <;> simp[hkc]) _ _ _ _ ?_);rw[show({s with heap:=s.heap.push {cls:=.type "dict",data:=.dict #[]}}:Shared).heap.objs.size=s.heap.objs.size+1 from xR ..];exact zB h
noncomputable def mD(X:Cx)(scope:Scope)(N:List Str)(s:Shared)(H:Hp)(fp:LA):Cx:=
 {X with N:=N,s₀:=s,H₀:=H,env:=compEnvC scope (cellsFrom (s.heap.objs.size+1) scope.names (clOf X.env scope.names [])) s.heap.objs.size X.env,outer:=X.stack,ex:=fp,fn:=λy=>scope.names.lookup y == some .cell,pn:=[],xe:=λ_ _=>False}
structure jH(X:Cx)(sc scope:Scope)(xs:List Str)(fr:List (Str×Nat)):Prop where
 hsc:X.env.scope=sc
 kind:scope.kind=.function
 nn:(scope.names.map (·.1)).Nodup
 free:∀y∈scope.names,y.2=.free->sc.names.lookup y.1=some .cell\/sc.names.lookup y.1=some .free
 loc:∀y∈scope.names,y.2=.local->scope.names.lookup y.1=some .local
 fr:∀p∈fr,X.N[p.2]?=some p.1/\scope.names.lookup p.1=some .free
section
variable {X:Cx} {sc scope:Scope} {xs:List Str} {fr:List (Str×Nat)}
theorem jH.free'(c:jH X sc scope xs fr):∀y∈scope.names,y.2=.free->X.env.kindOf y.1=some .cell\/X.env.kindOf y.1=some .free:=λy b a=>by
 unfold Env.kindOf;rw[c.hsc];exact c.free y b a
theorem jH.cells{d:PN}{b:St}{H:Hp}{s:Shared}(c:jH X sc scope xs fr)(I:Inv X d b H s):∀y∈scope.names,y.2=.free->∃c,X.env.cells.lookup y.1=some c:=
 λy e a=>I.ok.has y.1 (c.free' y e a)
theorem jH.was{a:PN}{d:St}{H:Hp}{s:Shared}(c:jH X sc scope xs fr)(I:Inv X a d H s){y:Str}{b:Addr}(h:(clOf X.env scope.names []).lookup y=some b):X.env.cells.lookup y=some b:=by
 rcases Gw (c.cells I) h with q|q
 ·simp at q
 ·exact q
theorem fT{a:List (Str×NameKind)}{n:Nat}{d:List (Str×Addr)}{y:Str}{b:Addr}(h:(cellsFrom n a d).lookup y=some b):(cellsFrom n a []).lookup y=some b\/((cellsFrom n a []).lookup y=none/\d.lookup y=some b):=by
 rw[dQ,List.lookup_append]at h;cases q:(cellsFrom n a []).lookup y with
 |none=>rw[q]at h;exact .inr ⟨rfl,h⟩
 |some c=>rw[q]at h;exact .inl h
theorem Qw{D:PN}{g:St}{H:Hp}{s:Shared}{M:LA}(c:jH X sc scope xs fr)(I:Inv X D g H s)
  (x:∀b∈M,FpOk X D H b/\∃o,s.heap.get? b=some o):
  Inv (mD X scope (xs++fr.map (·.1)) s H M) [] (xs.map (λ_=>none)++mI fr g) H {s with heap:=pushCells (s.heap.push {cls:=.type "dict",data:=.dict #[]}) scope.names}:=by
 have k:∀b o,s.heap.get? b=some o->(pushCells (s.heap.push {cls:=.type "dict",data:=.dict #[]}) scope.names).get? b=some o:=λb o e=>pE _ _ b o (zC _ e);have J:(pushCells (s.heap.push {cls:=.type "dict",data:=.dict #[]}) scope.names).Ns s.heap.objs.size (λ_=>none):=(Heap.Ns.new s.heap (.type "dict")).keeps (pE _ _);have ok:=cellsFrom_ok scope.names (s.heap.push {cls:=.type "dict",data:=.dict #[]}) (s.heap.objs.size+1) [] ⟨λ_ _ f=>(nomatch f),List.Pairwise.nil⟩ (by rw[xR];exact zE _);rw[xR]at ok;have t:Inv X D g H {s with heap:=pushCells (s.heap.push {cls:=.type "dict",data:=.dict #[]}) scope.names}:=I.kept (t':=s.toks) k;generalize hh:pushCells (s.heap.push {cls:=.type "dict",data:=.dict #[]}) scope.names=U at k J ok t;have G:∀{y:Str}{b:Nat},(clOf X.env scope.names []).lookup y=some b->b<s.heap.objs.size:=λ{y b}e=>by
  obtain⟨v,z⟩:=I.cell y b (c.was I e);exact z.lt
 have own:∀{y:Str}{b:Nat},(cellsFrom (s.heap.objs.size+1) scope.names []).lookup y=some b->U.IsCell b none/\s.heap.objs.size+1<=b:=λ{y b}e=>ok.empty y b (mem_of_lookup e);refine⟨⟨I.ok.mod,c.kind,I.ok.glob,I.ok.blt,zE _,λy z b r a=>?_,λy m=>?_,λy b a1 r=>?_,I.ok.hd,I.ok.frames,.inl rfl,λb n=>?_,λb o e=>?_,?_,λb o e n=>?_,λb n V=>?_,?_,λb n=>?_⟩,
  rfl,I.bare,Un.kept k,⟨_,J,λi y v r a a3=>?_⟩,λy b h=>?_,?_,λy b h=>?_,λp T=>absurd (show p∈([]:PN) from T) (by simp),t.hok,?_⟩
 ·rcases fT r with e1|⟨_,e1⟩ <;> rcases fT a with d|⟨_,d⟩
  ·exact name_of_addr ok.apart (mem_of_lookup e1) (mem_of_lookup d)
  ·exact absurd (zJ (G d) (qJ (own e1).2)) (xC _)
  ·exact absurd (zJ (G e1) (qJ (own d).2)) (xC _)
  ·exact I.ok.inj y z b (c.was I e1) (c.was I d)
 ·show∃b,(cellsFrom (s.heap.objs.size+1) scope.names (clOf X.env scope.names [])).lookup y=some b;have f:(y,NameKind.free)∈scope.names\/(y,NameKind.cell)∈scope.names:=by
   rcases m with m|m
   ·exact Bx m (.inl rfl)
   ·exact Bx m (.inr rfl)
  rcases f with f|f
  ·exact dR (.inr (Aa (.inl f)))
  ·exact dR (.inl f)
 ·have m:scope.names.lookup y=some .cell:=by
   have a0:(scope.names.lookup y == some NameKind.cell)=true:=a1;simpa using a0
  rcases fT r with e1|⟨e1,_⟩
  ·have:=(own e1).2;show s.heap.objs.size<=b;omega
  ·obtain⟨C,e⟩:=dR (n:=s.heap.objs.size+1) (acc:=[]) (.inl (mem_of_lookup m));rw[e1]at e;cases e
 ·obtain⟨⟨_,_,_,_,Y,_⟩,o,e⟩:=x b n;refine⟨zY (zL e),λy C h=>?_⟩;rcases fT h with e1|⟨_,e1⟩
  ·exactλz=>absurd (zJ (zL e) (qJ (z ▸ (own e1).2))) (xC _)
  ·exact Y y C (c.was I e1)
 ·exact I.bs b o e
 ·exact yG I.ok.bsz I.sz
 ·obtain⟨⟨_,_,_,S,_,_⟩,_⟩:=x b n;rcases S with z|z
  ·exact I.ok.noex b o e z
  ·exact absurd (zJ (zL e) (yG I.ok.bsz z)) (xC _)
 ·obtain⟨⟨_,Z,W,_,_,_⟩,_⟩:=x b n;rcases xH.mp (I.stkSub b V) with z|z
  ·exact Z z
  ·exact W z
 ·exact I.stack
 ·exact I.stkFree b n
 ·have l:(xs++fr.map (·.1))[i]?=some y:=r
  by_cases hi:i<xs.length
  ·rw[yD (by simpa using hi),zI]at a;cases q:xs[i]? with
   |none=>rw[q]at a;cases a
   |some z=>rw[q]at a;cases zW a
  ·rw [zV ⋯]at l;rw[zV (by simpa using hi),yS]at a;generalize i-xs.length=j at l a;rw[zI]at l;unfold mI at a;rw[zI]at a;cases e:fr[j]? with
   |none=>rw[e]at l;cases l
   | some p =>
    rw[e]at l a;have e1:p.1=y:=zW l;have d:g.getD p.2 none=some v:=zW a;obtain⟨R,L⟩:=c.fr p (yF e);have N:g[p.2]?=some (some v):=by
     rw[tN]at d;cases q:g[p.2]? with
     |none=>rw[q]at d;cases d
     |some o=>rw[q]at d;have P:o=some v:=d;rw[P]
    subst e1;have f:(p.1,NameKind.free)∈scope.names:=vC L;have kd:=c.free' _ f rfl;obtain⟨a4,_,hl⟩:=t.loc;obtain⟨u,a2,O⟩:=hl p.2 p.1 v R N (.inr kd);refine⟨u,a2,.inr ⟨Gu L,?_⟩⟩;rcases O with⟨k1,_⟩|⟨_,b,q,z⟩
    ·rcases kd with kd|kd <;> (rw[kd]at k1;cases k1)
    ·obtain⟨C,F⟩:=Aa (env:=X.env) (l:=scope.names) (cs:=[]) (.inl f);have K:=c.was I F;rw[q]at K;cases K;refine⟨b,?_,z⟩;show(cellsFrom (s.heap.objs.size+1) scope.names (clOf X.env scope.names [])).lookup p.1=some b;rw[dQ,List.lookup_append];cases w:(cellsFrom (s.heap.objs.size+1) scope.names []).lookup p.1 with
     |none=>exact F
     |some b2 =>
      rcases By (mem_of_lookup w) with w|w
      ·simp at w
      ·cases Gk c.nn f w
 ·rcases fT h with e1|⟨_,e1⟩
  ·exact⟨none,(own e1).1⟩
  ·exact t.cell y b (c.was I e1)
 ·exact I.hok.fresh (zE _)
 ·rcases fT h with e1|⟨_,e1⟩
  ·exact I.hok.fresh (by have:=(own e1).2;omega)
  ·exact t.freeC y b (c.was I e1)
 ·show(xs.map (λ_=>none)++mI fr g).length=(xs++fr.map (·.1)).length;simp[mI]
end
abbrev TOx:=St->Hp->(Option V->Hp->Prop)->Prop
def tEl(te:TE):TOx:=λσ H Q=>te σ H λy H'=>Q (some y) H'
def fU(tc:TT)(te:TE):TOx:=λσ H Q=>tc σ H λb H1=>if b=true then te σ H1 (λy H'=>Q (some y) H') else Q none H1
def dS(elt:Expr)(ifs:List Expr)(env:Env)(M:Model)(A:Around)(Q:Option Value->Shared->Prop)(E:VP)(s:Shared):Prop:=
 match ifs with
 |[]=>wpAny M A (eval elt env) (λx s1=>Q (some x) s1) E s
 |[c]=>wpAny M A (isTrue c env (eval c env)) (λb s1=>if b=true then wpAny M A (eval elt env) (λx s2=>Q (some x) s2) E s1 else Q none s1) E s
 |_=>False
def POx(X:Cx)(elt:Expr)(ifs:List Expr)(t:TOx):Prop:=∀(pins:PN)(s:Shared)(σ:St)(H:Hp)(Q:Option V->Hp->Prop),Inv X pins σ H s->t σ H Q ->
 dS elt ifs X.env (model X.prog X.w) X.A (λo s'=>∃v H',Inv X pins σ H' s'/\(match o,v with|some u,some y=>RelV y u|none,none=>True|_,_=>False)/\Q v H') X.xe s
theorem jI{X:Cx}{a:Expr}{te:TE}(h:PE X a te):POx X a [] (tEl te):=λg s d H Q I e =>
 thn (h g s d H _ I e) λu i⟨y,f,c,r1,b⟩=>⟨some y,f,c,r1,b⟩
theorem Qv{X:Cx}{f c:Expr}{d:TT}{te:TE}(k:PT X c d)(h:PE X f te):POx X f [c] (fU d te):=λj s g H Q I m=>by
 refine thn (k j s g H _ I m) ?_;rintro b o ⟨i,e,a⟩;cases b with
 |true =>
  rw[zF rfl]at a ⊢;exact thn (h j o g i _ e a) λu q⟨y,l,n,r2,p⟩=>⟨some y,l,n,r2,p⟩
 |false =>
  rw[zD zX]at a ⊢;exact⟨none,i,e,trivial,a⟩
theorem Qu{prog:Program}{w:World}{A:Around}{R:Result->Shared->Prop}{s:Shared}{e a f:Expr}{l:List Expr}{j:Scope}{i:Pos}{d acc:Value}{env:Env}(I:Nat->Shared->Prop)
  (J:∀n s,I n s->wpAny (model prog w) A (pyNext d) (λr q=>match r with
   |none=>R (.ok .next) q
   | some v=>wpAny (model prog w) A (letOwnedTupleGo a d v) (λ_ z=>wpAny (model prog w) A (assign a env v) (λ_ C=>dS e l env (model prog w) A (λo p=>match o with
     |some x=>wpAny (model prog w) A (call (.builtin "list.append") [acc,x]) (λ_ t=>∃m,m<n/\I m t) (λ_ _=>False) p
     |none=>∃m,m<n/\I m p)
     (λ_ _=>False) C) (λ_ _=>False) z) (λ_ _=>False) q) (λ_ _=>False) s)
  (n:Nat)(h:I n s)(y:l.length<=1):
  codeAny (model prog w) A (.compLoop (.ListComp e [⟨a,f,l,0⟩] j i) 0 d acc env) R s:=by
 refine codeAny_loop rfl I (λn s G=>?_) n h;show wpAny _ _ ((compTurn (.ListComp e [⟨a,f,l,0⟩] j i) 0 d acc env).onRaise (λx=>do noteFrame x env;theTreesLotGoes x)) _ _ s;refine wpAny_noted ?_;have T:=J n s G
 match l,y,T with
 | [],_,T =>
  rw[compTurn_list1];refine zA (wS (zA (yU T (λr q k=>?_) λ_ _ h'=>h'.elim)));cases r with
  |none=>exact zB k
  | some v =>
   refine zA (yU k (λ_ z u=>?_) λ_ _ h'=>h'.elim);exact zA (yU u (λ_ C D=>zA (zA (yU (show wpAny _ _ _ _ _ _ from D) (λx p g=>zA (yU g
    (λ_ t F=>zB (zB ⟨rfl,F⟩)) λ_ _ h'=>h'.elim)) λ_ _ h'=>h'.elim))) λ_ _ h'=>h'.elim)
 | [c],_,T =>
  have e1:compTurn (.ListComp e [⟨a,f,[c],0⟩] j i) 0 d acc env=(standAt f.pos >>= λ_=>pyNext d >>= λr=>match r with
   |none=>pure (.done .next)
   | some v=>letOwnedTupleGo a d v >>= λ_=>assign a env v >>= λ_=>isTrue c env (eval c env) >>= λok =>
    (if ok=true then(eval e env >>= λx=>call (.builtin "list.append") [acc,x] >>= λ_=>pure ()) >>= λ_=>again (.compLoop (.ListComp e [⟨a,f,[c],0⟩] j i) 0 d acc env)
     else again (.compLoop (.ListComp e [⟨a,f,[c],0⟩] j i) 0 d acc env))):=by
   unfold compTurn;simp only[List.forIn_cons,List.forIn_nil,if_true,bind_assoc,pure_bind,List.getElem?_cons_zero];rfl
  rw[e1];refine zA (wS (zA (yU T (λr q k=>?_) λ_ _ h'=>h'.elim)));cases r with
  |none=>exact zB k
  | some v =>
   refine zA (yU k (λ_ z u=>?_) λ_ _ h'=>h'.elim);refine zA (yU u (λ_ C D=>zA (yU (show wpAny _ _ _ _ _ _ from D) (λb p g=>?_) λ_ _ h'=>h'.elim)) λ_ _ h'=>h'.elim);cases b with
   |true =>
    rw[zF rfl]at g ⊢;exact zA (zA (yU g (λx t F=>zA (yU F (λ_ L K=>zB (zB ⟨rfl,K⟩)) λ_ _ h'=>h'.elim)) λ_ _ h'=>h'.elim))
   |false =>
    rw[zD zX]at g ⊢;exact zB ⟨rfl,g⟩
 |_:: _:: _,y,T =>
  exact absurd y (by simp)
def Qt(a:Addr)(N:Hp->Prop):Option V->Hp->Prop
 |some y,H=>∃zs,H a=some (.lst zs)/\zs.length<sizeLine/\N (upd H a (.lst (zs++[y])))
 |none,H=>N H
abbrev lO(J:It)(g:TG)(tt:TOx)(n:Nat)(fr:List (Str×Nat))(σ:St)(a:Addr)(H:Hp)(Q:VK):Prop:=
 ∃ W:Nat->Nat->Hp->Prop,(∃m,W 0 m (upd H a (.lst [])))/\∀i m H2,W i m H2->(J.stop i H2/\Q (.ref a) H2) \/
  (J.go i H2/\∃N:Hp->Prop,(∀H',N H'->∃m',m'<m/\W (i+1) m' H')/\∀(ys:St) x H3,ys.length=n->J.yld i H2 x H3 ->
   g x (ys++mI fr σ) H3 λσ4 H4=>(∃ys':St,ys'.length=n/\σ4=ys'++mI fr σ)/\tt σ4 H4 (Qt a N))
def mP(wi:TI)(g:TG)(tt:TOx)(n:Nat)(fr:List (Str×Nat)):TE:=λσ H Q=>wi σ H λJ H1=>∀a,H1 a=none->lO J g tt n fr σ a H1 Q
section
variable {X:Cx} {sc scope:Scope} {xs:List Str} {fr:List (Str×Nat)} {elt tg iter:Expr} {ifs:List Expr} {g:TG} {tt:TOx}
theorem Gj{F:PN}{D:St}{H:Hp}{s:Shared}{c3:Pos}{a9:It}{k:LA}{a8:Addr}{P:Nat->Heap->Prop}{Q:VK}{RR:Value->Addr->Result->Shared->Prop}{E:VP}
  (c:jH X sc scope xs fr)(b4:X.calm=true)(S:ifs.length<=1)(I:Inv X F D H s)(T:Turn X.prog X.w X.K tg a9 k a8 P)(b9:P 0 s.heap)(a1:∀b∈k,FpOk X F H b)
  (d8:∀(w:Shared)(G:Hp)(k:LA),(mD X scope (xs++fr.map (·.1)) w G k).env.scope=kP sc scope->PG (mD X scope (xs++fr.map (·.1)) w G k) tg g)
  (g2:∀(w:Shared)(G:Hp)(k:LA),(mD X scope (xs++fr.map (·.1)) w G k).env.scope=kP sc scope->POx (mD X scope (xs++fr.map (·.1)) w G k) elt ifs tt)
  (g3:∀a,H a=none->lO a9 g tt xs.length fr D a H Q)
  (g4:∀a C H' t m,t.heap.Ns C m->Inv X F D H' t->FpOk X F H' C->Q (.ref a) H'->RR (.ref a) C (.ok .next) t):
  wpAny (model X.prog X.w) X.A (newList []) (λacc w=>wpAny (model X.prog X.w) X.A (newFunctionEnv scope X.env.globals (clOf X.env scope.names []) [] X.env.qual none .none (some X.env)) (λb1 e9 =>
   codeAny (model X.prog X.w) X.A (.compStart (.ListComp elt [⟨tg,iter,ifs,0⟩] scope c3) 0 (.ref a8) acc {b1 with scope:=relabel scope X.env}) (RR acc b1.locals) e9) E w) E s:=by
 obtain⟨W,⟨g5,h0⟩,f5⟩:=g3 s.heap.objs.size I.fresh;refine xL (Qx ?_);have c6:Inv X F D (upd H s.heap.objs.size (.lst [])) {s with heap:=s.heap.push {cls:=.type "list",dict:=none,data:=.seq ([]:LW).toArray}}:=I.lnew (ys:=[]) (its:=[]) (t':=s.toks) .nil (yB _);have U:∀b o,s.heap.get? b=some o->(s.heap.push {cls:=.type "list",dict:=none,data:=.seq ([]:LW).toArray}).get? b=some o:=λb o e=>zC _ e;have b0:Un (frs X.stack) k H (upd H s.heap.objs.size (.lst [])) s.heap (s.heap.push {cls:=.type "list",dict:=none,data:=.seq ([]:LW).toArray}):=Un.laid U (zE _) I.fresh;dsimp only;generalize hH2:s.heap.push {cls:=.type "list",dict:=none,data:=.seq ([]:LW).toArray}=l at c6 U b0 ⊢;have hsz:s.heap.objs.size<=l.objs.size:=by rw[←hH2,xR];exact uM _
 have b6:∀b∈k,∃o,s.heap.get? b=some o:=λb j=>let ⟨o,e,_⟩:=T.obj _ _ b9 b j;⟨o,e⟩
 have d3:∀b∈k,b≠s.heap.objs.size:=λb j=>let ⟨_,e⟩:=b6 b j;zY (zL e)
 have c8:∀b∈k,FpOk X F (upd H s.heap.objs.size (.lst [])) b/\∃o,l.get? b=some o:=λb j=>by
  obtain⟨o,e⟩:=b6 b j;exact⟨⟨by rw[oT (d3 b j)];exact(a1 b j).1,(a1 b j).2⟩,o,U b o e⟩
 have a4:=Qw c c6 c8;have e4:∀b o,l.get? b=some o->(pushCells (l.push {cls:=.type "dict",data:=.dict #[]}) scope.names).get? b=some o:=λb o e=>pE _ _ b o (zC _ e);have b2:P 0 (pushCells (l.push {cls:=.type "dict",data:=.dict #[]}) scope.names):=T.keep 0 _ _ b9 λb j o e=>e4 b o (U b o e);have c0:∀(w:Shared)(G:Hp)(k:LA),(mD X scope (xs++fr.map (·.1)) w G k).env.scope=kP sc scope:=λ_ _ _=>Qy c.hsc;have Y:∀{H':Hp},(∀b∈k,H' b=none)->∀b∈k,FpOk (mD X scope (xs++fr.map (·.1)) {s with heap:=l} (upd H s.heap.objs.size (.lst [])) k) [] H' b:=λg7 b j=>by
  obtain⟨e1,e6⟩:=a4.ok.exf b j;exact⟨g7 b j,e1,a4.ok.exfs b j,.inl j,e6,λp e3=>absurd (show p∈([]:PN) from e3) (by simp)⟩
 have c2:codeAny (model X.prog X.w) X.A (.compLoop (.ListComp elt [⟨tg,iter,ifs,0⟩] scope c3) 0 (.ref a8) (.ref s.heap.objs.size) (compEnvC scope (cellsFrom (l.objs.size+1) scope.names (clOf X.env scope.names [])) l.objs.size X.env))
   (RR (.ref s.heap.objs.size) l.objs.size) {s with heap:=pushCells (l.push {cls:=.type "dict",data:=.dict #[]}) scope.names}:=by
  refine Qu (λn t=>∃i,∃ys:St,∃H',ys.length=xs.length/\Inv (mD X scope (xs++fr.map (·.1)) {s with heap:=l} (upd H s.heap.objs.size (.lst [])) k) [] (ys++mI fr D) H' t/\P i t.heap/\(∀b∈k,H' b=none)/\W i n H')
   ?_ g5 ⟨0,xs.map λ_=>none,_,by simp,a4,b2,λb j=>(c8 b j).1.1,h0⟩ S
  rintro n b8 ⟨i,ys,R,g8,d1,c5,c4,f7⟩;rcases f5 i n R f7 with⟨stop,e0⟩|⟨go,N,f4,step⟩
  ·refine thn (T.done (mD X scope (xs++fr.map (·.1)) {s with heap:=l} (upd H s.heap.objs.size (.lst [])) k) rfl rfl rfl b4 i [] b8 _ R (λ_ _=>False) d1 (Y c4) c5 stop) ?_;rintro r a3 ⟨hr,K⟩;subst hr;obtain⟨f8,g6,_⟩:=K.loc;have a2:Inv X F D R a3:=I.call' K.os (b0.trans K.base) K.hok K.bare λb j=>let f:=a1 b j;⟨f.2.2.2.1,f.2.1,f.2.2.2.2.1,f.2.2.2.2.2⟩
   exact g4 _ _ R a3 f8 g6 a2 (I.fpOk hsz K.free) e0
  ·refine thn (T.item (mD X scope (xs++fr.map (·.1)) {s with heap:=l} (upd H s.heap.objs.size (.lst [])) k) rfl rfl rfl b4 i [] b8 _ R (λ_ _=>False) d1 (Y c4) c5 go) ?_;rintro r a3 ⟨u,hr,f0⟩;subst hr;refine thn f0 ?_;rintro _ c9 ⟨y,b5,a2,d7,g0,Z,d9⟩;have f3:=a2.pinned (Y d9) (T.obj _ _ Z);refine thn (d8 _ _ _ (c0 _ _ _) _ c9 _ b5 y u _ f3 d7 (step ys y b5 g8 g0)) ?_;rintro _ f6 ⟨h1,g1,d5,⟨d0,e2,d4⟩,g9⟩;subst d4;have d2:∀(J:Shared)(v:Hp),Inv (mD X scope (xs++fr.map (·.1)) {s with heap:=l} (upd H s.heap.objs.size (.lst [])) k) ([]++dH k c9.heap) (d0++mI fr D) v J->N v ->
     ∃m,m<n/\∃i,∃ys:St,∃H',ys.length=xs.length/\Inv (mD X scope (xs++fr.map (·.1)) {s with heap:=l} (upd H s.heap.objs.size (.lst [])) k) [] (ys++mI fr D) H' J/\P i J.heap/\(∀b∈k,H' b=none)/\W i m H':=by
    intro J v M a5;obtain⟨f2,f9,d6⟩:=f4 v a5;refine⟨f2,f9,i+1,d0,v,e2,M.unpinned,T.keep _ _ _ Z λb j o e=>(M.pin (b,o) (yO _ (yO _ (cZ j e)))).1,λb j=>?_,d6⟩;obtain⟨o,e,d⟩:=T.obj _ _ Z b j;exact(M.pin (b,o) (yO _ (yO _ (cZ j e)))).2.1
   have f1:=g2 _ _ _ (c0 _ _ _) _ f6 _ g1 _ d5 g9;have mono:∀{Q a0:Option Value->Shared->Prop}{E:VP}{t:Shared}{env:Env},(∀o V,Q o V->a0 o V)->dS elt ifs env (model X.prog X.w) X.A Q E t->dS elt ifs env (model X.prog X.w) X.A a0 E t:=by
    intro Q a0 E t env a7 L;unfold dS at L ⊢
    match ifs,S,L with
    |[],_,L=>exact yU L (λx V q=>a7 _ _ q) λ_ _ e=>e
    |[c],_,L =>
     refine yU L (λb V q=>?_) λ_ _ e=>e;split at q
     ·rename_i j;rw[zF j];exact yU q (λx h2 q=>a7 _ _ q) λ_ _ e=>e
     ·rename_i j;rw[zD j];exact a7 _ _ q
    |_:: _:: _,S,_=>exact absurd S (by simp)
   refine mono (?_) f1;rintro o b3 ⟨O,c1,b7,a6,c7⟩;cases o with
   |none =>
    cases O with
    |none=>exact d2 b3 c1 b7 c7
    |some z=>exact a6.elim
   | some e7 =>
    cases O with
    |none=>exact a6.elim
    |some O =>
     obtain⟨zs,e5,hl,e8⟩:=c7;exact thn (jG _ b3 _ c1 (.ref s.heap.objs.size) [O] (.ref s.heap.objs.size) [e7] (λ_ v=>N v) b7 rfl (.cons a6 .nil) ⟨_,zs,O,rfl,rfl,e5,hl,e8⟩) λ_ J⟨_,v,M,_,a5⟩=>d2 J v M a5
 exact codeAny_compStart_list c2 (T.self _ 0 _ _ _ b2 c2)
variable {wi:TI}
theorem iJ{p:Pos}(c:jH X sc scope xs fr)(t:X.calm=true)(hi:PI X tg iter wi)
  (w:∀(i:Shared)(j:Hp)(d:LA),(mD X scope (xs++fr.map (·.1)) i j d).env.scope=kP sc scope->PG (mD X scope (xs++fr.map (·.1)) i j d) tg g)
  (N:∀(i:Shared)(j:Hp)(d:LA),(mD X scope (xs++fr.map (·.1)) i j d).env.scope=kP sc scope->POx (mD X scope (xs++fr.map (·.1)) i j d) elt ifs tt)
  (y:ifs.length<=1:=by exact Nat.le_of_ble_eq_true rfl)(z:∀x,foldedSetIterable iter X.env x=pure x:=by intro _;rfl):PE X (.ListComp elt [⟨tg,iter,ifs,0⟩] scope p) (mP wi g tt xs.length fr):=by
 intro l s k H Q I h;rw[eval_ListComp];refine wpAny_comprehension_free (use:=none) rfl z (Gv (c.cells I)) c.kind c.loc (thn (hi l s k H _ I h) λv Y O=>thn O λS V D=>?_);obtain⟨W,d,U,P,R,e,F,T,G,L,n⟩:=D;subst e;refine Gj (RR:=λacc C=>compPost (model X.prog X.w) X.A X.xe none (EP X l k Q) acc C) c t y F T G L w N n ?_;intro a C H' J m u K f q;exact⟨m,u,λh' r=>⟨.ref a,H',K.turned (t':=J.toks) (λb o M e=>(r.2 b M).trans e) f.1 f.2.1 f.2.2.2.1 f.2.2.2.2.1 f.2.2.2.2.2,rfl,q⟩⟩
theorem Bw{p u d:Pos}{y:Str}{i:Nat}(c:jH X sc scope xs fr)(M:X.calm=true)(O:X.N.Nodup)(a3:X.N[i]?=some y)(hl:X.env.scope.names.lookup y=some .local)(hi:PI X tg iter wi)
  (S:∀(k:Shared)(l:Hp)(j:LA),(mD X scope (xs++fr.map (·.1)) k l j).env.scope=kP sc scope->PG (mD X scope (xs++fr.map (·.1)) k l j) tg g)
  (a4:∀(k:Shared)(l:Hp)(j:LA),(mD X scope (xs++fr.map (·.1)) k l j).env.scope=kP sc scope->POx (mD X scope (xs++fr.map (·.1)) k l j) elt ifs tt)
  (N:swapsWith (.ListComp elt [⟨tg,iter,ifs,0⟩] scope p) (some (.Name y d)) u.line X.env=pure true:=by rfl)
  (V:ifs.length<=1:=by exact Nat.le_of_ble_eq_true rfl)(W:∀x,foldedSetIterable iter X.env x=pure x:=by intro _;rfl):PS X (.Assign [.Name y d] (.ListComp elt [⟨tg,iter,ifs,0⟩] scope p) u) (Gs i (mP wi g tt xs.length fr)):=by
 intro r s w H D I h;rw[exec_Assign_Name_used _ _ _ _ N];refine zA (wS (zA ?_));show wpAny _ _ (do let _ ←comprehension (.ListComp elt [⟨tg,iter,ifs,0⟩] scope p) scope X.env _ (newList []) false (eval iter X.env) (some (assign (.Name y d) X.env))) _ _ s;refine zA (yU (wpAny_comprehension_free (use:=some (assign (.Name y d) X.env)) (Q:=λ_ n=>SP X r D .next n) rfl W (Gv (c.cells I)) c.kind c.loc
  (thn (hi r s w H _ I h) λv b2 a5=>thn a5 λa8 b0 Y=>?_)) (λ_ n J=>zB (zB J)) λ_ _ e=>e)
 obtain⟨b1,j,a9,a6,a7,e,Z,T,a1,a2,z⟩:=Y;subst e;refine Gj (RR:=λacc C=>compPost (model X.prog X.w) X.A X.xe (some (assign (.Name y d) X.env)) (λ_ n=>SP X r D .next n) acc C) (Q:=λv F=>D.nx (w.set i (some v)) F) c M V Z T a1 a2 S a4 z ?_;intro a C H' n m R K f q;show wpAny _ _ (assign (.Name y d) X.env (.ref a)) _ _ _;refine wpAny_assign_Name (Ed K O a3 (.inl hl) (show RelV (.ref a) (.ref a) from rfl) (λa0 U⟨b,G,t⟩=>?_) (.inr hl));have P:C≠b:=by
  rcases t with e|e
  ·rw[e];exact f.2.1
  ·exact yA (f.2.2.2.2.1 y b e)
 refine⟨m,R.sameBut G P,λh' L=>?_⟩;exact⟨_,H',U.turned (t':=a0.toks) (λb o t e=>(L.2 b t).trans e) f.1 f.2.1 f.2.2.2.1 f.2.2.2.2.1 f.2.2.2.2.2,q⟩
end
noncomputable def bK(sc:Scope)(N:List Str)(scope:Scope)(fr:List (Str×Nat)):Bool:=
 decide (scope.kind=.function) && decide ((scope.names.map (·.1)).Nodup) && decide (∀y∈scope.names,y.2=.free->sc.names.lookup y.1=some .cell\/sc.names.lookup y.1=some .free) &&
 decide (∀y∈scope.names,y.2=.local->scope.names.lookup y.1=some .local) && decide (∀p∈fr,N[p.2]?=some p.1/\scope.names.lookup p.1=some .free)
theorem kQ{X:Cx}{sc a:Scope}{N xs:List Str}{fr:List (Str×Nat)}(g:X.env.scope=sc)(f:X.N=N)(h:bK sc N a fr=true):jH X sc a xs fr:=by
 unfold bK at h;simp only[Bool.and_eq_true,decide_eq_true_eq]at h;obtain⟨⟨⟨⟨e1,b⟩,e⟩,c⟩,d⟩:=h;subst f;exact⟨g,e1,b,e,c,d⟩
noncomputable def bL(sc:Scope)(N:List Str)(i:Nat)(x:Str):Bool:=decide (N.Nodup) && decide (N[i]?=some x) && (decide (sc.names.lookup x=some .local))
theorem jS{X:Cx}{sc:Scope}{N:List Str}{i:Nat}{x:Str}{a:Pos}(c:X.env.scope=sc)(b:X.N=N)(h:bL sc N i x=true):PG X (.Name x a) (nB i):=by
 unfold bL at h;simp only[Bool.and_eq_true,decide_eq_true_eq]at h;subst c b;exact nX h.1.1 h.1.2 (.inl h.2) (.inr h.2)
theorem fV{X:Cx}{sc:Scope}{N:List Str}{i:Nat}{x:Str}{a:Pos}(d:X.env.scope=sc)(c:X.N=N)(h:(decide (N.Nodup) && decide (N[i]?=some x) && (decide (sc.names.lookup x=some .cell)))=true)(b:X.fn x=true):PG X (.Name x a) (nB i):=by
 simp only[Bool.and_eq_true,decide_eq_true_eq]at h;subst d c;exact nX h.1.1 h.1.2 (.inr h.2) (.inl b)
def SqB(b:Bool)(K:Frag)(H:Hp)(a:Addr)(xs:List V):Prop:=match b with|false=>SqL K H a xs|true=>SqT K H a xs
def ItB(b:Bool)(h:Heap)(it a:Addr)(i:Nat):Prop:=match b with|false=>h.IsListIter it a i|true=>h.IsTupleIter it a i
def seqB(b:Bool)(h:Heap)(a:Addr)(its:Array Value):Prop:=match b with|false=>h.IsList a its|true=>h.IsTuple a its
noncomputable def nmB(b:Bool):String:=match b with|false => "list_iterator" |true => "tuple_iterator"
theorem ItB.at{b:Bool}{h h':Heap}{c a:Addr}{i:Nat}(x:ItB b h c a i)(e:∀o,h.get? c=some o->h'.get? c=some o):ItB b h' c a i:=by
 cases b
 ·exact Heap.IsListIter.at x e
 ·exact Heap.IsTupleIter.at x e
theorem seqB.at{b:Bool}{h h':Heap}{a:Addr}{its:Array Value}(x:seqB b h a its)(e:∀o,h.get? a=some o->h'.get? a=some o):seqB b h' a its:=by
 cases b
 ·exact Heap.IsList.at x e
 ·obtain⟨o,c,r⟩:=x;exact⟨o,e o c,r⟩
theorem ItB.lt{b:Bool}{h:Heap}{f a:Addr}{i:Nat}(x:ItB b h f a i):∃o,h.get? f=some o/\∀v,o.data≠.cell v:=by
 cases b
 ·obtain⟨o,e,c,d⟩:=x;exact⟨o,e,λv z=>by rw[d]at z;cases z⟩
 ·obtain⟨o,e,c,d⟩:=x;exact⟨o,e,λv z=>by rw[d]at z;cases z⟩
section
variable {prog:Program} {w:World} {A:Around} {E:VP} {s:Shared}
theorem Qs{b a:Addr}{i:Nat}{items}{x:Value}{Q:VP}(e:s.heap.IsTupleIter b a i)(l:s.heap.IsTuple a items)(f:items[i]?=some x)
  (j:∀h',h'.IsTupleIter b a (i+1)->Heap.SameBut b s.heap h'->Q x {s with heap:=h'}):wpAny (model prog w) A (Builtin.SmallTypes.nextOf (.ref b)) Q E s:=by
 obtain⟨o,d,g,c⟩:=id e;obtain⟨n,k,_,p,m⟩:=l;unfold Builtin.SmallTypes.nextOf;refine zA (wB (name:=Str.ofString "__next__") e.typeIs vQ
  (xW vQ e.typeIs F.entry_tuple_iterator_next ?_ (F.args_tuple_iterator_next_1 _)))
 show wpAny _ _ (field (.ref b) 0 >>= _) _ _ s;refine zA (xV d c (x:=.ref a) rfl ?_);show wpAny _ _ (if(Value.ref a == Value.none)=true then _ else _) _ _ s;rw[zD (show¬ ((Value.ref a == Value.none)=true) from zX)];show wpAny _ _ (field (.ref b) 1 >>= _) _ _ s;refine zA (xV d c (x:=.int i 0) rfl ?_);show wpAny _ _ (seqItems? (.ref a) >>= _) _ _ s;refine zA (wJ k m ?_);simp only[Int.toNat_natCast,f];refine zA (sI d c (by simp) (zB ⟨x,rfl,zB (j _ ?_ (vD ..))⟩));exact⟨_,wF _ d (Obj.isFreed_of_fields (sE c _)),(Obj.cls_mapFields ..).trans g,by
  rw[sE c];simp[rawInt]⟩
theorem Qr{b a:Addr}{i:Nat}{items}{Q:VP}(hh:A.handled=none)(c:s.heap.IsTupleIter b a i)(l:s.heap.IsTuple a items)(g:items[i]?=none)
  (j:∀h' e,Heap.ExtBut b s.heap h'->(∃o,h'.get? e=some o/\o.cls=.type "StopIteration")->E (.ref e) {s with heap:=h'}):wpAny (model prog w) A (Builtin.SmallTypes.nextOf (.ref b)) Q E s:=by
 obtain⟨o,f,n,d⟩:=id c;obtain⟨p,k,_,q,m⟩:=l;unfold Builtin.SmallTypes.nextOf;refine zA (wB (name:=Str.ofString "__next__") c.typeIs vQ
  (xW vQ c.typeIs F.entry_tuple_iterator_next ?_ (F.args_tuple_iterator_next_1 _)))
 show wpAny _ _ (field (.ref b) 0 >>= _) _ _ s;refine zA (xV f d (x:=.ref a) rfl ?_);show wpAny _ _ (if(Value.ref a == Value.none)=true then _ else _) _ _ s;rw[zD (show¬ ((Value.ref a == Value.none)=true) from zX)];show wpAny _ _ (field (.ref b) 1 >>= _) _ _ s;refine zA (xV f d (x:=.int i 0) rfl ?_);show wpAny _ _ (seqItems? (.ref a) >>= _) _ _ s;refine zA (wJ k m ?_);simp only[Int.toNat_natCast,g];refine zA (wU (zA (sI f d (by simp) ?_)));show wpAny _ _ (newExc (.type "StopIteration") [] >>= _) _ _ _;refine zA ?_;simp only[newExc,newTuple];refine zA (xL ?_ (by size_fits));refine zA (m:=firstArgMember _ _) (wpAny_of_eq (a:=Value.none) (by first|rfl|(simp only[firstArgMember];rfl)) ?_);refine xL ?_ (by size_fits);simp only[raiseNew];refine zA (wpAny_handled ?_)
 first|rw[show A.in1.handled=none from hh]|rw[hh]
 refine zA (zB (wpAny_throw ?_));exact j _ _ (((vD ..).extBut.push _).push _) ⟨_,zS _ rfl,rfl⟩
theorem bN{b:Bool}{a l:Addr}{i:Nat}{items:Array Value}{x:Value}{Q:VP}(c:ItB b s.heap a l i)(hl:seqB b s.heap l items)(d:items[i]?=some x)
  (e:∀h',ItB b h' a l (i+1)->Heap.SameBut a s.heap h'->Q x {s with heap:=h'}):wpAny (model prog w) A (Builtin.SmallTypes.nextOf (.ref a)) Q E s:=by
 cases b
 ·exact wpAny_nextOf_list_item c hl d e
 ·exact Qs c hl d e
theorem Bv{b:Bool}{a l:Addr}{i:Nat}{items:Array Value}{Q:VP}(hh:A.handled=none)(c:ItB b s.heap a l i)(hl:seqB b s.heap l items)(d:items[i]?=none)
  (f:∀h' e,Heap.ExtBut a s.heap h'->(∃o,h'.get? e=some o/\o.cls=.type "StopIteration")->E (.ref e) {s with heap:=h'}):wpAny (model prog w) A (Builtin.SmallTypes.nextOf (.ref a)) Q E s:=by
 cases b
 ·exact wpAny_nextOf_list_end hh c hl d f
 ·exact Qr hh c hl d f
theorem Gi{b:Bool}{l:Addr}{items:Array Value}{Q:VP}(hl:seqB b s.heap l items)
  (a:Q (.ref s.heap.objs.size) {s with heap:=s.heap.push {cls:=.type (nmB b),data:=.fields #[.ref l,.int 0 0]}}):wpAny (model prog w) A (pyIter (.ref l)) Q E s:=by
 cases b
 ·exact sJ hl a
 ·exact uI hl a
theorem Gh{b:Bool}{h:Heap}{l:Addr}:ItB b (h.push {cls:=.type (nmB b),data:=.fields #[.ref l,.int 0 0]}) h.objs.size l 0:=by
 cases b
 ·exact⟨_,zS _ rfl,rfl,rfl⟩
 ·exact⟨_,zS _ rfl,rfl,rfl⟩
theorem Gg(b:Bool)(hh:A.handled=none)(a l:Addr)(f:l≠a)(items:Array Value):
  Draws prog w A a [a,l] items.size (λi v=>items[i]?=some v) (λi h=>ItB b h a l i/\seqB b h l items) where
 live:=λ_ _ st=>let ⟨o,m,_⟩:=st.1.lt;⟨o,m⟩
 frame:=λ_ _ _ st d=>⟨st.1.at λo e=>d a (by simp) o e,st.2.at λo e=>d l (by simp) o e⟩
 item:=λi s Q E hi st g=>by
  refine bN st.1 st.2 (x:=items[i]) (by simp[hi]) λh' k c=>?_;exact g _ h' s.toks (by simp[hi]) ⟨k,st.2.at λo e=>(c.2 l f).trans e⟩ c
 done:=λs Q E st j=>Bv hh st.1 st.2 (by simp) j
theorem Qq{b1 b2:Bool}{z TI TO f g l1 l2:Addr}{k1 k2:Nat}{xs ys:Array Value}{x y a b:Value}{Q:Option Value->Shared->Prop}(D:ZipApart z TI TO f g l1 l2)
  (k:IsZip s.heap z TI TO .none)(a3:IsPair s.heap TI (.ref f) (.ref g))(a0:IsPair s.heap TO a b)
  (b5:ItB b1 s.heap f l1 k1)(a2:ItB b2 s.heap g l2 k2)(a6:seqB b1 s.heap l1 xs)(a4:seqB b2 s.heap l2 ys)(W:xs[k1]?=some x)(a5:ys[k2]?=some y)
  (a9:∀h',IsZip h' z TI TO (rawInt s.heap.objs.size)->IsPair h' TO x y->ItB b1 h' f l1 (k1+1)->ItB b2 h' g l2 (k2+1)->IsPair h' s.heap.objs.size x y->h'.objs.size=s.heap.objs.size+1 ->
   (∀c o,c≠z->c≠TO->c≠f->c≠g->s.heap.get? c=some o->h'.get? c=some o)->Q (some (.ref s.heap.objs.size)) {s with heap:=h'}):
  wpAny (model prog w) A (pyNext (.ref z)) Q E s:=by
 have M:s.TypeIs (.ref z) "zip" := ⟨_,k,rfl⟩;unfold pyNext;refine zA (vP (wB (name:=Str.ofString "__next__") M rE (xW rE M F.entry_zip_next ?_ (F.args_zip_next_1 _))));show wpAny _ _ (field (.ref z) 2 >>= _) _ _ _;refine zA (xV k rfl (x:=.bool false) rfl ?_);show wpAny _ _ (field (.ref z) 3 >>= _) _ _ _;refine zA (xV k rfl (x:=.ref TI) rfl ?_);refine zA (wJ a3 rfl ?_);show wpAny _ _ (Builtin.SmallTypes.ownedTupleIsFree (.ref z) >>= _) _ _ _;refine zA ?_;unfold Builtin.SmallTypes.ownedTupleIsFree;refine zA (xV k rfl (x:=.none) rfl (zB ?_));simp only[if_true];refine zA (wU ?_);refine zA (xV k rfl (x:=.ref TO) rfl ?_);refine zA (vI k (by simp) λa1 I i=>?_);replace I:IsZip a1 z TI TO .ellipsis:=I;refine zA ?_;simp only[List.zipIdx_cons,List.zipIdx_nil,List.forIn_cons,List.forIn_nil];refine zA (zA (qI ?_));show wpAny _ _ (Builtin.SmallTypes.nextOf (.ref f) >>= _) _ _ _;refine zA (bN (b5.at λo e=>i.extBut _ _ D.i1z e) (a6.at λo e=>i.extBut _ _ D.l1z e) W λa8 V l=>zB ?_);have S:IsPair a8 TO a b:=l.extBut _ _ D.TOi1 (i.extBut _ _ D.TOz a0);refine zA (wJ S rfl ?_);refine zA (rL S λX G m=>?_);replace G:IsPair X TO x b:=G;refine zA (pH (zB ?_));refine zA (zA (qI ?_));show wpAny _ _ (Builtin.SmallTypes.nextOf (.ref g) >>= _) _ _ _;refine zA (bN (a2.at λo e=>m.extBut _ _ D.TOi2.symm (l.extBut _ _ D.i12.symm (i.extBut _ _ D.i2z e)))
  (a4.at λo e=>m.extBut _ _ D.l2TO (l.extBut _ _ D.l2i1 (i.extBut _ _ D.l2z e))) a5 λb0 Y q=>zB ?_)
 have N:IsPair b0 TO x b:=q.extBut _ _ D.TOi2 G;refine zA (wJ N rfl ?_);refine zA (rL N λd r n=>?_);replace r:IsPair d TO x y:=r;refine zA (pH (zB (zB ?_)));refine zA (wJ r rfl ?_);refine zA (pN ?_);have hsz:d.objs.size=s.heap.objs.size:=by rw[n.1,q.1,m.1,l.1,i.1]
 have P:IsZip d z TI TO .ellipsis:=n.extBut _ _ D.TOz.symm (q.extBut _ _ D.i2z.symm (m.extBut _ _ D.TOz.symm (l.extBut _ _ D.i1z.symm I)));have b4:∀c o,c≠z->c≠TO->c≠f->c≠g->s.heap.get? c=some o->d.get? c=some o:=λc o j t J K e =>
  n.extBut _ _ t (q.extBut _ _ K (m.extBut _ _ t (l.extBut _ _ J (i.extBut _ _ j e))))
 have Z:ItB b1 d f l1 (k1+1):=V.at λo e=>n.extBut _ _ D.TOi1.symm (q.extBut _ _ D.i12 (m.extBut _ _ D.TOi1.symm e));have b3:ItB b2 d g l2 (k2+1):=Y.at λo e=>n.extBut _ _ D.TOi2.symm e;have R:z<d.objs.size:=zL P;show wpAny _ _ (Builtin.SmallTypes.ownedTupleHandOut (.ref z) (.ref d.objs.size) >>= _) _ _ _;refine zA ?_;unfold Builtin.SmallTypes.ownedTupleHandOut;have U:IsZip (d.push {cls:=.type "tuple",data:=.seq #[x,y]}) z TI TO .ellipsis:=zC _ P;refine zA (vI U (by simp) λa7 v L=>?_);replace v:IsZip a7 z TI TO (rawInt d.objs.size):=v;refine vI v (by simp) λp u C=>?_;replace u:IsZip p z TI TO (rawInt d.objs.size):=u;have up:∀c o,c≠z->d.get? c=some o->p.get? c=some o:=λc o j e=>C.extBut _ _ j (L.extBut _ _ j (zC _ e));have T:IsPair p d.objs.size x y:=C.extBut _ _ (rJ R) (L.extBut _ _ (rJ R) (zS _ rfl));have O:p.objs.size=d.objs.size+1:=by rw[C.1,L.1,xR]
 rw[hsz]at u T O;refine zB ⟨_,rfl,zB ?_⟩;show Q (some (.ref d.objs.size)) _;rw[hsz];exact a9 p u (up _ _ D.TOz r) (Z.at λo e=>up _ o D.i1z e) (b3.at λo e=>up _ o D.i2z e) T O λc o j t J K e=>up c o j (b4 c o j t J K e)
theorem Qp{b1 b2:Bool}{z TI TO k m l1 l2:Addr}{k1 k2:Nat}{xs ys:Array Value}{a b:Value}{Q:Option Value->Shared->Prop}(hh:A.handled=none)(D:ZipApart z TI TO k m l1 l2)
  (j:IsZip s.heap z TI TO .none)(T:IsPair s.heap TI (.ref k) (.ref m))(P:IsPair s.heap TO a b)
  (N:ItB b1 s.heap k l1 k1)(S:ItB b2 s.heap m l2 k2)(I:seqB b1 s.heap l1 xs)(V:seqB b2 s.heap l2 ys)(a0:xs[k1]?=none\/ys[k2]?=none)
  (J:∀h',(∀c o,c≠z->c≠TO->c≠k->c≠m->s.heap.get? c=some o->h'.get? c=some o)->Q none {s with heap:=h'}):wpAny (model prog w) A (pyNext (.ref z)) Q E s:=by
 have y:s.TypeIs (.ref z) "zip" := ⟨_,j,rfl⟩;unfold pyNext;refine zA (vP (wB (name:=Str.ofString "__next__") y rE (xW rE y F.entry_zip_next (Q:=_) ?_ (F.args_zip_next_1 _))));show wpAny _ _ (field (.ref z) 2 >>= _) _ _ _;refine zA (xV j rfl (x:=.bool false) rfl ?_);show wpAny _ _ (field (.ref z) 3 >>= _) _ _ _;refine zA (xV j rfl (x:=.ref TI) rfl ?_);refine zA (wJ T rfl ?_);show wpAny _ _ (Builtin.SmallTypes.ownedTupleIsFree (.ref z) >>= _) _ _ _;refine zA ?_;unfold Builtin.SmallTypes.ownedTupleIsFree;refine zA (xV j rfl (x:=.none) rfl (zB ?_));simp only[if_true];refine zA (wU ?_);refine zA (xV j rfl (x:=.ref TO) rfl ?_);refine zA (vI j (by simp) λR p d=>?_);replace p:IsZip R z TI TO .ellipsis:=p;refine zA ?_;simp only[List.zipIdx_cons,List.zipIdx_nil,List.forIn_cons,List.forIn_nil];refine zA (zA (qI ?_));show wpAny _ _ (Builtin.SmallTypes.nextOf (.ref k) >>= _) _ _ _;cases hx:xs[k1]? with
 |none =>
  refine zA (Bv hh (N.at λo e=>d.extBut _ _ D.i1z e) (I.at λo e=>d.extBut _ _ D.l1z e) hx λt e f u=>?_);obtain⟨q,g,n⟩:=u;have K:IsZip t z TI TO .ellipsis:=f _ _ D.i1z.symm p;have r:e≠z:=λx=>by subst x;rw[K]at g;cases g;simp at n
  refine vI K (by simp) λG _ i=>?_;refine zA (vY (T:= "StopIteration") (b:=true) ⟨q,i.extBut _ _ r g,n⟩ pM ?_);exact zB (J G λc o l _ v _ x=>i.extBut _ _ l (f _ _ v (d.extBut _ _ l x)))
 | some x =>
  have X:ys[k2]?=none:=by rcases a0 with h|h;rw[hx]at h;cases h;exact h
  refine zA (bN (N.at λo e=>d.extBut _ _ D.i1z e) (I.at λo e=>d.extBut _ _ D.l1z e) hx λt a1 f=>zB ?_);have L:IsPair t TO a b:=f.extBut _ _ D.TOi1 (d.extBut _ _ D.TOz P);refine zA (wJ L rfl ?_);refine zA (rL L λG a2 i=>?_);refine zA (pH (zB ?_));refine zA (zA (qI ?_));show wpAny _ _ (Builtin.SmallTypes.nextOf (.ref m) >>= _) _ _ _;refine zA (Bv hh (S.at λo e=>i.extBut _ _ D.TOi2.symm (f.extBut _ _ D.i12.symm (d.extBut _ _ D.i2z e)))
   (V.at λo e=>i.extBut _ _ D.l2TO (f.extBut _ _ D.l2i1 (d.extBut _ _ D.l2z e))) X λY e O u=>?_)
  obtain⟨q,g,n⟩:=u;have M:IsZip Y z TI TO .ellipsis:=O _ _ D.i2z.symm (i.extBut _ _ D.TOz.symm (f.extBut _ _ D.i1z.symm p));have r:e≠z:=λx=>by subst x;rw[M]at g;cases g;simp at n
  refine vI M (by simp) λU _ C=>?_;refine zA (vY (T:= "StopIteration") (b:=true) ⟨q,C.extBut _ _ r g,n⟩ pM ?_);exact zB (J U λc o l W v Z x=>C.extBut _ _ l (O _ _ Z (i.extBut _ _ W (f.extBut _ _ v (d.extBut _ _ l x)))))
end
noncomputable abbrev zB1(b1:Bool)(h:Heap)(l1:Addr):Heap:=h.push {cls:=.type (nmB b1),data:=.fields #[.ref l1,.int 0 0]}
noncomputable abbrev zB2(b1 b2:Bool)(h:Heap)(l1 l2:Addr):Heap:=(zB1 b1 h l1).push {cls:=.type (nmB b2),data:=.fields #[.ref l2,.int 0 0]}
noncomputable abbrev zB3(b1 b2:Bool)(h:Heap)(l1 l2:Addr):Heap:=(zB2 b1 b2 h l1 l2).push {cls:=.type "tuple",data:=.seq #[.ref h.objs.size,.ref (zB1 b1 h l1).objs.size]}
noncomputable abbrev zB4(b1 b2:Bool)(h:Heap)(l1 l2:Addr):Heap:=(zB3 b1 b2 h l1 l2).push {cls:=.type "tuple",data:=.seq #[.none,.none]}
noncomputable abbrev zB5(b1 b2:Bool)(h:Heap)(l1 l2:Addr):Heap:=(zB4 b1 b2 h l1 l2).push {cls:=.type "zip",data:=.fields #[.none,.bool false,.bool false,.ref (zB2 b1 b2 h l1 l2).objs.size,.ref (zB3 b1 b2 h l1 l2).objs.size]}
theorem Qo(b1 b2:Bool)(l1 l2:Addr)(xs ys:Array Value):
  Meets (Builtin.«zip.__new__» ⟨[.type "zip",.ref l1,.ref l2],[]⟩) (λ_ R s=>seqB b1 s.heap l1 xs/\seqB b2 s.heap l2 ys /\
   R (.ok (.ret (.ref (zB4 b1 b2 s.heap l1 l2).objs.size))) {s with heap:=zB5 b1 b2 s.heap l1 l2}):=
 .of_wp λprog w A R s h=>by
  obtain⟨b,g,d,tk,a⟩:=s;obtain⟨c,j,h⟩:=h;have k:=sub_zip;have i:seqB b1 (Shared.heap ⟨b,g,d,tk,a⟩) l1 xs:=c;have f:seqB b2 (Shared.heap ⟨b.push {cls:=.type (nmB b1),data:=.fields #[.ref l1,.int 0 0]},g,d,tk,a⟩) l2 ys:=j.at λo e=>zC _ e
  wp_walk using Gi i,Gi f
  exact⟨_,rfl,h⟩
theorem Qn{prog:Program}{w:World}{A:Around}{E:VP}{s:Shared}{b1 b2:Bool}{l1 l2:Addr}{xs ys:Array Value}{Q:VP}(m:seqB b1 s.heap l1 xs)(q:seqB b2 s.heap l2 ys)
  (h:∀h',IsZip h' (s.heap.objs.size+4) (s.heap.objs.size+2) (s.heap.objs.size+3) .none->IsPair h' (s.heap.objs.size+2) (.ref s.heap.objs.size) (.ref (s.heap.objs.size+1)) ->
   IsPair h' (s.heap.objs.size+3) .none .none->ItB b1 h' s.heap.objs.size l1 0->ItB b2 h' (s.heap.objs.size+1) l2 0 ->
   (∀c o,s.heap.get? c=some o->h'.get? c=some o)->Q (.ref (s.heap.objs.size+4)) {s with heap:=h'}):
  wpAny (model prog w) A (call (.type "zip") [.ref l1,.ref l2]) Q E s:=by
 refine callType_new F.called_zip ∅ (F.typeCall_zip_2 _ _) (F.newCall_zip_2 _ _) (λn=>F.args_object_init_3 n _ _) F.entry_zip_new
  (Qo b1 b2 l1 l2 xs ys) ⟨m,q,?_⟩
 have d:(zB1 b1 s.heap l1).objs.size=s.heap.objs.size+1:=xR ..;have f:(zB2 b1 b2 s.heap l1 l2).objs.size=s.heap.objs.size+2:=by rw[xR,d]
 have b:(zB3 b1 b2 s.heap l1 l2).objs.size=s.heap.objs.size+3:=by rw[xR,f]
 have i:(zB4 b1 b2 s.heap l1 l2).objs.size=s.heap.objs.size+4:=by rw[xR,b]
 have a:(zB5 b1 b2 s.heap l1 l2).get? (zB4 b1 b2 s.heap l1 l2).objs.size=some _:=zS _ rfl;have l:(zB5 b1 b2 s.heap l1 l2).get? (zB3 b1 b2 s.heap l1 l2).objs.size=some _:=zC _ (zS _ rfl);have j:(zB5 b1 b2 s.heap l1 l2).get? (zB2 b1 b2 s.heap l1 l2).objs.size=some _:=zC _ (zC _ (zS _ rfl));have g:∀c o,(zB2 b1 b2 s.heap l1 l2).get? c=some o->(zB5 b1 b2 s.heap l1 l2).get? c=some o:=λc o e=>zC _ (zC _ (zC _ e));have k:ItB b2 (zB5 b1 b2 s.heap l1 l2) (zB1 b1 s.heap l1).objs.size l2 0:=Gh.at λo e=>g _ o e;have p:ItB b1 (zB5 b1 b2 s.heap l1 l2) s.heap.objs.size l1 0:=Gh.at λo e=>g _ o (zC _ e);show _/\_;rw[f,b,i]at a;rw[d,f]at j;rw[b]at l;rw[d]at k;rw[i];exact⟨⟨_,a,rfl⟩,h _ a j l p k λc o x=>g c o (zC _ (zC _ x))⟩
section
variable {X:Cx} {pins:PN} {σ:St} {H:Hp} {s:Shared} {h':Heap}
theorem Inv.seqB{b:Bool}{a:Addr}{xs:List V}(I:Inv X pins σ H s)(h:SqB b X.K H a xs):∃its:LW,Vals xs its/\L2.seqB b s.heap a its.toArray:=by
 cases b
 ·obtain⟨its,c,p,_⟩:=I.list h;exact⟨its,c,p.isList⟩
 ·obtain⟨its,c,p,_⟩:=I.tuple h;exact⟨its,c,p⟩
theorem Inv.seqB_inj{b:Bool}{a:Addr}{xs ys:List V}(I:Inv X pins σ H s)(h:SqB b X.K H a xs)(c:SqB b X.K H a ys):xs=ys:=by
 cases b
 ·exact I.list_inj h c
 ·exact I.tuple_inj h c
theorem Inv.seq_ne{b:Bool}{a f:Addr}{xs:List V}(I:Inv X pins σ H s)(h:SqB b X.K H a xs)(d:FpOk X pins H f):a≠f:=by
 have g:∀u,Rd H a u->a≠f:=λu r z=>by
  subst z;rcases r with r|⟨o,r⟩ <;> (rw[d.1]at r;cases r)
 have i:∀o,X.K.lookup a=some o->a≠f:=λo e z=>by
  subst z;have q:=I.mod.kin a o e;rcases d.2.2.2.1 with w|w
  ·exact I.ok.noex _ _ q w
  ·exact absurd (zJ (zL q) (yG I.ok.bsz w)) (xC _)
 cases b
 ·rcases h with h|⟨o,its,n,c,_⟩
  ·exact g _ h
  ·exact i _ c
 ·rcases h with h|⟨o,its,n,c,_⟩
  ·exact g _ h
  ·exact i _ c
theorem Inv.turnedNew{d:LA}{n:Addr}{u:HO}{t':Nat}(I:Inv X pins σ H s)(i:∀b∈d,FpOk X pins H b)(k:∀b o,b∉d->s.heap.get? b=some o->h'.get? b=some o)(l:s.heap.objs.size<=n)
  (new:nO X.prog X.w (upd H n u) h' n u):Inv X pins σ (upd H n u) {s with heap:=h',toks:=t'}:=by
 have f:=I.hok.fresh l;have j:∀b v,H b=some v->b∉d:=λb v e z=>by rw[(i b z).1]at e;cases e
 have C:X.env.locals∉d:=λz=>(i _ z).2.1 rfl;refine I.step (g':=s.gens) (d':=s.drawn) (ch:=d) (λb g=>?_) (λb o _ _ a e _=>k b o a e) (λb o _ _ a e _=>⟨o.slots,k b o a e⟩) (λb o _ e z=>?_)
  (λb o a e=>⟨o,k b o a e⟩) (λb xs e=>?_) (λb o v e=>?_) (λb ps e=>⟨#[],?_⟩) (λm t=>?_) (λb v e=>?_) I.bare
 ·obtain⟨J,w,G,D,y,p⟩:=i b g;exact⟨D,w,y,p⟩
 ·rw[oT (zY (zJ (zL e) l))];exact z
 ·rw[oT (nY e f)];exact e
 ·rw[oT (nY e f)];exact e
 ·rw[oT (nY e f),e];simp
 ·obtain⟨o,es,ep,F,r⟩:=t;exact⟨o,es,ep,k _ o C F,r⟩
 ·by_cases g:b=n
  ·subst g;rw[oP]at e;cases e;exact new
  ·rw[oT g]at e;refine(I.hok b v e).stay (λc x a q=>k c x ?_ q) (λc q=>by rw[oT (nY q f)];exact q) λc xs q=>by rw[oT (nY q f)];exact q
   rcases a with z|z
   ·rw[z];exact j b v e
   ·exact j c _ z
theorem Inv.turnedL{d:LA}{t':Nat}(I:Inv X pins σ H s)(f:∀b∈d,FpOk X pins H b)(k:∀b o,b∉d->s.heap.get? b=some o->h'.get? b=some o):Inv X pins σ H {s with heap:=h',toks:=t'}:=by
 have g:∀b v,H b=some v->b∉d:=λb v e z=>by rw[(f b z).1]at e;cases e
 have t:X.env.locals∉d:=λz=>(f _ z).2.1 rfl;refine I.step (g':=s.gens) (d':=s.drawn) (ch:=d) (λb j=>?_) (λb o _ _ a e _=>k b o a e) (λb o _ _ a e _=>⟨o.slots,k b o a e⟩) (λb o _ e z=>z)
  (λb o a e=>⟨o,k b o a e⟩) (λb xs e=>e) (λb o v e=>e) (λb ps e=>⟨#[],by rw[e];simp⟩) (λm i=>?_) (λb v e=>?_) I.bare
 ·obtain⟨C,n,y,u,p,l⟩:=f b j;exact⟨u,n,p,l⟩
 ·obtain⟨o,es,ep,w,r⟩:=i;exact⟨o,es,ep,k _ o t w,r⟩
 ·refine(I.hok b v e).stay (λc x a q=>k c x ?_ q) (λc q=>q) λc xs q=>q;rcases a with z|z
  ·rw[z];exact g b v e
  ·exact g c _ z
end
noncomputable def Itz(K:Frag)(b1:Bool)(l1:Addr)(b2:Bool)(l2:Addr):It:=
  ⟨λi H=>∃xs ys x y,SqB b1 K H l1 xs/\SqB b2 K H l2 ys/\xs[i]?=some x/\ys[i]?=some y,
   λi H v H'=>∃p x y,v=.ref p/\H p=none/\H'=upd H p (.tup [x,y])/\(∀xs,SqB b1 K H l1 xs->xs[i]?=some x)/\∀ys,SqB b2 K H l2 ys->ys[i]?=some y,
   λi H=>∃xs ys,SqB b1 K H l1 xs/\SqB b2 K H l2 ys/\(xs[i]?=none\/ys[i]?=none)⟩
theorem Gf{xs:List V}{its:LW}{i:Nat}(r:Vals xs its):xs[i]?=none->its.toArray[i]?=none:=λh=>by
 have:=r.none_of h;simpa using this
theorem Qm{P:Program}{w:World}{K:Frag}{es:List Expr}{k:Nat}{c8:Pos}{b1 b2:Bool}{z TI TO d g l1 l2:Addr}(R:[z,TI,TO,d,g].Nodup):
  Turn P w K (.Tuple es k c8) (Itz K b1 l1 b2 l2) [z,TI,TO,d,g] z (λi h=>IsZip h z TI TO .none/\IsPair h TI (.ref d) (.ref g)/\(∃a b,IsPair h TO a b)/\ItB b1 h d l1 i/\ItB b2 h g l2 i) where
 mem:=by simp
 obj:=λi h⟨t,l,⟨a,b,r⟩,C,u⟩c O=>by
  simp only[List.mem_cons,List.not_mem_nil,or_false]at O;rcases O with e|e|e|e|e <;> subst e
  ·exact⟨_,t,λv q=>by have N:Data.fields _=Data.cell v:=q;cases N⟩
  ·exact⟨_,l,λv q=>by have N:Data.seq _ _=Data.cell v:=q;cases N⟩
  ·exact⟨_,r,λv q=>by have N:Data.seq _ _=Data.cell v:=q;cases N⟩
  ·exact C.lt
  ·exact u.lt
 keep:=λi h h'⟨t,l,⟨a,b,r⟩,C,u⟩M=>⟨M z (by simp) _ t,M TI (by simp) _ l,⟨a,b,M TO (by simp) _ r⟩,C.at λo e=>M d (by simp) o e,u.at λo e=>M g (by simp) o e⟩
 item:=by
  intro X U V a9 O i c0 s b7 H E I p st a8;subst U V a9;obtain⟨t,l,⟨a,b,r⟩,C,u⟩:=st;obtain⟨xs,ys,x,y,J,L,e1,c1⟩:=a8;obtain⟨c6,r1,Z⟩:=I.seqB J;obtain⟨d5,r2,b0⟩:=I.seqB L;obtain⟨c2,c3,c5⟩:=r1.get e1;obtain⟨b8,c9,d1⟩:=r2.get c1;have j:∀f∈[z,TI,TO,d,g],l1≠f:=λf F=>I.seq_ne J (p f F);have n:∀f∈[z,TI,TO,d,g],l2≠f:=λf F=>I.seq_ne L (p f F);simp only[List.nodup_cons,List.mem_cons,List.not_mem_nil,or_false,not_or,List.nodup_nil,and_true,not_false_eq_true]at R;obtain⟨⟨Y,a4,b4,b3⟩,⟨a3,a7,a5⟩,⟨a0,a2⟩,W⟩:=R;have D:ZipApart z TI TO d g l1 l2:=⟨yA Y,yA a4,yA b4,yA b3,a3,a7,a5,a0,a2,W,j z (by simp),j TO (by simp),j d (by simp),j g (by simp),n z (by simp),n TO (by simp),n d (by simp),n g (by simp)⟩;refine Qq D t l r C u Z b0 (x:=c2) (y:=b8) (by simpa using c3) (by simpa using c9) λh' d7 d4 d0 c4 d3 e2 T=>⟨_,rfl,?_⟩;refine wpAny_letOwnedTupleGo_zip d7 λa1 c7 G=>?_;have up:∀c o,c∉[z,TI,TO,d,g]->s.heap.get? c=some o->a1.get? c=some o:=λc o m e=>by
   simp only[List.mem_cons,List.not_mem_nil,or_false,not_or]at m;obtain⟨S,d6,b5,b6,a6⟩:=m;exact G.extBut _ _ S (T c o S b5 b6 a6 e)
  have b9:s.heap.objs.size≠z:=rJ (zL t);have new:nO X.prog X.w (upd H s.heap.objs.size (.tup [x,y])) a1 s.heap.objs.size (.tup [x,y]):=
   ⟨by show 2<=sizeLine;decide,[c2,b8],.cons c5 (.cons d1 .nil),⟨_,G.extBut _ _ b9 d3,rfl,_,rfl⟩⟩
  have d2:Inv X c0 b7 (upd H s.heap.objs.size (.tup [x,y])) {s with heap:=a1}:=I.turnedNew (t':=s.toks) p up (zE _) new;refine⟨.ref s.heap.objs.size,_,d2,rfl,⟨_,x,y,rfl,I.fresh,rfl,λd9 q=>by rw[I.seqB_inj q J];exact e1,λe0 q=>by rw[I.seqB_inj q L];exact c1⟩,⟨c7,G.extBut _ _ D.TIz (T _ _ D.TIz D.TITO D.TIi1 D.TIi2 l),⟨_,_,G.extBut _ _ D.TOz d4⟩,d0.at λo e=>G.extBut _ _ D.i1z e,c4.at λo e=>G.extBut _ _ D.i2z e⟩,λc m=>?_⟩;have d8:=(p c m).1;rw[oT]
  ·exact d8
  ·intro e;subst e;simp only[List.mem_cons,List.not_mem_nil,or_false]at m;rcases m with e|e|e|e|e
   ·exact b9 e
   ·exact absurd (zL l) (by rw[←e];exact xC _)
   ·exact absurd (zL r) (by rw[←e];exact xC _)
   ·obtain⟨o,q,_⟩:=C.lt;exact absurd (zL q) (by rw[←e];exact xC _)
   ·obtain⟨o,q,_⟩:=u.lt;exact absurd (zL q) (by rw[←e];exact xC _)
 done:=by
  intro X U V a9 O i c0 s b7 H E I p st a8;subst U V a9;obtain⟨t,l,⟨a,b,r⟩,C,u⟩:=st;obtain⟨xs,ys,J,L,e1⟩:=a8;obtain⟨c6,r1,Z⟩:=I.seqB J;obtain⟨d5,r2,b0⟩:=I.seqB L;have j:∀f∈[z,TI,TO,d,g],l1≠f:=λf F=>I.seq_ne J (p f F);have n:∀f∈[z,TI,TO,d,g],l2≠f:=λf F=>I.seq_ne L (p f F);simp only[List.nodup_cons,List.mem_cons,List.not_mem_nil,or_false,not_or,List.nodup_nil,and_true,not_false_eq_true]at R;obtain⟨⟨Y,a4,b4,b3⟩,⟨a3,a7,a5⟩,⟨a0,a2⟩,W⟩:=R;have D:ZipApart z TI TO d g l1 l2:=⟨yA Y,yA a4,yA b4,yA b3,a3,a7,a5,a0,a2,W,j z (by simp),j TO (by simp),j d (by simp),j g (by simp),n z (by simp),n TO (by simp),n d (by simp),n g (by simp)⟩;refine Qp (I.ok.hd O) D t l r C u Z b0 (e1.imp (Gf r1) (Gf r2)) λh' T=>⟨rfl,I.turnedL (t':=s.toks) p λc o m e=>?_⟩;simp only[List.mem_cons,List.not_mem_nil,or_false,not_or]at m;obtain⟨S,d6,b5,b6,a6⟩:=m;exact T c o S b5 b6 a6 e
 self:=λ_ _ _ _ _ st h=>wpAny_pyIter_zip st.1 h
section
variable {X:Cx}
def iZip(K:Frag)(ta:TA):TI:=λσ H R=>ta σ H λvs H1=>∃b1 b2 l1 l2,vs=[.ref l1,.ref l2]/\(∃xs,SqB b1 K H1 l1 xs)/\(∃ys,SqB b2 K H1 l2 ys)/\R (Itz K b1 l1 b2 l2) H1
theorem Ge{a b:Expr}{o:TA}{es:List Expr}{k:Nat}{T p m:Pos}(F:Gl X "zip")(O:X.mg "zip"=none)(x:PA X [a,b] o)(P:bootBuiltins "zip"=some (.type "zip"):=by decide +kernel)
  (G:starEach [a,b] X.env=[(false,eval a X.env),(false,eval b X.env)]:=by rfl)(t:starEach [b] X.env=[(false,eval b X.env)]:=by rfl):
  PI X (.Tuple es k T) (.Call (.Name "zip" p) [a,b] [] m) (iZip X.K o):=by
 intro K s w H R I h;refine Call_ (iD I F O P (xP (thn (x m K s w H _ I h) ?_) (by rw[G,t]) (by rw[t];rfl)));rintro us d ⟨vs,y,f,r1,i⟩;obtain⟨b1,b2,l1,l2,e,⟨xs,i⟩,⟨ys,S⟩,q⟩:=i;subst e;cases r1 with
 | cons r g =>
  cases g with
  | cons D g =>
   cases g;cases r;cases D;obtain⟨U,W,z⟩:=f.seqB i;obtain⟨V,v2,J⟩:=f.seqB S;refine Qn z J λh' u M C v L N=>?_;refine wpAny_pyIter_zip u ?_;have lt:∀j,j<=4->d.heap.objs.size<=d.heap.objs.size+j:=λj _=>qX _ _;refine⟨d.heap.objs.size+4,[d.heap.objs.size+4,d.heap.objs.size+2,d.heap.objs.size+3,d.heap.objs.size,d.heap.objs.size+1],_,_,y,rfl,f.kept (t':=d.toks) N,Qm (b1:=b1) (b2:=b2) (l1:=l1) (l2:=l2) ?_,⟨u,M,⟨_,_,C⟩,v,L⟩,λc n=>?_,q⟩
   ·simp
   ·have l:d.heap.objs.size<=c:=by
     simp only[List.mem_cons,List.not_mem_nil,or_false]at n;rcases n with e|e|e|e|e <;> subst e <;> first|exact zE _|exact qX _ _
    exact f.fpOk l (f.hok.fresh l)
end
open AutoSeq1 (wpAny_loadPart')
set_option maxRecDepth 100000 in
theorem Ql(l:Addr)(items:Array Value)(n:Nat)(f:Option Addr)(b:Array (Option Value)):
  Meets (Builtin.«enumerate.__new__» ⟨[.type "enumerate",.ref l],[]⟩) (λ_ R s=>s.heap.get? l=some {cls:=.type "tuple",dict:=f,data:=.seq items n,slots:=b} /\
   R (.ok (.ret (.ref (s.heap.push {cls:=.type "tuple_iterator",data:=.fields #[.ref l,.int 0 0]}).objs.size)))
    {s with heap:=(s.heap.push {cls:=.type "tuple_iterator",data:=.fields #[.ref l,.int 0 0]}).push {cls:=.type "enumerate",data:=.fields #[.none,.bool false,.ref s.heap.objs.size,rawInt 0,.none,.none]}}):=
 .of_wp λprog w A R s h=>by
  obtain⟨i,g,d,tk,e⟩:=s;obtain⟨hl,h⟩:=h;have j:=sub_enumerate;have a:Heap.IsTuple (Shared.heap ⟨i,g,d,tk,e⟩) l items:=⟨_,hl,rfl,n,rfl⟩
  wp_walk using uK hl
  refine wpAny_stack_any λst=>zB ?_;split
  ·rename_i c _ _ _ _ _;cases(c == Value.type "enumerate")
   ·wp_walk using uK hl,uI a
    exact⟨_,rfl,h⟩
   ·wp_walk using uK hl,uI a
    exact⟨_,rfl,h⟩
  ·wp_walk using uK hl,uI a
   exact⟨_,rfl,h⟩
theorem Qk{prog:Program}{w:World}{A:Around}{E:VP}{s:Shared}{b:Bool}{l:Addr}{items:Array Value}{Q:VP}(e:seqB b s.heap l items)
  (h:∀h',IsEnum h' (s.heap.objs.size+1) s.heap.objs.size 0 .none->ItB b h' s.heap.objs.size l 0 ->
   (∀b o,s.heap.get? b=some o->h'.get? b=some o)->Q (.ref (s.heap.objs.size+1)) {s with heap:=h'}):
  wpAny (model prog w) A (call (.type "enumerate") [.ref l]) Q E s:=by
 cases b
 ·exact call_enumerate_list e λh' k j r i=>h h' k j i
 ·obtain⟨⟨c,q,dt,m⟩,hl,a,n,d⟩:=e;replace a:c=.type "tuple" := a;replace d:dt=.seq items n:=d;subst a d;refine callType_new F.called_enumerate ∅ (F.typeCall_enumerate_1 _) (F.newCall_enumerate_1 _) (λp=>F.args_object_init_2 p _) F.entry_enumerate_new
   (Ql l items n q m) ⟨hl,?_⟩
  have g:(s.heap.push {cls:=.type "tuple_iterator",data:=.fields #[.ref l,.int 0 0]}).objs.size=s.heap.objs.size+1:=xR ..;show _/\_;rw[g];have f:IsEnum ((s.heap.push {cls:=.type "tuple_iterator",data:=.fields #[.ref l,.int 0 0]}).push
    {cls:=.type "enumerate",data:=.fields #[.none,.bool false,.ref s.heap.objs.size,rawInt 0,.none,.none]}) (s.heap.objs.size+1) s.heap.objs.size 0 .none:=by
   have:=zS (s.heap.push {cls:=.type "tuple_iterator",data:=.fields #[.ref l,.int 0 0]})
    (o:={cls:=.type "enumerate",data:=.fields #[.none,.bool false,.ref s.heap.objs.size,rawInt 0,.none,.none]}) rfl
   rw[g]at this;exact this
  refine⟨⟨_,f,rfl⟩,h _ f ⟨_,zC _ (zS _ rfl),rfl,rfl⟩ λb o x=>zC _ (zC _ x)⟩
noncomputable def Ite(K:Frag)(b:Bool)(l:Addr):It:=
  ⟨λi H=>∃xs x,SqB b K H l xs/\xs[i]?=some x,
   λi H v H'=>∃p x,v=.ref p/\H p=none/\H'=upd H p (.tup [.int i,x])/\∀xs,SqB b K H l xs->xs[i]?=some x,
   λi H=>∃xs,SqB b K H l xs/\xs.length=i⟩
theorem Qj{P:Program}{w:World}{K:Frag}{es:List Expr}{k:Nat}{a1:Pos}{b:Bool}{e a l:Addr}(L:e≠a):
  Turn P w K (.Tuple es k a1) (Ite K b l) [e,a] e (λi h=>(∃t,IsEnum h e a i t)/\ItB b h a l i) where
 mem:=by simp
 obj:=λi h⟨⟨t,g⟩,j⟩c r=>by
  simp only[List.mem_cons,List.not_mem_nil,or_false]at r;rcases r with e|e <;> subst e
  ·exact⟨_,g,λv q=>by have a2:Data.fields _=Data.cell v:=q;cases a2⟩
  ·exact j.lt
 keep:=λi h h'⟨⟨t,g⟩,j⟩S=>⟨⟨t,S e (by simp) _ g⟩,j.at λo q=>S a (by simp) o q⟩
 item:=by
  intro X m D N r i V s T H E I n st M;subst m D N;obtain⟨⟨t,g⟩,j⟩:=st;obtain⟨xs,x,y,e1⟩:=M;obtain⟨p,r1,F⟩:=I.seqB y;obtain⟨W,R,Z⟩:=r1.get e1;have C:∀f∈[e,a],l≠f:=λf O=>I.seq_ne y (n f O);have a3:i<p.toArray.size:=by
   have:=(oH.mp R).1;simpa using this
  refine wpAny_pyNext_enum_itemD (Gg b (show X.A.in1.handled=none from I.ok.hd r) a l (C a (by simp)) p.toArray) g ⟨j,F⟩ a3 L (λq=>?_) λu h' tk m b0 a8 a5 b3 a7=>⟨_,rfl,?_⟩
  ·simp only[List.mem_cons,List.not_mem_nil,or_false]at q;rcases q with q|q
   ·exact L q
   ·exact C e (by simp) q.symm
  have a9:u=W:=by
   have:p.toArray[i]?=some W:=by simpa using R
   rw[this]at m;exact(zW m).symm
  subst a9;refine wpAny_letOwnedTupleGo_enum b0 λJ a0 G=>?_;have U:s.heap.objs.size≠e:=rJ (zL g);have up:∀c o,c∉[e,a]->s.heap.get? c=some o->J.get? c=some o:=λc o d q=>by
   simp only[List.mem_cons,List.not_mem_nil,or_false,not_or]at d;exact G.extBut _ _ d.1 (a7 c o d.1 d.2 q)
  have new:nO X.prog X.w (upd H s.heap.objs.size (.tup [.int i,x])) J s.heap.objs.size (.tup [.int i,x]):=
   ⟨by show 2<=sizeLine;decide,[.int i tk,u],.cons ⟨tk,rfl⟩ (.cons Z .nil),⟨_,G.extBut _ _ U a5,rfl,_,rfl⟩⟩
  have a6:Inv X V T (upd H s.heap.objs.size (.tup [.int i,x])) {s with heap:=J,toks:=tk+1}:=I.turnedNew (t':=tk+1) n up (zE _) new;refine⟨.ref s.heap.objs.size,_,a6,rfl,⟨_,x,rfl,I.fresh,rfl,λb2 q=>by rw[I.seqB_inj q y];exact e1⟩,⟨⟨u,by simpa using a0⟩,a8.1.at λo q=>G.extBut _ _ (yA L) q⟩,λc d=>?_⟩;have b1:=(n c d).1;rw[oT]
  ·exact b1
  ·intro z;subst z;simp only[List.mem_cons,List.not_mem_nil,or_false]at d;rcases d with z|z
   ·exact U z
   ·obtain⟨o,q,_⟩:=j.lt;exact absurd (zL q) (by rw[←z];exact xC _)
 done:=by
  intro X m D N r i V s T H E I n st M;subst m D N;obtain⟨⟨t,g⟩,j⟩:=st;obtain⟨xs,y,e1⟩:=M;obtain⟨p,r1,F⟩:=I.seqB y;have C:∀f∈[e,a],l≠f:=λf O=>I.seq_ne y (n f O);have a4:p.toArray.size=i:=by rw[zT,←r1.length,e1]
  refine wpAny_pyNext_enum_endD (Gg b (show X.A.in1.handled=none from I.ok.hd r) a l (C a (by simp)) p.toArray) g ⟨by rw[a4];exact j,F⟩ λh' Y=>⟨rfl,I.turnedL (t':=s.toks) n λc o d q=>?_⟩;simp only[List.mem_cons,List.not_mem_nil,or_false,not_or]at d;exact Y c o d.2 q
 self:=λ_ _ _ _ _ st h=>let ⟨⟨_,q⟩,_⟩:=st;wpAny_pyIter_enum q h
section
variable {X:Cx}
def dU(K:Frag)(ta:TA):TI:=λσ H R=>ta σ H λvs H1=>∃b l,vs=[.ref l]/\(∃xs,SqB b K H1 l xs)/\R (Ite K b l) H1
theorem bO{a:Expr}{n:TA}{es:List Expr}{k:Nat}{K p j:Pos}(y:Gl X "enumerate")(G:X.mg "enumerate"=none)(t:PA X [a] n)(J:bootBuiltins "enumerate"=some (.type "enumerate"):=by decide +kernel)
  (z:starEach [a] X.env=[(false,eval a X.env)]:=by rfl):
  PI X (.Tuple es k K) (.Call (.Name "enumerate" p) [a] [] j) (dU X.K n):=by
 intro C s u H R I h;refine Call_ (iD I y G J (xP (thn (t j C s u H _ I h) ?_) z rfl));rintro us d ⟨vs,v,f,r1,g⟩;obtain⟨b,l,e,⟨xs,g⟩,q⟩:=g;subst e;cases r1 with
 | cons r x =>
  cases x;cases r;obtain⟨L,M,w⟩:=f.seqB g;refine Qk w λh' o D F=>?_;refine wpAny_pyIter_enum o ?_;refine⟨d.heap.objs.size+1,[d.heap.objs.size+1,d.heap.objs.size],_,_,v,rfl,f.kept (t':=d.toks) F,Qj (b:=b) (l:=l) (by simp),⟨⟨_,o⟩,D⟩,λc m=>?_,q⟩;have i:d.heap.objs.size<=c:=by
   simp only[List.mem_cons,List.not_mem_nil,or_false]at m;rcases m with e|e <;> subst e <;> first|exact zE _|exact qX _ _
  exact f.fpOk i (f.hok.fresh i)
theorem Gc:∀{ns:LI'}{its:LW},Vals (ns.map V.int) its->∃xs:List (Int×Tok),its=xs.map (λp=>Value.int p.1 p.2)/\xs.map (·.1)=ns
 |[],_,.nil=>⟨[],rfl,rfl⟩
 |n:: r,_,.cons ⟨b,h⟩ q=>by
  obtain⟨xs,e1,a⟩:=Gc (ns:=r) q;exact⟨(n,b):: xs,by rw[h,e1];rfl,by rw[zK,a]⟩
theorem bP(c:X.calm=true):lK X (.builtin "sum") (λxs H Q=>∃(p:Addr)(ns:LI'),xs=[.ref p]/\SqL X.K H p (ns.map V.int)/\Q (.int ns.sum) H):=by
 intro j s i H xs us Q I r h;obtain⟨p,ns,rfl,a,q⟩:=h;obtain⟨u,rfl,e⟩:=jE r;cases e;obtain⟨its,d,pl,g⟩:=I.list a;obtain⟨ps,e1,b⟩:=Gc d;have hl:s.heap.IsList p (intItems ps.toArray):=by
  have:=pl.isList;rw[e1]at this;simpa [intItems]using this
 refine sum_intListG (I.ok.hd c) hl λh' tk t' f=>⟨.int ns.sum,H,I.kept (t':=tk) f,⟨t',?_⟩,q⟩;rw[preSum_eq,yT (by simp)];simp[b]
end
theorem SqB.or{b:Bool}{K:Frag}{H:Hp}{a:Addr}{xs:List V}(h:SqB b K H a xs):SqL K H a xs\/SqT K H a xs:=by
 cases b
 ·exact .inl h
 ·exact .inr h
theorem SqB.up{b:Bool}{K:Frag}{H H':Hp}{a:Addr}{xs:List V}(h:SqB b K H a xs)(s:Same H H'):SqB b K H' a xs:=by
 cases b
 ·exact s.seq h
 ·exact s.tup h
theorem SqB.lst{K:Frag}{H:Hp}{a:Addr}{xs:List V}(h:H a=some (.lst xs)):SqB false K H a xs:=SqL.of h
theorem SqB.tup{K:Frag}{H:Hp}{a:Addr}{xs:List V}(h:H a=some (.tup xs)):SqB true K H a xs:=SqT.of h
noncomputable def Its(K:Frag)(b:Bool)(a:Addr):It:=match b with|false=>Itl K a|true=>Itt K a
theorem Its.go{K:Frag}{b:Bool}{a:Addr}{xs:List V}{x:V}{i:Nat}{H:Hp}(h:SqB b K H a xs)(e:xs[i]?=some x):(Its K b a).go i H:=by
 cases b
 ·exact⟨xs,x,h,e⟩
 ·exact⟨xs,x,h,e⟩
theorem Its.stop{K:Frag}{b:Bool}{a:Addr}{xs:List V}{i:Nat}{H:Hp}(h:SqB b K H a xs)(e:xs.length<=i):(Its K b a).stop i H:=by
 cases b
 ·exact⟨xs,h,e⟩
 ·exact⟨xs,h,e⟩
theorem Its.yld{K:Frag}{b:Bool}{a:Addr}{xs:List V}{i:Nat}{H H':Hp}{x:V}(h:SqB b K H a xs)(y:(Its K b a).yld i H x H'):H'=H/\xs[i]?=some x:=by
 cases b
 ·exact⟨y.1,y.2 xs h⟩
 ·exact⟨y.1,y.2 xs h⟩
section
variable {X:Cx}
def iSeq(K:Frag)(tl:TE):TI:=λσ H R=>tl σ H λx H1=>∃b a,x=.ref a/\(∃xs,SqB b K H1 a xs)/\R (Its K b a) H1
theorem nV{u l:Expr}{i:TE}(hl:PE X l i):PI X u l (iSeq X.K i):=by
 intro t s r H R I h;refine thn (hl t s r H _ I h) ?_;rintro v c ⟨x,j,d,r1,k⟩;obtain⟨b,a,e,⟨xs,g⟩,q⟩:=k;subst e;cases r1;cases b
 ·obtain⟨its,m,p,n⟩:=d.list g;refine sJ p.isList ?_;refine⟨c.heap.objs.size,[c.heap.objs.size],_,_,j,rfl,d.kept (t':=c.toks) λb o e=>zC _ e,Nv a _,⟨_,zS _ rfl,rfl,rfl⟩,λb f=>?_,q⟩;have e:b=c.heap.objs.size:=by simpa using f
  subst e;exact d.fpOk (zE _) (d.hok.fresh (zE _))
 ·obtain⟨its,m,p,n⟩:=d.tuple g;refine uI (show c.heap.IsTuple a its.toArray from p) ?_;refine⟨c.heap.objs.size,[c.heap.objs.size],_,_,j,rfl,d.kept (t':=c.toks) λb o e=>zC _ e,Nu a _,⟨_,zS _ rfl,rfl,rfl⟩,λb f=>?_,q⟩;have e:b=c.heap.objs.size:=by simpa using f
  subst e;exact d.fpOk (zE _) (d.hok.fresh (zE _))
def rIxB(K:Frag):R2:=λx y H Q=>E5 λ(b:Bool)(p:Addr)(xs:List V)(i:Int)(v:V)=>A5 (x=.ref p) (y=.int i) (SqB b K H p xs) (atI xs i=some v) (Q v H)
theorem ix_B:IxR X (rIxB X.K):=by
 intro k f l s g H x y v u Q I e m h;obtain⟨b,p,xs,i,c,e1,d,a,j,q⟩:=h;cases b
 ·exact Oh k f l s g H x y v u Q I e m ⟨p,xs,i,c,e1,d,a,j,q⟩
 ·exact Og k f l s g H x y v u Q I e m ⟨p,xs,i,c,e1,d,a,j,q⟩
def dW(K:Frag):List V->Hp->VK->Prop:=λxs H Q=>E3 λ(b:Bool)(p:Addr)(ys:List V)=>A3 (xs=[.ref p]) (SqB b K H p ys) (Q (.int ys.length) H)
theorem Qi:lK X (.builtin "len") (dW X.K):=by
 intro d s c H xs us Q I r h;obtain⟨b,p,ys,e,a,q⟩:=h;exact Oa d s c H xs us Q I r ⟨p,ys,e,a.or,q⟩
def gT(K:Frag):List V->Hp->VK->Prop:=λxs H Q=>∃b p ys,xs=[.ref p]/\SqB b K H p ys/\∀l,H l=none->Q (.ref l) (upd H l (.lst ys))
theorem kR:lK X (.type "list") (gT X.K):=by
 intro d s c H xs us Q I r h;obtain⟨b,p,ys,e,a,q⟩:=h;exact Pz d s c H xs us Q I r ⟨p,ys,e,a.or,q⟩
def fW(K:Frag):List V->Hp->VK->Prop:=λxs H Q=>∃p ys,xs=[.ref p]/\((SqL K H p ys/\∀l,H l=none->Q (.ref l) (upd H l (.tup ys)))\/(SqT K H p ys/\Q (.ref p) H))
theorem jJ:lK X (.type "tuple") (fW X.K):=Py
end
theorem Qh{K:Frag}{b:Bool}{a:Addr}{xs:List V}{g:TG}{tb:TS}{D:Ends}{c:St}{H:Hp}(d:Nat->St->Hp->Prop)(l:d 0 c H)(hl:∀i c H,i<=xs.length->d i c H->SqB b K H a xs)
  (n:∀i x c H,xs[i]?=some x->d i c H->g x c H λe f=>tb {D with nx:=d (i+1),ct:=d (i+1),bk:=D.nx} e f)(k:∀c H,d xs.length c H->D.nx c H):
  ∃W:Nat->Nat->St->Hp->Prop,(∃m,W 0 m c H)/\∀i m c H,W i m c H ->
   ((Its K b a).stop i H/\D.nx c H)\/((Its K b a).go i H/\∃N:St->Hp->Prop,(∀o H',N o H'->∃j,j<m/\W (i+1) j o H')/\∀x H',(Its K b a).yld i H x H'->g x c H' λe f=>tb {D with nx:=N,ct:=N,bk:=D.nx} e f):=by
 cases b
 ·exact Np d l hl n k
 ·exact No d l hl n k
theorem Qg{K:Frag}{b:Bool}{a:Addr}{xs:List V}{g:TG}{tb:TS}{D:Ends}{c:St}{H:Hp}(d:Nat->St->Hp->Prop)(v:d 0 c H)(hl:∀i c H,i<=xs.length->d i c H->SqB b K H a xs)
  (w:∀i x p c H,xs[i]?=some x->d i c H->H p=none->g (.ref p) c (upd H p (.tup [.int i,x])) λj f=>tb {D with nx:=d (i+1),ct:=d (i+1),bk:=D.nx} j f)(u:∀c H,d xs.length c H->D.nx c H):
  ∃W:Nat->Nat->St->Hp->Prop,(∃m,W 0 m c H)/\∀i m c H,W i m c H ->
   ((Ite K b a).stop i H/\D.nx c H)\/((Ite K b a).go i H/\∃N:St->Hp->Prop,(∀k H',N k H'->∃l,l<m/\W (i+1) l k H')/\∀x H',(Ite K b a).yld i H x H'->g x c H' λj f=>tb {D with nx:=N,ct:=N,bk:=D.nx} j f):=by
 refine⟨λi m c H=>m=xs.length-i/\i<=xs.length/\d i c H,⟨xs.length,by simp,yB _,v⟩,?_⟩;rintro i m c H ⟨rfl,hi,p⟩;have q:=hl i c H hi p
 by_cases n:i<xs.length
 ·refine .inr ⟨⟨xs,xs[i],q,by simp[n]⟩,d (i+1),λk H' o=>⟨xs.length-(i+1),⋯,rfl,n,o⟩,λx H' y=>?_⟩;obtain⟨r,x,rfl,hr,rfl,t⟩:=y;exact w i x r c H (t xs q) p hr
 ·have e:i=xs.length:=⋯
  subst e;exact .inl ⟨⟨xs,q,rfl⟩,u c H p⟩
def kS(a:Addr)(H H':Hp):Prop:=∀b o,b≠a->H b=some o->H' b=some o
theorem Same.x{a:Addr}{H H':Hp}(s:Same H H'):kS a H H':=λb o _ e=>s b o e
section
variable {J:It} {g:TG} {tt:TOx} {te:TE} {n:Nat} {fr:List (Str×Nat)} {σ:St} {a:Addr} {H:Hp} {Q:VK} {K:Frag}
theorem Bu(len:Nat)(P:Nat->List V->Hp->Prop)(u:H a=none)(R:len<=1000)(I:P 0 [] (upd H a (.lst [])))
  (hl:∀i zs c,P i zs c->zs.length<=i)(mono:∀i zs c d,P i zs c->kS a c d->P i zs d)
  (O:∀i c,i<len->Same H c->J.go i c)(z:∀c,Same H c->J.stop len c)
  (N:∀i c zs,i<len->Same H c->c a=some (.lst zs)->P i zs c->∀(ys:St) x r,ys.length=n->J.yld i c x r->∀C:Option V->Hp->Prop,
   (∀y d,Same c d->P (i+1) (zs++[y]) d->C (some y) d)->(∀d,Same c d->P (i+1) zs d->C none d) ->
   g x (ys++mI fr σ) r λw F=>(∃v:St,v.length=n/\w=v++mI fr σ)/\tt w F C)
  (D:∀c ys,Same H c->c a=some (.lst ys)->P len ys c->Q (.ref a) c):lO J g tt n fr σ a H Q:=by
 refine⟨λi m c=>m=len-i/\i<=len/\Same H c/\∃zs,c a=some (.lst zs)/\P i zs c,⟨len,by simp,Nat.zero_le _,Same.new u,[],oP,I⟩,?_⟩;rintro i m c ⟨rfl,hi,f,zs,l,p⟩
 by_cases k:i<len
 ·refine .inr ⟨O i c k f,λH'=>i+1<=len/\Same H H'/\∃zs,H' a=some (.lst zs)/\P (i+1) zs H',λH' q=>⟨len-(i+1),⋯,rfl,q⟩,λys x r G L=>?_⟩;refine N i c zs k f l p ys x r G L _ (λy d j t=>?_) λd j t=>?_
  ·refine⟨zs,j _ _ l,iH (by have:=hl i zs c p;omega),k,Same.over u (f.trans j),_,oP,mono _ _ _ _ t λb o M e=>?_⟩;rw[oT M];exact e
  ·exact⟨k,f.trans j,zs,j _ _ l,t⟩
 ·have e:i=len:=⋯
  subst e;exact .inl ⟨z c f,D c zs f l p⟩
theorem bQ(len:Nat)(R:Nat->V->Hp->Prop)(q:H a=none)(F:len<=1000)(mono:∀i y b c,R i y b->kS a b c->R i y c)
  (O:∀i b,i<len->Same H b->J.go i b)(v:∀b,Same H b->J.stop len b)
  (N:∀i b zs,i<len->Same H b->b a=some (.lst zs)->∀(ys:St) x d,ys.length=n->J.yld i b x d->∀f:VK,(∀y c,Same b c->R i y c->f y c) ->
   g x (ys++mI fr σ) d λm G=>(∃k:St,k.length=n/\m=k++mI fr σ)/\te m G f)
  (D:∀b ys,Same H b->b a=some (.lst ys)->ys.length=len->(∀j y,ys[j]?=some y->R j y b)->Q (.ref a) b):lO J g (tEl te) n fr σ a H Q:=by
 refine Bu len (λi zs b=>zs.length=i/\∀j y,zs[j]?=some y->R j y b) q F ⟨rfl,λj y e=>by simp at e⟩ (λi zs b p=>tX p.1) (λi zs b c p s=>⟨p.1,λj y e=>mono _ _ _ _ (p.2 j y e) s⟩) O v ?_ λb ys s e p=>D b ys s e p.1 p.2;intro i b zs hi L u p ys x d I M C w _;refine N i b zs hi L u ys x d I M _ λy c l r=>w y c l ⟨by simp[p.1],λj z e=>?_⟩
 by_cases t:j<zs.length
 ·rw[yD t]at e;exact mono _ _ _ _ (p.2 j z e) l.x
 ·rw[zV ⋯]at e;have o:j-zs.length=0:=by
   by_cases P:j-zs.length=0
   ·exact P
   ·rw[wG (by simp;omega)]at e;cases e
  rw[o]at e;cases zW e;have:j=i:=by have:=p.1;omega
  rw[this];exact r
theorem mU{b:Bool}{l:Addr}{xs:List V}(R:Nat->V->Hp->Prop)(w:H a=none)(f:SqB b K H l xs)(u:xs.length<=1000)(mono:∀i y c d,R i y c->kS a c d->R i y d)
  (t:∀i x c zs,xs[i]?=some x->Same H c->c a=some (.lst zs)->∀e:VK,(∀y d,Same c d->R i y d->e y d)->te (some x:: mI fr σ) c e)
  (r:∀c ys,Same H c->c a=some (.lst ys)->ys.length=xs.length->(∀j y,ys[j]?=some y->R j y c)->Q (.ref a) c):lO (Its K b l) (nB 0) (tEl te) 1 fr σ a H Q:=by
 refine bQ xs.length R w u mono (λi c hi s=>Its.go (f.up s) (x:=xs[i]) (by simp[hi])) (λc s=>Its.stop (f.up s) (zE _)) ?_ r;intro i c zs hi k q ys x v z p e C;obtain⟨e1,m⟩:=Its.yld (f.up k) p;subst e1
 match ys,z with
 |[o],_=>exact⟨⟨[some x],rfl,rfl⟩,t i x v zs m k q e C⟩
theorem kI{lo:Int}{len:Nat}(R:Nat->V->Hp->Prop)(r:H a=none)(p:len<=1000)(mono:∀i y b c,R i y b->kS a b c->R i y c)
  (m:∀(i:Nat) b zs,i<len->Same H b->b a=some (.lst zs)->∀d:VK,(∀y c,Same b c->R i y c->d y c)->te (some (.int (lo+i)):: mI fr σ) b d)
  (l:∀b ys,Same H b->b a=some (.lst ys)->ys.length=len->(∀j y,ys[j]?=some y->R j y b)->Q (.ref a) b):lO (Itr lo len) (nB 0) (tEl te) 1 fr σ a H Q:=by
 refine bQ len R r p mono (λi b hi s=>hi) (λb s=>zE _) ?_ l;intro i b zs hi u k ys x q t f d v;obtain⟨e1,e⟩:=f;subst e1 e
 match ys,t with
 |[o],_=>exact⟨⟨[_],rfl,rfl⟩,m i q zs hi u k d v⟩
theorem Gb{b1 b2:Bool}{l1 l2:Addr}{xs ys:List V}(R:Nat->V->Hp->Prop)(t:H a=none)(e:SqB b1 K H l1 xs)(k:SqB b2 K H l2 ys)(L:xs.length=ys.length)(D:xs.length<=1000)(mono:∀i y b c,R i y b->kS a b c->R i y c)
  (F:∀i x y b zs,xs[i]?=some x->ys[i]?=some y->Same H b->b a=some (.lst zs)->∀d:VK,(∀y c,Same b c->R i y c->d y c)->te (some x:: some y:: mI fr σ) b d)
  (C:∀b zs,Same H b->b a=some (.lst zs)->zs.length=xs.length->(∀j y,zs[j]?=some y->R j y b)->Q (.ref a) b):
  lO (Itz K b1 l1 b2 l2) (gTup K 2 (lC (nB 0) (lC (nB 1) gNil))) (tEl te) 2 fr σ a H Q:=by
 refine bQ xs.length R t D mono (λi b hi s=>⟨xs,ys,xs[i],ys[i],e.up s,k.up s,by simp[hi],by simp⟩) (λb s=>⟨xs,ys,e.up s,k.up s,.inl (by simp)⟩) ?_ C;intro i b zs hi m w u x M z l d v;obtain⟨p,x,y,rfl,f,rfl,q,l⟩:=l;refine⟨p,[x,y],rfl,SqT.of oP,rfl,x,[y],rfl,y,[],rfl,rfl,?_⟩
 match u,z with
 |[o,I],_ =>
  refine⟨⟨[some x,some y],rfl,rfl⟩,F i x y _ zs (q xs (e.up m)) (l ys (k.up m)) (m.trans (Same.new f)) (Same.new f _ _ w) d λy c G r=>v y c ((Same.new f).trans G) r⟩
theorem Qf{b:Bool}{l:Addr}{xs:List V}(R:Nat->V->Hp->Prop)(t:H a=none)(k:SqB b K H l xs)(D:xs.length<=1000)(mono:∀i y c d,R i y c->kS a c d->R i y d)
  (G:∀i x c zs,xs[i]?=some x->Same H c->c a=some (.lst zs)->∀e:VK,(∀y d,Same c d->R i y d->e y d)->te (some (.int i):: some x:: mI fr σ) c e)
  (C:∀c zs,Same H c->c a=some (.lst zs)->zs.length=xs.length->(∀j y,zs[j]?=some y->R j y c)->Q (.ref a) c):
  lO (Ite K b l) (gTup K 2 (lC (nB 0) (lC (nB 1) gNil))) (tEl te) 2 fr σ a H Q:=by
 refine bQ xs.length R t D mono (λi c hi s=>⟨xs,xs[i],k.up s,by simp[hi]⟩) (λc s=>⟨xs,k.up s,rfl⟩) ?_ C;intro i c zs hi m w u x M z F e v;obtain⟨p,x,rfl,f,rfl,q⟩:=F;refine⟨p,[.int i,x],rfl,SqT.of oP,rfl,_,[x],rfl,x,[],rfl,rfl,?_⟩
 match u,z with
 |[o,L],_ =>
  refine⟨⟨[some (.int i),some x],rfl,rfl⟩,G i x _ zs (q xs (k.up m)) (m.trans (Same.new f)) (Same.new f _ _ w) e λy d I r=>v y d ((Same.new f).trans I) r⟩
end
def MatB(b1 b2:Bool)(K:Frag)(H:Hp)(a:Addr)(rows:List (LI')):Prop:=∃ps:LA,SqB b1 K H a (ps.map V.ref)/\ps.length=rows.length/\∀(i:Nat)(p:Addr)(r:LI'),ps[i]?=some p->rows[i]?=some r->SqB b2 K H p (r.map V.int)
theorem MatB.up{b1 b2:Bool}{K:Frag}{H H':Hp}{a:Addr}{b:List (LI')}(h:MatB b1 b2 K H a b)(s:Same H H'):MatB b1 b2 K H' a b:=let ⟨ps,f,e,d⟩:=h;⟨ps,f.up s,e,λi p r e1 c=>(d i p r e1 c).up s⟩
def RowR(a:Addr)(f:Nat->LI')(j:Nat)(y:V)(H:Hp):Prop:=∃p,y=.ref p/\p≠a/\H p=some (.lst ((f j).map V.int))
theorem RowR.mono{a:Addr}{f:Nat->LI'}(i:Nat)(y:V)(c b:Hp)(h:RowR a f i y c)(s:kS a c b):RowR a f i y b:=let ⟨p,e,n,q⟩:=h;⟨p,e,n,s _ _ n q⟩
noncomputable def iT:Nat->PyData->Bool
 |_,.int _=>true
 |n+1,.list xs=>xs.all (iT n)
 |n+1,.tuple xs=>xs.all (iT n)
 |_,_=>false
theorem iK:∀(n:Nat)(d:PyData),iT n d=true->d.canLay0=true/\d.depth<=n
 |0,.int _,_=>by simp[PyData.canLay0,PyData.depth]
 |n+1,.int _,_=>by simp[PyData.canLay0,PyData.depth]
 | n+1,.list xs,h=>by
  have all:∀ys:List PyData,ys.all (iT n)=true->PyData.canLayAll0 ys=true/\PyData.depthAll ys<=n:=by
   intro ys
   induction ys with
   |nil=>intro _;simp[PyData.canLayAll0,PyData.depthAll]
   |cons y r b =>
    intro a;rw[xI,zR]at a;have e:=iK n y a.1;have c:=b a.2;simp only[PyData.canLayAll0,PyData.depthAll,Bool.and_eq_true];exact⟨⟨e.1,c.1⟩,⋯⟩
  have:=all xs (by simpa [iT]using h);simp only[PyData.canLay0,PyData.depth];exact⟨this.1,⋯⟩
 | n+1,.tuple xs,h=>by
  have all:∀ys:List PyData,ys.all (iT n)=true->PyData.canLayAll0 ys=true/\PyData.depthAll ys<=n:=by
   intro ys
   induction ys with
   |nil=>intro _;simp[PyData.canLayAll0,PyData.depthAll]
   |cons y r b =>
    intro a;rw[xI,zR]at a;have e:=iK n y a.1;have c:=b a.2;simp only[PyData.canLayAll0,PyData.depthAll,Bool.and_eq_true];exact⟨⟨e.1,c.1⟩,⋯⟩
  have:=all xs (by simpa [iT]using h);simp only[PyData.canLay0,PyData.depth];exact⟨this.1,⋯⟩
theorem bR:∀(n:Nat)(d d':PyData),iT n d=true->iT n d'=true->SeqAt.noMix d d'=true:=by
 intro n
 induction n with
 |zero=>intro d d' h h';cases d <;> simp[iT]at h <;> cases d' <;> simp[iT]at h' <;> simp[SeqAt.noMix]
 | succ n c =>
  have all:∀ys zs:List PyData,ys.all (iT n)=true->zs.all (iT n)=true->SeqAt.noMixAll ys zs=true:=by
   intro ys
   induction ys with
   |nil=>intro zs _ _;cases zs <;> simp[SeqAt.noMixAll]
   | cons y r f =>
    intro zs a b;cases zs with
    |nil=>simp[SeqAt.noMixAll]
    |cons z e =>
     rw[xI,zR]at a b;simp only[SeqAt.noMixAll,Bool.and_eq_true];exact⟨c y z a.1 b.1,f e a.2 b.2⟩
  intro d d' h h';cases d <;> simp only[iT,Bool.false_eq_true]at h <;> cases d' <;> simp only[iT,Bool.false_eq_true]at h' <;> simp only[SeqAt.noMix]
  ·exact all _ _ h h'
  ·exact all _ _ h h'
theorem bT:∀(n:Nat)(d d':PyData),iT n d=true->iT n d'=true->(same d d'=true↔d=d'):=by
 intro n
 induction n with
 |zero=>intro d d' h h';cases d <;> simp[iT]at h <;> cases d' <;> simp[iT]at h' <;> simp[same]
 | succ n c =>
  have all:∀ys zs:List PyData,ys.all (iT n)=true->zs.all (iT n)=true->(sameAll ys zs=true↔ys=zs):=by
   intro ys
   induction ys with
   |nil=>intro zs _ _;cases zs <;> simp[sameAll]
   | cons y r f =>
    intro zs a b;cases zs with
    |nil=>simp[sameAll]
    |cons z e =>
     rw[xI,zR]at a b;simp only[sameAll,Bool.and_eq_true,List.cons.injEq];rw[c y z a.1 b.1,f e a.2 b.2]
  intro d d' h h';cases d <;> simp only[iT,Bool.false_eq_true]at h <;> cases d' <;> simp only[iT,Bool.false_eq_true]at h' <;> simp only[same,beq_iff_eq,PyData.int.injEq,PyData.list.injEq,PyData.tuple.injEq,reduceCtorEq,Bool.false_eq_true]
  ·exact all _ _ h h'
  ·exact all _ _ h h'
theorem bU{n:Nat}{d:PyData}(a:n<=64)(h:iT n d=true):SeqAt.shaped d=true:=by
 have:=iK n d h;unfold SeqAt.shaped;rw[zR];exact⟨this.1,zP ⋯⟩
section
variable {K:Frag} {H:Hp} {x y:V} {d d':PyData} {Q:VK}
theorem dX(n:Nat)(f:n<=64)(i:Dt K H x d)(g:Dt K H y d')(a:iT n d=true)(c:iT n d'=true){b:Bool}(j:b=true↔d=d')(q:Q (.bl b) H):rEqD K x y H Q:=by
 refine⟨d,d',i,g,bU f a,bU f c,bR n d d' a c,?_⟩;have:=bT n d d' a c;have e:same d d'=b:=by
  cases hs:same d d' <;> cases b <;> simp_all
 rw[e];exact q
theorem fX(n:Nat)(f:n<=64)(i:Dt K H x d)(g:Dt K H y d')(a:iT n d=true)(c:iT n d'=true){b:Bool}(j:b=true↔d=d')(q:Q (.bl (!b)) H):rNeD K x y H Q:=by
 refine⟨d,d',i,g,bU f a,bU f c,bR n d d' a c,?_⟩;have:=bT n d d' a c;have e:same d d'=b:=by
  cases hs:same d d' <;> cases b <;> simp_all
 rw[e];exact q
end
noncomputable def seqD(b:Bool)(ds:List PyData):PyData:=match b with|false=>.list ds|true=>.tuple ds
noncomputable def fY(b:Bool)(ns:LI'):PyData:=seqD b (ns.map PyData.int)
noncomputable def matD(b1 b2:Bool)(rows:List (LI')):PyData:=seqD b1 (rows.map (fY b2))
theorem Ga{b:Bool}{xs ys:List PyData}:seqD b xs=seqD b ys↔xs=ys:=by cases b <;> simp[seqD]
theorem Bt{b c:Type}{f:b->c}(a:∀x y,f x=f y->x=y):∀{xs ys:List b},xs.map f=ys.map f↔xs=ys
 |[],[]=>by simp
 |[],_:: _=>by simp
 |_:: _,[]=>by simp
 |x:: r,y:: d=>by
  rw[zK,zK,yR,yR,Bt a];exact⟨λh=>⟨a _ _ h.1,h.2⟩,λh=>⟨by rw[h.1],h.2⟩⟩
theorem Hw{b:Bool}{ns ms:LI'}:fY b ns=fY b ms↔ns=ms:=by
 unfold fY;rw[Ga,Bt λx y h=>by injection h]
theorem Qe{b1 b2:Bool}{A B:List (LI')}:matD b1 b2 A=matD b1 b2 B↔A=B:=by
 unfold matD;rw[Ga,Bt λx y h=>Hw.mp h]
theorem Dt.seqB{b:Bool}{K:Frag}{H:Hp}{a:Addr}{xs:List V}{ds:List PyData}(h:SqB b K H a xs)(c:Dts K H xs ds):Dt K H (.ref a) (seqD b ds):=by
 cases b
 ·exact .lst h c
 ·exact .tup h c
theorem Dt.intsB{b:Bool}{K:Frag}{H:Hp}{a:Addr}{ns:LI'}(h:SqB b K H a (ns.map V.int)):Dt K H (.ref a) (fY b ns):=Dt.seqB h (Dts.ints ns)
theorem Dt.matB{b1 b2:Bool}{K:Frag}{H:Hp}{a:Addr}{b:List (LI')}(h:MatB b1 b2 K H a b):Dt K H (.ref a) (matD b1 b2 b):=by
 obtain⟨ps,e,c,d⟩:=h;refine Dt.seqB e ?_;clear e
 induction ps generalizing b with
 |nil =>
  cases b with
  |nil=>exact .nil
  |cons r j=>simp at c
 | cons p ps g =>
  cases b with
  |nil=>simp at c
  |cons r j =>
   refine .cons (Dt.intsB (d 0 p r rfl rfl)) (g (by simpa using c) λi q z e1 f=>d (i+1) q z (by simpa using e1) (by simpa using f))
section
variable {wi:TI} {g:TG} {tt:TOx} {te:TE} {tc:TT} {n:Nat} {fr:List (Str×Nat)} {σ:St} {H:Hp} {Q:VK}
theorem nN(h:∀B:TE,B=te->wi σ H λc b=>∀a,b a=none->lO c g (tEl B) n fr σ a b Q):mP wi g (tEl te) n fr σ H Q:=h _ rfl
theorem Qd(h:∀(C:TT)(B:TE),C=tc->B=te->wi σ H λc b=>∀a,b a=none->lO c g (fU C B) n fr σ a b Q):mP wi g (fU tc te) n fr σ H Q:=h _ _ rfl rfl
end
noncomputable def seqO(b:Bool)(xs:List V):HO:=match b with|false=>.lst xs|true=>.tup xs
def rSlB(K:Frag):V->Option Int->Option Int->Hp->VK->Prop:=λx lo hi H Q=>∃b a xs,x=.ref a/\SqB b K H a xs /\
 (b=true->¬ (HT.sIx xs.length 0 lo=0/\HT.sIx xs.length xs.length hi=xs.length))/\∀p,H p=none->Q (.ref p) (upd H p (seqO b (cutV xs lo hi)))
theorem sl_B{X:Cx}:SlR X (rSlB X.K):=by
 intro l s i H x v d m lo hi g Q I f k pl j h;obtain⟨b,a,xs,e,c,n,q⟩:=h;cases b
 ·exact Oc l s i H x v d m lo hi g Q I f k pl j ⟨a,xs,e,c,q⟩
 ·exact Om l s i H x v d m lo hi g Q I f k pl j ⟨a,xs,e,c,n rfl,q⟩
def MatL(H:Hp)(a:Addr)(rows:List (LI')):Prop:=∃ps:LA,H a=some (.lst (ps.map V.ref))/\ps.length=rows.length/\∀(i:Nat)(p:Addr)(r:LI'),ps[i]?=some p->rows[i]?=some r->p≠a/\H p=some (.lst (r.map V.int))
theorem MatL.b{K:Frag}{H:Hp}{a:Addr}{b:List (LI')}(h:MatL H a b):MatB false false K H a b:=let ⟨ps,f,e,d⟩:=h;⟨ps,SqB.lst f,e,λi p r e1 c=>SqB.lst (d i p r e1 c).2⟩
theorem MatL.up{H H':Hp}{a:Addr}{d:List (LI')}(h:MatL H a d)(s:Same H H'):MatL H' a d:=let ⟨ps,f,e,c⟩:=h;⟨ps,s _ _ f,e,λi p r e1 b=>⟨(c i p r e1 b).1,s _ _ (c i p r e1 b).2⟩⟩
theorem MatL.of{H:Hp}{a:Addr}{f:Nat->LI'}{ys:List V}(h:H a=some (.lst ys))(hr:∀(j:Nat) y,ys[j]?=some y->RowR a f j y H):MatL H a ((List.range ys.length).map f):=by
 have g:∃ps:LA,ys=ps.map V.ref:=by
  clear h;have:∀(zs:List V)(k:Nat),(∀(j:Nat) y,zs[j]?=some y->RowR a f (j+k) y H)->∃ps:LA,zs=ps.map V.ref:=by
   intro zs
   induction zs with
   |nil=>intro k _;exact⟨[],rfl⟩
   | cons z r d =>
    intro k c;obtain⟨p,e,_⟩:=c 0 z rfl;obtain⟨ps,b⟩:=d (k+1) λj y q=>by
     have:=c (j+1) y (by simpa using q)
     rwa[sU,Nat.add_comm 1 k]at this
    exact⟨p:: ps,by rw[e,b];rfl⟩
  exact this ys 0 hr
 obtain⟨ps,rfl⟩:=g;refine⟨ps,h,by simp,λi p r e1 b=>?_⟩;obtain⟨l,e,n,q⟩:=hr i (.ref p) (by simp[e1]);cases e;have hi:i<ps.length:=(oH.mp e1).1;have:r=f i:=by
  rw[zI,yS,yW hi]at b;exact(zW b).symm
 rw[this];exact⟨n,q⟩
theorem MatB.row{b1 b2:Bool}{K:Frag}{H:Hp}{a:Addr}{b:List (LI')}(h:MatB b1 b2 K H a b){i:Nat}{r:LI'}(e:b[i]?=some r):∃ps:LA,∃p,SqB b1 K H a (ps.map V.ref)/\(ps.map V.ref)[i]?=some (.ref p)/\(ps.map V.ref).length=b.length/\SqB b2 K H p (r.map V.int):=by
 obtain⟨ps,f,d,c⟩:=h;have hi:i<ps.length:=by have:=(oH.mp e).1;omega
 exact⟨ps,ps[i],f,by simp[hi],by simp[d],c i _ r (by simp[hi]) e⟩
theorem MatB.walk{b1 b2:Bool}{K:Frag}{H:Hp}{a:Addr}{b:List (LI')}(h:MatB b1 b2 K H a b):∃xs:List V,SqB b1 K H a xs/\xs.length=b.length/\∀(i:Nat) x,xs[i]?=some x->∃p r,x=.ref p/\b[i]?=some r/\SqB b2 K H p (r.map V.int):=by
 obtain⟨ps,f,d,c⟩:=h;refine⟨_,f,by simp[d],λi x e=>?_⟩;rw[zI]at e;cases q:ps[i]? with
 |none=>rw[q]at e;cases e
 |some p =>
  rw[q]at e;have hi:i<b.length:=by have:=(oH.mp q).1;omega
  exact⟨p,b[i],(zW e).symm,by simp[hi],c i p _ q (by simp[hi])⟩
theorem kC{a:Type}{xs:List a}{k:Nat}{x:a}{i:Int}(h:xs[k]?=some x)(hi:i=k):atI xs i=some x:=by
 subst hi;exact Ol h
theorem kU{ns:LI'}{i:Nat}{x:V}(h:(ns.map V.int)[i]?=some x):∃n,ns[i]?=some n/\x=.int n:=by
 rw[zI]at h;cases e:ns[i]? with
 |none=>rw[e]at h;cases h
 |some n=>rw[e]at h;exact⟨n,rfl,(zW h).symm⟩
theorem iL{ns:LI'}{i:Nat}{n:Int}(h:ns[i]?=some n):(ns.map V.int)[i]?=some (.int n):=by rw[zI,h];rfl
theorem Qb{ns:LI'}{k:Nat}{n:Int}(h:ns[k]?=some n):ns.getD k 0=n:=by rw[tN,h];rfl
theorem getD_at{ns:LI'}{k:Nat}(h:k<ns.length):ns[k]?=some (ns.getD k 0):=by simp[h]
theorem getD_mem{ns:LI'}{k:Nat}(h:k<ns.length):ns.getD k 0∈ns:=by
 rw[show ns.getD k 0=ns[k] by simp[h]];exact vE h
noncomputable def colI(k:Nat)(rows:List (LI')):LI':=rows.map λr=>r.getD k 0
noncomputable def dotI(ms ns:LI'):Int:=(List.zipWith (·*·) ms ns).sum
noncomputable def bV(w:Nat)(rows:List (LI')):List (LI'):=(List.range w).map λk=>colI k rows
noncomputable def mulM(w:Nat)(A B:List (LI')):List (LI'):=A.map λr=>(List.range w).map λk=>dotI r (colI k B)
theorem Qa{w:Nat}{A B:List (LI')}{i:Nat}{r:LI'}(h:A[i]?=some r):(mulM w A B)[i]?=some ((List.range w).map λk=>dotI r (colI k B)):=by
 unfold mulM;rw[zI,h];rfl
section
variable {K:Frag} {g:TG} {tb:TS} {σ:St} {H:Hp} {nx:St->Hp->Prop} {rt:VK}
abbrev Bs(J:It)(g:TG)(tb:TS)(nx:St->Hp->Prop)(rt:VK)(σ:St)(H:Hp):Prop:=∃W:Nat->Nat->St->Hp->Prop,(∃m,W 0 m σ H)/\∀i m σ H,W i m σ H ->
 (J.stop i H/\nx σ H)\/(J.go i H/\∃N:St->Hp->Prop,(∀σ' H',N σ' H'->∃m',m'<m/\W (i+1) m' σ' H')/\∀x H',J.yld i H x H'->g x σ H' λσ2 H2=>tb {nx:=N,rt:=rt,bk:=nx,ct:=N} σ2 H2)
theorem iM{lo:Int}{n:Nat}(a:Nat->St->Hp->Prop)(f:a 0 σ H)
  (e:∀i σ H,i<n->a i σ H->g (.int (lo+i)) σ H λd c=>tb {nx:=a (i+1),rt:=rt,bk:=nx,ct:=a (i+1)} d c)(b:∀σ H,a n σ H->nx σ H):Bs (Itr lo n) g tb nx rt σ H:=
 Nn (D:={nx:=nx,rt:=rt,bk:=nx,ct:=nx}) a f e b
theorem gU{b:Bool}{a:Addr}{xs:List V}(c:Nat->St->Hp->Prop)(k:c 0 σ H)(hl:∀i σ H,i<=xs.length->c i σ H->SqB b K H a xs)
  (j:∀i x σ H,xs[i]?=some x->c i σ H->g x σ H λe f=>tb {nx:=c (i+1),rt:=rt,bk:=nx,ct:=c (i+1)} e f)(d:∀σ H,c xs.length σ H->nx σ H):Bs (Its K b a) g tb nx rt σ H:=
 Qh (D:={nx:=nx,rt:=rt,bk:=nx,ct:=nx}) c k hl j d
theorem Hv{b:Bool}{a:Addr}{xs:List V}(c:Nat->St->Hp->Prop)(k:c 0 σ H)(hl:∀i σ H,i<=xs.length->c i σ H->SqB b K H a xs)
  (j:∀i x p σ H,xs[i]?=some x->c i σ H->H p=none->g (.ref p) σ (upd H p (.tup [.int i,x])) λe f=>tb {nx:=c (i+1),rt:=rt,bk:=nx,ct:=c (i+1)} e f)(d:∀σ H,c xs.length σ H->nx σ H):Bs (Ite K b a) g tb nx rt σ H:=
 Qg (D:={nx:=nx,rt:=rt,bk:=nx,ct:=nx}) c k hl j d
end
theorem gW{b1 b2:Bool}{K:Frag}{H:Hp}{a:Addr}{c:List (LI')}{i k:Nat}{r:LI'}{x:Int}{I b:Int}{Q:VK}(h:MatB b1 b2 K H a c)(e:c[i]?=some r)(d:r[k]?=some x)(hi:I=i)(j:b=k)(q:Q (.int x) H):
  rIxB K (.ref a) (.int I) H λv g=>rIxB K v (.int b) g Q:=by
 obtain⟨ps,p,k1,k2,k3,f⟩:=h.row e;exact⟨b1,a,_,_,_,rfl,rfl,k1,kC k2 hi,b2,p,_,_,_,rfl,rfl,f,kC (iL d) j,q⟩
theorem Rz{b1 b2:Bool}{K:Frag}{H:Hp}{a:Addr}{b:List (LI')}{i:Nat}{r:LI'}{I:Int}{Q:VK}(h:MatB b1 b2 K H a b)(e:b[i]?=some r)(hi:I=i)(q:∀p,SqB b2 K H p (r.map V.int)->Q (.ref p) H):
  rIxB K (.ref a) (.int I) H Q:=by
 obtain⟨ps,p,k1,k2,k3,c⟩:=h.row e;exact⟨b1,a,_,_,_,rfl,rfl,k1,kC k2 hi,q p c⟩
theorem hX{b1 b2:Bool}{K:Frag}{H:Hp}{a:Addr}{b:List (LI')}{Q:VK}(h:MatB b1 b2 K H a b)(q:Q (.int b.length) H):dW K [.ref a] H Q:=by
 obtain⟨ps,d,c,e⟩:=h;refine⟨b1,a,_,rfl,d,?_⟩;rw[yS,c];exact q
theorem Br{b:Bool}{K:Frag}{H:Hp}{a:Addr}{ns:LI'}{Q:VK}(h:SqB b K H a (ns.map V.int))(q:Q (.int ns.length) H):dW K [.ref a] H Q:=by
 refine⟨b,a,_,rfl,h,?_⟩;rw[yS];exact q
noncomputable def Itq(lo st:Int)(n:Nat):It:=⟨λi _=>i<n,λi H x H'=>H'=H/\x=.int (lo+i*st),λi _=>n<=i⟩
def lW(a:Addr)(H:Hp)(zs:List V)(M:List (LI')):Prop:=∃ps:LA,zs=ps.map V.ref/\ps.length=M.length/\∀(j:Nat)(p:Addr)(r:LI'),ps[j]?=some p->M[j]?=some r->p≠a/\H p=some (.lst (r.map V.int))
theorem lW.nil{a:Addr}{H:Hp}:lW a H [] []:=⟨[],rfl,rfl,λj p r e=>by simp at e⟩
theorem lW.len{a:Addr}{H:Hp}{zs:List V}{M:List (LI')}(h:lW a H zs M):zs.length=M.length:=let ⟨ps,e,l,_⟩:=h;by rw[e,yS,l]
theorem lW.mono{a:Addr}{H H':Hp}{zs:List V}{M:List (LI')}(h:lW a H zs M)(s:kS a H H'):lW a H' zs M:=let ⟨ps,e,l,q⟩:=h;⟨ps,e,l,λj p r e1 b=>⟨(q j p r e1 b).1,s _ _ (q j p r e1 b).1 (q j p r e1 b).2⟩⟩
theorem lW.snoc{a p:Addr}{H:Hp}{zs:List V}{M:List (LI')}{r:LI'}(h:lW a H zs M)(f:p≠a)(g:H p=some (.lst (r.map V.int))):lW a H (zs++[.ref p]) (M++[r]):=by
 obtain⟨ps,rfl,c,e⟩:=h;refine⟨ps++[p],by simp,by simp[c],λi q z e1 b=>?_⟩
 by_cases hi:i<ps.length
 ·rw[yD hi]at e1;rw[yD ⋯]at b;exact e i q z e1 b
 ·have d:i=ps.length:=by
   have:=(oH.mp e1).1;simp at this;omega
  subst d;rw[zV (zE _)]at e1;rw[c,zV (zE _)]at b;simp at e1 b;subst e1 b;exact⟨f,g⟩
theorem lW.mat{a:Addr}{H:Hp}{zs:List V}{M:List (LI')}(h:H a=some (.lst zs))(r:lW a H zs M):MatL H a M:=by
 obtain⟨ps,rfl,c,b⟩:=r;exact⟨ps,h,c,b⟩
theorem Bq(ns:LI')(lo hi:Option Int):cutV (ns.map V.int) lo hi=((ns.drop (HT.sIx ns.length 0 lo)).take (HT.sIx ns.length ns.length hi-HT.sIx ns.length 0 lo)).map V.int:=by
 unfold cutV;rw[yS,List.map_take,List.map_drop]
theorem Ry{ns:LI'}{k:Nat}(h:k<=ns.length):cutV (ns.map V.int) none (some (k:Int))=(ns.take k).map V.int:=by
 rw[Bq,HT.sIx_none,HT.sIx_nat,tQ h];simp
theorem Rx{ns:LI'}{k:Nat}(h:k<=ns.length):cutV (ns.map V.int) (some (k:Int)) none=(ns.drop k).map V.int:=by
 rw[Bq,HT.sIx_none,HT.sIx_nat,tQ h,yT (by simp)]
section
variable {K:Frag} {H:Hp} {a a1:Addr} {M:List (LI')} {σ:St} {Q:VK} {b1 b2:Bool}
def MatT(H:Hp)(a:Addr)(rows:List (LI')):Prop:=∃ps:LA,H a=some (.lst (ps.map V.ref))/\ps.length=rows.length/\∀(i:Nat)(p:Addr)(r:LI'),ps[i]?=some p->rows[i]?=some r->H p=some (.tup (r.map V.int))
theorem Rv(I:MatB b1 false K H a M)(hl:M.length<=1000)(N:H a1=none)(L:∀b,Same H b->MatT b a1 M->Q (.ref a1) b):lO (Its K b1 a) (nB 0) (tEl (tCB (fW K) (nF (tVar 0) tNil))) 1 [] σ a1 H Q:=by
 obtain⟨xs,u,U,D⟩:=I.walk;refine mU (λj y b=>∃p r,y=.ref p/\M[j]?=some r/\p≠a1/\b p=some (.tup (r.map V.int))) N u ⋯ (λi y b R⟨p,r,e1,c,d,f⟩s=>⟨p,r,e1,c,d,s _ _ d f⟩) ?_ ?_
 ·intro i x b zs P g F S C;obtain⟨p,r,rfl,O,G⟩:=D i x P;exact⟨_,rfl,p,_,rfl,.inl ⟨G.up g,λl t=>C _ _ (Same.new t) ⟨l,r,rfl,O,yA (nY F t),oP⟩⟩⟩
 ·intro b ys g e1 n k;have w:∃ps:LA,ys=ps.map V.ref:=by
   clear e1 n;have:∀(zs:List V),(∀(j:Nat) y,zs[j]?=some y->∃p:Addr,y=.ref p)->∃ps:LA,zs=ps.map V.ref:=by
    intro zs
    induction zs with
    |nil=>intro _;exact⟨[],rfl⟩
    |cons z r J =>
     intro o;obtain⟨p,e⟩:=o 0 z rfl;obtain⟨ps,c⟩:=J λj y q=>o (j+1) y (by simpa using q);exact⟨p:: ps,by rw[e,c];rfl⟩
   exact this ys λj y e=>let ⟨p,r,e1,_⟩:=k j y e;⟨p,e1⟩
  obtain⟨ps,rfl⟩:=w;refine L b g ⟨ps,e1,by simp at n;omega,λi p r c d=>?_⟩;obtain⟨T,W,f,m,_,v⟩:=k i (.ref p) (by simp[c]);cases f;rw[d]at m;cases m;exact v
theorem MatT.tuple{l:Addr}(h:MatT H a M)(hl:H l=none):∃zs,H a=some (.lst zs)/\MatB true true K (upd H l (.tup zs)) l M:=by
 obtain⟨ps,e,d,c⟩:=h;exact⟨_,e,ps,SqB.tup oP,d,λi p r e1 b=>SqB.tup (Same.new hl _ _ (c i p r e1 b))⟩
end
theorem Ru{X:Cx}{x:Str}{v:V}{a:Pos}(c:Gl X x)(h:∃u,X.mg x=some u/\RelV v u)(b:(x == ("__debug__" :Str))=false:=by decide):PE X (.Name x a) (tC v):=by
 obtain⟨u,e,r⟩:=h;exact Me c e r b
def MkI(te:TE)(n:Int):Prop:=∀σ H Q,Q (.int n) H->te σ H Q
def MkIs(ta:TA)(ns:LI'):Prop:=∀σ H Q,Q (ns.map V.int) H->ta σ H Q
def MkR(te:TE)(ns:LI'):Prop:=∀σ H Q,(∀p H',Same H H'->H p=none->H' p=some (.lst (ns.map V.int))->Q (.ref p) H')->te σ H Q
def MkRs(ta:TA)(M:List (LI')):Prop:=∀σ H Q,(∀ps H',Same H H'->RefRowsN H H' ps M->Q (ps.map V.ref) H')->ta σ H Q
where RefRowsN (H H':Hp) (ps:LA) (M:List (LI')):Prop:=ps.length=M.length/\∀(j:Nat)(p:Addr)(r:LI'),ps[j]?=some p->M[j]?=some r->H' p=some (.lst (r.map V.int))
def MkM(te:TE)(M:List (LI')):Prop:=∀σ H Q,(∀p H',Same H H'->H p=none->MatL H' p M->Q (.ref p) H')->te σ H Q
def Mats(H:Hp)(p:Addr)(Ms:List (List (LI'))):Prop:=∃ps:LA,H p=some (.lst (ps.map V.ref))/\ps.length=Ms.length/\∀(i:Nat)(q:Addr)(M:List (LI')),ps[i]?=some q->Ms[i]?=some M->MatL H q M
def MkMs(ta:TA)(Ms:List (List (LI'))):Prop:=∀σ H Q,(∀(ps:LA) H',Same H H'->ps.length=Ms.length->(∀(i:Nat)(q:Addr)(M:List (LI')),ps[i]?=some q->Ms[i]?=some M->MatL H' q M)->Q (ps.map V.ref) H')->ta σ H Q
def MatD(H0 H:Hp)(a:Addr)(rows:List (LI')):Prop:=∃ps:LA,H a=some (.lst (ps.map V.ref))/\ps.length=rows.length/\ps.Nodup/\∀(i:Nat)(p:Addr)(r:LI'),ps[i]?=some p->rows[i]?=some r->p≠a/\H0 p=none/\H p=some (.lst (r.map V.int))
theorem MatD.l{H0 H:Hp}{a:Addr}{d:List (LI')}(h:MatD H0 H a d):MatL H a d:=let ⟨ps,f,e,_,c⟩:=h;⟨ps,f,e,λi p r e1 b=>⟨(c i p r e1 b).1,(c i p r e1 b).2.2⟩⟩
theorem MatD.up{H0 H H':Hp}{a:Addr}{d:List (LI')}(h:MatD H0 H a d)(s:Same H H'):MatD H0 H' a d:=let ⟨ps,f,e,n,c⟩:=h;⟨ps,s _ _ f,e,n,λi p r e1 b=>⟨(c i p r e1 b).1,(c i p r e1 b).2.1,s _ _ (c i p r e1 b).2.2⟩⟩
theorem MatD.row{H0 H:Hp}{a:Addr}{c:List (LI')}{i:Nat}{r:LI'}(h:MatD H0 H a c)(e:c[i]?=some r):∃zs p,H a=some (.lst zs)/\zs[i]?=some (.ref p)/\zs.length=c.length/\p≠a/\H0 p=none/\H p=some (.lst (r.map V.int))/\∀f,MatD H0 (upd H p (.lst (f.map V.int))) a (c.set i f):=by
 obtain⟨ps,o,n,k,m⟩:=h;have hi:i<ps.length:=by have:=(oH.mp e).1;omega
 have b:=m i ps[i] r (by simp[hi]) e;refine⟨_,ps[i],o,by simp[hi],by simp[n],b.1,b.2.1,b.2.2,λf=>⟨ps,by rw[oT (yA b.1)];exact o,by simp[n],k,λj q z e1 d=>?_⟩⟩
 by_cases g:j=i
 ·subst g;have x:q=ps[j]:=by simp[hi]at e1;exact e1.symm
  subst x;rw[wR ⋯]at d;cases d;exact⟨b.1,b.2.1,oP⟩
 ·rw[tI (yA g)]at d;obtain⟨u,v,t⟩:=m j q z e1 d;have:q≠ps[i]:=λw=>by
   have l:=(oH.mp e1);obtain⟨l,y⟩:=l;exact g ((List.getElem_inj k).mp (y.trans w))
  exact⟨u,v,by rw[oT this];exact t⟩
noncomputable def isList:Expr->Bool
 |.List _ _=>true
 |_=>false
section
variable {X:Cx}
theorem Hu:∀{bs:List Bool}{its:LW},Vals (bs.map V.bl) its->∀(i:Nat)(v:Value),its[i]?=some v->∃b,bs[i]?=some b/\v=.bool b
 |[],_,.nil,i,v,e=>by simp at e
 |b:: r,_,.cons h q,i,v,e=>by
  cases i with
  |zero=>simp at e;subst e;exact⟨b,rfl,h⟩
  |succ i=>simpa using Hu (bs:=r) q i v (by simpa using e)
theorem Ht:∀bs:List Bool,((List.range bs.length).any λi=>(bs[i]?).getD false)=bs.any id
 |[]=>rfl
 |b:: bs=>by
  have a:=Ht bs;rw[zU,List.range_succ_eq_map,qE,qE,List.any_map];show(b || _)=(b || _);congr 1
theorem Rt(f:X.calm=true):lK X (.builtin "any") (λxs H Q=>∃(p:Addr)(bs:List Bool),xs=[.ref p]/\SqL X.K H p (bs.map V.bl)/\Q (.bl (bs.any id)) H):=by
 intro z s w H xs us Q I r h;obtain⟨p,bs,rfl,d,q⟩:=h;obtain⟨u,rfl,l⟩:=jE r;cases l;obtain⟨its,c,pl,t⟩:=I.list d;have hl:s.heap.IsList p its.toArray:=pl.isList;have j:p<s.heap.objs.size:=by obtain⟨_,e,_⟩:=hl;exact zL e
 have m:its.toArray.size=bs.length:=by
  have:=c.length;simpa using this.symm
 refine call_any_walk (sJ hl ?_);refine⟨s.heap.objs.size,[s.heap.objs.size,p],[s.heap.objs.size],its.toArray.size,_,_,λi=>(bs[i]?).getD false,rfl,Walks.list (A:=X.A.in1) (I.ok.hd f) _ p (zY j) its.toArray,
  ⟨⟨_,zS _ rfl,rfl,rfl⟩,hl.push _⟩,λi v y o C k a=>?_,λh' tk n=>?_⟩
 ·obtain⟨b,e,rfl⟩:=Hu c i v (by simpa using k);simp only[e,Option.getD_some]at a;exact uR a
 ·rw[m,Ht bs];refine⟨.bl (bs.any id),H,I.kept (t':=tk) λb x e=>n b x (λg=>by rw[pO.mp g]at e;exact xC _ (zL e)) (zC _ e),rfl,q⟩
end
section
variable {prog:Program} {w:World} {A:Around} {E:VP} {s:Shared}
theorem Rr{env:Env}{a:List Expr}{e}{c:Pos}{b:Addr}{items:Array Value}{Q:Unit->Shared->Prop}(hh:A.handled=none)(g:s.heap.IsList b items)
  (d:(assignEach a env).length=items.size)(f:(assignEach a env).findIdx? (·.1)=none)
  (h:∀h',Heap.ExtBut s.heap.objs.size s.heap h'->wpAny (model prog w) A (assignInOrder ((assignEach a env).map (·.2)) items.toList) Q E {s with heap:=h'}):
  wpAny (model prog w) A (assign (.Tuple a e c) env (.ref b)) Q E s:=by
 rw[assign_Tuple];refine zA (wS ?_);unfold unpack;rw[d,f];exact zA (xB (PySem.W.kun_itemsOf hh g h))
end
section
variable {X:Cx} {pos:Pos}
def Rq(K:Frag)(n:Nat)(t:TGs):TG:=λv σ H Q=>∃b a xs,v=.ref a/\SqB b K H a xs/\xs.length=n/\t xs σ H Q
theorem Hr{es:List Expr}{k:Nat}{p:TGs}{n:Nat}(j:X.calm=true)(h:PGs X es p)
  (i:(assignEach es X.env).length=n:=by rfl)(m:(assignEach es X.env).findIdx? (·.1)=none:=by rfl):PG X (.Tuple es k pos) (Rq X.K n p):=by
 intro f s d H v u Q I r c;obtain⟨b,a,xs,e1,g,hl,c⟩:=c;cases b with
 |true=>exact gN j h i m f s d H v u Q I r ⟨a,xs,e1,g,hl,c⟩
 |false =>
  subst e1;cases r;obtain⟨its,l,pl,w⟩:=I.list g;refine Rr (I.ok.hd j) pl.isList (by simp[i,←hl,l.length]) m λh' q=>?_;have t:Inv X f d H {s with heap:=h'}:=I.kept (t':=s.toks) λb o e=>q b o (zY (zL e)) e;exact h f _ d H xs _ Q t (by simpa using l) c
end
section
variable {prog:Program} {w:World} {A:Around} {E:VP} {s:Shared}
set_option maxRecDepth 100000 in
end
def Hq(K:Frag)(C0:Addr)(tb:XE->TS)(ts:TS):TS:=λD σ H =>
 tb (λσ' C H'=>PySem.W.exmOne K C (.ref C0)=some true/\ts D σ' H') D σ H
section
variable {X:Cx} {C0:Addr} {x:Str} {np hpos pos:Pos} {body suite:List Stmt} {b₀:Stmt} {tb:XE->TS} {ts:TS}
theorem SP.offsuite{c:PN}{D:Ends}{f:Flow}{s:Shared}{e:Addr}(ok:X.Ok)(h:SP (X.suite e) c D f s):SP X c D f s:=by
 cases f with
 |next=>obtain⟨a,H',b,q⟩:=h;exact⟨a,H',b.offsuite ok,q⟩
 |brk=>obtain⟨a,H',b,q⟩:=h;exact⟨a,H',b.offsuite ok,q⟩
 |cont=>obtain⟨a,H',b,q⟩:=h;exact⟨a,H',b.offsuite ok,q⟩
 |ret u=>obtain⟨v,a,H',b,r,q⟩:=h;exact⟨v,a,H',b.offsuite ok,r,q⟩
theorem Rp(c:X.stack=X.env:: X.outer)(g:X.env.frame=some X.env.locals)(r:X.ex=[])
  (Y:Gl X x)(a4:X.mg x=some (.ref C0))(a5:∀y E m,fP (X.body y E) m->PSs (X.body y E) body (tb m))(a2:∀e,PSs (X.suite e) (b₀:: suite) ts)
  (K:(x == ("__debug__" :Str))=false:=by decide):PS X (.Try body [.ExceptHandler (some (.Name x np)) none (b₀:: suite) hpos] [] [] pos) (Hq X.K C0 tb ts):=by
 intro a s J H D I h;refine wpAny_Try_except (yU (a5 (X.pn++a) (λj T=>wpAny (model X.prog X.w) X.A (noteFrame j X.env) (λ_ a3=>wpAny (model X.prog X.w) X.A (setFlight j none) (λ_ L =>
  wpAny (model X.prog X.w) X.A (handleBy j X.env [.ExceptHandler (some (.Name x np)) none (b₀:: suite) hpos]) (SP X a D) X.xe L) X.xe a3) X.xe T) _ ?_ [] s J H D I.intry h) (λf b q=>?_) λ_ _ q=>q)
 ·intro b2 d H' b e C G F a7;obtain⟨N,a8⟩:=a7;have w:Inv X a d H' b:=G.offtry;obtain⟨B,a0,fl,t,M⟩:=F;have W:Heap.FlyingW B (X.env:: X.outer) e C a0 b.heap:=c ▸ fl;have a6:X.A.frames=some (X.env:: X.outer):=I.ok.frames.trans (by rw[c]);have n:∀p∈X.pn++a,B.get? p.1=some p.2:=λp P=>M p (xU _ P);refine wpAny_looks_onW a6 g W λb0 U v=>?_;refine wpAny_landsW U λk i l=>?_;have o:Inv X a d H' {b with heap:=k}:=w.flown c g r i.1 (v.trans l) t n;have S:Inv (X.suite e) a d H' {b with heap:=k}:=o.insuite;obtain⟨b1,a9,z⟩:=i.there;refine wpAny_handleBy_cons (codeAny_handlers_test (iC (X:=X.suite e) S Y a4 ?_ K)) (by intro q;cases q);have a1:PySem.W.Looks (model X.prog X.w) k (typeOf (.ref e)) C:=by
   rw[←z];exact(qT a9).andThen .now
  refine(PySem.W.exm_one o.kIn a1 N).here ?_;show codeAny _ _ _ _ _;refine codeAny_handlers_suite ?_;refine lands_againW i λR V Z=>?_;have O:Inv X a d H' {b with heap:=R}:=w.flown c g r V.1 ((v.trans l).trans Z) t n;refine yU (a2 e a _ _ _ _ O.insuite a8) (λf b3 q=>?_) λ_ _ q=>q.elim;exact SP.offsuite I.ok q
 ·cases f with
  |next=>exact tU (SP.offtry q)
  |brk=>exact SP.offtry q
  |cont=>exact SP.offtry q
  |ret u=>exact SP.offtry q
end
open Builtin Builtin.Str
section
variable {X:Cx}
def Ro:List V->Hp->VK->Prop:=λxs H Q=>∃n:Nat,xs=[.int n]/\n<=1000/\∀l,H l=none->Q (.ref l) (upd H l (.lst ((List.range n).map λ(i:Nat)=>V.int (i:Int))))
theorem Rn{a:Expr}{r:TA}{C k S d:Pos}(G:X.calm=true)(J:Gl X "list")(Z:X.mg "list"=none)(K:Gl X "range")(D:X.mg "range"=none)(y:PA X [a] r)
  (N:bootBuiltins "list"=some (.type "list"):=by decide +kernel)(P:starEach [a] X.env=[(false,eval a X.env)]:=by rfl)
  (v:starEach [.Call (.Name "range" k) [a] [] d] X.env=[(false,eval (.Call (.Name "range" k) [a] [] d) X.env)]:=by rfl):
  PE X (.Call (.Name "list" C) [.Call (.Name "range" k) [a] [] d] [] S) (tCB Ro r):=by
 intro R s z H Q I h;refine wH (iD I J Z N ?_);refine xP ?_ (by rw[v];rfl) (by rfl);rw[v];show wpAny _ _ (spliced ((false,eval (.Call (.Name "range" k) [a] [] d) X.env):: [])) _ _ s;refine Calls.spliced_cons ?_;refine wH (iD I K D boot_range ?_);refine xP (thn (y d R s z H _ I h) ?_) (by rw[P];rfl) (by rfl);rintro us c ⟨vs,a1,l,r1,U⟩;obtain⟨n,e,t,q⟩:=U;subst e;obtain⟨u,rfl,L⟩:=jE r1;obtain⟨j,rfl⟩:=L;refine call_range_1 ?_;refine Calls.spliced_nil ?_;have k1:∀b o,c.heap.get? b=some o->(c.heap.push {cls:=.type "range",data:=.fields #[.int 0 c.toks,.int n j,.int 1 (c.toks+1)]}).get? b=some o:=λb o e=>zC _ e;refine call_list_range (n:=n) (l.ok.hd G) (IsRange.new ..) (small_one ∅ ∅ ⋯ ⋯) (by rw[rangeSize_one];split <;> omega) (yG t ∅) λh' tk w a0 F M W=>?_;have k2:∀b o,c.heap.get? b=some o->h'.get? b=some o:=λb o e=>F b o (k1 b o e);have p:c.heap.objs.size<=(c.heap.push {cls:=.type "range",data:=.fields #[.int 0 c.toks,.int n j,.int 1 (c.toks+1)]}).objs.size:=by simp[Heap.push]
 have Y:Vals ((List.range n).map λ(i:Nat)=>V.int (i:Int)) w.toList:=by
  obtain⟨m,T⟩:=W;have g:∀(xs:List V)(us:LW),xs.length=us.length->(∀(i:Nat)(x:V)(u:Value),xs[i]?=some x->us[i]?=some u->RelV x u)->Vals xs us:=by
   intro xs
   induction xs with
   |nil=>intro us hl _;cases us with
    |nil=>exact .nil
    |cons _ _=>cases hl
   |cons x xs O=>intro us hl hr;cases us with
    |nil=>cases hl
    |cons u us=>exact .cons (hr 0 x u rfl rfl) (O us (qQ hl) λi x u e1 f=>hr (i+1) x u e1 f)
  refine g _ _ (by rw[yS,uT,zM,m]) λi x u e1 f=>?_;rw[yH]at f;obtain⟨j,rfl⟩:=T i u f;rw[zI]at e1;have hi:i<n:=by rw[←m];exact(Array.getElem?_eq_some_iff.mp f).1
  rw[yW hi]at e1;cases e1;exact⟨j,by rw[sF,rT]⟩
 exact⟨.ref _,_,l.laid (t':=tk) k2 p (show nO X.prog X.w _ h' _ (.lst _) from⟨by rw[yS,uT];exact yG t ∅,w.toList,a0,Y,by rw[Array.toArray_toList];exact M⟩),rfl,q _ (l.hok.fresh p)⟩
end
def qVar(i:Nat):TE:=λσ H Q=>match σ[i]? with
 |some (some v)=>Q v H
 |_=>False
theorem Rm{i:Nat}{a:St}{H:Hp}{Q:VK}(h:qVar i a H Q):tVar i a H Q:=by
 unfold qVar at h;split at h
 ·next v e=>exact⟨v,e,h⟩
 ·exact h.elim
theorem pq{X:Cx}(i:Nat){x:Str}{a:Pos}(e:X.N[i]?=some x:=by rfl)(f:Vis X.env.scope x:=by first|exact Or.inl rfl|exact Or.inr (Or.inl rfl)|exact Or.inr (Or.inr rfl))(c:(x == ("__debug__" :Str))=false:=by decide)
  (b:(x == ("__classdict__" :Str))=false:=by decide):PE X (.Name x a) (qVar i):=λg s d H Q I q=>pv i e f c b g s d H Q I (Rm q)
section
variable {X:Cx} {e:Expr} {ta:TE} {pos p p':Pos} {i:Int} {j:Nat}
theorem oX(a:PE X e ta):PE X (e.Subscript (.Constant (.int i) j p') pos) (tOp (rIxB X.K) ta (tC (.int i))):=nQ ix_B a oN (λ_ _=>rfl)
theorem mL(m:X.mg "len"=none)(a:PE X e ta)(g:Gl X "len" := by rfl)(b:starEach [e] X.env=(false,eval e X.env):: starEach [] X.env:=by rfl):PE X (.Call (.Name "len" p) [e] [] pos) (tCB (dW X.K) (nF ta tNil)):=lN Qi g m (nofun) (oJ a oK b) ∅ ∅ b rfl
end
section
variable {X:Cx} {sc scope:Scope} {fr:List (Str×Nat)} {x:Str} {px:Pos} {iter elt:Expr} {wi:TI} {te:TE} {N:List Str}
theorem nT{g:Pos}(o:X.env.scope=sc)(m:X.N=N)(n:bK sc N scope fr=true)(i:X.calm=true)(j:bL (kP sc scope) ([x]++fr.map (·.1)) 0 x=true)(hi:PI X (.Name x px) iter wi)
  (k:∀(f:Shared)(e:Hp)(c:LA),(mD X scope ([x]++fr.map (·.1)) f e c).env.scope=kP sc scope->PE (mD X scope ([x]++fr.map (·.1)) f e c) elt te)(l:∀x,foldedSetIterable iter X.env x=pure x:=by intro _;rfl):PE X (.ListComp elt [⟨.Name x px,iter,[],0⟩] scope g) (mP wi (nB 0) (tEl te) 1 fr):=
 iJ (xs:=[x]) (kQ o m n) i hi (λ_ _ _ h=>jS (i:=0) h rfl j) (λa b d h=>jI (k a b d h)) (yB _) l
theorem Rl{c e k:Pos}{y:Str}{i:Nat}(u:X.env.scope=sc)(r:X.N=N)(v:bK sc N scope fr=true)(m:X.calm=true)(t:X.N.Nodup)(l:X.N[i]?=some y)(hl:X.env.scope.names.lookup y=some .local)(n:bL (kP sc scope) ([x]++fr.map (·.1)) 0 x=true)(hi:PI X (.Name x px) iter wi)
  (p:∀(f:Shared)(j:Hp)(g:LA),(mD X scope ([x]++fr.map (·.1)) f j g).env.scope=kP sc scope->PE (mD X scope ([x]++fr.map (·.1)) f j g) elt te)
  (o:swapsWith (.ListComp elt [⟨.Name x px,iter,[],0⟩] scope c) (some (.Name y k)) e.line X.env=pure true:=by rfl)(q:∀x,foldedSetIterable iter X.env x=pure x:=by intro _;rfl):PS X (.Assign [.Name y k] (.ListComp elt [⟨.Name x px,iter,[],0⟩] scope c) e) (Gs i (mP wi (nB 0) (tEl te) 1 fr)):=
 Bw (xs:=[x]) (kQ u r v) m t l hl hi (λ_ _ _ h=>jS (i:=0) h rfl n) (λa b d h=>jI (p a b d h)) o (yB _) q
end
structure FunT(K:Frag)(mg:MT)(x:Str)(st:Stmt)(f:Addr)(fd:FuncData)(ps:List Str):Prop extends Fun K x x st f fd where
 m:mg x=some (.ref f)
 b:nZ K fd ps []
section
variable {X:Cx} {k:Nat} {f:Addr} {fd:FuncData} {ps:List Str} {sp:Sp} {x:Str} {st:Stmt} {p pos:Pos} {e:Expr} {es:List Expr} {t:TA}
theorem oQ(F:FnOk X.prog X.w X.K X.mg X.base CX0 k f fd ps sp)(hr:Room k X.A)(c:FunT X.K X.mg x st f fd ps)(g:PA X (e:: es) t)(d:Gl X x:=by rfl)(i:(x == ("__debug__" :Str))=false:=by decide)
  (b:starEach (e:: es) X.env=(false,eval e X.env):: starEach es X.env:=by rfl)(a:(backTo pos (starEach es X.env)).any (·.1)=false:=by rfl):PE X (.Call (.Name x p) (e:: es) [] pos) (mS sp [] E0 t):=dL F hr d c.m c.kp c.b .nil mC g i b a
end
instance decPD:DecidableEq PyData:=λ_ _=>Classical.propDecidable _
noncomputable def tT:Nat->PyData->Bool
 |_,.int _=>true
 |n+1,.tuple xs=>xs.all (tT n)
 |_,_=>false
theorem gX:∀(n:Nat)(d:PyData),tT n d=true->iT n d=true:=by
 intro n
 induction n with
 |zero=>intro d h;cases d <;> simp[tT]at h <;> simp[iT]
 |succ n a =>
  intro d h;cases d <;> simp[tT]at h
  ·simp[iT]
  ·simp only[iT,List.all_eq_true];exactλx b=>a x (h x b)
mutual
noncomputable def jT:PyData->Int
 |.int i=>hashInt i
 |.tuple xs=>reduceHash (Builtin.Tuple.tupleHashOf (dY xs))
 |_=>0
noncomputable def dY:List PyData->LI'
 |[]=>[]
 |d:: ds=>jT d:: dY ds
end
mutual
noncomputable def jU:PyData->Nat
 |.tuple xs=>gY xs+1
 |_=>1
noncomputable def gY:List PyData->Nat
 |[]=>0
 |d:: ds=>jU d+gY ds
end
section
variable {prog:Program} {w:World} {E:VP}
theorem Rj(n:Nat)(g:∀{A:Around}{s:Shared}{v:Value}{d:PyData}{as:LA}{Q:Int->Shared->Prop},tT n d=true->Reads s.heap v d as->A.units+n<cLine->Q (jT d) {s with toks:=s.toks+jU d}->wpAny (model prog w) A (pyHash v) Q E s):
  ∀(xs:List PyData)(vs:LW)(as:LA)(A:Around)(s:Shared)(b:Array Int)(Q:Array Int->Shared->Prop),xs.all (tT n)=true->ReadsAll s.heap vs xs as->A.units+n<cLine ->
  (∀a:Array Int,a.toList=b.toList++dY xs->Q a {s with toks:=s.toks+gY xs}) ->
  wpAny (model prog w) A (forIn vs b λx r=>do let h ←pyHash x;pure PUnit.unit;pure (ForInStep.yield (r.push h))) Q E s:=by
 intro xs
 induction xs with
 |nil =>
  intro vs as A s b Q _ r _ h;cases r;exact zB (h b (by simp[dY]))
 | cons d ds i =>
  intro vs as A s b Q c r e h;cases r with
  |cons r1 r2 =>
   rw[xI,zR]at c;rw[uJ];refine zA (zA (g c.1 r1 e ?_));refine zA (zB (zB ?_));refine i _ _ A {s with toks:=s.toks+jU d} (b.push (jT d)) Q c.2 r2 e λa f=>?_;have:=h a (by rw[f];simp[dY]);rw[show s.toks+gY (d:: ds)=s.toks+jU d+gY ds by simp[gY,Nat.add_assoc]]at this;exact this
theorem Ri:∀(n:Nat){A:Around}{s:Shared}{v:Value}{d:PyData}{as:LA}{Q:Int->Shared->Prop},tT n d=true->Reads s.heap v d as->A.units+n<cLine->Q (jT d) {s with toks:=s.toks+jU d}->wpAny (model prog w) A (pyHash v) Q E s:=by
 intro n
 induction n with
 |zero =>
  intro A s v d as Q c r i h;cases r <;> simp[tT]at c;exact qR (by simpa [jT,jU]using h)
 | succ n f =>
  intro A s v d as Q c r i h;cases r <;> simp only[tT,Bool.false_eq_true]at c
  case int=>exact qR (by simpa [jT,jU]using h)
  case tuple a o vs m xs hg hc hd hr =>
   unfold pyHash;refine PySem.W.pyHash_slot (T:= "tuple") ⟨_,hg,hc⟩ PySem.F.slot_tuple_hash PySem.F.entry_tuple_hash (PySem.F.args_tuple_hash_1 _) (beq_builtin_none _) (.inr ⋯) ?_;show wpAny _ _ (Builtin.Tuple.tupleItemsOf (.ref a) >>= _) _ _ s;refine zA (rZ hg hd ?_);refine zA ?_;rw[←Array.forIn_toList];refine Rj n f xs vs.toList _ A.in1 s #[] _ c hr (by show A.units+1+n<cLine;omega) λb g=>?_;show wpAny _ _ (retInt (Builtin.Tuple.tupleHashOf b.toList)) _ _ _;rw[g];refine zA (wpAny_mkInt (zB ⟨_,_,rfl,?_⟩));have e:s.toks+gY xs+1=s.toks+jU (.tuple xs):=by simp[jU,Nat.add_assoc]
   simp only[jT]at h;rw[←e]at h;exact h
theorem Rh:∀(n m:Nat),n<m->∀{A:Around}{s:Shared}{v:Value}{d:PyData}{as:LA}{Q:Bool->Shared->Prop},tT n d=true->Reads s.heap v d as->Q true s->wpAny (model prog w) A (eqIsQuiet m v) Q E s:=by
 intro n
 induction n with
 |zero =>
  intro m _ A s v d as Q b r h;cases r <;> simp[tT]at b;rw[eqIsQuiet_byValue _ rfl];exact zB h
 | succ n i =>
  intro m p A s v d as Q b r h;cases r <;> simp only[tT,Bool.false_eq_true]at b
  case int=>rw[eqIsQuiet_byValue _ rfl];exact zB h
  case tuple a o vs k xs hg hc hd hr =>
   obtain⟨m,rfl⟩:∃j,m=j+1:=⟨m-1,⋯⟩;have g:s.TypeIs (.ref a) "tuple" := ⟨o,hg,hc⟩;unfold eqIsQuiet;refine zA (wpAny_specialOf g PySem.F.slot_tuple_eq.lookup ?_);show wpAny _ _ (isInstance (.ref a) (.type "tuple") >>= _) _ _ s;refine zA (vY g isSubtype_tuple_tuple ?_);simp only[Bool.not_true,Bool.false_eq_true,if_false];refine zA (wJ hg hd ?_);refine zA ?_;show wpAny _ _ (forIn vs _ _) _ _ s;rw[←Array.forIn_toList];refine wpAny_forIn_list _ (λrest q f=>q.1=none/\f=s/\∃ys bs,ys.all (tT n)=true/\ReadsAll s.heap rest ys bs) _ ?_ ?_ _ _ ⟨rfl,rfl,xs,_,b,hr⟩
   ·rintro u rest q f ⟨c,rfl,ys,bs,e,l⟩;cases l with
    |cons r1 r2 =>
     rw[xI,zR]at e;refine zA (i m ⋯ e.1 r1 ?_);simp only[Bool.not_true,Bool.false_eq_true,if_false];exact zB ⟨rfl,rfl,_,_,e.2,r2⟩
   ·rintro⟨r1,r2⟩ f ⟨c,rfl,_⟩;simp only at c;subst c;exact zB h
end
theorem Rg{h h':Heap}{x:Addr}{c:Obj}{es:Array DictEntry}{ep:Nat}(f:h.get? x=some c)(g:c.data=.dict es ep)(j:Heap.SameBut x h h'):∀(n:Nat){v:Value}{d:PyData}{as:LA},tT n d=true->Reads h v d as->Reads h' v d as:=by
 intro n
 induction n with
 |zero =>
  intro v d as b r;cases r <;> simp[tT]at b;exact .int _ _
 | succ n i =>
  have all:∀(xs:List PyData)(vs:LW)(as:LA),xs.all (tT n)=true->ReadsAll h vs xs as->ReadsAll h' vs xs as:=by
   intro xs
   induction xs with
   |nil=>intro vs as _ r;cases r;exact .nil
   | cons d ds l =>
    intro vs as b r;cases r with
    |cons r1 r2 =>
     rw[xI,zR]at b;exact .cons (i b.1 r1) (l _ _ b.2 r2)
  intro v d as b r;cases r <;> simp only[tT,Bool.false_eq_true]at b
  case int=>exact .int _ _
  case tuple a o vs k xs hg hc hdd hr =>
   have e:a≠x:=by
    rintro rfl;rw[f]at hg;cases hg;rw[g]at hdd;cases hdd
   exact .tuple ((j.2 a e).trans hg) hc hdd (all _ _ _ b hr)
def isT(h:Heap)(d:PyData)(a:Addr):Prop:=tT 4 d=true/\∃as,Reads h (.ref a) d as
noncomputable def kD(prog:Program)(w:World):HeapKind prog w PyData where
 is:=isT
 hash:=jT
 draws:=jU
 room:=λA=>A.units+8<cLine
 inj:=λ{h a x y}hx hy=>by
  obtain⟨t1,as,r1⟩:=hx;obtain⟨t2,bs,r2⟩:=hy;exact PySem.SeqAt.Reads.unique _ _ _ _ _ (iK 4 _ (gX 4 _ t1)).1 r1 r2
 keeps:=λ{h h' k a x o es ep}hk hx hd hs=>⟨hk.1,let ⟨as,r⟩:=hk.2;⟨as,Rg hx hd hs 4 hk.1 r⟩⟩
 pyHash:=λ{A E s k a Q}hu hk h=>let ⟨as,r⟩:=hk.2;Ri 4 hk.1 r ⋯ h
 eqBool:=λ{A E s x y a b Q}hu hx hy h=>by
  obtain⟨t1,as,r1⟩:=hx;obtain⟨t2,bs,r2⟩:=hy;have i1:=gX 4 _ t1;have i2:=gX 4 _ t2;have l1:=iK 4 _ i1;have l2:=iK 4 _ i2;refine PySem.SeqAt.eqBoolOverData _ _ _ _ _ _ _ _ _ _ _ _ r1 r2 l1.1 l2.1 ⋯ ?_;rw[←SeqAt.same_eq_eqv _ _ (bR 4 _ _ i1 i2)];have e:=bT 4 _ _ i1 i2
  by_cases z:x=y
  ·rw[zP z]at h;rw[e.mpr z];exact h
  ·rw[zN z]at h;have:same x y=false:=by
    cases q:same x y with
    |false=>rfl
    |true=>exact absurd (e.mp q) z
   rw[this];exact h
 quiet:=λ{A E s k a Q}hk h=>let ⟨as,r⟩:=hk.2;Rh 4 8 ∅ hk.1 r h
noncomputable def mH(a:Addr)(xs:List (PyData×Addr×Value)):HO:=.ext λh=>∃o es ep,h.get? a=some o/\o.ExactDict/\o.data=.dict es ep/\es.toList=xs.map λx=>⟨jT x.1,.ref x.2.1,x.2.2⟩
theorem Ho{o:Option V}{u:Option Value}(h:RelO o u):o.isSome=u.isSome:=by
 cases o <;> cases u <;> first|rfl|exact h.elim
def vT(kvs:List (PyData×V))(k:PyData):Option V:=(kvs.find? λkv=>decide (kv.1=k)).map (·.2)
def pT(kvs:List (PyData×V))(k:PyData)(v:V):List (PyData×V):=if(vT kvs k).isSome=true then kvs.map (λkv=>if kv.1=k then(kv.1,v) else kv) else kvs++[(k,v)]
theorem dZ{p:PyData×V}{r:List (PyData×V)}{k:PyData}(e:p.1=k):vT (p:: r) k=some p.2:=by simp[vT,List.find?_cons,e]
theorem gZ{p:PyData×V}{r:List (PyData×V)}{k:PyData}(e:¬ p.1=k):vT (p:: r) k=vT r k:=by simp[vT,List.find?_cons,e]
abbrev KP(K:Frag)(H:Hp):List (PyData×V)->List (PyData×Addr×Value)->Prop:=Paired λp q=>p.1=q.1/\(tT 4 p.1=true/\Dt K H (.ref q.2.1) p.1)/\RelV p.2 q.2.2
structure DTr(K:Frag)(H:Hp)(a:Addr)(kvs:List (PyData×V)):Prop where
 len:kvs.length<=sizeLine
 sys:(a == sysModules)=false
 ex:∃xs,H a=some (mH a xs)/\(xs.map (·.1)).Nodup/\KP K H kvs xs
theorem KP.val{K:Frag}{H:Hp}{kvs:List (PyData×V)}{xs:List (PyData×Addr×Value)}(r:KP K H kvs xs)(k:PyData):RelO (vT kvs k) ((atKey xs k).map (·.2)):=by
 induction r with
 |nil=>exact True.intro
 | @cons p q ps a h i f =>
  obtain⟨c,_,g⟩:=h
  by_cases e:p.1=k
  ·have b:atKey (q:: a) k=some q.2:=by simp[atKey,List.find?_cons,c.symm.trans e]
   rw[dZ e,b];exact g
  ·have d:¬ q.1=k:=λz=>e (c.trans z);have b:atKey (q:: a) k=atKey a k:=by simp[atKey,List.find?_cons,d]
   rw[gZ e,b];exact f
theorem KP.put{K:Frag}{H:Hp}{kvs:List (PyData×V)}{xs:List (PyData×Addr×Value)}(r:KP K H kvs xs)(k:PyData){b:Addr}{y:V}{u:Value}(tk:tT 4 k=true)(f:Dt K H (.ref b) k)(d:RelV y u):KP K H (pT kvs k y) (storedH xs k b u):=by
 have e:(vT kvs k).isSome=(atKey xs k).isSome:=by rw[Ho (r.val k),Option.isSome_map]
 unfold pT storedH;rw[e]
 by_cases q:(atKey xs k).isSome=true
 ·rw[zF q,zF q];clear e q
  induction r with
  |nil=>exact .nil
  |@cons p q ps j h l i =>
   rw[zK,zK];refine .cons ?_ i;obtain⟨a,c,g⟩:=h;unfold putAt
   by_cases e:p.1=k
   ·rw[zF e,zF (a.symm.trans e)];exact⟨a,c,d⟩
   ·rw[zD e,zD (λz=>e (a.trans z))];exact⟨a,c,g⟩
 ·rw[zD q,zD q];exact Paired.snoc r ⟨rfl,⟨tk,f⟩,d⟩
theorem kJ{K:Frag}{H H':Hp}(e:∀b xs,SqT K H b xs->SqT K H' b xs):∀(n:Nat){x:V}{d:PyData},tT n d=true->Dt K H x d->Dt K H' x d:=by
 intro n
 induction n with
 |zero =>
  intro x d h r;cases r <;> simp[tT]at h;exact .int _
 | succ n c =>
  have all:∀(ds:List PyData)(xs:List V),ds.all (tT n)=true->Dts K H xs ds->Dts K H' xs ds:=by
   intro ds
   induction ds with
   |nil=>intro xs _ r;cases r;exact .nil
   | cons d ds f =>
    intro xs h r;cases r with
    |cons r1 r2 =>
     rw[xI,zR]at h;exact .cons (c h.1 r1) (f _ h.2 r2)
  intro x d h r;cases r <;> simp only[tT,Bool.false_eq_true]at h
  case int=>exact .int _
  case tup a xs ds hq hr=>exact .tup (e _ _ hq) (all _ _ h hr)
theorem Hn{K:Frag}{H:Hp}{a:Addr}{o:HO}(d:∀xs,¬ Rd H a (.tup xs)):∀b xs,SqT K H b xs->SqT K (upd H a o) b xs:=λb xs h=>by
 rcases h with h|h
 ·have c:b≠a:=λe=>d xs (e ▸ h);rcases h with h|⟨f,h⟩
  ·exact .inl (.inl (by rw[oT c];exact h))
  ·exact .inl (.inr ⟨f,by rw[oT c];exact h⟩)
 ·exact .inr h
theorem KP.keeps{K:Frag}{H H':Hp}{kvs:List (PyData×V)}{xs:List (PyData×Addr×Value)}(r:KP K H kvs xs)(a:∀b ys,SqT K H b ys->SqT K H' b ys):KP K H' kvs xs:=
 Paired.mapP r λ_ _ z=>⟨z.1,⟨z.2.1.1,kJ a 4 z.2.1.1 z.2.1.2⟩,z.2.2⟩
theorem lP{K:Frag}{H H':Hp}(s:Same H H'):∀b xs,SqT K H b xs->SqT K H' b xs:=λb xs h=>by
 rcases h with(h|⟨o,h⟩)|h
 ·exact .inl (.inl (s _ _ h))
 ·exact .inl (.inr ⟨o,s _ _ h⟩)
 ·exact .inr h
theorem DTr.up{K:Frag}{H H':Hp}{a:Addr}{kvs:List (PyData×V)}(h:DTr K H a kvs)(s:Same H H'):DTr K H' a kvs:=by
 obtain⟨l,y,xs,e,n,r⟩:=h;exact⟨l,y,xs,s _ _ e,n,r.keeps (lP s)⟩
section
variable {X:Cx} {pins:PN} {σ:St} {H:Hp} {s:Shared} {a:Addr}
theorem fA{k:PyData}{b:Addr}(I:Inv X pins σ H s)(tk:tT 4 k=true)(c:Dt X.K H (.ref b) k):(kD X.prog X.w).is s.heap k b:=⟨tk,c.reads I rfl⟩
theorem fB{kvs:List (PyData×V)}(I:Inv X pins σ H s)(g:DTr X.K H a kvs):∃xs,H a=some (mH a xs)/\KP X.K H kvs xs/\s.heap.DictOfH (kD X.prog X.w) a xs:=by
 obtain⟨_,_,xs,e,n,r⟩:=g;obtain⟨⟨o,es,ep,k,j,d,i⟩,_⟩:=(show nO X.prog X.w H s.heap a (mH a xs) from I.hok a _ e);refine⟨xs,e,r,o,es,ep,k,j,d,i,λx b=>?_,n⟩;have all:∀{l:List (PyData×V)}{m:List (PyData×Addr×Value)},KP X.K H l m->∀x∈m,(kD X.prog X.w).is s.heap x.1 x.2.1:=by
  intro l m q
  induction q with
  |nil=>intro x b;exact nomatch b
  |@cons p q ps t c u f =>
   intro x b;rcases xH.mp b with e|b
   ·subst e;rw[←c.1];exact fA I c.2.1.1 c.2.1.2
   ·exact f x b
 exact all r x b
end
def bW(K:Frag):R2:=λx y H Q=>∃a kvs b k v,x=.ref a/\y=.ref b/\DTr K H a kvs/\tT 4 k=true/\Dt K H (.ref b) k/\vT kvs k=some v/\Q v H
def rInT(K:Frag)(neg:Bool):R2:=λy x H Q=>∃a kvs b k,x=.ref a/\y=.ref b/\DTr K H a kvs/\tT 4 k=true/\Dt K H (.ref b) k/\Q (.bl (if neg=true then !(vT kvs k).isSome else(vT kvs k).isSome)) H
def Rf(K:Frag):TSet:=λx y v H Q=>∃a kvs b k,x=.ref a/\y=.ref b/\DTr K H a kvs/\tT 4 k=true/\Dt K H (.ref b) k/\kvs.length<sizeLine/\∀H',(∀c o,c≠a->H c=some o->H' c=some o)->(∀c,c≠a->H' c=H c)->DTr K H' a (pT kvs k v)->Q H'
section
variable {X:Cx}
theorem ix_T(D:X.A.units+64<cLine):IxR X (bW X.K):=by
 intro F C G s w H x y v u Q I j o h m;obtain⟨a,kvs,b,k,z,rfl,rfl,g,tk,i,n,q⟩:=h;cases j;cases o;obtain⟨xs,e,r,dd⟩:=fB I g;obtain⟨d,l,f⟩:=RelO.some_of (v:=z) (o:=(atKey xs k).map (·.2)) (by rw[←n];exact r.val k);obtain⟨p,t,c⟩:=Option.map_eq_some_iff.mp l;refine sQ (x:=d) dd.typeIs PySem.F.slot_dict_getitem.lookup ?_ m;refine wpAny_getItem_heap (knd:=kD X.prog X.w) (show X.A.units+1+8<cLine by omega) (fA I tk i) dd t ⟨c,z,H,I.tok _,?_,q⟩;rw[c];exact f
theorem Re(j:X.A.units+64<cLine):OpR X (compareOp .NotIn) (rInT X.K true):=by
 intro l s i H x y v u Q I d f h;obtain⟨a,kvs,b,k,rfl,rfl,g,tk,c,q⟩:=h;cases d;cases f;obtain⟨xs,e,r,dd⟩:=fB I g;refine wpAny_notIn_heap (knd:=kD X.prog X.w) (show X.A.units+1+8<cLine by omega) (fA I tk c) g.sys dd ?_;have e:=Ho (r.val k);rw[Option.isSome_map]at e;rw[←e];exact⟨.bl _,H,I.tok _,rfl,q⟩
theorem Rc(kvs:List (PyData×V))(k:PyData)(v:V):(pT kvs k v).length<=kvs.length+1:=by
 unfold pT;split
 ·rw[yS];omega
 ·rw[yE];exact zE _
theorem bX{P:Program}{w:World}{H:Hp}{h:Heap}{a:Addr}{xs:List (PyData×Addr×Value)}{o:Obj}{es:Array DictEntry}{ep:Nat}(c:h.get? a=some o)(j:o.ExactDict)(f:o.data=.dict es ep)(i:es.toList=xs.map λx=>⟨jT x.1,.ref x.2.1,x.2.2⟩):nO P w H h a (mH a xs):=
 ⟨⟨o,es,ep,c,j,f,i⟩,⟨o,c⟩,λn m⟨b,g,e,d,l⟩k=>⟨b,g,e,k b d,l⟩⟩
theorem Hm(N:X.A.units+64<cLine):PSet X (Rf X.K):=by
 intro M s J H o i v K L u Q I C x F h;obtain⟨a,kvs,b,k,rfl,rfl,g,tk,j,hl,q⟩:=h;cases C;cases x;obtain⟨xs,e,r,dd⟩:=fB I g;have p:xs.length<=sizeLine:=by rw[←Paired.length r];exact g.len
 have y:∀ys,¬ Rd H a (.tup ys):=λys z=>by
  rcases z with z|⟨f,z⟩
  ·rw[e]at z;cases z
  ·rw[e]at z;cases z
 refine wpAny_setItem_heap (knd:=kD X.prog X.w) (hsz:=p) (show X.A.units+1+8<cLine by omega) (fA I tk j) dd λh' G t=>?_;obtain⟨f,es,ep,l,w,m,n,_,D⟩:=G;refine⟨upd H a (mH a (storedH xs k b u)),I.write (x:=a) (e:=a) (by rw[e];exact True.intro) (.inl rfl) (λc o d z=>(t.2 c d).trans z) ⟨f,l⟩ (bX l w m n),?_⟩;refine q _ (λc o d z=>by rw[oT d];exact z) (λc d=>oT d) ⟨by have:=Rc kvs k v;omega,g.sys,_,oP,D,(r.put k tk j F).keeps (Hn y)⟩
end
section
variable {X:Cx} {pos:Pos}
theorem Bp{a:PN}{b:St}{H:Hp}{s:Shared}(I:Inv X a b H s):sysModules<s.heap.objs.size:=
 Nat.lt_trans ∅ (show mainGlobals<s.heap.objs.size from(I.mod.glob.keeps I.bk).lt)
theorem Hl{P:Program}{w:World}{H:Hp}(h:Heap):nO P w H (h.push {cls:=.type "dict",data:=.dict #[]}) h.objs.size (mH h.objs.size []):=
 bX (es:=#[]) (ep:=0) (zS _ rfl) ⟨rfl,rfl,rfl⟩ rfl rfl
theorem Hk{K:Frag}{H:Hp}{p:Addr}(a:(p == sysModules)=false)(e:H p=some (mH p [])):DTr K H p []:=⟨yB _,a,[],e,uX,.nil⟩
def Hj(K:Frag):TE:=λ_ H Q=>∀p,H p=none->DTr K (upd H p (mH p [])) p []->Q (.ref p) (upd H p (mH p []))
theorem Rb:PE X (.Dict [] [] pos) (Hj X.K):=λa s b H Q I h =>
 wpAny_Dict_empty ⟨.ref s.heap.objs.size,_,I.laid (a:=s.heap.objs.size) (o:=mH s.heap.objs.size []) (t':=s.toks) (λ_ _ q=>zC _ q) (zE _) (Hl s.heap),rfl,
  h _ (I.hok.fresh (zE _)) (Hk (pY.mpr (yA (zY (Bp I)))) oP)⟩
def Hi(K:Frag)(tk tv:TE):TE:=λσ H Q=>∀p,H p=none->tk σ (upd H p (mH p [])) λx H1=>tv σ H1 λy H2=>∃b d,x=.ref b/\tT 4 d=true/\Dt K H2 (.ref b) d/\H2 p=some (mH p [])/\∀H3,(∀c,c≠p->H3 c=H2 c)->DTr K H3 p [(d,y)]->Q (.ref p) H3
theorem Ra{k v:Expr}{tk n:TE}(a3:X.A.units+64<cLine)(G:PE X k tk)(V:PE X v n):PE X (.Dict [some k] [v] pos) (Hi X.K tk n):=by
 intro p s j H Q I q;have M:=I.hok.fresh (zE s.heap.objs.size);have m:(s.heap.objs.size == sysModules)=false:=pY.mpr (yA (zY (Bp I)));have T:=I.laid (a:=s.heap.objs.size) (o:=mH s.heap.objs.size []) (h':=s.heap.push {cls:=.type "dict",data:=.dict #[]}) (t':=s.toks) (λ_ _ q=>zC _ q) (zE _) (Hl s.heap);rw[arm_eval_Dict,zip_pairTrees [some k] [v] X.env pos rfl rfl,dictDisplay_pairs (pairTrees [some k] [v] X.env pos) (by intro e;cases e) (show 1<17 by decide)];refine zA (wS (zA ?_));unfold subDict;refine zA (wpAny_alloc ?_);refine zA (xB ?_);rw[zF (show(pairTrees [some k] [v] X.env pos).length<=15 from(show 1<=15 by decide))];refine zA (pairTrees_cons_walk (thn (G p _ j _ _ T (q _ M)) λu Y⟨x,F,P,K,S⟩=>thn (V p Y j F _ P S) λJ a2⟨y,i,g,L,b,d,a0,f,t,e,Z⟩=>pairTrees_nil_walk ?_));subst a0;cases K;refine xB ?_;obtain⟨xs,a1,r,dd⟩:=fB g (Hk m e);cases r;refine zA ?_;rw[uJ];refine zA (zA (wpAny_dictSet_heap (knd:=kD X.prog X.w) (hsz:=yB _) (show X.A.units+8<cLine by omega) (fA g f t) dd λh' W N=>zB ?_));refine zB (zB (zB (zB ?_)));obtain⟨l,es,ep,w,O,C,D,_,U⟩:=W;have R:∀ys,¬ Rd i s.heap.objs.size (.tup ys):=λys z=>by
  rcases z with z|⟨l,z⟩
  ·rw[e]at z;cases z
  ·rw[e]at z;cases z
 refine⟨.ref s.heap.objs.size,upd i s.heap.objs.size (mH s.heap.objs.size (storedH [] d b J)),g.write (x:=s.heap.objs.size) (e:=s.heap.objs.size) (by rw[e];exact True.intro) (.inl rfl) (λc o a z=>(N.2 c a).trans z) ⟨l,w⟩ (bX w O C D),rfl,?_⟩;exact Z _ (λc a=>oT a) ⟨by show 1<=sizeLine;decide,m,_,oP,U,.cons ⟨rfl,⟨f,kJ (Hn R) 4 f t⟩,L⟩ .nil⟩
def Sz(K:Frag):V->List V->Hp->VK->Prop:=λx vs H Q=>∃a kvs b k,x=.ref a/\vs=[.ref b]/\DTr K H a kvs/\tT 4 k=true/\Dt K H (.ref b) k/\Q ((vT kvs k).getD .non) H
def tBMR(K:Frag)(r:V->List V->Hp->VK->Prop)(to:TE)(ta:TA):TE:=λσ H Q=>to σ H λx H1=>(∃a kvs,x=.ref a/\DTr K H1 a kvs)/\ta σ H1 λvs H2=>r x vs H2 Q
theorem bY{T:String}{o e:Expr}{es:List Expr}{name:Str}{id:String}{f b:Pos}{k:TE}{j:TA}{r:V->List V->Hp->VK->Prop}(m:PlainAttrs "dict")(y:Slot "dict" name id)(D:typeOf (.builtin id)=pure (.type "method_descriptor"))(J:MtM X id r)(w:PE X o k)(p:PA X (e:: es) j)
  (u:attributeBase o name X.env (eval o X.env)=eval o X.env:=by rfl)
  (q:((backTo b (starEach (e:: es) X.env)).all (λx=>!x.1) && (backToKw b (keywordEach [] X.env)).all (λx=>x.1.isSome)
   && decide ((e:: es).length+([]:List Keyword).length+(if([]:List Keyword).isEmpty then 0 else 1)<30))=true:=by rfl)
  (C:(f.endLine == b.line)=true:=by rfl)(z:starEach (e:: es) X.env=(false,eval e X.env):: starEach es X.env:=by rfl)(G:(backTo b (starEach es X.env)).any (·.1)=false:=by rfl):
  PE X (.Call (.Attribute o name f) (e:: es) [] b) (tBMR X.K r k j):=by
 intro d s c H Q I h;refine wpAny_Call_method_late u q C rfl (thn (w d s c H _ I h) ?_);rintro v M ⟨x,t,l,r1,ty,K⟩;obtain⟨a,kvs,rfl,g⟩:=ty;cases r1;obtain⟨xs,O,r,dd⟩:=fB l g;refine⟨"dict",id,m,y,D,dd.typeIs,dictOfH_noDict dd,?_⟩;have i:=p b d M c t _ l K;rw[z]at i ⊢;refine uN (by show(false || (backTo b (starEach es X.env)).any (·.1))=false;rw[G] <;> rfl) (vS ?_);exact thn i λus L⟨vs,n,F,r2,N⟩=>J d L c n (.ref a) vs _ us Q F rfl r2 N
theorem Sy{o:Option V}{u:Option Value}{d:V}{r:Value}(h:RelO o u)(a:RelV d r):RelV (o.getD d) (u.getD r):=by
 cases o <;> cases u <;> first|exact a|exact h.elim|exact h
theorem bZ(l:X.A.units+64<cLine):MtM X "dict.get" (Sz X.K):=by
 intro m s j H x vs v us Q I f d h;obtain⟨a,kvs,b,k,rfl,rfl,g,tk,c,q⟩:=h;cases f;obtain⟨u,rfl,i⟩:=d.one;cases i;obtain⟨xs,e,r,dd⟩:=fB I g;refine call_meetsIn vM dd.typeIs PySem.F.entry_dict_get (PySem.F.args_dict_get_2 _ _) (meetsH_dict_get (kD X.prog X.w) a b g.sys) ⟨show X.A.units+1+8<cLine by omega,k,xs,fA I tk c,dd,⟨_,H,I.tok _,?_,q⟩⟩;exact Sy (r.val k) rfl
end
noncomputable def kK:Bool->Keyed->Array Keyed->Nat->Nat->Nat->StateT SortSt Sem (Option Nat):=sortPriv%PySem.Builtin.gallop
noncomputable def fC(left:Bool)(key:Keyed)(arr:Array Keyed)(base i:Nat):StateT SortSt Sem (Option Bool):=do
 let x ←elem' arr (base+i)
 if left then lt' x key else return (←lt' key x).map (!·)
theorem Sx(left:Bool)(c:Keyed)(arr:Array Keyed)(base n a:Nat):kK left c arr base n a=(do
 let mut lastofs:=0
 let mut ofs:=1
 let mut lo:=0
 let mut hi:=0
 let some right ←fC left c arr base a|return none
 if right then
  let b:=n-a
  for _ in[0:n] do
   if ofs≥b then break
   let some more ←fC left c arr base (a+ofs)|return none
   if !more then break
   lastofs:=ofs
   ofs:=2*ofs+1
  lo:=a+lastofs+1
  hi:=a+min ofs b
 else
  let b:=a+1
  for _ in[0:n] do
   if ofs≥b then break
   let some found ←fC left c arr base (a-ofs)|return none
   if found then break
   lastofs:=ofs
   ofs:=2*ofs+1
  lo:=a+1-min ofs b
  hi:=a-lastofs
 for _ in[0:n] do
  if lo≥hi then break
  let m:=lo+(hi-lo)/2
  let some more ←fC left c arr base m|return none
  if more then lo:=m+1 else hi:=m
 return some hi):=rfl
section
variable {prog:Program} {w:World} {A:Around} {E:VP} {s:Shared} {κ:PyProof.Rows.KeyKind} {kd:SortKind}
def Cmp(prog:Program)(w:World)(A:Around)(s:Shared)(κ:PyProof.Rows.KeyKind)(kd:SortKind):Prop:=
 ∀(E:VP)(x y:Value)(a b:κ.α)(Q:Bool->Shared->Prop),κ.keyOf x=some a->κ.keyOf y=some b->Q (κ.blt a b) s->wpAny (model prog w) A (keyLt' kd x y) Q E s
noncomputable def ky(κ:PyProof.Rows.KeyKind)(p:Keyed):κ.α:=(κ.keyOf p.1).getD κ.dflt
def Gd(κ:PyProof.Rows.KeyKind)(p:Keyed):Prop:=∃a,κ.keyOf p.1=some a
noncomputable def lq(κ:PyProof.Rows.KeyKind)(p q:Keyed):Bool:=κ.blt (ky κ p) (ky κ q)
theorem Hh{p:Keyed}(h:Gd κ p):κ.keyOf p.1=some (ky κ p):=by
 obtain⟨a,e⟩:=h;unfold ky;rw[e];rfl
theorem cC(a:Cmp prog w A s κ kd){st:SortSt}{x y:Keyed}{Q:Option Bool->SortSt->Prop}(d:kindOf st=kd)(c:Gd κ x)(b:Gd κ y)(h:Q (some (lq κ x y)) st):wpS (model prog w) A E s (lt' x y) Q st:=by
 rw[lt'_eq];refine zG (tD ?_);rw[d];refine zG (rS (vP (a _ x.1 y.1 _ _ _ (Hh c) (Hh b) ⟨rfl,?_⟩)));exact zH h
theorem mV{st:SortSt}{arr:Array Keyed}{i:Nat}{p:Keyed}{Q:Keyed->SortSt->Prop}(hi:arr[i]?=some p)(h:Q p st):wpS (model prog w) A E s (elem' arr i) Q st:=by
 rw[elem'_eq,hi];exact zH h
noncomputable def bey(κ:PyProof.Rows.KeyKind)(left:Bool)(key p:Keyed):Bool:=if left=true then lq κ p key else !lq κ key p
theorem Sw(b:Cmp prog w A s κ kd){st:SortSt}{left:Bool}{a p:Keyed}{arr:Array Keyed}{base i:Nat}{Q:Option Bool->SortSt->Prop}(e:kindOf st=kd)(c:Gd κ a)(f:arr[base+i]?=some p)(d:Gd κ p)(h:Q (some (bey κ left a p)) st):
  wpS (model prog w) A E s (fC left a arr base i) Q st:=by
 unfold fC;refine zG (mV f ?_);unfold bey at h;cases left with
 |true =>
  rw[zF rfl]at h ⊢;exact cC b e d c h
 |false =>
  rw[zD (by simp)]at h ⊢;exact zG (cC b e c d (zH h))
theorem Hg{st:SortSt}{n lo hi:Nat}{B:Nat->Bool}{f:Nat->StateT SortSt Sem (Option Bool)}{Q:Option Nat->SortSt->Prop}
  (g:∀(i:Nat)(R:Option Bool->SortSt->Prop),i<n->R (some (B i)) st->wpS (model prog w) A E s (f i) R st)(q:lo<=hi)(o:hi<=n)(mono:∀i j,i<=j->j<n->B j=true->B i=true)(t:∀i,i<lo->B i=true)(r:∀i,hi<=i->i<n->B i=false)
  (h:∀k,k<=n->(∀i,i<k->B i=true)->(∀i,k<=i->i<n->B i=false)->Q (some k) st):
  wpS (model prog w) A E s (do
   let mut lo:=lo
   let mut hi:=hi
   for _ in[0:n] do
    if lo≥hi then break
    let m:=lo+(hi-lo)/2
    let some more ←f m|return none
    if more then lo:=m+1 else hi:=m
   return some hi) Q st:=by
 refine zG (wK (xK (I:=λx c d=>d=st/\∃lo hi,c=(none,lo,hi)/\lo<=hi/\hi<=n/\hi-lo+x<=n/\(∀i,i<lo->B i=true)/\∀i,hi<=i->i<n->B i=false)
  (Q:=λc d=>d=st/\∃k,c=(none,k,k)/\k<=n/\(∀i,i<k->B i=true)/\∀i,k<=i->i<n->B i=false) ?_ ?_ ⟨rfl,lo,hi,rfl,q,o,⋯,t,r⟩) ?_)
 ·rintro x c d _ v ⟨rfl,lo,hi,rfl,p,b,u,a,e⟩;dsimp only
  by_cases hl:lo≥hi
  ·rw[zF hl];exact zH ⟨rfl,hi,by rw[show lo=hi by omega],b,λi hi'=>a i ⋯,e⟩
  ·rw[zD hl];refine zG (g _ _ ⋯ ?_);dsimp only;cases hb:B (lo+(hi-lo)/2) with
   |true =>
    rw[zF rfl];refine zH ⟨rfl,_,_,rfl,⋯,b,⋯,λi hi'=>?_,e⟩;exact mono i _ ⋯ ⋯ hb
   |false =>
    rw[zD (by simp)];refine zH ⟨rfl,_,_,rfl,⋯,⋯,⋯,a,λi hi' l=>?_⟩;cases hbi:B i with
    |false=>rfl
    |true=>rw[mono _ i hi' l hbi]at hb;cases hb
 ·rintro c d ⟨rfl,lo,hi,rfl,p,b,u,a,e⟩;have:lo=hi:=⋯
  subst this;exact⟨rfl,lo,rfl,b,a,e⟩
 ·rintro c d ⟨rfl,k,rfl,b,a,e⟩;exact zH (h k b a e)
theorem cD(D:Cmp prog w A s κ kd){st:SortSt}{left:Bool}{o:Keyed}{arr:Array Keyed}{base n b:Nat}{B:Nat->Bool}{Q:Option Nat->SortSt->Prop}(C:kindOf st=kd)(F:Gd κ o)(v:b<n)
  (I:∀i,i<n->∃p,arr[base+i]?=some p/\Gd κ p/\bey κ left o p=B i)(mono:∀i j,i<=j->j<n->B j=true->B i=true)
  (h:∀k,k<=n->(∀i,i<k->B i=true)->(∀i,k<=i->i<n->B i=false)->Q (some k) st):wpS (model prog w) A E s (kK left o arr base n b) Q st:=by
 have m:∀(i:Nat)(R:Option Bool->SortSt->Prop),i<n->R (some (B i)) st->wpS (model prog w) A E s (fC left o arr base i) R st:=λi R hi r=>by
  obtain⟨p,e1,G,z⟩:=I i hi;exact Sw D C F e1 G (by rw[z];exact r)
 rw[Sx];refine zG (m b _ v ?_);dsimp only;cases hh:B b with
 | true =>
  rw[zF rfl];refine zG (wK (xK (I:=λx c e=>e=st/\∃lo a,c=(none,lo,a)/\x+1<=a/\lo<a/\b+lo<n/\B (b+lo)=true)
   (Q:=λc e=>e=st/\∃lo a,c=(none,lo,a)/\lo<a/\b+lo<n/\B (b+lo)=true/\(n-b<=a\/(b+a<n/\B (b+a)=false))) ?_ ?_ ⟨rfl,0,1,rfl,zE _,⋯,v,hh⟩) ?_)
  ·rintro x c e _ y ⟨rfl,lo,a,rfl,u,g,f,d⟩;dsimp only
   by_cases hl:a≥n-b
   ·rw[zF hl];exact zH ⟨rfl,lo,a,rfl,g,f,d,.inl hl⟩
   ·rw[zD hl];refine zG (m _ _ ⋯ ?_);dsimp only;cases hb:B (b+a) with
    |true =>
     rw[zD (by simp)];exact zH ⟨rfl,_,_,rfl,⋯,⋯,⋯,hb⟩
    |false =>
     rw[zF ∅];exact zH ⟨rfl,lo,a,rfl,g,f,d,.inr ⟨⋯,hb⟩⟩
  ·rintro c e ⟨rfl,lo,a,rfl,u,g,f,d⟩;exact⟨rfl,lo,a,rfl,g,f,d,.inl ⋯⟩
  ·rintro c e ⟨rfl,lo,a,rfl,g,f,d,l⟩;dsimp only;refine Hg (lo:=b+lo+1) (hi:=b+min a (n-b)) m ⋯ ⋯ mono (λi hi=>mono i _ ⋯ f d) (λi hi t=>?_) h;rcases l with l|⟨l,q⟩
   ·omega
   ·cases hbi:B i with
    |false=>rfl
    |true=>rw[mono _ i ⋯ t hbi]at q;cases q
 | false =>
  rw[zD (by simp)];refine zG (wK (xK (I:=λx c e=>e=st/\∃lo a,c=(none,lo,a)/\x+1<=a/\lo<a/\lo<=b/\B (b-lo)=false)
   (Q:=λc e=>e=st/\∃lo a,c=(none,lo,a)/\lo<a/\lo<=b/\B (b-lo)=false/\(b+1<=a\/(a<=b/\B (b-a)=true))) ?_ ?_ ⟨rfl,0,1,rfl,zE _,⋯,yB _,hh⟩) ?_)
  ·rintro x c e _ y ⟨rfl,lo,a,rfl,u,g,f,d⟩;dsimp only
   by_cases hl:a≥b+1
   ·rw[zF hl];exact zH ⟨rfl,lo,a,rfl,g,f,d,.inl hl⟩
   ·rw[zD hl];refine zG (m _ _ ⋯ ?_);dsimp only;cases hb:B (b-a) with
    |true =>
     rw[zF rfl];exact zH ⟨rfl,lo,a,rfl,g,f,d,.inr ⟨⋯,hb⟩⟩
    |false =>
     rw[zD (by simp)];exact zH ⟨rfl,_,_,rfl,⋯,⋯,⋯,hb⟩
  ·rintro c e ⟨rfl,lo,a,rfl,u,g,f,d⟩;exact⟨rfl,lo,a,rfl,g,f,d,.inl ⋯⟩
  ·rintro c e ⟨rfl,lo,a,rfl,g,f,d,l⟩;dsimp only;refine Hg (lo:=b+1-min a (b+1)) (hi:=b-lo) m ⋯ ⋯ mono (λi hi=>?_) (λi hi t=>?_) h
   ·rcases l with l|⟨l,q⟩
    ·omega
    ·exact mono i _ ⋯ ⋯ q
   ·cases hbi:B i with
    |false=>rfl
    |true=>rw[mono _ i ⋯ t hbi]at d;cases d
end
section
variable {κ:PyProof.Rows.KeyKind}
def le'(κ:PyProof.Rows.KeyKind)(x y:Keyed):Prop:=lq κ y x=false
theorem mM{x y z:Keyed}(b:le' κ x y)(a:le' κ y z):le' κ x z:=KeyOrd.kle_trans (O:=κ.toKeyOrd) b a
theorem mW{x y:Keyed}(h:lq κ x y=true):le' κ x y:=KeyOrd.klt_asymm (O:=κ.toKeyOrd) h
theorem iN(x:Keyed):le' κ x x:=κ.irrefl _
abbrev Srt(κ:PyProof.Rows.KeyKind)(l:List Keyed):Prop:=l.Pairwise (le' κ)
structure MI(κ:PyProof.Rows.KeyKind)(A B out:List Keyed)(ia ib:Nat):Prop where
 pm:out.Perm (A.take ia++B.take ib)
 so:Srt κ out
 oa:∀x∈out,∀y∈A.drop ia,le' κ x y
 ob:∀x∈out,∀y∈B.drop ib,le' κ x y
theorem MI.symm{A B out:List Keyed}{ia ib:Nat}(h:MI κ A B out ia ib):MI κ B A out ib ia:=⟨h.pm.trans vN,h.so,h.ob,h.oa⟩
theorem Sv{A:List Keyed}{i k:Nat}:A.take (i+k)=A.take i++(A.drop i).take k:=by rw[qG]
theorem MI.ext{A B out:List Keyed}{ia ib k:Nat}(h:MI κ A B out ia ib)(e:Srt κ A)(d:∀x∈(A.drop ia).take k,∀y∈B.drop ib,le' κ x y):MI κ A B (out++(A.drop ia).take k) (ia+k) ib:=by
 have f:Srt κ (A.drop ia):=uY (sL _ _) e;have cut:(A.drop ia).take k++A.drop (ia+k)=A.drop ia:=by rw[←pL];exact xY _ _
 have c:=oA.mp (show Srt κ ((A.drop ia).take k++A.drop (ia+k)) by rw[cut];exact f);refine⟨?_,oA.mpr ⟨h.so,c.1,λx b y a=>h.oa x b y (List.mem_of_mem_take a)⟩,λx b y a=>?_,λx b y a=>?_⟩
 ·rw[Sv,yI];refine(h.pm.append_right _).trans ?_;rw[yI];exact rB _ vN
 ·rcases oF.mp b with q|q
  ·exact h.oa x q y (by rw[←cut];exact yO _ a)
  ·exact c.2.2 x q y a
 ·rcases oF.mp b with q|q
  ·exact h.ob x q y a
  ·exact d x q y a
theorem aA{A:List Keyed}{i:Nat}{p:Keyed}(e:A[i]?=some p):A.drop i=p:: A.drop (i+1):=by
 obtain⟨h,rfl⟩:=oH.mp e;exact vU h
theorem MI.push{A B out:List Keyed}{ia ib:Nat}{p:Keyed}(h:MI κ A B out ia ib)(f:Srt κ A)(e:A[ia]?=some p)(c:∀y∈B.drop ib,le' κ p y):MI κ A B (out++[p]) (ia+1) ib:=by
 have:=MI.ext (k:=1) h f (λx a y b=>by
  rw[aA e]at a;have d:x=p:=by simpa using a
  rw[d];exact c y b)
 rw[aA e]at this;simpa using this
theorem fZ{A:List Keyed}{i:Nat}{p q:Keyed}(c:Srt κ A)(e:A[i]?=some q)(h:le' κ p q):∀y∈A.drop i,le' κ p y:=λy a=>by
 have b:Srt κ (A.drop i):=uY (sL _ _) c;rw[aA e]at a b;rcases xH.mp a with d|a
 ·rw[d];exact h
 ·exact mM h ((List.pairwise_cons.mp b).1 y a)
def Res(κ:PyProof.Rows.KeyKind)(A B r:List Keyed):Prop:=r.Perm (A++B)/\Srt κ r
theorem MI.all{A B out:List Keyed}{ia ib:Nat}(h:MI κ A B out ia ib)(a:Srt κ A)(b:B.length<=ib):Res κ A B (out++A.drop ia):=by
 refine⟨?_,oA.mpr ⟨h.so,uY (sL _ _) a,h.oa⟩⟩;have:=h.pm;rw[yT b]at this;refine(this.append_right _).trans ?_;rw[yI];refine(rB _ vN).trans ?_;rw[←yI,xY]
theorem Res.symm{A B r:List Keyed}(h:Res κ A B r):Res κ B A r:=⟨h.1.trans vN,h.2⟩
theorem MI.last{A B out:List Keyed}{ia ib:Nat}{p:Keyed}(h:MI κ A B out ia ib)(g:Srt κ B)(e:A[ia]?=some p)(hl:ia+1=A.length)(d:∀y∈B,le' κ y p):Res κ A B (out++B.drop ib++A.drop ia):=by
 have a:A.drop ia=[p]:=by rw[aA e,sT ⋯]
 rw[a];refine⟨?_,oA.mpr ⟨oA.mpr ⟨h.so,uY (sL _ _) g,h.ob⟩,List.pairwise_singleton _ _,λx b y c=>?_⟩⟩
 ·have f:A=A.take ia++[p]:=by rw[←a,xY]
  have:=(h.pm.append_right (B.drop ib)).append_right [p];refine this.trans ?_;rw[yI (A.take ia),xY,yI]
  conv=>rhs;rw[f]
  rw[yI];exact rB _ vN
 ·rw[pO.mp c];rcases oF.mp b with q|q
  ·exact h.oa x q p (by rw[a];exact List.mem_singleton_self _)
  ·exact d x (List.mem_of_mem_drop q)
theorem Bo(a:Array Keyed)(i j:Nat):(a.extract i (i+j)).toList=(a.toList.drop i).take j:=by simp[Array.toList_extract,List.extract_eq_take_drop]
theorem eE(a:Array Keyed)(i:Nat):(a.extract i a.size).toList=a.toList.drop i:=by
 simp only[Array.toList_extract,List.extract_eq_take_drop];exact yT (by rw[tJ,zM];exact zE _)
end
section
variable {prog:Program} {w:World} {A:Around} {E:VP} {s:Shared} {κ:PyProof.Rows.KeyKind} {kd:SortKind}
structure MG(κ:PyProof.Rows.KeyKind)(a b:Array Keyed):Prop where
 sa:Srt κ a.toList
 sb:Srt κ b.toList
 ga:∀p∈a.toList,Gd κ p
 gb:∀p∈b.toList,Gd κ p
 na:1<=a.size
 nb:1<=b.size
 top:∀p,a[a.size-1]?=some p->∀y∈b.toList,le' κ y p
 fst:∀p q,b[0]?=some p->a[0]?=some q->le' κ p q
structure Sm(st st':SortSt):Prop where
 k:kindOf st'=kindOf st
 a:arrOf st'=arrOf st
 p:pendingOf st'=pendingOf st
 f:failedOf st'=failedOf st
theorem Sm.refl(st:SortSt):Sm st st:=⟨rfl,rfl,rfl,rfl⟩
theorem Sm.set{st a:SortSt}(h:Sm st a)(g:Nat):Sm st (SortSt.mk' (kindOf a) (arrOf a) (pendingOf a) g (failedOf a)):=⟨h.k,h.a,h.p,h.f⟩
theorem oY{a:Array Keyed}{i:Nat}{p:Keyed}:a[i]?=some p↔a.toList[i]?=some p:=by rw[yH]
theorem mG{a:Array Keyed}{i:Nat}(h:i<a.size):∃p,a[i]?=some p:=⟨a[i],Array.getElem?_eq_getElem h⟩
theorem lQ{st:SortSt}{arr:Array Keyed}{i:Nat}{Q:Keyed->SortSt->Prop}(hi:i<arr.size)(h:∀p,arr[i]?=some p->Q p st):wpS (model prog w) A E s (elem' arr i) Q st:=by
 obtain⟨p,e⟩:=mG hi;exact mV e (h p e)
theorem gC{l:List Keyed}(b:Srt κ l){i j:Nat}{p q:Keyed}(h:i<=j)(e1:l[i]?=some p)(a:l[j]?=some q):le' κ p q:=by
 rcases vW i j with h'|h'
 ·obtain⟨d,rfl⟩:=oH.mp e1;obtain⟨c,rfl⟩:=oH.mp a;exact List.pairwise_iff_getElem.mp b i j d c h'
 ·have:i=j:=⋯
  subst this;rw[e1]at a;cases a;exact iN _
theorem Bn{l:List Keyed}{i:Nat}{x:Keyed}(h:x∈l.drop i):∃j,i<=j/\l[j]?=some x:=by
 obtain⟨j,a,rfl⟩:=wO h;exact⟨i+j,⋯,by rw[←vK];exact xN a⟩
theorem eF{l:List Keyed}{i k:Nat}{x:Keyed}(h:x∈(l.drop i).take k):∃j,j<k/\l[i+j]?=some x:=by
 obtain⟨j,a,rfl⟩:=wO h;rw[yJ]at a;refine⟨j,⋯,?_⟩;rw[←vK,List.getElem_take];exact xN ⋯
theorem Su(f:Cmp prog w A s κ kd){st:SortSt}{a:Array Keyed}{ia:Nat}{p:Keyed}{Q:Option Nat->SortSt->Prop}(z:kindOf st=kd)(t:Srt κ a.toList)(n:∀x∈a.toList,Gd κ x)(o:Gd κ p)(C:ia<a.size)
  (h:∀k,ia+k<=a.size->(∀x∈(a.toList.drop ia).take k,le' κ x p)->(∀y∈a.toList.drop (ia+k),lq κ p y=true)->Q (some k) st):wpS (model prog w) A E s (kK false p a ia (a.size-ia) 0) Q st:=by
 refine cD f (B:=λi=>!lq κ p (a.getD (ia+i) p)) z o ⋯ (λi hi=>?_) (λi j F b c=>?_) λk D v u=>h k ⋯ (λx l=>?_) λy g=>?_
 ·obtain⟨q,e⟩:=mG (a:=a) (i:=ia+i) ⋯;refine⟨q,e,n q (yF (oY.mp e)),?_⟩;rw[show a.getD (ia+i) p=q by simp[Array.getD_eq_getD_getElem?,e]];rfl
 ·obtain⟨q,e⟩:=mG (a:=a) (i:=ia+i) ⋯;obtain⟨r,d⟩:=mG (a:=a) (i:=ia+j) ⋯;rw[show a.getD (ia+j) p=r by simp[Array.getD_eq_getD_getElem?,d]]at c;rw[show a.getD (ia+i) p=q by simp[Array.getD_eq_getD_getElem?,e]];have l1:le' κ r p:=by unfold le';simpa using c
  have:=mM (gC t (show ia+i<=ia+j by omega) (oY.mp e) (oY.mp d)) l1;unfold le' at this;rw[this];rfl
 ·obtain⟨j,b,e⟩:=eF l;have:=v j b;rw[show a.getD (ia+j) p=x by simp[Array.getD_eq_getD_getElem?,oY.mpr e]]at this;unfold le';simpa using this
 ·obtain⟨j,b,e⟩:=Bn g;have m:=(oH.mp e).1;rw[zM]at m;have:=u (j-ia) ⋯ ⋯;rw[show ia+(j-ia)=j by omega,show a.getD j p=y by simp[Array.getD_eq_getD_getElem?,oY.mpr e]]at this;simpa using this
theorem aB(g:Cmp prog w A s κ kd){st:SortSt}{b:Array Keyed}{ib d:Nat}{q:Keyed}{n:Nat}{Q:Option Nat->SortSt->Prop}(y:kindOf st=kd)(v:Srt κ b.toList)(m:∀x∈b.toList,Gd κ x)(t:Gd κ q)(z:ib+n<=b.size)(hh:d<n)
  (h:∀k,k<=n->(∀i x,i<k->b[ib+i]?=some x->lq κ x q=true)->(∀i x,k<=i->i<n->b[ib+i]?=some x->le' κ q x)->Q (some k) st):wpS (model prog w) A E s (kK true q b ib n d) Q st:=by
 refine cD g (B:=λi=>lq κ (b.getD (ib+i) q) q) y t hh (λi hi=>?_) (λi j C D a=>?_) λk l u o=>h k l (λi x hi e=>?_) λi x hi f e=>?_
 ·obtain⟨p,e⟩:=mG (a:=b) (i:=ib+i) ⋯;refine⟨p,e,m p (yF (oY.mp e)),?_⟩;rw[show b.getD (ib+i) q=p by simp[Array.getD_eq_getD_getElem?,e]];rfl
 ·obtain⟨p,e⟩:=mG (a:=b) (i:=ib+i) ⋯;obtain⟨r,c⟩:=mG (a:=b) (i:=ib+j) ⋯;rw[show b.getD (ib+j) q=r by simp[Array.getD_eq_getD_getElem?,c]]at a;rw[show b.getD (ib+i) q=p by simp[Array.getD_eq_getD_getElem?,e]];exact KeyOrd.klt_of_kle_of_klt (O:=κ.toKeyOrd) (gC v (show ib+i<=ib+j by omega) (oY.mp e) (oY.mp c)) a
 ·have:=u i hi;rw[show b.getD (ib+i) q=x by simp[Array.getD_eq_getD_getElem?,e]]at this;exact this
 ·have:=o i hi f;rw[show b.getD (ib+i) q=x by simp[Array.getD_eq_getD_getElem?,e]]at this;exact this
end
noncomputable def Bm:Array Keyed->Array Keyed->StateT SortSt Sem (Array Keyed):=sortPriv%PySem.Builtin.mergeLo
noncomputable def cE:Nat->StateT SortSt Sem Unit:=sortPriv%PySem.Builtin.setMinGallop
theorem Ss(a b:Array Keyed):Bm a b=(do
 rule "list.sort.merge-lo"
 let d:=a.size+b.size
 let done (out:Array Keyed) (ia ib:Nat):=out++a.extract ia a.size++b.extract ib b.size
 let c (out:Array Keyed) (ia ib:Nat):=out++b.extract ib b.size++a.extract ia a.size
 let mut out:Array Keyed:=#[←elem' b 0]
 let mut ia:=0
 let mut ib:=1
 if ib == b.size then return done out ia ib
 if ia+1 == a.size then return c out ia ib
 let mut minGallop:=gallopOf (←get)
 for _ in[0:d] do
  let mut acount:=0
  let mut bcount:=0
  for _ in[0:d] do
   let some bWins ←lt' (←elem' b ib) (←elem' a ia)|return done out ia ib
   if bWins then
    out:=out.push (←elem' b ib);ib:=ib+1;bcount:=bcount+1;acount:=0
    if ib == b.size then return done out ia ib
    if bcount≥minGallop then break
   else
    out:=out.push (←elem' a ia);ia:=ia+1;acount:=acount+1;bcount:=0
    if ia+1 == a.size then return c out ia ib
    if acount≥minGallop then break
  rule "list.sort.gallop"
  minGallop:=minGallop+1
  for _ in[0:d] do
   if minGallop > 1 then minGallop:=minGallop-1
   cE minGallop
   let some k ←kK false (←elem' b ib) a ia (a.size-ia) 0|return done out ia ib
   acount:=k
   if k > 0 then
    out:=out++a.extract ia (ia+k);ia:=ia+k
    if ia+1 == a.size then return c out ia ib
    if ia == a.size then return done out ia ib
   out:=out.push (←elem' b ib);ib:=ib+1
   if ib == b.size then return done out ia ib
   let some k ←kK true (←elem' a ia) b ib (b.size-ib) 0|return done out ia ib
   bcount:=k
   if k > 0 then
    out:=out++b.extract ib (ib+k);ib:=ib+k
    if ib == b.size then return done out ia ib
   out:=out.push (←elem' a ia);ia:=ia+1
   if ia+1 == a.size then return c out ia ib
   if acount<7 && bcount<7 then break
  minGallop:=minGallop+1
  cE minGallop
 unsupported "internal:list.sort.merge-bound"):=rfl
theorem aC(g:Nat):cE g=modify λs=>SortSt.mk' (kindOf s) (arrOf s) (pendingOf s) g (failedOf s):=rfl
section
variable {prog:Program} {w:World} {A:Around} {E:VP} {s:Shared} {κ:PyProof.Rows.KeyKind} {kd:SortKind}
theorem eG{a b out:Array Keyed}{ia ib:Nat}(d:MG κ a b)(h:MI κ a.toList b.toList out.toList ia ib)(c:b.size<=ib):Res κ a.toList b.toList (out++a.extract ia a.size++b.extract ib b.size).toList:=by
 rw[yK,yK,eE,eE,sT (as:=b.toList) (by rw[zM];exact c),wN];exact h.all d.sa (by rw[zM];exact c)
theorem Sr{a b out:Array Keyed}{ia ib:Nat}(d:MG κ a b)(h:MI κ a.toList b.toList out.toList ia ib)(c:a.size<=ia):Res κ a.toList b.toList (out++a.extract ia a.size++b.extract ib b.size).toList:=by
 rw[yK,yK,eE,eE,sT (as:=a.toList) (by rw[zM];exact c),wN];exact(h.symm.all d.sb (by rw[zM];exact c)).symm
theorem fD{a b out:Array Keyed}{ia ib:Nat}(c:MG κ a b)(h:MI κ a.toList b.toList out.toList ia ib)(d:ia+1=a.size):Res κ a.toList b.toList (out++b.extract ib b.size++a.extract ia a.size).toList:=by
 rw[yK,yK,eE,eE];obtain⟨p,e⟩:=mG (a:=a) (i:=ia) ⋯;exact h.last c.sb (oY.mp e) (by rw[zM];exact d) (c.top p (by rw[show a.size-1=ia by omega];exact e))
theorem aD{a b out:Array Keyed}{ia ib:Nat}{p:Keyed}(c:MG κ a b)(h:MI κ a.toList b.toList out.toList ia ib)(e:b[ib]?=some p)(d:∀y∈a.toList.drop ia,le' κ p y):MI κ a.toList b.toList (out.push p).toList ia (ib+1):=by
 rw[uP];exact(h.symm.push c.sb (oY.mp e) d).symm
theorem cF{a b out:Array Keyed}{ia ib:Nat}{p:Keyed}(c:MG κ a b)(h:MI κ a.toList b.toList out.toList ia ib)(e:a[ia]?=some p)(d:∀y∈b.toList.drop ib,le' κ p y):MI κ a.toList b.toList (out.push p).toList (ia+1) ib:=by
 rw[uP];exact h.push c.sa (oY.mp e) d
theorem So{a b out:Array Keyed}{ia ib k:Nat}{p:Keyed}(c:MG κ a b)(h:MI κ a.toList b.toList out.toList ia ib)(e:b[ib]?=some p)(f:∀x∈(a.toList.drop ia).take k,le' κ x p):MI κ a.toList b.toList (out++a.extract ia (ia+k)).toList (ia+k) ib:=by
 rw[yK,Bo];exact h.ext c.sa λx g y d=>mM (f x g) (fZ c.sb (oY.mp e) (iN p) y d)
theorem Hf{a b out:Array Keyed}{ia ib k:Nat}{p:Keyed}(c:MG κ a b)(h:MI κ a.toList b.toList out.toList ia ib)(e:a[ia]?=some p)(f:∀x∈(b.toList.drop ib).take k,le' κ x p):MI κ a.toList b.toList (out++b.extract ib (ib+k)).toList ia (ib+k):=by
 rw[yK,Bo];exact(h.symm.ext c.sb λx g y d=>mM (f x g) (fZ c.sa (oY.mp e) (iN p) y d)).symm
theorem Bl{a out:Array Keyed}{i:Nat}:out++a.extract i (i+0)=out:=by simp;omega
theorem nC{a:Type}{c:Prop}[Decidable c]{b e:StateT SortSt Sem a}{Q:a->SortSt->Prop}{st:SortSt}(d:c->wpS (model prog w) A E s b Q st)(f:¬ c->wpS (model prog w) A E s e Q st):wpS (model prog w) A E s (if c then b else e) Q st:=by
 by_cases h:c
 ·rw[zF h];exact d h
 ·rw[zD h];exact f h
theorem He{a:Type}{c:Nat->Prop}[∀m,Decidable (c m)]{b F:Nat->StateT SortSt Sem a}{Q:a->SortSt->Prop}{st:SortSt}(h:∀m,wpS (model prog w) A E s (F m) Q st)(e:∀m,F (m-1)=b m)(m:Nat):wpS (model prog w) A E s (if c m then b m else F m) Q st:=nC (λ_=>by rw[←e];exact h _) λ_=>h m
theorem Sn(P:Cmp prog w A s κ kd){st:SortSt}{a b:Array Keyed}{Q:Array Keyed->SortSt->Prop}(O:kindOf st=kd)(d:MG κ a b)
  (h:∀r n,Sm st n->Res κ a.toList b.toList r.toList->Q r n):wpS (model prog w) A E s (Bm a b) Q st:=by
 have c1:=d.na;have b9:=d.nb;have V:∀i p,a[i]?=some p->Gd κ p:=λi p e=>d.ga p (yF (oY.mp e));have a7:∀i p,b[i]?=some p->Gd κ p:=λi p e=>d.gb p (yF (oY.mp e));rw[Ss];refine zG (rS (wU ⟨rfl,?_⟩));refine zG (lQ ⋯ λa4 a2=>?_);dsimp only;obtain⟨b2,a3⟩:=mG (a:=a) (i:=0) ⋯;have U:MI κ a.toList b.toList (#[a4]:Array Keyed).toList 0 1:=by
  have:=aD (out:=#[]) (ia:=0) (ib:=0) d ⟨by simp,List.Pairwise.nil,λx G=>by simp at G,λx G=>by simp at G⟩ a2 (fZ d.sa (oY.mp a3) (d.fst a4 b2 a2 a3));simpa using this
 by_cases N:(1 == b.size)=true
 ·rw[zF N];exact zH (h _ _ (Sm.refl _) (eG d U (by have:=yN N;omega)))
 rw[zD N];have b8:1≠b.size:=λe=>N (pW.mpr e)
 by_cases R:(0+1 == a.size)=true
 ·rw[zF R];exact zH (h _ _ (Sm.refl _) (fD d U (by have:=yN R;omega)))
 rw[zD R];have b6:0+1≠a.size:=λe=>R (pW.mpr e);refine zG (tD ?_);refine zG (wK (xK (I:=λx c n=>Sm st n/\E4 λ(out:Array Keyed)(ia ib u:Nat)=>A5 (c=(none,out,ia,ib,u)) (MI κ a.toList b.toList out.toList ia ib) (ia+1<a.size) (ib<b.size) (x+1<=ia+ib))
  (Q:=λc n=>Sm st n/\∃r I,c=(some r,I)/\Res κ a.toList b.toList r.toList) ?_ ?_ ⟨Sm.refl _,_,_,_,_,rfl,U,⋯,⋯,⋯⟩) ?_)
 ·rintro x c T _ G ⟨sm,out,ia,ib,u,rfl,m,lia,g,pr⟩;dsimp only;refine zG (wK (xK (I:=λy c n=>Sm st n/\E5 λ(out:Array Keyed)(ia ib o t:Nat)=>A6 (c=(none,out,ia,ib,o,t)) (MI κ a.toList b.toList out.toList ia ib) (ia+1<a.size) (ib<b.size) (x+1<=ia+ib) (1<=y->x+2<=ia+ib))
   (Q:=λc n=>Sm st n/\((∃r I,c=(some r,I)/\Res κ a.toList b.toList r.toList)\/E5 λ(out:Array Keyed)(ia ib o t:Nat)=>A5 (c=(none,out,ia,ib,o,t)) (MI κ a.toList b.toList out.toList ia ib) (ia+1<a.size) (ib<b.size) (x+2<=ia+ib))) ?_ ?_ ⟨sm,out,ia,ib,0,0,rfl,m,lia,g,pr,⋯⟩) ?_)
  ·rintro y c a5 _ D ⟨sm,out,ia,ib,o,t,rfl,m,lia,g,pr,_⟩;dsimp only;refine zG (lQ g λp e=>?_);refine zG (lQ (show ia<a.size by omega) λq f=>?_);refine zG (cC P (by rw[sm.k];exact O) (a7 _ _ e) (V _ _ f) ?_);dsimp only;cases hl:lq κ p q with
   |true =>
    rw[zF rfl];have J:=aD d m e (fZ d.sa (oY.mp f) (mW hl));refine zG (mV e ?_)
    by_cases C:(ib+1 == b.size)=true
    ·rw[zF C];exact zH ⟨sm,.inl ⟨_,_,rfl,eG d J (by have:=yN C;omega)⟩⟩
    rw[zD C];have b1:ib+1≠b.size:=λe=>C (pW.mpr e);split
    ·exact zH ⟨sm,.inr ⟨_,_,_,_,_,rfl,J,lia,⋯,⋯⟩⟩
    ·exact zH ⟨sm,_,_,_,_,_,rfl,J,lia,⋯,⋯,⋯⟩
   |false =>
    rw[zD (by simp)];have J:=cF d m f (fZ d.sb (oY.mp e) hl);refine zG (mV f ?_)
    by_cases C:(ia+1+1 == a.size)=true
    ·rw[zF C];exact zH ⟨sm,.inl ⟨_,_,rfl,fD d J (by have:=yN C;omega)⟩⟩
    rw[zD C];have b1:ia+1+1≠a.size:=λe=>C (pW.mpr e);split
    ·exact zH ⟨sm,.inr ⟨_,_,_,_,_,rfl,J,⋯,g,⋯⟩⟩
    ·exact zH ⟨sm,_,_,_,_,_,rfl,J,⋯,g,⋯,⋯⟩
  ·rintro c a5 ⟨sm,out,ia,ib,o,t,rfl,m,lia,g,pr,a8⟩;exact⟨sm,.inr ⟨_,_,_,_,_,rfl,m,lia,g,a8 ⋯⟩⟩
  ·rintro c a5 ⟨sm,⟨r,I,rfl,M⟩|⟨out,ia,ib,o,t,rfl,m,lia,g,pr⟩⟩
   ·exact zH ⟨sm,_,_,rfl,M⟩
   dsimp only;refine zG (rS (wU ⟨rfl,?_⟩));refine zG (wK (xK (I:=λy c n=>Sm st n/\E6 λ(out:Array Keyed)(ia ib u o t:Nat)=>A5 (c=(none,out,ia,ib,u,o,t)) (MI κ a.toList b.toList out.toList ia ib) (ia+1<a.size) (ib<b.size) (x+2<=ia+ib))
    (Q:=λc n=>Sm st n/\((∃r I,c=(some r,I)/\Res κ a.toList b.toList r.toList)\/E6 λ(out:Array Keyed)(ia ib u o t:Nat)=>A5 (c=(none,out,ia,ib,u,o,t)) (MI κ a.toList b.toList out.toList ia ib) (ia+1<a.size) (ib<b.size) (x+2<=ia+ib))) ?_ ?_ ⟨sm,_,_,_,_,_,_,rfl,m,lia,g,pr⟩) ?_)
   ·rintro y c a6 _ D ⟨sm,out,ia,ib,u,o,t,rfl,m,lia,g,pr⟩;dsimp only
    revert u
    refine He (λu=>?_) λ_=>rfl;rw[aC];refine zG (wT ?_);refine zG (lQ (arr:=b) g λp e=>?_);refine zG (Su P (show kindOf _=kd from sm.k.trans O) d.sa d.ga (a7 _ _ e) (show ia<a.size by omega) λk c0 b0 W=>?_);have mk:=So d m e b0;dsimp only;refine nC (λb4=>?_) λb4=>?_
    ·refine nC (λz=>?_) λz=>?_
     ·exact zH ⟨sm.set _,.inl ⟨_,_,rfl,fD d mk (yN z)⟩⟩
     have b7:ia+k+1≠a.size:=λe=>z (pW.mpr e);refine nC (λy=>?_) λy=>?_
     ·exact zH ⟨sm.set _,.inl ⟨_,_,rfl,Sr d mk (by have:=yN y;omega)⟩⟩
     have c2:ia+k≠a.size:=λe=>y (pW.mpr e);have L:=aD d mk e λy D=>mW (W y D);refine zG (mV e ?_);refine nC (λz=>?_) λz=>?_
     ·exact zH ⟨sm.set _,.inl ⟨_,_,rfl,eG d L (by have:=yN z;omega)⟩⟩
     have b5:ib+1≠b.size:=λe=>z (pW.mpr e);refine zG (lQ (arr:=a) (i:=(ia+k)) ⋯ λq f=>?_);refine zG (aB P (show kindOf _=kd from sm.k.trans O) d.sb d.gb (V _ _ f) (show ib+1+(b.size-(ib+1))<=b.size by omega) ⋯ λk2 b3 X a1=>?_);have v:=Hf (k:=k2) d L f λx G=>by
      obtain⟨j,K,F⟩:=eF G;exact mW (X j x K (oY.mpr F))
     have nx:∀y∈b.toList.drop (ib+1+k2),le' κ q y:=λy D=>by
      obtain⟨j,K,F⟩:=Bn D;have Z:=(oH.mp F).1;rw[zM]at Z;exact a1 (j-(ib+1)) y ⋯ ⋯ (by rw[show ib+1+(j-(ib+1))=j by omega];exact oY.mpr F)
     dsimp only;refine nC (λa0=>?_) λa0=>?_
     ·refine nC (λz=>?_) λz=>?_
      ·exact zH ⟨sm.set _,.inl ⟨_,_,rfl,eG d v (by have:=yN z;omega)⟩⟩
      have a9:ib+1+k2≠b.size:=λe=>z (pW.mpr e);have l:=cF d v f nx;refine zG (mV f ?_);refine nC (λz=>?_) λz=>?_
      ·exact zH ⟨sm.set _,.inl ⟨_,_,rfl,fD d l (yN z)⟩⟩
      have S:(ia+k)+1+1≠a.size:=λe=>z (pW.mpr e);refine nC (λ_=>?_) λ_=>?_
      ·exact zH ⟨sm.set _,.inr ⟨_,_,_,_,_,_,rfl,l,⋯,⋯,⋯⟩⟩
      ·exact zH ⟨sm.set _,_,_,_,_,_,_,rfl,l,⋯,⋯,⋯⟩
     ·have Y:k2=0:=⋯
      subst Y;rw[Bl]at v;simp only[Nat.add_zero]at v nx;have l:=cF d v f nx;refine zG (mV f ?_);refine nC (λz=>?_) λz=>?_
      ·exact zH ⟨sm.set _,.inl ⟨_,_,rfl,fD d l (yN z)⟩⟩
      have S:(ia+k)+1+1≠a.size:=λe=>z (pW.mpr e);refine nC (λ_=>?_) λ_=>?_
      ·exact zH ⟨sm.set _,.inr ⟨_,_,_,_,_,_,rfl,l,⋯,⋯,⋯⟩⟩
      ·exact zH ⟨sm.set _,_,_,_,_,_,_,rfl,l,⋯,⋯,⋯⟩
    ·have k0:k=0:=⋯
     subst k0;rw[Bl]at mk;simp only[Nat.add_zero]at mk W;have L:=aD d mk e λy D=>mW (W y D);refine zG (mV e ?_);refine nC (λz=>?_) λz=>?_
     ·exact zH ⟨sm.set _,.inl ⟨_,_,rfl,eG d L (by have:=yN z;omega)⟩⟩
     have b5:ib+1≠b.size:=λe=>z (pW.mpr e);refine zG (lQ (arr:=a) (i:=ia) ⋯ λq f=>?_);refine zG (aB P (show kindOf _=kd from sm.k.trans O) d.sb d.gb (V _ _ f) (show ib+1+(b.size-(ib+1))<=b.size by omega) ⋯ λk2 b3 X a1=>?_);have v:=Hf (k:=k2) d L f λx G=>by
      obtain⟨j,K,F⟩:=eF G;exact mW (X j x K (oY.mpr F))
     have nx:∀y∈b.toList.drop (ib+1+k2),le' κ q y:=λy D=>by
      obtain⟨j,K,F⟩:=Bn D;have Z:=(oH.mp F).1;rw[zM]at Z;exact a1 (j-(ib+1)) y ⋯ ⋯ (by rw[show ib+1+(j-(ib+1))=j by omega];exact oY.mpr F)
     dsimp only;refine nC (λa0=>?_) λa0=>?_
     ·refine nC (λz=>?_) λz=>?_
      ·exact zH ⟨sm.set _,.inl ⟨_,_,rfl,eG d v (by have:=yN z;omega)⟩⟩
      have a9:ib+1+k2≠b.size:=λe=>z (pW.mpr e);have l:=cF d v f nx;refine zG (mV f ?_);refine nC (λz=>?_) λz=>?_
      ·exact zH ⟨sm.set _,.inl ⟨_,_,rfl,fD d l (yN z)⟩⟩
      have S:ia+1+1≠a.size:=λe=>z (pW.mpr e);refine nC (λ_=>?_) λ_=>?_
      ·exact zH ⟨sm.set _,.inr ⟨_,_,_,_,_,_,rfl,l,⋯,⋯,⋯⟩⟩
      ·exact zH ⟨sm.set _,_,_,_,_,_,_,rfl,l,⋯,⋯,⋯⟩
     ·have Y:k2=0:=⋯
      subst Y;rw[Bl]at v;simp only[Nat.add_zero]at v nx;have l:=cF d v f nx;refine zG (mV f ?_);refine nC (λz=>?_) λz=>?_
      ·exact zH ⟨sm.set _,.inl ⟨_,_,rfl,fD d l (yN z)⟩⟩
      have S:ia+1+1≠a.size:=λe=>z (pW.mpr e);refine nC (λ_=>?_) λ_=>?_
      ·exact zH ⟨sm.set _,.inr ⟨_,_,_,_,_,_,rfl,l,⋯,⋯,⋯⟩⟩
      ·exact zH ⟨sm.set _,_,_,_,_,_,_,rfl,l,⋯,⋯,⋯⟩
   ·rintro c a6 ⟨sm,out,ia,ib,u,o,t,rfl,m,lia,g,pr⟩;exact⟨sm,.inr ⟨_,_,_,_,_,_,rfl,m,lia,g,pr⟩⟩
   ·rintro c a6 ⟨sm,⟨r,I,rfl,M⟩|⟨out,ia,ib,u,o,t,rfl,m,lia,g,pr⟩⟩
    ·exact zH ⟨sm,_,_,rfl,M⟩
    dsimp only;rw[aC];refine zG (wT (zH ⟨sm.set _,_,_,_,_,rfl,m,lia,g,⋯⟩))
 ·rintro c T ⟨sm,out,ia,ib,u,rfl,m,lia,g,pr⟩;omega
 ·rintro c T ⟨sm,r,I,rfl,M⟩;exact zH (h r T sm M)
end
noncomputable def Bk:Array Keyed->Array Keyed->StateT SortSt Sem (Array Keyed):=sortPriv%PySem.Builtin.mergeHi
theorem Sl(a b:Array Keyed):Bk a b=(do
 rule "list.sort.merge-hi"
 let d:=a.size+b.size
 let done (out:Array Keyed) (na nb:Nat):=a.extract 0 na++b.extract 0 nb++out.reverse
 let c (out:Array Keyed) (na nb:Nat):=b.extract 0 nb++a.extract 0 na++out.reverse
 let mut na:=a.size-1
 let mut nb:=b.size
 let mut out:Array Keyed:=#[←elem' a na]
 if na == 0 then return done out na nb
 if nb == 1 then return c out na nb
 let mut minGallop:=gallopOf (←get)
 for _ in[0:d] do
  let mut acount:=0
  let mut bcount:=0
  for _ in[0:d] do
   let some aWins ←lt' (←elem' b (nb-1)) (←elem' a (na-1))|return done out na nb
   if aWins then
    na:=na-1;out:=out.push (←elem' a na);acount:=acount+1;bcount:=0
    if na == 0 then return done out na nb
    if acount≥minGallop then break
   else
    nb:=nb-1;out:=out.push (←elem' b nb);bcount:=bcount+1;acount:=0
    if nb == 1 then return c out na nb
    if bcount≥minGallop then break
  rule "list.sort.gallop"
  minGallop:=minGallop+1
  for _ in[0:d] do
   if minGallop > 1 then minGallop:=minGallop-1
   cE minGallop
   let some at_ ←kK false (←elem' b (nb-1)) a 0 na (na-1)|return done out na nb
   let k:=na-at_
   acount:=k
   if k > 0 then
    out:=out++(a.extract at_ na).reverse;na:=at_
    if na == 0 then return done out na nb
   nb:=nb-1;out:=out.push (←elem' b nb)
   if nb == 1 then return c out na nb
   let some at_ ←kK true (←elem' a (na-1)) b 0 nb (nb-1)|return done out na nb
   let k:=nb-at_
   bcount:=k
   if k > 0 then
    out:=out++(b.extract at_ nb).reverse;nb:=at_
    if nb == 1 then return c out na nb
    if nb == 0 then return done out na nb
   na:=na-1;out:=out.push (←elem' a na)
   if na == 0 then return done out na nb
   if acount<7 && bcount<7 then break
  minGallop:=minGallop+1
  cE minGallop
 unsupported "internal:list.sort.merge-bound"):=rfl
noncomputable def revK(κ:PyProof.Rows.KeyKind):PyProof.Rows.KeyKind where
 α:=κ.α
 blt:=λa b=>κ.blt b a
 irrefl:=κ.irrefl
 trans:=λa b c h1 h2=>κ.trans c b a h2 h1
 negTrans:=λa b c h=>(κ.negTrans c b a h).symm
 total:=λa b h1 h2=>κ.total a b h2 h1
 keyOf:=κ.keyOf
 dflt:=κ.dflt
section
variable {prog:Program} {w:World} {A:Around} {E:VP} {s:Shared} {κ:PyProof.Rows.KeyKind} {kd:SortKind}
theorem Hd{x y:Keyed}:le' (revK κ) x y↔le' κ y x:=Iff.rfl
theorem fE{l:List Keyed}(h:Srt κ l):Srt (revK κ) l.reverse:=List.pairwise_reverse.mpr h
theorem Sk{l:List Keyed}(h:Srt (revK κ) l):Srt κ l.reverse:=List.pairwise_reverse.mpr h
def MH(κ:PyProof.Rows.KeyKind)(a b out:Array Keyed)(na nb:Nat):Prop:=MI (revK κ) a.toList.reverse b.toList.reverse out.toList (a.size-na) (b.size-nb)
theorem Bj{a:Array Keyed}{n:Nat}{p:Keyed}(h:n<a.size)(e:a[n]?=some p):a.toList.reverse[a.size-(n+1)]?=some p:=by
 rw[rA (by rw[zM];omega),zM,show a.size-1-(a.size-(n+1))=n by omega];exact oY.mp e
theorem eH{a:Array Keyed}{n:Nat}(h:n<=a.size):a.toList.reverse.drop (a.size-n)=(a.toList.take n).reverse:=by
 rw[List.drop_reverse,zM,show a.size-(a.size-n)=n by omega]
theorem aE{a:Array Keyed}{n:Nat}{y:Keyed}(h:n<=a.size)(b:y∈a.toList.reverse.drop (a.size-n)):∃i,i<n/\a[i]?=some y:=by
 rw[eH h]at b;obtain⟨i,hi,e⟩:=wO (List.mem_reverse.mp b);rw[yJ]at hi;refine⟨i,⋯,?_⟩;rw[oY,←e,List.getElem_take];exact xN _
theorem Bi{a b r:Array Keyed}{l:List Keyed}(e:r.toList.reverse=l)(h:Res (revK κ) a.toList.reverse b.toList.reverse l):Res κ a.toList b.toList r.toList:=by
 subst e;refine⟨?_,?_⟩
 ·refine(qL r.toList).symm.trans (h.1.trans ?_);exact((qL _).append (qL _))
 ·have:=Sk h.2
  rwa[List.reverse_reverse]at this
theorem eI{a:Array Keyed}{n:Nat}:(a.extract 0 n).toList=a.toList.take n:=by
 have:=Bo a 0 n;rw[xO,List.drop_zero]at this;exact this
theorem fF{a b out:Array Keyed}{c:Nat}(d:MG κ a b)(h:MH κ a b out 0 c)(e:c<=b.size):Res κ a.toList b.toList (a.extract 0 0++b.extract 0 c++out.reverse).toList:=by
 refine Bi (l:=out.toList++b.toList.reverse.drop (b.size-c)) ?_ ((MI.symm h).all (fE d.sb) (by simp)).symm;rw[yK,yK,eI,eI,eH e,tK];simp
theorem Iz{a b out:Array Keyed}{c:Nat}(d:MG κ a b)(h:MH κ a b out c 0)(e:c<=a.size):Res κ a.toList b.toList (a.extract 0 c++b.extract 0 0++out.reverse).toList:=by
 refine Bi (l:=out.toList++a.toList.reverse.drop (a.size-c)) ?_ (MI.all h (fE d.sa) (by simp));rw[yK,yK,eI,eI,eH e,tK];simp
theorem eJ{a b out:Array Keyed}{d:Nat}(c:MG κ a b)(h:MH κ a b out d 1)(j:d<=a.size):Res κ a.toList b.toList (b.extract 0 1++a.extract 0 d++out.reverse).toList:=by
 have i:=c.nb;obtain⟨p,e⟩:=mG (a:=b) (i:=0) ⋯;obtain⟨q,f⟩:=mG (a:=a) (i:=0) (by have:=c.na;omega);refine Bi (l:=out.toList++a.toList.reverse.drop (a.size-d)++b.toList.reverse.drop (b.size-1)) ?_ (Res.symm ((MI.symm h).last (fE c.sa) (Bj ⋯ e) (by rw[List.length_reverse,zM];omega) λy g=>?_))
 ·rw[yK,yK,eI,eI,eH j,eH i,tK];simp
 ·exact fZ c.sa (oY.mp f) (c.fst p q e f) y (by simpa using List.mem_reverse.mp g)
theorem eK{a b out:Array Keyed}{c d:Nat}{p:Keyed}(f:MG κ a b)(h:MH κ a b out (c+1) d)(k:c<a.size)(l:d<=b.size)(e:a[c]?=some p)(j:∀i y,i<d->b[i]?=some y->le' κ y p):MH κ a b (out.push p) c d:=by
 unfold MH at h ⊢;rw[uP,show a.size-c=a.size-(c+1)+1 by omega];exact MI.push h (fE f.sa) (Bj k e) λy g=>by
  obtain⟨i,hi,m⟩:=aE l g;exact j i y hi m
theorem Bh{a b out:Array Keyed}{d c:Nat}{p:Keyed}(f:MG κ a b)(h:MH κ a b out d (c+1))(k:c<b.size)(l:d<=a.size)(e:b[c]?=some p)(j:∀i y,i<d->a[i]?=some y->le' κ y p):MH κ a b (out.push p) d c:=by
 unfold MH at h ⊢;rw[uP,show b.size-c=b.size-(c+1)+1 by omega];exact(MI.push (MI.symm h) (fE f.sb) (Bj k e) λy g=>by
  obtain⟨i,hi,m⟩:=aE l g;exact j i y hi m).symm
theorem Iy{a:Array Keyed}{n m:Nat}(h:n<=a.size)(b:m<=n):(a.extract m n).reverse.toList=(a.toList.reverse.drop (a.size-n)).take (n-m):=by
 rw[eH h,tK,List.take_reverse,yJ,zM,show min n a.size-(n-m)=m by omega];simp only[Array.toList_extract,List.extract_eq_take_drop];rw[List.drop_take]
theorem Sj{a b out:Array Keyed}{c d m:Nat}{p:Keyed}(f:MG κ a b)(h:MH κ a b out c d)(r:c<=a.size)(o:m<=c)(q:d<=b.size)(v:0<d)(e:b[d-1]?=some p)(l:∀i x,m<=i->i<c->a[i]?=some x->le' κ p x):MH κ a b (out++(a.extract m c).reverse) m d:=by
 unfold MH at h ⊢;rw[yK,Iy r o,show a.size-m=a.size-c+(c-m) by omega];refine MI.ext h (fE f.sa) λx k y n=>?_;obtain⟨i,hi,t⟩:=aE q n;obtain⟨j,u,g⟩:=eF k;rw[rA (by rw[zM];omega),zM]at g;have l1:le' κ y p:=gC f.sb (show i<=d-1 by omega) (oY.mp t) (oY.mp e);exact Hd.mpr (mM l1 (l _ x ⋯ ⋯ (oY.mpr g)))
theorem Ix{a b out:Array Keyed}{d c m:Nat}{p:Keyed}(f:MG κ a b)(h:MH κ a b out d c)(r:c<=b.size)(o:m<=c)(q:d<=a.size)(v:0<d)(e:a[d-1]?=some p)(l:∀i x,m<=i->i<c->b[i]?=some x->le' κ p x):MH κ a b (out++(b.extract m c).reverse) d m:=by
 unfold MH at h ⊢;rw[yK,Iy r o,show b.size-m=b.size-c+(c-m) by omega];refine(MI.ext (MI.symm h) (fE f.sb) λx k y n=>?_).symm;obtain⟨i,hi,t⟩:=aE q n;obtain⟨j,u,g⟩:=eF k;rw[rA (by rw[zM];omega),zM]at g;have l1:le' κ y p:=gC f.sa (show i<=d-1 by omega) (oY.mp t) (oY.mp e);exact Hd.mpr (mM l1 (l _ x ⋯ ⋯ (oY.mpr g)))
theorem Si(g:Cmp prog w A s κ kd){st:SortSt}{b:Array Keyed}{ib d:Nat}{q:Keyed}{n:Nat}{Q:Option Nat->SortSt->Prop}(y:kindOf st=kd)(v:Srt κ b.toList)(m:∀x∈b.toList,Gd κ x)(t:Gd κ q)(z:ib+n<=b.size)(hh:d<n)
  (h:∀k,k<=n->(∀i x,i<k->b[ib+i]?=some x->le' κ x q)->(∀i x,k<=i->i<n->b[ib+i]?=some x->lq κ q x=true)->Q (some k) st):wpS (model prog w) A E s (kK false q b ib n d) Q st:=by
 refine cD g (B:=λi=>!lq κ q (b.getD (ib+i) q)) y t hh (λi hi=>?_) (λi j C D a=>?_) λk l u o=>h k l (λi x hi e=>?_) λi x hi f e=>?_
 ·obtain⟨p,e⟩:=mG (a:=b) (i:=ib+i) ⋯;refine⟨p,e,m p (yF (oY.mp e)),?_⟩;rw[show b.getD (ib+i) q=p by simp[Array.getD_eq_getD_getElem?,e]];rfl
 ·obtain⟨p,e⟩:=mG (a:=b) (i:=ib+i) ⋯;obtain⟨r,c⟩:=mG (a:=b) (i:=ib+j) ⋯;rw[show b.getD (ib+j) q=r by simp[Array.getD_eq_getD_getElem?,c]]at a;rw[show b.getD (ib+i) q=p by simp[Array.getD_eq_getD_getElem?,e]];have l1:le' κ r q:=by unfold le';simpa using a
  have:=mM (gC v (show ib+i<=ib+j by omega) (oY.mp e) (oY.mp c)) l1;unfold le' at this;rw[this];rfl
 ·have:=u i hi;rw[show b.getD (ib+i) q=x by simp[Array.getD_eq_getD_getElem?,e]]at this;unfold le';simpa using this
 ·have:=o i hi f;rw[show b.getD (ib+i) q=x by simp[Array.getD_eq_getD_getElem?,e]]at this;simpa using this
theorem Bg{a out:Array Keyed}{n:Nat}:out++(a.extract n n).reverse=out:=by simp;omega
theorem Sh(Y:Cmp prog w A s κ kd){st:SortSt}{a b:Array Keyed}{Q:Array Keyed->SortSt->Prop}(X:kindOf st=kd)(j:MG κ a b)
  (h:∀r D,Sm st D->Res κ a.toList b.toList r.toList->Q r D):wpS (model prog w) A E s (Bk a b) Q st:=by
 have c3:=j.na;have c4:=j.nb;have a0:∀i p,a[i]?=some p->Gd κ p:=λi p e=>j.ga p (yF (oY.mp e));have b0:∀i p,b[i]?=some p->Gd κ p:=λi p e=>j.gb p (yF (oY.mp e));rw[Sl];refine zG (rS (wU ⟨rfl,?_⟩));refine zG (lQ ⋯ λa5 a4=>?_);dsimp only;have O:MH κ a b #[a5] (a.size-1) b.size:=by
  have b4:MH κ a b #[] (a.size-1+1) b.size:=by
   unfold MH;rw[show a.size-(a.size-1+1)=0 by omega,vJ];exact⟨by simp,List.Pairwise.nil,λx W=>by simp at W,λx W=>by simp at W⟩
  exact eK j b4 ⋯ (zE _) a4 λi y _ o=>j.top a5 a4 y (yF (oY.mp o))
 refine nC (λz=>?_) λz=>?_
 ·have l:=yN z;rw[l]at O ⊢;exact zH (h _ _ (Sm.refl _) (fF j O (zE _)))
 have b6:a.size-1≠0:=λe=>z (pW.mpr e);refine nC (λy=>?_) λy=>?_
 ·have b8:=yN y;refine zH (h _ _ (Sm.refl _) ?_);rw[b8]at O ⊢;exact eJ j O ⋯
 have c5:b.size≠1:=λe=>y (pW.mpr e);refine zG (tD ?_);refine zG (wK (xK (I:=λx c D=>Sm st D/\E4 λ(g d:Nat)(out:Array Keyed)(J:Nat)=>A7 (c=(none,g,d,out,J)) (MH κ a b out g d) (0<g) (g<a.size) (1<d) (d<=b.size) (x+g+d<a.size+b.size))
  (Q:=λc D=>Sm st D/\∃r K,c=(some r,K)/\Res κ a.toList b.toList r.toList) ?_ ?_ ⟨Sm.refl _,_,_,_,_,rfl,O,⋯,⋯,⋯,⋯,⋯⟩) ?_)
 ·rintro x c Z _ W ⟨sm,g,d,out,J,rfl,u,l1,l2,I,C,pr⟩;dsimp only;refine zG (wK (xK (I:=λy c D=>Sm st D/\E5 λ(g d:Nat)(out:Array Keyed)(F G:Nat)=>A8 (c=(none,g,d,out,F,G)) (MH κ a b out g d) (0<g) (g<a.size) (1<d) (d<=b.size) (x+g+d<a.size+b.size) (1<=y->x+1+g+d<a.size+b.size))
   (Q:=λc D=>Sm st D/\((∃r K,c=(some r,K)/\Res κ a.toList b.toList r.toList)\/E5 λ(g d:Nat)(out:Array Keyed)(F G:Nat)=>A7 (c=(none,g,d,out,F,G)) (MH κ a b out g d) (0<g) (g<a.size) (1<d) (d<=b.size) (x+1+g+d<a.size+b.size))) ?_ ?_ ⟨sm,g,d,out,0,0,rfl,u,l1,l2,I,C,pr,⋯⟩) ?_)
  ·rintro y c a8 _ c2 ⟨sm,g,d,out,F,G,rfl,u,l1,l2,I,C,pr,_⟩;obtain⟨n,rfl⟩:∃n,g=n+1:=⟨g-1,⋯⟩;obtain⟨m,rfl⟩:∃m,d=m+1:=⟨d-1,⋯⟩;dsimp only;refine zG (lQ (arr:=b) (i:=m+1-1) ⋯ λp e=>?_);refine zG (lQ (arr:=a) (i:=n+1-1) ⋯ λq f=>?_);refine zG (cC Y (by rw[sm.k];exact X) (b0 _ _ e) (a0 _ _ f) ?_);dsimp only;cases hl:lq κ p q with
   |true =>
    rw[zF rfl];have M:=eK j u (show n<a.size by omega) ⋯ f λi y hi o=>mM (gC j.sb (show i<=m by omega) (oY.mp o) (oY.mp e)) (mW hl);refine zG (mV f ?_);refine nC (λz=>?_) λz=>?_
    ·have l:n=0:=yN z;subst l;exact zH ⟨sm,.inl ⟨_,_,rfl,fF j M ⋯⟩⟩
    have b5:n≠0:=λe=>z (pW.mpr e);refine nC (λ_=>?_) λ_=>?_
    ·exact zH ⟨sm,.inr ⟨n,m+1,_,_,_,rfl,M,⋯,⋯,⋯,⋯,⋯⟩⟩
    ·exact zH ⟨sm,n,m+1,_,_,_,rfl,M,⋯,⋯,⋯,⋯,⋯,⋯⟩
   |false =>
    rw[zD (by simp)];have M:=Bh j u (show m<b.size by omega) ⋯ e λi y hi o=>mM (gC j.sa (show i<=n by omega) (oY.mp o) (oY.mp f)) hl;refine zG (mV e ?_);refine nC (λz=>?_) λz=>?_
    ·have l:m=1:=yN z;subst l;exact zH ⟨sm,.inl ⟨_,_,rfl,eJ j M ⋯⟩⟩
    have b5:m≠1:=λe=>z (pW.mpr e);refine nC (λ_=>?_) λ_=>?_
    ·exact zH ⟨sm,.inr ⟨n+1,m,_,_,_,rfl,M,⋯,⋯,⋯,⋯,⋯⟩⟩
    ·exact zH ⟨sm,n+1,m,_,_,_,rfl,M,⋯,⋯,⋯,⋯,⋯,⋯⟩
  ·rintro c a8 ⟨sm,g,d,out,F,G,rfl,u,l1,l2,I,C,pr,b1⟩;exact⟨sm,.inr ⟨_,_,_,_,_,rfl,u,l1,l2,I,C,b1 ⋯⟩⟩
  ·rintro c a8 ⟨sm,⟨r,K,rfl,U⟩|⟨g,d,out,F,G,rfl,u,l1,l2,I,C,pr⟩⟩
   ·exact zH ⟨sm,_,_,rfl,U⟩
   dsimp only;refine zG (rS (wU ⟨rfl,?_⟩));refine zG (wK (xK (I:=λy c D=>Sm st D/\E6 λ(g d:Nat)(out:Array Keyed)(J F G:Nat)=>A7 (c=(none,g,d,out,J,F,G)) (MH κ a b out g d) (0<g) (g<a.size) (1<d) (d<=b.size) (x+1+g+d<a.size+b.size))
    (Q:=λc D=>Sm st D/\((∃r K,c=(some r,K)/\Res κ a.toList b.toList r.toList)\/E6 λ(g d:Nat)(out:Array Keyed)(J F G:Nat)=>A7 (c=(none,g,d,out,J,F,G)) (MH κ a b out g d) (0<g) (g<a.size) (1<d) (d<=b.size) (x+1+g+d<a.size+b.size))) ?_ ?_ ⟨sm,_,_,_,_,_,_,rfl,u,l1,l2,I,C,pr⟩) ?_)
   ·rintro y c a9 _ c2 ⟨sm,g,d,out,J,F,G,rfl,u,l1,l2,I,C,pr⟩;dsimp only
    revert J
    refine He (λJ=>?_) λ_=>rfl;rw[aC];refine zG (wT ?_);refine zG (lQ (arr:=b) (i:=d-1) ⋯ λp e=>?_);refine zG (Si Y (show kindOf _=kd from sm.k.trans X) j.sa j.ga (b0 _ _ e) (show 0+g<=a.size by omega) ⋯ λk c0 a6 b9=>?_);have mk:=Sj (m:=k) j u ⋯ c0 C ⋯ e λi x hi N V=>mW (b9 i x hi N (by rw[xO];exact V));dsimp only;refine nC (λa7=>?_) λa7=>?_
    ·refine nC (λz=>?_) λz=>?_
     ·have l:k=0:=yN z;subst l;exact zH ⟨sm.set _,.inl ⟨_,_,rfl,fF j mk C⟩⟩
     have b6:k≠0:=λe=>z (pW.mpr e)
     -- the other's last comes out
     obtain⟨m,rfl⟩:∃m,d=m+1:=⟨d-1,⋯⟩;have S:=Bh j mk (show m<b.size by omega) ⋯ e λi y hi o=>a6 i y hi (by rw[xO];exact o);refine zG (mV (show b[m+1-1]?=some p from e) ?_);refine nC (λz=>?_) λz=>?_
     ·have l:m=1:=yN z;subst l;exact zH ⟨sm.set _,.inl ⟨_,_,rfl,eJ j S ⋯⟩⟩
     have b7:m≠1:=λe=>z (pW.mpr e);have c1:0<m:=⋯
     refine zG (lQ (arr:=a) (i:=k-1) ⋯ λq f=>?_);refine zG (aB Y (show kindOf _=kd from sm.k.trans X) j.sb j.gb (a0 _ _ f) (show 0+(m+1-1)<=b.size by omega) ⋯ λk2 L P a3=>?_);replace L:k2<=m:=L;have v:=Ix (m:=k2) j S ⋯ L ⋯ ⋯ f λi x hi N V=>a3 i x hi N (by rw[xO];exact V);obtain⟨n,R⟩:∃n,k=n+1:=⟨k-1,⋯⟩;dsimp only;refine nC (λT=>?_) λT=>?_
     ·refine nC (λz=>?_) λz=>?_
      ·have l:k2=1:=yN z;subst l;exact zH ⟨sm.set _,.inl ⟨_,_,rfl,eJ j v ⋯⟩⟩
      have b2:k2≠1:=λe=>z (pW.mpr e);refine nC (λz=>?_) λz=>?_
      ·have l:k2=0:=yN z;subst l;exact zH ⟨sm.set _,.inl ⟨_,_,rfl,Iz j v ⋯⟩⟩
      have b3:k2≠0:=λe=>z (pW.mpr e);rw[R]at v f ⊢;have t:=eK j v (show n<a.size by omega) ⋯ f λi y hi o=>mW (P i y hi (by rw[xO];exact o));refine zG (mV (show a[n+1-1]?=some q from f) ?_);refine nC (λz=>?_) λz=>?_
      ·have l:n=0:=yN z;subst l;exact zH ⟨sm.set _,.inl ⟨_,_,rfl,fF j t ⋯⟩⟩
      have a1:n≠0:=λe=>z (pW.mpr e);refine nC (λ_=>?_) λ_=>?_
      ·exact zH ⟨sm.set _,.inr ⟨n,_,_,_,_,_,rfl,t,⋯,⋯,⋯,⋯,⋯⟩⟩
      ·exact zH ⟨sm.set _,n,_,_,_,_,_,rfl,t,⋯,⋯,⋯,⋯,⋯⟩
     ·have a2:k2=m:=by
       have:¬ m-k2 > 0:=T;omega
      subst a2;rw[Bg]at v;rw[R]at v f ⊢;have t:=eK j v (show n<a.size by omega) ⋯ f λi y hi o=>mW (P i y hi (by rw[xO];exact o));refine zG (mV (show a[n+1-1]?=some q from f) ?_);refine nC (λz=>?_) λz=>?_
      ·have l:n=0:=yN z;subst l;exact zH ⟨sm.set _,.inl ⟨_,_,rfl,fF j t ⋯⟩⟩
      have a1:n≠0:=λe=>z (pW.mpr e);refine nC (λ_=>?_) λ_=>?_
      ·exact zH ⟨sm.set _,.inr ⟨n,_,_,_,_,_,rfl,t,⋯,⋯,⋯,⋯,⋯⟩⟩
      ·exact zH ⟨sm.set _,n,_,_,_,_,_,rfl,t,⋯,⋯,⋯,⋯,⋯⟩
    ·have k0:k=g:=by
      have:¬ g-k > 0:=a7;omega
     subst k0;rw[Bg]at mk
     -- the other's last comes out
     obtain⟨m,rfl⟩:∃m,d=m+1:=⟨d-1,⋯⟩;have S:=Bh j mk (show m<b.size by omega) ⋯ e λi y hi o=>a6 i y hi (by rw[xO];exact o);refine zG (mV (show b[m+1-1]?=some p from e) ?_);refine nC (λz=>?_) λz=>?_
     ·have l:m=1:=yN z;subst l;exact zH ⟨sm.set _,.inl ⟨_,_,rfl,eJ j S ⋯⟩⟩
     have b7:m≠1:=λe=>z (pW.mpr e);have c1:0<m:=⋯
     refine zG (lQ (arr:=a) (i:=k-1) ⋯ λq f=>?_);refine zG (aB Y (show kindOf _=kd from sm.k.trans X) j.sb j.gb (a0 _ _ f) (show 0+(m+1-1)<=b.size by omega) ⋯ λk2 L P a3=>?_);replace L:k2<=m:=L;have v:=Ix (m:=k2) j S ⋯ L ⋯ ⋯ f λi x hi N V=>a3 i x hi N (by rw[xO];exact V);obtain⟨n,R⟩:∃n,k=n+1:=⟨k-1,⋯⟩;dsimp only;refine nC (λT=>?_) λT=>?_
     ·refine nC (λz=>?_) λz=>?_
      ·have l:k2=1:=yN z;subst l;exact zH ⟨sm.set _,.inl ⟨_,_,rfl,eJ j v ⋯⟩⟩
      have b2:k2≠1:=λe=>z (pW.mpr e);refine nC (λz=>?_) λz=>?_
      ·have l:k2=0:=yN z;subst l;exact zH ⟨sm.set _,.inl ⟨_,_,rfl,Iz j v ⋯⟩⟩
      have b3:k2≠0:=λe=>z (pW.mpr e);rw[R]at v f ⊢;have t:=eK j v (show n<a.size by omega) ⋯ f λi y hi o=>mW (P i y hi (by rw[xO];exact o));refine zG (mV (show a[n+1-1]?=some q from f) ?_);refine nC (λz=>?_) λz=>?_
      ·have l:n=0:=yN z;subst l;exact zH ⟨sm.set _,.inl ⟨_,_,rfl,fF j t ⋯⟩⟩
      have a1:n≠0:=λe=>z (pW.mpr e);refine nC (λ_=>?_) λ_=>?_
      ·exact zH ⟨sm.set _,.inr ⟨n,_,_,_,_,_,rfl,t,⋯,⋯,⋯,⋯,⋯⟩⟩
      ·exact zH ⟨sm.set _,n,_,_,_,_,_,rfl,t,⋯,⋯,⋯,⋯,⋯⟩
     ·have a2:k2=m:=by
       have:¬ m-k2 > 0:=T;omega
      subst a2;rw[Bg]at v;rw[R]at v f ⊢;have t:=eK j v (show n<a.size by omega) ⋯ f λi y hi o=>mW (P i y hi (by rw[xO];exact o));refine zG (mV (show a[n+1-1]?=some q from f) ?_);refine nC (λz=>?_) λz=>?_
      ·have l:n=0:=yN z;subst l;exact zH ⟨sm.set _,.inl ⟨_,_,rfl,fF j t ⋯⟩⟩
      have a1:n≠0:=λe=>z (pW.mpr e);refine nC (λ_=>?_) λ_=>?_
      ·exact zH ⟨sm.set _,.inr ⟨n,_,_,_,_,_,rfl,t,⋯,⋯,⋯,⋯,⋯⟩⟩
      ·exact zH ⟨sm.set _,n,_,_,_,_,_,rfl,t,⋯,⋯,⋯,⋯,⋯⟩
   ·rintro c a9 ⟨sm,g,d,out,J,F,G,rfl,u,l1,l2,I,C,pr⟩;exact⟨sm,.inr ⟨_,_,_,_,_,_,rfl,u,l1,l2,I,C,pr⟩⟩
   ·rintro c a9 ⟨sm,⟨r,K,rfl,U⟩|⟨g,d,out,J,F,G,rfl,u,l1,l2,I,C,pr⟩⟩
    ·exact zH ⟨sm,_,_,rfl,U⟩
    dsimp only;rw[aC];refine zG (wT (zH ⟨sm.set _,_,_,_,_,rfl,u,l1,l2,I,C,pr⟩))
 ·rintro c Z ⟨sm,g,d,out,J,rfl,u,l1,l2,I,C,pr⟩;omega
 ·rintro c Z ⟨sm,r,K,rfl,U⟩;exact zH (h r Z sm U)
end
theorem Sg(i:Nat):mergeAt' i=(do
 let s ←get
 let (some (sa,na,power),some (sb,nb,_)):=((pendingOf s)[i]?,(pendingOf s)[i+1]?)|unsupported "internal:list.sort.pending"
 set (SortSt.mk' (kindOf s) (arrOf s) (((pendingOf s).setIfInBounds i (sa,na+nb,power)).eraseIdxIfInBounds (i+1)) (gallopOf s) (failedOf s))
 let some k ←kK false (←elem' (arrOf s) sb) (arrOf s) sa na 0|return false
 let (sa,na):=(sa+k,na-k)
 if na == 0 then return true
 let some nb ←kK true (←elem' (arrOf s) (sa+na-1)) (arrOf s) sb nb (nb-1)|return false
 if nb == 0 then return true
 let x:=(arrOf s).extract sa sb
 let y:=(arrOf s).extract sb (sb+nb)
 let b ←if na<=nb then Bm x y else Bk x y
 modify λs=>setArr s (b.toList.zipIdx.foldl (λa(p,j)=>a.setIfInBounds (sa+j) p) (arrOf s))
 return (failedOf (←get)).isNone):=rfl
section
variable {prog:Program} {w:World} {A:Around} {E:VP} {s:Shared} {κ:PyProof.Rows.KeyKind} {kd:SortKind}
noncomputable def seg(l:List Keyed)(i j:Nat):List Keyed:=(l.drop i).take (j-i)
theorem Sf{st a:SortSt}{Q:PUnit->SortSt->Prop}(h:Q ⟨⟩ a):wpS (model prog w) A E s (set a:StateT SortSt Sem PUnit) Q st:=by
 unfold wpS;rw[StateT.run_set];exact zB ⟨rfl,h⟩
theorem Bf{l:List Keyed}{i j k:Nat}(b:i<=j)(a:j<=k):seg l i k=seg l i j++seg l j k:=by
 unfold seg;rw[show k-i=(j-i)+(k-j) by omega,qG,pL,show i+(j-i)=j by omega]
theorem Iw{l:List Keyed}{i j:Nat}(h:i<=j):l.take i++seg l i j++l.drop j=l:=by
 unfold seg;have:l.take j=l.take i++(l.drop i).take (j-i):=by
  conv=>lhs;rw[show j=i+(j-i) by omega]
  exact qG
 rw[←this,xY]
theorem cG{l:List Keyed}{i j t:Nat}:(seg l i j)[t]?=if t<j-i then l[i+t]? else none:=by
 unfold seg;rw[List.getElem?_take];split
 ·rw[vK]
 ·rfl
theorem jV{l:List Keyed}{i j:Nat}{x:Keyed}(h:x∈seg l i j):∃t,t<j-i/\l[i+t]?=some x:=eF h
theorem Be{l:List Keyed}{i j:Nat}(h:j<=l.length):(seg l i j).length=j-i:=by
 unfold seg;rw[yJ,tJ];omega
theorem aF{l:List Keyed}{i j:Nat}(d:Srt κ (seg l i j)){a u:Nat}{x y:Keyed}(b:a<=u)(e:u<j-i)(f:l[i+a]?=some x)(c:l[i+u]?=some y):le' κ x y:=
 gC d b (by rw[cG,zF ⋯];exact f) (by rw[cG,zF e];exact c)
theorem jW(a:Array Keyed)(i j:Nat):(a.extract i j).toList=seg a.toList i j:=by
 unfold seg;simp only[Array.toList_extract,List.extract_eq_take_drop]
theorem Iv:∀(m:List Keyed)(c b:Nat)(a:Array Keyed),b+c+m.length<=a.size->((m.zipIdx c).foldl (λa(x:Keyed×Nat)=>a.setIfInBounds (b+x.2) x.1) a).toList=a.toList.take (b+c)++m++a.toList.drop (b+c+m.length)
 |[],c,b,a,_=>by simp
 | p:: m,c,b,a,h=>by
  rw[zU]at h;have hl:b+c<a.toList.length:=by rw[zM];omega
  rw[vZ,wM,Iv m (c+1) b _ (by rw[Array.size_setIfInBounds];omega),Array.toList_setIfInBounds,zU];show List.take (b+(c+1)) (a.toList.set (b+c) p)++m++List.drop (b+(c+1)+m.length) (a.toList.set (b+c) p)=_;have e1:List.take (b+(c+1)) (a.toList.set (b+c) p)=a.toList.take (b+c)++[p]:=by
   rw[show b+(c+1)=b+c+1 by omega,wD,List.take_set_of_le (zE _),wR hl];rfl
  have d:List.drop (b+(c+1)+m.length) (a.toList.set (b+c) p)=a.toList.drop (b+c+(m.length+1)):=by
   rw[List.drop_set_of_lt ⋯,show b+(c+1)+m.length=b+c+(m.length+1) by omega]
  rw[e1,d];simp
theorem Se(g:Cmp prog w A s κ kd){st:SortSt}{b:Array Keyed}{ib d:Nat}{q:Keyed}{n:Nat}{Q:Option Nat->SortSt->Prop}(D:kindOf st=kd)(u:∀i j x y,i<=j->j<n->b[ib+i]?=some x->b[ib+j]?=some y->le' κ x y)(t:∀x∈b.toList,Gd κ x)(v:Gd κ q)(F:ib+n<=b.size)(hh:d<n)
  (h:∀k,k<=n->(∀i x,i<k->b[ib+i]?=some x->le' κ x q)->(∀i x,k<=i->i<n->b[ib+i]?=some x->lq κ q x=true)->Q (some k) st):wpS (model prog w) A E s (kK false q b ib n d) Q st:=by
 refine cD g (B:=λi=>!lq κ q (b.getD (ib+i) q)) D v hh (λi hi=>?_) (λi j o C a=>?_) λk l m z=>h k l (λi x hi e=>?_) λi x hi f e=>?_
 ·obtain⟨p,e⟩:=mG (a:=b) (i:=ib+i) ⋯;refine⟨p,e,t p (yF (oY.mp e)),?_⟩;rw[show b.getD (ib+i) q=p by simp[Array.getD_eq_getD_getElem?,e]];rfl
 ·obtain⟨p,e⟩:=mG (a:=b) (i:=ib+i) ⋯;obtain⟨r,c⟩:=mG (a:=b) (i:=ib+j) ⋯;rw[show b.getD (ib+j) q=r by simp[Array.getD_eq_getD_getElem?,c]]at a;rw[show b.getD (ib+i) q=p by simp[Array.getD_eq_getD_getElem?,e]];have l1:le' κ r q:=by unfold le';simpa using a
  have:=mM (u i j p r o C e c) l1;unfold le' at this;rw[this];rfl
 ·have:=m i hi;rw[show b.getD (ib+i) q=x by simp[Array.getD_eq_getD_getElem?,e]]at this;unfold le';simpa using this
 ·have:=z i hi f;rw[show b.getD (ib+i) q=x by simp[Array.getD_eq_getD_getElem?,e]]at this;simpa using this
theorem Sd(g:Cmp prog w A s κ kd){st:SortSt}{b:Array Keyed}{ib d:Nat}{q:Keyed}{n:Nat}{Q:Option Nat->SortSt->Prop}(D:kindOf st=kd)(u:∀i j x y,i<=j->j<n->b[ib+i]?=some x->b[ib+j]?=some y->le' κ x y)(t:∀x∈b.toList,Gd κ x)(v:Gd κ q)(F:ib+n<=b.size)(hh:d<n)
  (h:∀k,k<=n->(∀i x,i<k->b[ib+i]?=some x->lq κ x q=true)->(∀i x,k<=i->i<n->b[ib+i]?=some x->le' κ q x)->Q (some k) st):wpS (model prog w) A E s (kK true q b ib n d) Q st:=by
 refine cD g (B:=λi=>lq κ (b.getD (ib+i) q) q) D v hh (λi hi=>?_) (λi j o C a=>?_) λk l m z=>h k l (λi x hi e=>?_) λi x hi f e=>?_
 ·obtain⟨p,e⟩:=mG (a:=b) (i:=ib+i) ⋯;refine⟨p,e,t p (yF (oY.mp e)),?_⟩;rw[show b.getD (ib+i) q=p by simp[Array.getD_eq_getD_getElem?,e]];rfl
 ·obtain⟨p,e⟩:=mG (a:=b) (i:=ib+i) ⋯;obtain⟨r,c⟩:=mG (a:=b) (i:=ib+j) ⋯;rw[show b.getD (ib+j) q=r by simp[Array.getD_eq_getD_getElem?,c]]at a;rw[show b.getD (ib+i) q=p by simp[Array.getD_eq_getD_getElem?,e]];exact KeyOrd.klt_of_kle_of_klt (O:=κ.toKeyOrd) (u i j p r o C e c) a
 ·have:=m i hi;rw[show b.getD (ib+i) q=x by simp[Array.getD_eq_getD_getElem?,e]]at this;exact this
 ·have:=z i hi f;rw[show b.getD (ib+i) q=x by simp[Array.getD_eq_getD_getElem?,e]]at this;exact this
theorem Sc(M:Cmp prog w A s κ kd){st:SortSt}{i b c K f b4:Nat}{Q:Bool->SortSt->Prop}(b2:kindOf st=kd)(O:∀x∈(arrOf st).toList,Gd κ x)(b0:failedOf st=none)(e1:(pendingOf st)[i]?=some (b,c,K))(a5:(pendingOf st)[i+1]?=some (b+c,f,b4))
  (c8:1<=c)(c7:1<=f)(d5:b+c+f<=(arrOf st).size)(I:Srt κ (seg (arrOf st).toList b (b+c)))(G:Srt κ (seg (arrOf st).toList (b+c) (b+c+f)))
  (h:∀n X,kindOf n=kd->failedOf n=none->pendingOf n=((pendingOf st).setIfInBounds i (b,c+f,K)).eraseIdxIfInBounds (i+1)->(arrOf n).toList=(arrOf st).toList.take b++X++(arrOf st).toList.drop (b+c+f)->X.Perm (seg (arrOf st).toList b (b+c+f))->Srt κ X->Q true n):
  wpS (model prog w) A E s (mergeAt' i) Q st:=by
 rw[Sg];refine zG (tD ?_);rw[e1,a5];dsimp only;refine zG (Sf ?_);generalize hst:SortSt.mk' (kindOf st) (arrOf st) (((pendingOf st).setIfInBounds i (b,c+f,K)).eraseIdxIfInBounds (i+1)) (gallopOf st) (failedOf st)=C;have k1:kindOf C=kd:=by rw[←hst];exact b2
 have a6:arrOf C=arrOf st:=by rw[←hst]
 have Z:pendingOf C=((pendingOf st).setIfInBounds i (b,c+f,K)).eraseIdxIfInBounds (i+1):=by rw[←hst]
 have a3:failedOf C=none:=by rw[←hst];exact b0
 clear hst e1 a5;generalize harr:arrOf st=arr at*
 generalize pendingOf st=d7 at*;have d4:arr.toList.length=arr.size:=zM;have L:∀d x,arr[d]?=some x->Gd κ x:=λd x e=>O x (yF (oY.mp e))
 -- already in order
 have stay:Srt κ (seg arr.toList b (b+c+f))->Q true C:=λso=>h C _ k1 a3 Z (by rw[a6,Iw ⋯]) (List.Perm.refl _) so;have P:seg arr.toList b (b+c+f)=seg arr.toList b (b+c)++seg arr.toList (b+c) (b+c+f):=Bf ⋯ ⋯;refine zG (lQ (arr:=arr) (i:=b+c) ⋯ λp ep=>?_);refine zG (Se M k1 (λd u x y S c6 o F=>aF I S ⋯ (oY.mp o) (oY.mp F)) O (L _ _ ep) ⋯ ⋯ λk d2 Y b8=>?_);dsimp only;have R:∀y∈seg arr.toList (b+c) (b+c+f),le' κ p y:=λy m=>by
  obtain⟨d,v,l⟩:=jV m;exact aF G (yB d) v (oY.mp ep) l
 refine nC (λz=>?_) λz=>?_
 ·have d1:c-k=0:=yN z;refine zH (stay ?_);rw[P];refine oA.mpr ⟨I,G,λx g y m=>?_⟩;obtain⟨d,v,l⟩:=jV g;exact mM (Y d x ⋯ (oY.mpr l)) (R y m)
 have c9:c-k≠0:=λe=>z (pW.mpr e);refine zG (lQ (arr:=arr) (i:=b+k+(c-k)-1) ⋯ λq N=>?_);rw[show b+k+(c-k)-1=b+(c-1) by omega]at N;refine zG (Sd M k1 (λd u x y S c6 o F=>aF G S ⋯ (oY.mp o) (oY.mp F)) O (L _ _ N) ⋯ ⋯ λk2 d0 b6 V=>?_);dsimp only;have a0:∀x∈seg arr.toList b (b+c),le' κ x q:=λx g=>by
  obtain⟨d,v,l⟩:=jV g;exact aF I (show d<=c-1 by omega) ⋯ l (oY.mp N)
 refine nC (λy=>?_) λy=>?_
 ·have d3:k2=0:=yN y;refine zH (stay ?_);rw[P];refine oA.mpr ⟨I,G,λx g y m=>?_⟩;obtain⟨d,v,l⟩:=jV m;exact mM (a0 x g) (V d y ⋯ ⋯ (oY.mpr l))
 have d6:k2≠0:=λe=>y (pW.mpr e)
 -- the parts
 have T:seg arr.toList b (b+c)=seg arr.toList b (b+k)++seg arr.toList (b+k) (b+c):=Bf ⋯ ⋯;have J:seg arr.toList (b+c) (b+c+f)=seg arr.toList (b+c) (b+c+k2)++seg arr.toList (b+c+k2) (b+c+f):=Bf ⋯ ⋯;have a7:=I;have a1:=G;rw[T]at a7;rw[J]at a1;obtain⟨c5,c0,b5⟩:=oA.mp a7;obtain⟨c4,a9,c1⟩:=oA.mp a1;have W:∀x∈seg arr.toList b (b+k),le' κ x p:=λx g=>by
  obtain⟨d,v,l⟩:=jV g;exact Y d x ⋯ (oY.mpr l)
 have c2:∀x∈seg arr.toList (b+k) (b+c),le' κ p x:=λx g=>by
  obtain⟨d,v,l⟩:=jV g;exact mW (b8 (k+d) x ⋯ ⋯ (by rw[show b+(k+d)=b+k+d by omega];exact oY.mpr l))
 have b9:∀y∈seg arr.toList (b+c) (b+c+k2),le' κ y q:=λy m=>by
  obtain⟨d,v,l⟩:=jV m;exact mW (b6 d y ⋯ (oY.mpr l))
 have b1:∀y∈seg arr.toList (b+c+k2) (b+c+f),le' κ q y:=λy m=>by
  obtain⟨d,v,l⟩:=jV m;exact V (k2+d) y ⋯ ⋯ (by rw[show b+c+(k2+d)=b+c+k2+d by omega];exact oY.mpr l)
 have a4:MG κ (arr.extract (b+k) (b+c)) (arr.extract (b+c) (b+c+k2)):=by
  refine⟨by rw[jW];exact c0,by rw[jW];exact c4,λx g=>?_,λx g=>?_,by rw[qC];omega,by rw[qC];omega,λx o y m=>?_,λx y o F=>?_⟩
  ·rw[jW]at g;obtain⟨d,_,l⟩:=jV g;exact L _ x (oY.mpr l)
  ·rw[jW]at g;obtain⟨d,_,l⟩:=jV g;exact L _ x (oY.mpr l)
  ·rw[jW]at m;rw[oY,jW,cG,qC]at o;split at o
   ·rw[show b+k+(min (b+c) arr.size-(b+k)-1)=b+(c-1) by omega,oY.mp N]at o;cases o;exact b9 y m
   ·cases o
  ·rw[oY,jW,cG,zF ⋯,sG,oY.mp ep]at o;cases o;rw[oY,jW]at F;exact c2 y (yF F)
 have a8:∀(r:Array Keyed)(n:SortSt),Sm C n->Res κ (arr.extract (b+k) (b+c)).toList (arr.extract (b+c) (b+c+k2)).toList r.toList->wpS (model prog w) A E s (do
   modify λs=>setArr s (r.toList.zipIdx.foldl (λa(p,j)=>a.setIfInBounds (b+k+j) p) (arrOf s))
   return (failedOf (←get)).isNone) Q n:=λr n sm t=>by
  rw[jW,jW]at t;refine zG (wT (zG (tD (zH ?_))));have a2:failedOf n=none:=sm.f.trans a3;show Q (failedOf n).isNone _;rw[a2];have b7:r.toList.length=(c-k)+k2:=by
   rw[t.1.length_eq,yE,Be ⋯,Be ⋯];omega
  refine h _ (seg arr.toList b (b+k)++r.toList++seg arr.toList (b+c+k2) (b+c+f)) (sm.k.trans k1) a2 (sm.p.trans Z) ?_ ?_ ?_
  ·show(List.foldl _ (arrOf n) _).toList=_;rw[sm.a,a6,Iv r.toList 0 (b+k) arr ⋯,b7];have b3:arr.toList.take (b+k+0)=arr.toList.take b++seg arr.toList b (b+k):=by
    unfold seg;rw[sG,qG,show b+k-b=k by omega]
   have c3:arr.toList.drop (b+k+0+(c-k+k2))=seg arr.toList (b+c+k2) (b+c+f)++arr.toList.drop (b+c+f):=by
    unfold seg;rw[show b+k+0+(c-k+k2)=b+c+k2 by omega]
    conv=>lhs;rw[←xY (b+c+f-(b+c+k2)) (arr.toList.drop (b+c+k2))]
    rw[pL,show b+c+k2+(b+c+f-(b+c+k2))=b+c+f by omega]
   rw[b3,c3];simp only[List.append_assoc]
  ·rw[P,T,J];have:=(t.1.append_left (seg arr.toList b (b+k))).append_right (seg arr.toList (b+c+k2) (b+c+f));simp only[List.append_assoc]at this ⊢;exact this
  ·have mem:∀x∈r.toList,x∈seg arr.toList (b+k) (b+c)\/x∈seg arr.toList (b+c) (b+c+k2):=λx g=>oF.mp (t.1.mem_iff.mp g);refine oA.mpr ⟨oA.mpr ⟨c5,t.2,λx g y m=>?_⟩,a9,λx g y m=>?_⟩
   ·rcases mem y m with D|D
    ·exact b5 x g y D
    ·exact mM (W x g) (R y (by rw[J];exact xU _ D))
   ·rcases oF.mp g with D|D
    ·exact mM (W x D) (R y (by rw[J];exact yO _ m))
    ·rcases mem x D with U|U
     ·exact mM (a0 x (by rw[T];exact yO _ U)) (b1 y m)
     ·exact c1 x U y m
 refine nC (λ_=>?_) λ_=>?_
 ·exact zG (Sn M k1 a4 λr n sm t=>a8 r n sm t)
 ·exact zG (Sh M k1 a4 λr n sm t=>a8 r n sm t)
theorem cH(d:Cmp prog w A s κ kd){st:SortSt}{i j:Nat}{Q:Option Bool->SortSt->Prop}(f:kindOf st=kd)(a:∀x∈(arrOf st).toList,Gd κ x)(hi:i<(arrOf st).size)(e:j<(arrOf st).size)
  (h:∀x y,(arrOf st)[i]?=some x->(arrOf st)[j]?=some y->Q (some (lq κ x y)) st):wpS (model prog w) A E s (ltAt' i j) Q st:=by
 rw[ltAt'_eq];refine zG (tD ?_);refine zG (lQ hi λx c=>?_);refine zG (lQ e λy b=>?_);exact cC d f (a x (yF (oY.mp c))) (a y (yF (oY.mp b))) (h x y c b)
structure Ch(lo hi:Nat)(st st':SortSt):Prop where
 k:kindOf st'=kindOf st
 p:pendingOf st'=pendingOf st
 f:failedOf st'=failedOf st
 z:(arrOf st').size=(arrOf st).size
 m:(arrOf st').Perm (arrOf st)
 o:∀i,i<lo\/hi<=i->(arrOf st')[i]?=(arrOf st)[i]?
theorem Ch.refl(lo hi:Nat)(st:SortSt):Ch lo hi st st:=⟨rfl,rfl,rfl,rfl,Array.Perm.refl _,λ_ _=>rfl⟩
theorem Ch.trans{lo hi:Nat}{a b c:SortSt}(e:Ch lo hi a b)(d:Ch lo hi b c):Ch lo hi a c:=⟨d.k.trans e.k,d.p.trans e.p,d.f.trans e.f,d.z.trans e.z,d.m.trans e.m,λi hi=>(d.o i hi).trans (e.o i hi)⟩
theorem Ch.wide{lo hi hi':Nat}{a b:SortSt}(h:Ch lo hi a b)(hh:hi<=hi'):Ch lo hi' a b:=⟨h.k,h.p,h.f,h.z,h.m,λi hi=>h.o i ⋯⟩
theorem Ch.good{lo hi:Nat}{a b:SortSt}(h:Ch lo hi a b)(d:∀x∈(arrOf a).toList,Gd κ x):∀x∈(arrOf b).toList,Gd κ x:=λx c=>d x ((h.m.toList.mem_iff).mp c)
def Up(κ:PyProof.Rows.KeyKind)(a:Array Keyed)(lo hi:Nat):Prop:=∀i j x y,lo<=i->i<=j->j<hi->a[i]?=some x->a[j]?=some y->le' κ x y
def Dn(κ:PyProof.Rows.KeyKind)(a:Array Keyed)(lo hi:Nat):Prop:=∀i j x y,lo<=i->i<=j->j<hi->a[i]?=some x->a[j]?=some y->le' κ y x
theorem Up.one{a:Array Keyed}{lo:Nat}:Up κ a lo (lo+1):=λi j x y f e d c b=>by
 have:i=j:=⋯
 subst this;rw[c]at b;cases b;exact iN _
theorem Up.more{a:Array Keyed}{lo hi hi':Nat}(h:Up κ a lo hi)(hl:lo<hi)(o:hi<a.size)(f:∀x y,a[hi-1]?=some x->a[hi]?=some y->le' κ x y)(g:hi'=hi+1:=by omega):Up κ a lo hi':=λi j x y e k n c b=>by
 subst g;rcases vW j hi with q|q
 ·exact h i j x y e k q c b
 ·have m:j=hi:=⋯
  subst m;rcases vW i j with l|l
  ·obtain⟨u,d⟩:=mG (a:=a) (i:=j-1) ⋯;exact mM (h i (j-1) x u e ⋯ ⋯ c d) (f u y d b)
  ·have:i=j:=⋯
   subst this;rw[c]at b;cases b;exact iN _
theorem Up.same{a b:Array Keyed}{lo hi:Nat}(h:Up κ a lo hi)(e:∀i,lo<=i->i<hi->b[i]?=a[i]?):Up κ b lo hi:=λi j x y d g c k f=>h i j x y d g c (by rw[←e i d ⋯];exact k) (by rw[←e j ⋯ c];exact f)
theorem Dn.more{a:Array Keyed}{lo hi hi':Nat}(h:Dn κ a lo hi)(hl:lo<hi)(o:hi<a.size)(f:∀x y,a[hi-1]?=some x->a[hi]?=some y->le' κ y x)(g:hi'=hi+1:=by omega):Dn κ a lo hi':=λi j x y e k n c b=>by
 subst g;rcases vW j hi with q|q
 ·exact h i j x y e k q c b
 ·have m:j=hi:=⋯
  subst m;rcases vW i j with l|l
  ·obtain⟨u,d⟩:=mG (a:=a) (i:=j-1) ⋯;exact mM (f u y d b) (h i (j-1) x u e ⋯ ⋯ c d)
  ·have:i=j:=⋯
   subst this;rw[c]at b;cases b;exact iN _
noncomputable abbrev mir(a:Array Keyed)(i j:Nat):Array Keyed:=mirror a i j ((j-i)/2)
theorem gD{a:Array Keyed}{i j k:Nat}(b:j<=a.size):(mir a i j)[k]?=if i<=k/\k<j then a[i+j-1-k]? else a[k]?:=getElem?_mirror_all b k
theorem Dn.turned{a:Array Keyed}{lo hi c b:Nat}(h:Dn κ a lo hi)(u:Up κ a c b)(hl:lo<=c)(o:b<=hi)(n:hi<=a.size):Dn κ (mir a c b) lo hi:=λi j x y l m g e d=>by
 rw[gD ⋯]at e d
 by_cases k:c<=i/\i<b
 ·rw[zF k]at e
  by_cases f:c<=j/\j<b
  ·rw[zF f]at d;exact u _ _ y x ⋯ (show c+b-1-j<=c+b-1-i by omega) ⋯ d e
  ·rw[zD f]at d;exact h _ _ x y ⋯ (show c+b-1-i<=j by omega) g e d
 ·rw[zD k]at e
  by_cases f:c<=j/\j<b
  ·rw[zF f]at d;exact h _ _ x y l (show i<=c+b-1-j by omega) ⋯ e d
  ·rw[zD f]at d;exact h _ _ x y l m g e d
theorem Dn.up{a:Array Keyed}{lo hi:Nat}(h:Dn κ a lo hi)(c:hi<=a.size):Up κ (mir a lo hi) lo hi:=λi j x y f g e d b=>by
 rw[gD c,zF ⟨f,⋯⟩]at d;rw[gD c,zF ⟨⋯,e⟩]at b;exact h _ _ y x ⋯ (show lo+hi-1-j<=lo+hi-1-i by omega) ⋯ b d
theorem aG{st:SortSt}{i j:Nat}{Q:Unit->SortSt->Prop}(b:j<=(arrOf st).size)(h:∀a,Ch i j st a->arrOf a=mir (arrOf st) i j->Q () a):wpS (model prog w) A E s (reverseSlice' i j) Q st:=by
 rw[reverseSlice'_eq];refine wT (h _ ⟨rfl,rfl,rfl,mirror_size _ _ _ _,mirror_perm _ _ _ _,λk c=>?_⟩ rfl);exact(gD b).trans (zD ⋯)
theorem Iu(C:Cmp prog w A s κ kd){st:SortSt}{lo a b:Nat}{f:Nat->Option (Option Nat)×Nat->StateT SortSt Sem (ForInStep (Option (Option Nat)×Nat))}{Q:Option (Option Nat)×Nat->SortSt->Prop}(z:kindOf st=kd)(r:∀x∈(arrOf st).toList,Gd κ x)(K:lo+b<=(arrOf st).size)(L:1<=a)(D:a<=b)(G:Up κ (arrOf st) lo (lo+a))
  (t:∀x c,f x c=(do
   let F ←ltAt' (lo+c.2) (lo+c.2-1)
   match F with
    |some m=>if m=true then pure (ForInStep.done (none,c.2)) else pure (ForInStep.yield (none,c.2+1))
    |_=>pure (ForInStep.done (some none,c.2))))
  (h:∀n,a<=n->n<=b->Up κ (arrOf st) lo (lo+n)->(n=b\/∀x y,(arrOf st)[lo+n]?=some x->(arrOf st)[lo+n-1]?=some y->lq κ x y=true)->Q (none,n) st):
  wpS (model prog w) A E s (forIn [a:b] ((none,a):Option (Option Nat)×Nat) f) Q st:=by
 refine wK (xK (I:=λx c d=>d=st/\c=(none,x)/\a<=x/\x<=b/\Up κ (arrOf st) lo (lo+x))
  (Q:=λc d=>d=st/\∃n,c=(none,n)/\a<=n/\n<=b/\Up κ (arrOf st) lo (lo+n)/\(n=b\/∀x y,(arrOf st)[lo+n]?=some x->(arrOf st)[lo+n-1]?=some y->lq κ x y=true)) ?_ ?_ ⟨rfl,rfl,zE _,D,G⟩) ?_
 ·rintro x c d I J ⟨rfl,rfl,k,i,e⟩;rw[t];dsimp only;refine zG (cH C z r ⋯ ⋯ λp q ep l=>?_);dsimp only;cases hl:lq κ p q with
  |true =>
   rw[zF rfl];refine zH ⟨rfl,x,rfl,k,i,e,.inr λu v j g=>?_⟩;rw[ep]at j;rw[l]at g;cases j;cases g;exact hl
  |false =>
   rw[zD (by simp)];refine zH ⟨rfl,rfl,⋯,⋯,?_⟩;refine Up.more e ⋯ ⋯ λu v j g=>?_;rw[l]at j;rw[ep]at g;cases j;cases g;exact hl
 ·rintro c d ⟨rfl,rfl,k,i,e⟩;exact⟨rfl,_,rfl,k,i,e,.inl ⋯⟩
 ·rintro c d ⟨rfl,n,rfl,k,i,e,o⟩;exact h n k i e o
theorem Ir{b:Type}{c:Prop}[Decidable c]{P T:StateT SortSt Sem b}{R:SortSt->Prop}{st:SortSt}{Q:b->SortSt->Prop}(e:c->(∀a,R a->wpS (model prog w) A E s P Q a)->wpS (model prog w) A E s T Q st)(d:¬ c->R st)(go:∀a,R a->wpS (model prog w) A E s P Q a):wpS (model prog w) A E s (if c then T else P) Q st:=
 nC (λx=>e x go) λx=>go st (d x)
theorem Sb(C:Cmp prog w A s κ kd){st:SortSt}{lo r:Nat}{Q:Option Nat->SortSt->Prop}(K:kindOf st=kd)(I:∀x∈(arrOf st).toList,Gd κ x)(a8:lo+r<=(arrOf st).size)(b3:1<=r)
  (h:∀n b,1<=n->n<=r->Ch lo (lo+n) st b->Up κ (arrOf b) lo (lo+n)->Q (some n) b):wpS (model prog w) A E s (countRun' lo r) Q st:=by
 rw[countRun'_eq];refine zG (Iu C K I a8 (zE _) b3 Up.one (λx c=>rfl) λn V Z up nx=>?_);dsimp only;refine nC (λz=>?_) λz=>?_
 ·exact zH (h n st V Z (Ch.refl _ _ _) up)
 have R:n≠r:=λe=>z (pW.mpr e);have U:=nx.resolve_left R;refine Ir (R:=λt=>Ch lo (lo+n) st t/\Dn κ (arrOf t) lo (lo+n+1)) (λy go=>?_) (λy=>?_) λt a9=>?_
 ·refine zG (cH C K I ⋯ ⋯ λp q ep o=>?_);dsimp only;cases hl:lq κ p q with
  |true =>
   rw[zF rfl];exact zH (h n st V Z (Ch.refl _ _ _) up)
  | false =>
   rw[zD (by simp)];refine zG (aG ⋯ λt F Y=>?_);refine go t ⟨F,Dn.more (hi:=lo+n) ?_ ⋯ (by rw[F.z];omega) λu v g f=>?_⟩
   ·-- all alike
    rw[Y];intro i j x y b1 b2 W N G;rw[gD ⋯,zF ⟨b1,⋯⟩]at N;rw[gD ⋯,zF ⟨⋯,W⟩]at G;exact up _ _ y x ⋯ (show lo+(lo+n)-1-j<=lo+(lo+n)-1-i by omega) ⋯ G N
   ·rw[F.o _ (.inr (zE _))]at f;rw[Y,gD ⋯,zF ⋯,show lo+(lo+n)-1-(lo+n-1)=lo by omega,ep]at g;cases g;exact mM (mW (U v q f o)) hl
 ·have:n=1:=⋯
  subst this;refine⟨Ch.refl _ _ _,Dn.more (hi:=lo+1) (λi j x y b1 b2 W N G=>?_) ⋯ ⋯ λu v g f=>mW (U v u f g)⟩;have:i=j:=⋯
  subst this;rw[N]at G;cases G;exact iN _
 ·obtain⟨F,k⟩:=a9;refine zG (rS (wU ⟨rfl,?_⟩));refine zG (wK (xK (I:=λx c b=>∃d,c=(none,x,d)/\n+1<=x/\x<=r/\d+1<=x/\Ch lo (lo+x) st b/\Dn κ (arrOf b) lo (lo+x)/\Up κ (arrOf b) (lo+x-(d+1)) (lo+x))
   (Q:=λc b=>∃x d,c=(none,x,d)/\n+1<=x/\x<=r/\d+1<=x/\Ch lo (lo+x) st b/\Dn κ (arrOf b) lo (lo+x)/\Up κ (arrOf b) (lo+x-(d+1)) (lo+x)) ?_ ?_ ⟨0,rfl,zE _,⋯,⋯,F.wide ⋯,k,by rw[show lo+(n+1)=lo+n+1 by omega];exact Up.one⟩) ?_)
  ·rintro x c b b7 b9 ⟨d,rfl,M,D,L,ch,k,up⟩;have T:kindOf b=kd:=ch.k.trans K;have a1:=ch.good I;have R:=ch.z;dsimp only;refine zG (cH C T a1 ⋯ ⋯ λp q ep o=>?_);dsimp only;cases hl:lq κ p q with
   |true =>
    rw[zF rfl];refine nC (λO=>?_) λO=>?_
    ·refine zG (aG ⋯ λl a J=>zH ?_);have S:Ch lo (lo+x) b l:=⟨a.k,a.p,a.f,a.z,a.m,λi hi=>a.o i ⋯⟩;refine⟨0,rfl,⋯,⋯,⋯,(ch.trans S).wide ⋯,?_,by rw[show lo+(x+1)-(0+1)=lo+x by omega];exact Up.one⟩;refine Dn.more (hi:=lo+x) (by rw[J];exact Dn.turned k up ⋯ (zE _) ⋯) ⋯ (by rw[a.z];omega) λu v g f=>?_;rw[a.o _ (.inr (zE _)),ep]at f;cases f;rw[J,gD ⋯,zF ⋯]at g;have l1:le' κ q u:=k _ _ u q ⋯ (show lo+x-(d+1)+(lo+x)-1-(lo+x-1)<=lo+x-1 by omega) ⋯ g o;exact mM (mW hl) l1
    ·refine zH ⟨0,rfl,⋯,⋯,⋯,ch.wide ⋯,?_,by rw[show lo+(x+1)-(0+1)=lo+x by omega];exact Up.one⟩;refine Dn.more k ⋯ ⋯ λu v g f=>?_;rw[o]at g;rw[ep]at f;cases g;cases f;exact mW hl
   | false =>
    rw[zD (by simp)];refine zG (cH C T a1 ⋯ ⋯ λb8 c0 X a0=>?_);rw[o]at X;rw[ep]at a0;cases X;cases a0;dsimp only;cases hl2:lq κ q p with
    |true =>
     rw[zF rfl];exact zH ⟨x,d,rfl,M,D,L,ch,k,up⟩
    | false =>
     rw[zD (by simp)];refine zH ⟨d+1,rfl,⋯,⋯,⋯,ch.wide ⋯,?_,?_⟩
     ·refine Dn.more k ⋯ ⋯ λu v g f=>?_;rw[o]at g;rw[ep]at f;cases g;cases f;exact hl2
     ·have:=Up.more (hi':=lo+(x+1)) up ⋯ ⋯ λu v g f=>by
       rw[o]at g;rw[ep]at f;cases g;cases f;exact hl
      rw[show lo+(x+1)-(d+1+1)=lo+x-(d+1) by omega];exact this
  ·rintro c b ⟨d,rfl,M,D,L,ch,k,up⟩;exact⟨_,d,rfl,M,D,L,ch,k,up⟩
  ·rintro c b ⟨x,d,rfl,M,D,L,ch,k,up⟩;dsimp only;refine Ir (R:=λl=>Ch lo (lo+x) st l/\Dn κ (arrOf l) lo (lo+x)) (λO b4=>?_) (λO=>⟨ch,k⟩) λl a4=>?_
   ·have R:=ch.z;refine zG (aG ⋯ λl a J=>?_);have S:Ch lo (lo+x) b l:=⟨a.k,a.p,a.f,a.z,a.m,λi hi=>a.o i ⋯⟩;exact b4 l ⟨ch.trans S,by rw[J];exact Dn.turned k up ⋯ (zE _) ⋯⟩
   ·obtain⟨a,b0⟩:=a4;have b5:=a.z;refine zG (aG ⋯ λa5 a2 a6=>?_);have P:=a.trans a2;have c1:=a2.z;refine zG (Iu C (P.k.trans K) (P.good I) ⋯ ⋯ D (by rw[a6];exact Dn.up b0 ⋯) (λ_ _=>rfl) λm b6 a7 a3 _=>?_);dsimp only;exact zH (h m a5 ⋯ a7 (P.wide ⋯) a3)
theorem Sa{x y z:Keyed}(b:lq κ x y=true)(a:le' κ y z):lq κ x z=true:=KeyOrd.klt_of_klt_of_kle (O:=κ.toKeyOrd) b a
theorem Up.put{a:Array Keyed}{lo k l:Nat}{p:Keyed}(d:Up κ a lo (lo+k))(n:lo+k<a.size)(ep:a[lo+k]?=some p)(hl:l<=k)(q:∀i u,lo<=i->i<lo+l->a[i]?=some u->le' κ u p)(o:∀i u,lo+l<=i->i<lo+k->a[i]?=some u->lq κ p u=true):
  Up κ (bubble a (lo+k) (lo+k-(lo+l))) lo (lo+(k+1)):=λi j x y e m r c b=>by
 rw[getElem?_bubble n _ ⋯,show lo+k-(lo+k-(lo+l))=lo+l by omega]at c b
 by_cases f:i=lo+l
 ·rw[zF f,ep]at c;cases c
  by_cases b1:j=lo+l
  ·rw[zF b1,ep]at b;cases b;exact iN _
  ·rw[zD b1,zF ⋯]at b;exact mW (o _ _ ⋯ ⋯ b)
 ·rw[zD f]at c
  by_cases g:lo+l<i/\i<=lo+k
  ·rw[zF g]at c;rw[zD ⋯,zF ⋯]at b;exact d _ _ _ _ ⋯ (show i-1<=j-1 by omega) ⋯ c b
  ·rw[zD g]at c
   by_cases b1:j=lo+l
   ·rw[zF b1,ep]at b;cases b;exact q _ _ e ⋯ c
   ·rw[zD b1]at b
    by_cases b2:lo+l<j/\j<=lo+k
    ·rw[zF b2]at b;exact d _ _ _ _ e (show i<=j-1 by omega) ⋯ c b
    ·rw[zD b2]at b;exact d _ _ _ _ e m ⋯ c b
theorem Tz(K:Cmp prog w A s κ kd){st:SortSt}{lo n ok:Nat}{Q:Bool->SortSt->Prop}(I:kindOf st=kd)(D:∀x∈(arrOf st).toList,Gd κ x)(W:lo+n<=(arrOf st).size)(S:1<=ok)(F:ok<=n)(R:Up κ (arrOf st) lo (lo+ok))
  (h:∀a,Ch lo (lo+n) st a->Up κ (arrOf a) lo (lo+n)->Q true a):wpS (model prog w) A E s (binarySort' lo n ok) Q st:=by
 rw[binarySort'_eq];refine zG (wK (xK (I:=λk c a=>c=(none,())/\ok<=k/\k<=n/\Ch lo (lo+n) st a/\Up κ (arrOf a) lo (lo+k))
  (Q:=λc a=>c=(none,())/\Ch lo (lo+n) st a/\Up κ (arrOf a) lo (lo+n)) ?step ?fin ?init) ?post)
 case post =>
  rintro c a ⟨rfl,b,d⟩;exact zH (h a b d)
 case init=>rw[show max ok 1=ok by omega];exact⟨rfl,zE _,F,Ch.refl _ _ _,R⟩
 case fin =>
  rintro c a ⟨J,O,L,b,d⟩;rw[show max (max ok 1) n=n by omega]at d;exact⟨J,b,d⟩
 case step =>
  rintro k c a V Y ⟨rfl,O,L,b,d⟩;have Z:=b.z;have C:kindOf a=kd:=b.k.trans I;have P:=b.good D;obtain⟨p,ep⟩:=mG (a:=arrOf a) (i:=lo+k) ⋯;refine zG (wK (xK (I:=λx c e=>e=a/\∃l r,c=(none,l,r)/\l<=r/\r<=k/\r-l<=k-x /\
    (∀i u,lo<=i->i<lo+l->(arrOf a)[i]?=some u->le' κ u p)/\(∀i u,lo+r<=i->i<lo+k->(arrOf a)[i]?=some u->lq κ p u=true))
   (Q:=λc e=>e=a/\∃l r,c=(none,l,r)/\l<=k /\
    (∀i u,lo<=i->i<lo+l->(arrOf a)[i]?=some u->le' κ u p)/\(∀i u,lo+l<=i->i<lo+k->(arrOf a)[i]?=some u->lq κ p u=true)) ?istep ?ifin ?iinit) ?ipost)
  case iinit=>exact⟨rfl,0,k,rfl,⋯,⋯,⋯,λi u _ hi=>⋯,λi u S X=>⋯⟩
  case ifin =>
   rintro c e ⟨rfl,l,r,rfl,G,m,N,g,f⟩;have:l=r:=⋯
   subst this;exact⟨rfl,l,l,rfl,m,g,f⟩
  case istep =>
   rintro x c e _ T ⟨rfl,l,r,rfl,G,m,N,g,f⟩;dsimp only;refine nC (λM=>?_) λM=>?_
   ·have:l=r:=⋯
    subst this;exact zH ⟨rfl,l,l,rfl,m,g,f⟩
   ·refine zG (cH K C P ⋯ ⋯ λU q y v=>?_);rw[ep]at y;cases y;dsimp only;cases hless:lq κ p q with
    |true =>
     rw[zF rfl];refine zH ⟨rfl,l,(l+r)/2,rfl,⋯,⋯,⋯,g,λi u j t o=>?_⟩;exact Sa hless (d _ _ _ _ ⋯ j t v o)
    |false =>
     rw[zD (by simp)];refine zH ⟨rfl,(l+r)/2+1,r,rfl,⋯,⋯,⋯,λi u j t o=>?_,f⟩;exact mM (d _ _ _ _ j (show i<=lo+(l+r)/2 by omega) ⋯ o v) hless
  case ipost =>
   rintro c e ⟨rfl,l,r,rfl,z,g,f⟩;show wpS _ _ _ _ (do moveDown' (lo+k) (lo+l);pure (ForInStep.yield (none,()))) _ _;rw[moveDown'_eq];refine zG (wT (zH ⟨rfl,⋯,⋯,b.trans ⟨rfl,rfl,rfl,bubble_size _ _ _,bubble_perm _ _ _,λi hi=>?_⟩,d.put ⋯ ep z g f⟩));exact(getElem?_bubble ⋯ _ ⋯ i).trans (by rw[zD ⋯,zD ⋯])
def Run(κ:PyProof.Rows.KeyKind)(a:Array Keyed):Nat->List (Nat×Nat×Nat)->Nat->Prop
 |s,[],e=>s=e
 |s,x:: xs,e=>x.1=s/\1<=x.2.1/\Up κ a s (s+x.2.1)/\Run κ a (s+x.2.1) xs e
theorem Run.le{a:Array Keyed}:∀{xs:List (Nat×Nat×Nat)}{s e:Nat},Run κ a s xs e->s+xs.length<=e
 |[],s,e,h=>by have:s=e:=h;simp[this]
 |x:: xs,s,e,h=>by have:=Run.le h.2.2.2;have:=h.2.1;simp only[List.length_cons];omega
theorem Run.app{a:Array Keyed}:∀{xs ys:List (Nat×Nat×Nat)}{s e:Nat},Run κ a s (xs++ys) e ↔ ∃m,Run κ a s xs m/\Run κ a m ys e
 |[],ys,s,e=>⟨λh=>⟨s,rfl,h⟩,λ⟨m,c,b⟩=>by cases(show s=m from c);exact b⟩
 |x:: xs,ys,s,e=>⟨λ⟨c,b,d,f⟩=>let ⟨m,j,i⟩:=Run.app.mp f;⟨m,⟨c,b,d,j⟩,i⟩,λ⟨m,⟨c,b,d,f⟩,g⟩=>⟨c,b,d,Run.app.mpr ⟨m,f,g⟩⟩⟩
theorem Run.same{a b:Array Keyed}:∀{xs:List (Nat×Nat×Nat)}{s e:Nat},(∀i,s<=i->i<e->b[i]?=a[i]?)->Run κ a s xs e->Run κ b s xs e
 |[],_,_,_,h=>h
 |x:: xs,s,e,q,h=>by
  have:=Run.le h.2.2.2;exact⟨h.1,h.2.1,h.2.2.1.same λi c d=>q i c ⋯,Run.same (λi c d=>q i ⋯ d) h.2.2.2⟩
theorem Bd{a:Array Keyed}{i j:Nat}(h:Up κ a i j):Srt κ (seg a.toList i j):=by
 rw[Srt,List.pairwise_iff_getElem];intro d u c e f;have e1:=xN c;have b:=xN e;rw[cG]at e1 b;split at e1
 ·split at b
  ·exact h _ _ _ _ ⋯ (show i+d<=i+u by omega) ⋯ (oY.mpr e1) (oY.mpr b)
  ·cases b
 ·cases e1
theorem Ty{a:Array Keyed}{l X r:List Keyed}{i j:Nat}(e:a.toList=l++X++r)(hl:l.length=i)(k:X.length=j-i)(h:Srt κ X):Up κ a i j:=λp q x y o n m d b=>by
 have d:=oY.mp d;have b:=oY.mp b;rw[e,yI,zV ⋯,yD ⋯]at d b;rcases vW p q with c|c
 ·have g:p-l.length<X.length:=⋯
  have f:q-l.length<X.length:=⋯
  rw[xN g]at d;rw[xN f]at b;cases d;cases b;exact(List.pairwise_iff_getElem.mp h) _ _ g f ⋯
 ·have:p=q:=⋯
  subst this;rw[d]at b;cases b;exact iN _
structure Wt(κ:PyProof.Rows.KeyKind)(kd:SortKind)(a₀:Array Keyed)(hi:Nat)(st:SortSt):Prop where
 k:kindOf st=kd
 f:failedOf st=none
 m:(arrOf st).Perm a₀
 r:Run κ (arrOf st) 0 (pendingOf st).toList hi
theorem Wt.z{a₀:Array Keyed}{hi:Nat}{st:SortSt}(h:Wt κ kd a₀ hi st):(arrOf st).size=a₀.size:=h.m.size_eq
theorem Wt.good{a₀:Array Keyed}{hi:Nat}{st:SortSt}(h:Wt κ kd a₀ hi st)(b:∀x∈a₀.toList,Gd κ x):∀x∈(arrOf st).toList,Gd κ x:=λx a=>b x ((h.m.toList.mem_iff).mp a)
theorem Tx{p:Array (Nat×Nat×Nat)}{xs ys:List (Nat×Nat×Nat)}{e f g:Nat×Nat×Nat}(h:p.toList=xs++e:: f:: ys):((p.setIfInBounds xs.length g).eraseIdxIfInBounds (xs.length+1)).toList=xs++g:: ys:=by
 have a:xs.length+1<(p.setIfInBounds xs.length g).size:=by
  rw[Array.size_setIfInBounds,←zM,h];simp
 rw[Array.eraseIdxIfInBounds,dif_pos a,Array.toList_eraseIdx,Array.toList_setIfInBounds,h,List.set_append_right _ _ (zE _),vJ];rw[vV ⋯];simp
theorem Bc(y:Cmp prog w A s κ kd){a₀:Array Keyed}(p:∀x∈a₀.toList,Gd κ x){st:SortSt}{i hi:Nat}{xs ys:List (Nat×Nat×Nat)}{e f:Nat×Nat×Nat}{Q:Bool->SortSt->Prop}(c:Wt κ kd a₀ hi st)(hh:hi<=a₀.size)(d:(pendingOf st).toList=xs++e:: f:: ys)(o:i=xs.length)
  (h:∀a,Wt κ kd a₀ hi a->(pendingOf a).toList=xs++(e.1,e.2.1+f.2.1,e.2.2):: ys->(∀j,hi<=j->(arrOf a)[j]?=(arrOf st)[j]?)->Q true a):wpS (model prog w) A E s (mergeAt' i) Q st:=by
 subst o;have hr:=c.r;rw[d]at hr;obtain⟨m,r1,k,D,r,t,G,z,r2⟩:=Run.app.mp hr;have l1:=r1.le;have l2:=r2.le;have K:=c.z;have e1:(pendingOf st)[xs.length]?=some (m,e.2.1,e.2.2):=by
  rw[←yH,d,zV (zE _),vJ,←k];rfl
 have F:(pendingOf st)[xs.length+1]?=some (m+e.2.1,f.2.1,f.2.2):=by
  rw[←yH,d,zV ⋯,Nat.add_sub_cancel_left,←t];rfl
 refine Sc y c.k (c.good p) c.f e1 F D G ⋯ (Bd r) (Bd z) λa X I v u g l C=>?_;have J:X.length=e.2.1+f.2.1:=by rw[l.length_eq,Be (by rw[zM];omega)];omega
 have lt:((arrOf st).toList.take m).length=m:=by rw[yJ,zM];omega
 have ps:(pendingOf a).toList=xs++(e.1,e.2.1+f.2.1,e.2.2):: ys:=by
  rw[u,←k];exact Tx d
 have up:Up κ (arrOf a) m (m+e.2.1+f.2.1):=Ty g lt ⋯ C;have lo:∀j,j<m->(arrOf a)[j]?=(arrOf st)[j]?:=λj b=>by
  rw[←yH,←yH,g,yI,yD ⋯,uA b]
 have n:∀j,m+e.2.1+f.2.1<=j->(arrOf a)[j]?=(arrOf st)[j]?:=λj b=>by
  rw[←yH,←yH,g,zV (by rw[yE];omega),vK];congr 1;rw[yE];omega
 refine h a ⟨I,v,?_,?_⟩ ps λj b=>n j ⋯
 ·refine Array.Perm.trans (Array.perm_iff_toList_perm.mpr ?_) c.m;have q:=(l.append_left ((arrOf st).toList.take m)).append_right ((arrOf st).toList.drop (m+e.2.1+f.2.1));rw[Iw ⋯]at q;rw[g];exact q
 ·rw[ps];refine Run.app.mpr ⟨m,r1.same λj _ b=>lo j b,k,(show 1<=e.2.1+f.2.1 by omega),?_,?_⟩
  ·show Up κ _ m (m+(e.2.1+f.2.1));rw[←sU];exact up
  ·show Run κ _ (m+(e.2.1+f.2.1)) _ _;rw[←sU];exact r2.same λj b _=>n j b
theorem Run.modify{a:Array Keyed}{f:Nat×Nat×Nat->Nat×Nat×Nat}(b:∀e,(f e).1=e.1/\(f e).2.1=e.2.1):∀{xs:List (Nat×Nat×Nat)}{i s e:Nat},Run κ a s xs e->Run κ a s (xs.modify i f) e
 |[],i,s,e,h=>by cases i <;> exact h
 |x:: xs,0,s,e,h=>by
  show(f x).1=s/\1<=(f x).2.1/\Up κ a s (s+(f x).2.1)/\Run κ a (s+(f x).2.1) xs e;rw[(b x).1,(b x).2];exact h
 |x:: xs,i+1,s,e,h=>⟨h.1,h.2.1,h.2.2.1,Run.modify b h.2.2.2⟩
theorem Tw{b:Prop}[Decidable b]{z:Nat}(h:¬ z<=1):(if b then z-2-1 else z-2)+1<z:=by split <;> omega
theorem Bb{p:Array (Nat×Nat×Nat)}{i:Nat}(h:i+1<p.size):∃xs e f ys,p.toList=xs++e:: f:: ys/\xs.length=i:=by
 have h':i+1<p.toList.length:=by rw[zM];exact h
 refine⟨p.toList.take i,p.toList[i],p.toList[i+1],p.toList.drop (i+2),?_,by rw[yJ];omega⟩;rw[←vU,←vU,xY]
theorem Wt.push{a₀:Array Keyed}{lo n:Nat}{st:SortSt}(h:Wt κ kd a₀ lo st)(a:1<=n)(b:Up κ (arrOf st) lo (lo+n)):Wt κ kd a₀ (lo+n) (setPending st ((pendingOf st).push (lo,n,0))):=
 ⟨h.k,h.f,h.m,by
  show Run κ (arrOf st) 0 ((pendingOf st).push (lo,n,0)).toList (lo+n);rw[uP];exact Run.app.mpr ⟨lo,h.r,rfl,a,b,rfl⟩⟩
theorem Tv(D:Cmp prog w A s κ kd){a₀:Array Keyed}(u:∀x∈a₀.toList,Gd κ x){st:SortSt}{Q:Unit->SortSt->Prop}(a3:kindOf st=kd)(Z:failedOf st=none)(a5:pendingOf st=#[])(T:arrOf st=a₀)
  (h:∀a,kindOf a=kd->failedOf a=none->(arrOf a).Perm a₀->Up κ (arrOf a) 0 a₀.size->Q () a):wpS (model prog w) A E s sortRuns' Q st:=by
 rw[sortRuns'_eq];refine zG (tD ?_);rw[T];dsimp only;have a9:Wt κ kd a₀ 0 st:=⟨a3,Z,by rw[T],by rw[a5];rfl⟩;refine zG (wK (xK (I:=λx c a=>∃lo,c=(none,lo)/\x<=lo/\lo<=a₀.size/\Wt κ kd a₀ lo a)
  (Q:=λc a=>c=(none,a₀.size)/\Wt κ kd a₀ a₀.size a) ?step ?fin ⟨0,rfl,zE _,yB _,a9⟩) ?post)
 case fin =>
  rintro c a ⟨lo,rfl,b0,P,g⟩;have:lo=a₀.size:=⋯
  subst this;exact⟨rfl,g⟩
 case step =>
  rintro x c a b1 b2 ⟨lo,rfl,b0,P,g⟩;dsimp only;refine nC (λz=>?_) λz=>?_
  ·have:lo=a₀.size:=⋯
   subst this;exact zH ⟨rfl,g⟩
  have b3:=g.z;refine zG (Sb D g.k (g.good u) ⋯ ⋯ λn U O b4 k S=>?_);dsimp only;have V:∀l,kindOf l=kindOf a->pendingOf l=pendingOf a->failedOf l=failedOf a->(arrOf l).Perm (arrOf a)->(∀i,i<lo->(arrOf l)[i]?=(arrOf a)[i]?)->Wt κ kd a₀ lo l:=λl e1 a8 Y a6 a7=>⟨e1.trans g.k,Y.trans g.f,a6.trans g.m,by rw[a8];exact g.r.same λi _ hi=>a7 i hi⟩;refine nC (λy=>?_) λy=>?_
  ·refine zG (rS (wU ⟨rfl,?_⟩));have b5:=k.z;refine zG (Tz D (k.k.trans g.k) (k.good (g.good u)) ⋯ O ⋯ S λl I t=>?_);rw[zD (by simp)];obtain⟨v,L,r,t⟩:Wt κ kd a₀ lo l/\1<=min (a₀.size-lo) (minRun' a₀.size a₀.size 0)/\lo+min (a₀.size-lo) (minRun' a₀.size a₀.size 0)<=a₀.size/\Up κ (arrOf l) lo (lo+min (a₀.size-lo) (minRun' a₀.size a₀.size 0)):=⟨V l (I.k.trans k.k) (I.p.trans k.p) (I.f.trans k.f) (I.m.trans k.m) λi hi=>(I.o i (.inl hi)).trans (k.o i (.inl hi)),⋯,⋯,t⟩
   revert L r t
   generalize min (a₀.size-lo) (minRun' a₀.size a₀.size 0)=n;intro L r t;refine zG (tD ?_);cases hb:(pendingOf l).back? with
   |none =>
    dsimp only;exact zG (wT (zH ⟨lo+n,rfl,⋯,r,v.push L t⟩))
   | some G =>
    obtain⟨J,k1,a0⟩:=G;dsimp only;generalize power' a₀.size (2*J+k1) (2*J+k1+k1+n) a₀.size=C;refine zG (wK (xK (I:=λx c a=>c=(none,())/\Wt κ kd a₀ lo a/\Up κ (arrOf a) lo (lo+n))
     (Q:=λc a=>c=(none,())/\Wt κ kd a₀ lo a/\Up κ (arrOf a) lo (lo+n)) ?istep1 (λc a hh=>hh) ⟨rfl,v,t⟩) ?ipost1)
    case istep1 =>
     rintro x c b _ _ ⟨rfl,d,m⟩;refine zG (tD ?_)
     by_cases F:(pendingOf b).size > 1
     ·rw[zF F];obtain⟨xs,e,f,ys,ep,p⟩:=Bb (p:=pendingOf b) (i:=(pendingOf b).size-2) ⋯;have R:(pendingOf b)[(pendingOf b).size-2]?=some e:=by
       rw[←yH,ep,zV ⋯,p,vJ];rfl
      rw[R];dsimp only;refine nC (λ_=>zH ⟨rfl,d,m⟩) λ_=>?_;refine zG (Bc D u d P ep p.symm λW o N M=>?_);rw[zD (by simp)];exact zH ⟨rfl,o,m.same λi hi _=>M i hi⟩
     ·rw[zD F];exact zH ⟨rfl,d,m⟩
    case ipost1 =>
     rintro c b ⟨rfl,d,m⟩;dsimp only;refine zG (wT ?_);have o:Wt κ kd a₀ lo (setPending b ((pendingOf b).modify ((pendingOf b).size-1) λx=>(x.1,x.2.1,C))):=⟨d.k,d.f,d.m,by
      show Run κ (arrOf b) 0 ((pendingOf b).modify _ _).toList lo;rw[Array.toList_modify];exact Run.modify (f:=λx=>(x.1,x.2.1,C)) (λe=>⟨rfl,rfl⟩) d.r⟩
     exact zG (wT (zH ⟨lo+n,rfl,⋯,r,o.push L m⟩))
  ·have v:=V U k.k k.p k.f k.m λi hi=>k.o i (.inl hi);have r:lo+n<=a₀.size:=⋯
   refine zG (tD ?_);cases hb:(pendingOf U).back? with
   |none =>
    dsimp only;exact zG (wT (zH ⟨lo+n,rfl,⋯,r,v.push O S⟩))
   | some G =>
    obtain⟨J,k1,a0⟩:=G;dsimp only;generalize power' a₀.size (2*J+k1) (2*J+k1+k1+n) a₀.size=C;refine zG (wK (xK (I:=λx c a=>c=(none,())/\Wt κ kd a₀ lo a/\Up κ (arrOf a) lo (lo+n))
     (Q:=λc a=>c=(none,())/\Wt κ kd a₀ lo a/\Up κ (arrOf a) lo (lo+n)) ?istep (λc a hh=>hh) ⟨rfl,v,S⟩) ?ipost)
    case istep =>
     rintro x c b _ _ ⟨rfl,d,m⟩;refine zG (tD ?_)
     by_cases F:(pendingOf b).size > 1
     ·rw[zF F];obtain⟨xs,e,f,ys,ep,p⟩:=Bb (p:=pendingOf b) (i:=(pendingOf b).size-2) ⋯;have R:(pendingOf b)[(pendingOf b).size-2]?=some e:=by
       rw[←yH,ep,zV ⋯,p,vJ];rfl
      rw[R];dsimp only;refine nC (λ_=>zH ⟨rfl,d,m⟩) λ_=>?_;refine zG (Bc D u d P ep p.symm λW o N M=>?_);rw[zD (by simp)];exact zH ⟨rfl,o,m.same λi hi _=>M i hi⟩
     ·rw[zD F];exact zH ⟨rfl,d,m⟩
    case ipost =>
     rintro c b ⟨rfl,d,m⟩;dsimp only;refine zG (wT ?_);have o:Wt κ kd a₀ lo (setPending b ((pendingOf b).modify ((pendingOf b).size-1) λx=>(x.1,x.2.1,C))):=⟨d.k,d.f,d.m,by
      show Run κ (arrOf b) 0 ((pendingOf b).modify _ _).toList lo;rw[Array.toList_modify];exact Run.modify (f:=λx=>(x.1,x.2.1,C)) (λe=>⟨rfl,rfl⟩) d.r⟩
     exact zG (wT (zH ⟨lo+n,rfl,⋯,r,o.push O m⟩))
 case post =>
  rintro c a ⟨rfl,g⟩;dsimp only;have a1:=g.r.le;rw[zM]at a1;refine zG (wK (xK (I:=λx c a=>c=(none,())/\Wt κ kd a₀ a₀.size a/\((pendingOf a).size<=1\/(pendingOf a).size+x<=a₀.size))
   (Q:=λc a=>c=(none,())/\Wt κ kd a₀ a₀.size a/\(pendingOf a).size<=1) ?fstep ?ffin ⟨rfl,g,.inr ⋯⟩) ?fpost)
  case ffin =>
   rintro c b ⟨rfl,d,K⟩;exact⟨rfl,d,⋯⟩
  case fstep =>
   rintro x c b _ _ ⟨rfl,d,K⟩;refine zG (tD ?_);refine nC (λq=>zH ⟨rfl,d,q⟩) λq=>?_;generalize hi:(if Option.any (λx=>decide (x<(pendingOf b)[(pendingOf b).size-2+1]?.elim 0 λx=>x.2.1)) (if(pendingOf b).size-2 > 0 then Option.map (λx=>x.2.1) (pendingOf b)[(pendingOf b).size-2-1]? else none)=true then(pendingOf b).size-2-1 else(pendingOf b).size-2)=i;have hi':i+1<(pendingOf b).size:=by
    rw[←hi];exact Tw q
   obtain⟨xs,e,f,ys,ep,p⟩:=Bb hi';refine zG (Bc D u d (zE _) ep p.symm λW o N _=>?_);rw[zD (by simp)];refine zH ⟨rfl,o,.inr ?_⟩;have a4:=wI List.length ep;have X:=wI List.length N;simp only[Array.length_toList,List.length_append,List.length_cons]at a4 X;omega
  case fpost =>
   rintro c b ⟨rfl,d,K⟩;refine zH (h b d.k d.f d.m ?_);have hr:=d.r;rw[←zM]at K
   match hl:(pendingOf b).toList,hr,K with
   |[],hr,_ =>
    have:0=a₀.size:=hr;rw[←this];exactλi j x y _ _ a2=>absurd a2 (Nat.not_lt_zero _)
   |[G],hr,_ =>
    have:0+G.2.1=a₀.size:=hr.2.2.2;rw[←this];exact hr.2.2.1
end
def cI(prog:Program)(w:World)(n:Nat):Prop:=∀{A:Around}{E:VP}{s:Shared}{κ:PyProof.Rows.KeyKind}{kd:SortKind}{a₀:Array Keyed}{st:SortSt}{Q:Unit->SortSt->Prop},a₀.size=n->2<=n->Cmp prog w A s κ kd->(∀x∈a₀.toList,Gd κ x)->kindOf st=kd->failedOf st=none->pendingOf st=#[]->arrOf st=a₀ ->
 (∀st',kindOf st'=kd->failedOf st'=none->(arrOf st').Perm a₀->Up κ (arrOf st') 0 a₀.size->Q () st')->wpS (model prog w) A E s sortRuns' Q st
section
variable {prog:Program} {w:World}
theorem Tu(n:Nat):cI prog w n:=λ_ _ a b f c e d h=>Tv a b f c e d h
end
mutual
noncomputable def fl:PyData->LI'
 |.int i=>[i]
 |.tuple xs=>flA xs
 |_=>[]
noncomputable def flA:List PyData->LI'
 |[]=>[]
 |d:: ds=>fl d++flA ds
end
mutual
noncomputable def sm:PyData->PyData->Bool
 |.int _,.int _=>true
 |.tuple xs,.tuple ys=>smA xs ys
 |_,_=>false
noncomputable def smA:List PyData->List PyData->Bool
 |[],[]=>true
 |x:: xs,y:: ys=>sm x y && smA xs ys
 |_,_=>false
end
mutual
theorem aH:∀(x y:PyData),sm x y=true->(fl x).length=(fl y).length
 |.int _,y,h=>by cases y <;> simp[sm]at h <;> simp[fl]
 |.tuple xs,y,h=>by cases y <;> simp[sm]at h <;> simp[fl];exact Iq _ _ h
 |.none,y,h=>by simp[sm]at h
 |.bool _,y,h=>by simp[sm]at h
 |.str _,y,h=>by simp[sm]at h
 |.list _,y,h=>by simp[sm]at h
 |.dict _,y,h=>by simp[sm]at h
theorem Iq:∀(xs ys:List PyData),smA xs ys=true->(flA xs).length=(flA ys).length
 |[],ys,h=>by cases ys <;> simp[smA]at h <;> rfl
 |x:: xs,ys,h=>by
  cases ys <;> simp[smA]at h;simp only[flA,List.length_append];rw[aH _ _ h.1,Iq _ _ h.2]
end
mutual
theorem Ba:∀(x y:PyData),sm x y=true->fl x=fl y->x=y
 |.int _,y,h,e=>by cases y <;> simp[sm]at h;simp[fl]at e;rw[e]
 |.tuple xs,y,h,e=>by cases y <;> simp[sm]at h;simp only[fl]at e;rw[Ip _ _ h e]
 |.none,y,h,e=>by simp[sm]at h
 |.bool _,y,h,e=>by simp[sm]at h
 |.str _,y,h,e=>by simp[sm]at h
 |.list _,y,h,e=>by simp[sm]at h
 |.dict _,y,h,e=>by simp[sm]at h
theorem Ip:∀(xs ys:List PyData),smA xs ys=true->flA xs=flA ys->xs=ys
 |[],ys,h,e=>by cases ys <;> simp[smA]at h;rfl
 |x:: xs,ys,h,e=>by
  cases ys <;> simp[smA]at h;simp only[flA]at e;obtain⟨e1,a⟩:=List.append_inj e (aH _ _ h.1);rw[Ba _ _ h.1 e1,Ip _ _ h.2 a]
end
noncomputable def lx(a b:LI'):Bool:=decide (a<b)
theorem Cz:∀(a l1 l2:LI'),lx (a++l1) (a++l2)=lx l1 l2
 |[],_,_=>rfl
 |x:: a,l1,l2=>by
  rw[←Cz a l1 l2]
  refine decide_eq_decide.mpr ?_
  simp[List.cons_lt_cons_iff]
theorem Cy:∀(a b l1 l2:LI'),a.length=b.length->a≠b->lx (a++l1) (b++l2)=lx a b
 |[],[],_,_,_,h=>absurd rfl h
 |[],_:: _,_,_,h,_=>by simp at h
 |_:: _,[],_,_,h,_=>by simp at h
 |x:: a,y:: b,l1,l2,h,c=>by
  refine decide_eq_decide.mpr ?_
  simp only[List.cons_append,List.cons_lt_cons_iff]
  by_cases e:x=y
  ·subst e;have:=decide_eq_decide.mp (Cy a b l1 l2 (by simpa using h) (by simpa using c));rw[this]
  ·simp[e]
section
variable {prog:Program} {w:World} {E:VP}
theorem eqT{n:Nat}(f:n<=4){A:Around}{s:Shared}{v u:Value}{x y:PyData}{as bs:LA}{Q:Bool->Shared->Prop}(c:tT n x=true)(d:tT n y=true)(r1:Reads s.heap v x as)(r2:Reads s.heap u y bs)(g:A.units+8<cLine)(h:Q (decide (x=y)) s):wpAny (model prog w) A (eqBool v u) Q E s:=by
 have a:=gX n _ c;have b:=gX n _ d;have l1:=iK n _ a;have l2:=iK n _ b;refine PySem.SeqAt.eqBoolOverData _ _ _ _ _ _ _ _ _ _ _ _ r1 r2 l1.1 l2.1 ⋯ ?_;rw[←SeqAt.same_eq_eqv _ _ (bR n _ _ a b)];have e:=bT n _ _ a b
 by_cases z:x=y
 ·rw[zP z]at h;rw[e.mpr z];exact h
 ·rw[zN z]at h;have:same x y=false:=by
   cases q:same x y with
   |false=>rfl
   |true=>exact absurd (e.mp q) z
  rw[this];exact h
theorem ltT:∀(n:Nat),n<=4->∀{A:Around}{s:Shared}{v u:Value}{x y:PyData}{as bs:LA}{Q:VP},tT n x=true->tT n y=true->sm x y=true->Reads s.heap v x as->Reads s.heap u y bs->A.units+8+n<cLine->Q (.bool (lx (fl x) (fl y))) s->wpAny (model prog w) A (richCompare .Lt v u) Q E s:=by
 intro n
 induction n with
 |zero =>
  intro Z A s v u x y as bs Q C F D r1 r2 a8 h;cases r1 <;> simp[tT]at C;cases r2 <;> simp[tT]at F;refine wpAny_lt_int ?_;simpa [fl,lx,uZ]using h
 | succ n a5 =>
  intro Z A s v u x y as bs Q C F D r1 r2 a8 h;cases r1 <;> simp only[tT,Bool.false_eq_true]at C
  case int =>
   cases r2 <;> simp only[sm,Bool.false_eq_true]at D;refine wpAny_lt_int ?_;simpa [fl,lx,uZ]using h
  case tuple a o vs m xs hg hc hd hr =>
   cases r2 <;> simp only[sm,Bool.false_eq_true]at D;rename_i b Y us b6 ys O a1 a3 a2;simp only[tT]at F;have M:s.TypeIs (.ref a) "tuple" := ⟨o,hg,hc⟩;have P:s.TypeIs (.ref b) "tuple" := ⟨Y,O,a1⟩;refine wpAny_richCompare_same_room (op:=.Lt) M P PySem.F.slot_tuple_lt (xW PySem.F.slot_tuple_lt M PySem.F.entry_tuple_lt ?_ (PySem.F.args_tuple_lt_2 _ _)) ⋯;show wpAny _ _ (isInstance (.ref b) (.type "tuple") >>= _) _ _ s;refine zA (vY P isSubtype_tuple_tuple ?_);simp only[Bool.not_true,Bool.false_eq_true,if_false];refine zA (rZ hg hd ?_);refine zA (rZ O a3 ?_);refine zA ?_;refine wpAny_forIn_list _
    (λrest r t=>r.1=none/\t=s/\∃f g k j J G,rest=List.zip k j/\ReadsAll s.heap k f J/\ReadsAll s.heap j g G/\f.all (tT n)=true/\g.all (tT n)=true/\smA f g=true/\lx (flA f) (flA g)=lx (flA xs) (flA ys)/\(k.length+us.size=j.length+vs.size))
    _ ?_ ?_ _ _ ⟨rfl,rfl,xs,ys,vs.toList,us.toList,_,_,rfl,hr,a2,C,F,D,rfl,by simp;omega⟩
   ·rintro⟨p,q⟩ rest r t ⟨I,rfl,f,g,k,j,J,G,l,L,z,i,tb,c,d,K⟩;cases L with
    |nil=>simp at l
    | @cons b3 W d' X b7 a9 r1 S =>
     cases z with
     |nil=>simp[smA]at c
     |@cons b4 T N a7 b1 b5 r2 a4 =>
      simp only[List.zip_cons_cons,List.cons.injEq,Prod.mk.injEq]at l;obtain⟨⟨rfl,rfl⟩,rfl⟩:=l;rw[xI,zR]at i tb;simp only[smA,Bool.and_eq_true]at c;refine zA (eqT (n:=n) ⋯ i.1 tb.1 r1 r2 (by show A.units+1+8<cLine;omega) ?_)
      by_cases e:d'=N
      ·subst e;rw[zP rfl];simp only[Bool.not_true,Bool.false_eq_true,if_false];refine zB ⟨rfl,rfl,X,a7,W,T,_,_,rfl,S,a4,i.2,tb.2,c.2,?_,by simp at K;omega⟩;rw[←d];simp only[flA];rw[Cz]
      ·rw[zN e];simp only[Bool.not_false,if_true];have a0:fl d'≠fl N:=λq=>e (Ba _ _ c.1 q);simp only[flA]at d;rw[Cy _ _ _ _ (aH _ _ c.1) a0]at d;refine zA (wU ?_);refine zA (a5 ⋯ i.1 tb.1 c.1 r1 r2 (by show A.units+1+8+n<cLine;omega) ?_);rw[d];exact zA (zB (zB (zB ⟨_,rfl,(λe=>nomatch e),h⟩)))
   ·rintro⟨r1,r2⟩ t ⟨I,rfl,f,g,k,j,J,G,l,L,z,i,tb,c,d,K⟩;simp only at I;subst I;cases L with
    |cons b2 b0 =>
     cases z with
     |nil=>simp[smA]at c
     |cons a6 V=>simp at l
    | nil =>
     cases z with
     |cons a6 V=>simp[smA]at c
     |nil =>
      have U:vs.size=us.size:=by simp at K;omega
      have R:lx (flA xs) (flA ys)=false:=by rw[←d];simp[flA,lx]
      refine zB ⟨_,rfl,(λe=>nomatch e),?_⟩;show Q (.bool (decide (vs.size<us.size))) t;have h':Q (.bool (lx (flA xs) (flA ys))) t:=h;rw[R]at h';rw[U,zN (xC _)];exact h'
end
mutual
theorem Io:∀(d x y:PyData),sm d x=true->sm d y=true->sm x y=true
 |.int _,x,y,a,b=>by cases x <;> simp[sm]at a;cases y <;> simp[sm]at b;simp[sm]
 |.tuple xs,x,y,a,b=>by cases x <;> simp[sm]at a;cases y <;> simp[sm]at b;simp only[sm];exact Im _ _ _ a b
 |.none,x,y,a,b=>by simp[sm]at a
 |.bool _,x,y,a,b=>by simp[sm]at a
 |.str _,x,y,a,b=>by simp[sm]at a
 |.list _,x,y,a,b=>by simp[sm]at a
 |.dict _,x,y,a,b=>by simp[sm]at a
theorem Im:∀(d x y:List PyData),smA d x=true->smA d y=true->smA x y=true
 |[],x,y,b,a=>by cases x <;> simp[smA]at b;cases y <;> simp[smA]at a;simp[smA]
 |d:: ds,x,y,b,a=>by
  cases x <;> simp[smA]at b;cases y <;> simp[smA]at a;simp only[smA,Bool.and_eq_true];exact⟨Io _ _ _ b.1 a.1,Im _ _ _ b.2 a.2⟩
end
theorem Tt(a:LI'):lx a a=false:=zN (List.lt_irrefl a)
theorem Ts(a b c:LI')(e:lx a b=true)(d:lx b c=true):lx a c=true:=zP (List.lt_trans (xQ e) (xQ d))
theorem Tr(a b:LI')(d:lx a b=false)(c:lx b a=false):a=b:=List.le_antisymm (oC.mp (vL c)) (oC.mp (vL d))
theorem Tq(a b c:LI')(h:lx a c=true):lx a b=true\/lx b c=true:=by
 cases h1:lx a b with
 |true=>exact .inl rfl
 | false =>
  refine .inr ?_;cases h2:lx b c with
  |true=>rfl
  |false =>
   have e1:b<=a:=oC.mp (vL h1);have d:c<=b:=oC.mp (vL h2);exact absurd (xQ h) (oC.mpr (List.le_trans d e1))
open Classical in
def keyT(h:Heap)(d0:PyData)(v:Value):Option (LI'):=if q:∃d,tT 4 d=true/\sm d0 d=true/\∃as,Reads h v d as then some (fl q.choose) else none
theorem Il{h:Heap}{d0 d:PyData}{v:Value}{as:LA}(a:tT 4 d=true)(z:sm d0 d=true)(r:Reads h v d as):keyT h d0 v=some (fl d):=by
 have q:∃d,tT 4 d=true/\sm d0 d=true/\∃as,Reads h v d as:=⟨d,a,z,as,r⟩;unfold keyT;rw[dif_pos q];obtain⟨t',c,e,b⟩:=q.choose_spec;rw[PySem.SeqAt.Reads.unique _ _ _ _ _ (iK 4 _ (gX 4 _ t')).1 b r]
theorem Ik{h:Heap}{d0:PyData}{v:Value}{a:LI'}(e:keyT h d0 v=some a):∃d as,tT 4 d=true/\sm d0 d=true/\Reads h v d as/\a=fl d:=by
 unfold keyT at e
 by_cases q:∃d,tT 4 d=true/\sm d0 d=true/\∃as,Reads h v d as
 ·rw[dif_pos q]at e;obtain⟨t',b,c,f⟩:=q.choose_spec;exact⟨_,c,t',b,f,by cases e;rfl⟩
 ·rw[dif_neg q]at e;cases e
def eN(h:Heap)(d0:PyData):PyProof.Rows.KeyKind where
 α:=LI'
 blt:=lx
 irrefl:=Tt
 trans:=Ts
 negTrans:=Tq
 total:=Tr
 keyOf:=keyT h d0
 dflt:=[]
section
variable {prog:Program} {w:World} {A:Around} {s:Shared}
theorem katT(r:A.units+16<cLine){Q:Bool->Shared->Prop}:∀(c a:List PyData)(g f:LW)(m l:LA)(i:Nat),ReadsAll s.heap g c m->ReadsAll s.heap f a l->c.all (tT 3)=true->a.all (tT 3)=true->smA c a=true->Q (lx (flA c) (flA a)) s->PySem.W.KatLex prog w A false false Q (g.zip f) i s
 | [],a,g,f,m,l,i,n,k,_,_,b,h=>by
  cases n;cases a with
  |cons _ _=>simp[smA]at b
  |nil =>
   cases k;refine PySem.W.kat_nil ?_;simpa [flA,lx]using h
 | d :: c,a,g,f,m,l,i,n,k,j,tb,b,h=>by
  cases a with
  |nil=>simp[smA]at b
  | cons e a =>
   cases n with
   | cons r1 o =>
    cases k with
    |cons r2 p =>
     rw[xI,zR]at j tb;simp only[smA,Bool.and_eq_true]at b;rw[rV];refine PySem.W.kat_cons (eqT (n:=3) ⋯ j.1 tb.1 r1 r2 ⋯ ?_);simp only[flA]at h
     by_cases z:d=e
     ·subst z;rw[zP rfl];rw[Cz]at h;exact PySem.W.kat_yes (katT r c a _ _ _ _ (i+1) o p j.2 tb.2 b.2 h)
     ·rw[zN z];rw[Cy _ _ _ _ (aH _ _ b.1) λq=>z (Ba _ _ b.1 q)]at h;refine PySem.W.kat_no ?_;show wpAny (model prog w) A (oneLt' false _ _) Q _ s;exact PySem.W.kat_one _ _ (ltT 3 ⋯ j.1 tb.1 b.1 r1 r2 ⋯ h)
theorem cmpT(C:A.units+16<cLine){d0:PyData}(c:∃l,d0=.tuple l):Cmp prog w A s (eN s.heap d0) (tuples' false):=by
 intro E x y a b Q t q h;obtain⟨l,rfl⟩:=c;obtain⟨d,as,g,j,r1,rfl⟩:=Ik t;obtain⟨e,bs,n,k,r2,rfl⟩:=Ik q;have z:=Io _ _ _ j k;cases r1 <;> simp only[sm,Bool.false_eq_true]at j
 case tuple a o vs m xs hg hc c hr =>
  cases r2 <;> simp only[sm,Bool.false_eq_true]at k;rename_i b G us F ys u D v i;simp only[tT]at g n;simp only[sm]at z;have hl:vs.size=us.size:=by
   have e1:∀{h:Heap}{vs:LW}{xs:List PyData}{as:LA},ReadsAll h vs xs as->vs.length=xs.length:=by
    intro h vs xs as r
    induction xs generalizing vs as with
    |nil=>cases r;rfl
    |cons x xs f=>cases r with|cons r1 r2=>simp[f r2]
   have p:∀{xs ys:List PyData},smA xs ys=true->xs.length=ys.length:=by
    intro xs
    induction xs with
    |nil=>intro ys h;cases ys <;> simp[smA]at h;rfl
    |cons x xs f=>intro ys h;cases ys <;> simp[smA]at h;simp[f h.2]
   have:=e1 hr;have:=e1 i;have:=p z;simp only[Array.length_toList]at*
   omega
  refine PySem.W.kat_lt hg c u v ?_;rw[zN ⋯];exact katT C xs ys _ _ _ _ 0 hr i g n z h
end
theorem Cv{h h':Heap}(g:∀b o,h.get? b=some o->o.cls=.type "tuple" -> h'.get? b=some o):∀(n:Nat){v:Value}{d:PyData}{as:LA},tT n d=true->Reads h v d as->Reads h' v d as:=by
 intro n
 induction n with
 |zero =>
  intro v d as c r;cases r <;> simp[tT]at c;exact .int _ _
 | succ n e =>
  have all:∀(xs:List PyData)(vs:LW)(as:LA),xs.all (tT n)=true->ReadsAll h vs xs as->ReadsAll h' vs xs as:=by
   intro xs
   induction xs with
   |nil=>intro vs as _ r;cases r;exact .nil
   | cons d ds f =>
    intro vs as c r;cases r with
    |cons r1 r2 =>
     rw[xI,zR]at c;exact .cons (e c.1 r1) (f _ _ c.2 r2)
  intro v d as c r;cases r <;> simp only[tT,Bool.false_eq_true]at c
  case int=>exact .int _ _
  case tuple a o vs k xs hg hc hdd hr=>exact .tuple (g _ _ hg hc) hc hdd (all _ _ _ c hr)
theorem Paired.perm{g f:Type}{F:g->f->Prop}{ys i:List f}(p:ys.Perm i):∀{xs:List g},Paired F xs ys->∃e,e.Perm xs/\Paired F e i:=by
 induction p with
 |nil=>intro xs h;exact⟨xs,List.Perm.refl _,h⟩
 | cons x p q =>
  intro xs h;cases h with
  |@cons a b l1 l2 d c =>
   obtain⟨e,m,h'⟩:=q c;exact⟨a:: e,m.cons _,.cons d h'⟩
 | swap x y l =>
  intro xs h;cases h with
  |@cons a b l1 l2 d c =>
   cases c with
   |@cons t D v I n r=>exact⟨t:: a:: v,List.Perm.swap ..,.cons n (.cons d r)⟩
 |trans z G o j =>
  intro xs h;obtain⟨C,u,d⟩:=o h;obtain⟨k,w,c⟩:=j d;exact⟨k,w.trans u,c⟩
theorem Paired.mem{b c:Type}{F:b->c->Prop}{xs:List b}{ys:List c}(h:Paired F xs ys):∀x∈xs,∃y∈ys,F x y:=by
 induction h with
 |nil=>intro x a;cases a
 |cons g i f =>
  intro x a;rcases xH.mp a with e|a
  ·subst e;exact⟨_,.head _,g⟩
  ·obtain⟨y,d,q⟩:=f x a;exact⟨y,.tail _ d,q⟩
theorem ord_of{κ:PyProof.Rows.KeyKind}{a:Type}{F:a->Value->Prop}{k:a->κ.α}(c:∀p v,F p v->κ.keyOf v=some (k p)):∀(L:List Keyed)(ps:List a),(∀e∈L,e.1=e.2)->L.Pairwise (le' κ)->Paired F ps (L.map (·.2))->ps.Pairwise λp q=>κ.blt (k q) (k p)=false
 |[],ps,_,_,h=>by cases h;exact .nil
 | e:: L,ps,d,f,h=>by
  cases h with
  |@cons p b l1 l2 t i =>
   rw[List.pairwise_cons]at f;refine .cons (λq m=>?_) (ord_of c L l1 (λx n=>d x (.tail _ n)) f.2 i);obtain⟨v,r,o⟩:=Paired.mem i q m;obtain⟨y,g,rfl⟩:=oE.mp r;have l:=f.1 y g;have k1:ky κ e=k p:=by unfold ky;rw[d e (.head _),c _ _ t];rfl
   have k2:ky κ y=k q:=by unfold ky;rw[d y (.tail _ g),c _ _ o];rfl
   have j:κ.blt (ky κ y) (ky κ e)=false:=l;rw[k1,k2]at j;exact j
structure TV(K:Frag)(H:Hp)(d0:PyData)(p:V×PyData)(v:Value):Prop where
 r:RelV p.1 v
 t:tT 4 p.2=true
 z:sm d0 p.2=true
 d:Dt K H p.1 p.2
theorem TV.vals{K:Frag}{H:Hp}{d0:PyData}{ps:List (V×PyData)}{vs:LW}(h:Paired (TV K H d0) ps vs):Vals (ps.map (·.1)) vs:=by
 induction h with
 |nil=>exact .nil
 |cons b _ a=>exact .cons b.r a
theorem Cu:∀{vs:LW}{e:Keyed},e∈vs.zip vs->e.1=e.2
 |[],e,h=>by cases h
 |v:: vs,e,h=>by
  rw[rV]at h;rcases xH.mp h with h|h
  ·rw[h]
  ·exact Cu h
theorem mE{b a:Type}{F:b->a->Prop}{xs:List b}{ys:List a}(h:Paired F xs ys):xs.length=ys.length:=by
 induction h with
 |nil=>rfl
 |cons _ _ c=>simp[c]
theorem Ct{b c:Type}{F:b->c->Prop}{xs:List b}{ys:List c}(h:Paired F xs ys):∀y∈ys,∃x∈xs,F x y:=by
 induction h with
 |nil=>intro x a;cases a
 |cons g i f =>
  intro x a;rcases xH.mp a with e|a
  ·subst e;exact⟨_,.head _,g⟩
  ·obtain⟨y,d,q⟩:=f x a;exact⟨y,.tail _ d,q⟩
theorem Tp{l:List Keyed}{n:Nat}(h:l.length=n):seg l 0 n=l:=by
 unfold seg;rw[List.drop_zero,Nat.sub_zero,yT ⋯]
section
variable {X:Cx} {pins:PN} {σ:St} {H:Hp} {s:Shared} {a:Addr} {A:Around} {E:VP} {vs:LW} {ps:List (V×PyData)} {n0:Nat} {R:VP} {d0:PyData} {l0 l1:List PyData}
theorem To(b4:cI X.prog X.w vs.length)(c5:A.units+16<cLine)(I:Inv X pins σ H s)(b9:FpOk X pins H a)(w:s.heap.get? a=some (seqObj "list" vs.toArray n0))(S:vs.length<=sizeLine)(Z:d0=.tuple (.tuple l1:: l0))(C:Paired (TV X.K H d0) ps vs)
  (h:∀(n:List (V×PyData)) H' K,Inv X pins σ H' K->Same H H'->H' a=some (.lst (n.map (·.1)))->n.Perm ps->n.Pairwise (λp q=>lx (fl q.2) (fl p.2)=false)->R .none K):
  wpAny (model X.prog X.w) A (Builtin.«list.sort» ⟨[.ref a],[]⟩) (λM K=>∃v,M=.done (.ret v)/\R v K) E s:=by
 obtain⟨O,T,c9,a2,a1,a3⟩:=b9;rw[list_sort_plain];have c8:a<s.heap.objs.size:=zL w;refine zA (listItems_at w rfl ?_);refine zA (listUpdate_at w rfl ?_ (by rw[zT];exact S) (yB _));obtain⟨e1,a5⟩:∃e1,(s.heap.update a (Obj.mapSeq λ_=>(#[]:Array Value))).get? a=some (seqObj "list" #[] e1):=⟨_,get?_update_seq w (λ_=>#[])⟩;have c6:=vD s.heap a (Obj.mapSeq λ_=>(#[]:Array Value));have c3:Inv X pins σ H {s with heap:=s.heap.update a (Obj.mapSeq λ_=>(#[]:Array Value)),toks:=s.toks}:=I.turned (λb o j q=>(c6.2 b j).trans q) O T a2 a1 a3;refine zA (seqEpoch_at a5 rfl ?_);refine zA (pN ?_ S);refine zA (wpAny_newList ?_ (yB _));refine xB ?_;have F:(((s.heap.update a (Obj.mapSeq λ_=>(#[]:Array Value))).push (seqObj "tuple" vs.toArray 0)).push (seqObj "list" #[] 0)).get? a=some (seqObj "list" #[] e1):=zC _ (zC _ a5);have y:Inv X pins σ H {s with heap:=((s.heap.update a (Obj.mapSeq λ_=>(#[]:Array Value))).push (seqObj "tuple" vs.toArray 0)).push (seqObj "list" #[] 0),toks:=s.toks}:=c3.kept λb o q=>zC _ (zC _ q);show wpAny (model X.prog X.w) A _ _ E {s with heap:=((s.heap.update a (Obj.mapSeq λ_=>(#[]:Array Value))).push (seqObj "tuple" vs.toArray 0)).push (seqObj "list" #[] 0),toks:=s.toks};generalize ((s.heap.update a (Obj.mapSeq λ_=>(#[]:Array Value))).push (seqObj "tuple" vs.toArray 0)).push (seqObj "list" #[] 0)=f at*
 dsimp only;have M:∀d:SortSt,(arrOf d).Perm (pairsOf vs)->Srt (eN f d0) (arrOf d).toList->R .none {s with heap:=f.update a (Obj.mapSeq λ_=>(arrOf d).map (·.2))}:=by
  intro d J so;have pl:(arrOf d).toList.Perm (vs.zip vs):=by rw[←pairsOf_toList];exact Array.perm_iff_toList_perm.mp J
  have Y:∀e∈(arrOf d).toList,e.1=e.2:=λe Y=>Cu (pl.mem_iff.mp Y);have a7:vs.Perm ((arrOf d).toList.map (·.2)):=by
   have:=(pl.map (·.2)).symm;rw[List.map_snd_zip (zE _)]at this;exact this
  obtain⟨n,a0,a4⟩:=Paired.perm a7 C;have a8:∀p v,TV X.K H d0 p v->(eN f d0).keyOf v=some (fl p.2):=λp v i=>by
   obtain⟨as,r⟩:=i.d.reads y i.r;exact Il i.t i.z r
  have b6:=ord_of (κ:=eN f d0) (k:=λp:V×PyData=>fl p.2) a8 _ n Y so a4;have c1:((arrOf d).map (·.2)).toList=(arrOf d).toList.map (·.2):=Array.toList_map ..;generalize (arrOf d).map (·.2)=out at*
  have G:=vD f a (Obj.mapSeq λ_=>out);obtain⟨U,P⟩:∃U,(f.update a (Obj.mapSeq λ_=>out)).get? a=some (seqObj "list" (out) U):=⟨_,get?_update_seq F λ_=>out⟩;generalize f.update a (Obj.mapSeq λ_=>out)=b1 at*
  refine h n (upd H a (.lst (n.map (·.1)))) _ ?_ ?_ oP a0 b6
  ·have D:∀b u,H b=some u->b≠a:=λb u e z=>by rw[z,O]at e;cases e
   refine Inv.step (s:={s with heap:=f,toks:=s.toks}) (h':=b1) (H':=upd H a (.lst (n.map (·.1)))) (I:=y) (g':=s.gens) (d':=s.drawn) (t':=s.toks) (ch:=[a]) (λb j=>?_) (λb o _ _ g e _=>(G.2 b (λz=>g (by simp[z]))).trans e) (λb o _ _ g e _=>⟨o.slots,(G.2 b (λz=>g (by simp[z]))).trans e⟩)
    (λb o g e q=>by rw[oT (λz=>g (by simp[z]))];exact q) (λb o g e=>⟨o,(G.2 b (λz=>g (by simp[z]))).trans e⟩) (λb xs e=>by rw[oT (D _ _ e)];exact e) (λb o u e=>by rw[oT (D _ _ e)];exact e)
    (λb ps e=>⟨#[],by rw[oT (D _ _ e),e];simp⟩) (λm W=>?_) (λb u e=>?_) y.bare
   ·have e:b=a:=by simpa using j
    subst e;exact⟨a2,T,a1,a3⟩
   ·obtain⟨o,es,ep,w,r⟩:=W;exact⟨o,es,ep,(G.2 _ (yA T)).trans w,r⟩
   ·by_cases j:b=a
    ·subst j;rw[oP]at e;cases e;refine⟨?_,(arrOf d).toList.map (·.2),U,TV.vals a4,by rw[P,←c1]⟩;rw[yS,a0.length_eq,mE C];exact S
    ·rw[oT j]at e;refine(y.hok b u e).stay (λc v g q=>(G.2 c ?_).trans q) (λc q=>by rw[oT (D _ _ q)];exact q) λc xs q=>by rw[oT (D _ _ q)];exact q
     rcases g with z|z
     ·rw[z];exact j
     ·exact D c _ z
  ·intro b u q;rw[oT (λz=>by rw[z,O]at q;cases q)];exact q
 have hsz:vs.toArray.size=vs.length:=by simp
 by_cases t:vs.toArray.size<2
 ·rw[zF t,zF t];refine zA (zB ?_);rw[StateT.run_pure];refine zA (zB ?_);dsimp only;refine zA (seqEpoch_at F rfl ?_);refine zA (listUpdate_at F rfl ?_ (yB _) (by rw[Array.size_map];show(pairsOf vs).size<=_;rw[pairsOf_size];omega));simp only[bne_self_eq_false,Bool.false_eq_true,if_false];refine zB ⟨_,rfl,M (SortSt.mk' general' (vs.toArray.zip vs.toArray) #[] 7 none) (Array.Perm.refl _) ?_⟩;show Srt _ (pairsOf vs).toList;rw[pairsOf_toList]
  match vs,hsz,t with
  |[],_,_=>exact .nil
  |[_],_,_=>exact .cons (λ_ h=>nomatch h) .nil
  |_:: _:: _,_,t=>simp at t;omega
 ·rw [zD t,zD t];have c2:∀{ps:List (V×PyData)}{vs:LW},Paired (TV X.K H d0) ps vs->∃fs,PySem.W.KatTups f vs fs/\fs.length=vs.length/\∀v∈fs,∃b o,v=.ref b/\f.get? b=some o/\o.cls=.type "tuple" := by
   intro ps vs C
   induction C with
   |nil=>exact⟨[],PySem.W.KatTups.nil,rfl,λ_ h=>nomatch h⟩
   | @cons p v ps vs i _ b7 =>
    obtain⟨fs,k,l,b8⟩:=b7;obtain⟨as,r⟩:=i.d.reads y i.r;have z:=i.z;rw[Z]at z;generalize p.2=dd at*
    cases r <;> simp only[sm,Bool.false_eq_true]at z
    case tuple b o us m xs hg g hd hr =>
     cases xs with
     |nil=>simp[smA]at z
     | cons x xs =>
      simp only[smA,Bool.and_eq_true]at z;cases hr0:us.toList with
      |nil=>rw[hr0]at hr;cases hr
      | cons u d2 =>
       rw[hr0]at hr;cases hr with
       | cons r1 r2 =>
        have c4:=z.1;cases r1 <;> simp only[sm,Bool.false_eq_true]at c4
        case tuple b2 o2 us2 m2 xs2 hg2 P hd2 hr2 =>
         refine⟨.ref b2:: fs,PySem.W.KatTups.cons hg g hd ?_ k,by simp[l],λv L=>?_⟩
         ·rw[←yH,hr0];rfl
         ·rcases xH.mp L with e|L
          ·exact⟨b2,o2,e,hg2,P⟩
          ·exact b8 v L
  obtain⟨fs,c7,d1,b5⟩:=c2 C;refine zA (PySem.W.kat_kind (s:={s with heap:=f,toks:=s.toks}) (T:=.type "tuple") c7 ⋯ (λv L=>?_) rfl ?_)
  ·obtain⟨b,o,rfl,j,g⟩:=b5 v L;exactλA Q E s k q=>uW (T:= "tuple") ⟨o,k _ _ j,g⟩ q
  have a9:(Value.type "tuple" != Value.type "tuple")=false:=∅
  rw[a9];refine zA (yU (b4 (κ:=eN f d0) (kd:=tuples' false) (a₀:=pairsOf vs) (st:=SortSt.mk' (tuples' false) (vs.toArray.zip vs.toArray) #[] 7 none)
   (Q:=λ_ d=>(arrOf d).Perm (pairsOf vs)/\failedOf d=none/\Up (eN f d0) (arrOf d) 0 (pairsOf vs).size) (pairsOf_size _) ⋯ (cmpT (s:={s with heap:=f,toks:=s.toks}) c5 ⟨_,Z⟩) (λx N=>?_) rfl rfl rfl rfl λd _ c0 b3 a6=>⟨b3,c0,a6⟩) ?_ λ_ _ e=>e)
  ·rw[pairsOf_toList]at N;have e:=Cu N;have W:x.2∈vs:=(rN (a:=x.1) (b:=x.2) N).2;obtain⟨p,_,i⟩:=Ct C x.2 W;obtain⟨as,r⟩:=i.d.reads y i.r;exact⟨fl p.2,by rw[e];exact Il i.t i.z r⟩
  rintro⟨⟨⟩,d⟩ K ⟨rfl,J,b0,up⟩;dsimp only;refine zA (seqEpoch_at F rfl ?_);refine zA (listUpdate_at F rfl ?_ (yB _) (by refine yG (tX ((Array.size_map ..).trans (J.size_eq.trans (pairsOf_size _)))) ?_;omega));rw[b0];simp only[bne_self_eq_false,Bool.false_eq_true,if_false];refine zB ⟨_,rfl,M d J ?_⟩;have:=Bd up
  rwa[Tp (by rw[zM];exact J.size_eq)]at this
end
abbrev Asc(ps:List (V×PyData)):Prop:=ps.Pairwise λp q=>lx (fl q.2) (fl p.2)=false
section
variable {X:Cx} {pins:PN} {σ:St} {H:Hp} {s:Shared} {d0:PyData} {l0 l1:List PyData}
theorem Tn{N:Nat}(l:∀n,n<=N->cI X.prog X.w n)(z:X.A.units+64<cLine){ps:List (V×PyData)}{its:LW}{v:Value}{Q:VK}(f:its.length<=sizeLine)(t:its.length<=N)(j:d0=.tuple (.tuple l1:: l0))(w:Paired (TV X.K H d0) ps its)
  (k:∀(i:LW->Shared->Prop)(x:VP),(∀a,Inv X pins σ H a->i its a)->wpAny (model X.prog X.w) X.A.in1 (collect v) i x s)
  (h:∀q(c:List (V×PyData)) H',Same H H'->H q=none->H' q=some (.lst (c.map (·.1)))->c.Perm ps->Asc c->Q (.ref q) H'):
  wpAny (model X.prog X.w) X.A (call (.builtin "sorted") [v]) (EP X pins σ Q) X.xe s:=by
 refine Calls.call_function_entry kind_sorted plain_sorted entry_sorted (args_sorted1 _) ?_;unfold Builtin.«sorted»;refine zA (m:=checkCount "sorted" 1 1 _) (zB ?_);refine zA (k _ _ λa I=>?_);refine zA (wpAny_newList ?_ f);have g:(a.heap.push (seqObj "list" its.toArray 0)).get? a.heap.objs.size=some (seqObj "list" its.toArray 0):=zS _ rfl;have d:H a.heap.objs.size=none:=I.hok.fresh (zE _);have r:=I.fpOk (zE _) d;have u:Inv X pins σ H {a with heap:=a.heap.push (seqObj "list" its.toArray 0),toks:=a.toks}:=I.kept λb o q=>zC _ q;refine zA (xB (xW slot_list_sort ⟨_,g,rfl⟩ entry_list_sort ?body (args_list_sort _)));show wpAny (model X.prog X.w) X.A.in1.in1 (Builtin.«list.sort» ⟨[.ref a.heap.objs.size],[]⟩) _ _ {a with heap:=a.heap.push (seqObj "list" its.toArray 0),toks:=a.toks};refine To (l _ t) (A:=X.A.in1.in1) (by show X.A.units+1+1+16<cLine;omega) u r g f j w λc H' y m sm e p o=>?_;exact zB ⟨_,rfl,.ref a.heap.objs.size,H',m,rfl,h _ c H' sm d e p o⟩
end
def RawD(h:Heap)(d:Addr)(es:Array DictEntry)(ep:Nat):Prop:=∃o,h.get? d=some o/\o.ExactDict/\o.data=.dict es ep
theorem RawD.at{h h':Heap}{d:Addr}{es:Array DictEntry}{ep:Nat}(x:RawD h d es ep)(e:∀o,h.get? d=some o->h'.get? d=some o):RawD h' d es ep:=let ⟨o,a,r⟩:=x;⟨o,e _ a,r⟩
section
variable {prog:Program} {w:World} {A:Around} {E:VP} {s:Shared} {d it:Addr} {es:Array DictEntry} {ep i:Nat}
theorem RawD.typeIs(x:RawD s.heap d es ep):s.TypeIs (.ref d) "dict" := let ⟨o,b,a,_⟩:=x;⟨o,b,a.1⟩
theorem Tm{Q:VP}(g:(d == sysModules)=false)(b:RawD s.heap d es ep)
  (f:Q (.ref s.heap.objs.size) {s with heap:=s.heap.push {cls:=.type "dict_keyiterator",data:=.fields #[.ref d,.int 0 0,.int es.size 0,.int ep 0]}}):wpAny (model prog w) A (pyIter (.ref d)) Q E s:=by
 obtain⟨o,e,j,c⟩:=id b;have a:=b.typeIs;refine wpAny_pyIter_slot a PySem.F.slot_dict_iter (xW PySem.F.slot_dict_iter a PySem.F.entry_dict_iter ?_ (PySem.F.args_dict_iter_1 _));unfold Builtin.«dict.__iter__»;refine zA ?_;unfold Builtin.Dict.dictSlotNone;refine zA (wpAny_notOrdered_dict a ?_);show wpAny _ _ (pure (Value.ref d)) _ _ s;refine zB ?_;show wpAny _ _ (Builtin.Dict.showsAll d >>= _) _ _ s;unfold Builtin.Dict.showsAll;rw[zD (by rw[g];exact zX)];refine zA (zB ?_);refine zA (qK e c ?_);refine zA (pF e c ?_);exact zA (xL (zB ⟨_,rfl,"dict_keyiterator",_,⟨_,zS _ rfl,rfl⟩,PySem.F.slot_dict_keyiterator_next.lookup,f⟩))
theorem Tl{Q:Option Value->Shared->Prop}(a:s.heap.IsKeyIter it d i es.size ep)(l:RawD s.heap d es ep)(hi:i<es.size)
  (m:∀h',h'.IsKeyIter it d (i+1) es.size ep->Heap.SameBut it s.heap h'->Q (some es[i].key) {s with heap:=h'}):wpAny (model prog w) A (pyNext (.ref it)) Q E s:=by
 obtain⟨o,c,k,b⟩:=id a;obtain⟨p,e,n,f⟩:=id l;unfold pyNext;refine zA (vP (wB (name:=Str.ofString "__next__") a.typeIs wL
  (xW wL a.typeIs PySem.F.entry_dict_keyiterator_next ?_ (PySem.F.args_dict_keyiterator_next_1 _))))
 refine zA (zB ?_);refine zA ?_;refine zA ?_
 first|refine zA (vB a.typeIs (zB ?_))|refine zA (uD a.typeIs (zB ?_))
 refine zA (wpAny_fieldsOf c b ?_);have j:Builtin.Dict_items.ownsTuple "dict_keyiterator"=false:=∅
 simp only[j,Bool.false_eq_true,if_false];show wpAny _ _ (if(Value.ref d == Value.none)=true then _ else _) _ _ s;rw[zD (show¬ ((Value.ref d == Value.none)=true) from zX)];refine zA (zB ?_);refine zA (qK e f ?_);rw[zD (by simp)];refine zA (zB ?_);refine zA (pF e f ?_);rw[zD (by simp)];refine zB ?_;simp only[show¬ ((i:Int)<0) from⋯,if_false,Int.toNat_natCast,Array.getElem?_eq_getElem hi];refine zA ?_
 first|refine zA (vB a.typeIs (zB ?_))|refine zA (uD a.typeIs (zB ?_))
 refine zA (wpAny_isOneOf_keyiter a.typeIs ?_);show wpAny _ _ (setField (.ref it) 1 (rawInt ((i:Int)+1)) >>= _) _ _ s;refine zA (sI c b (by simp) ?_);have g:(s.heap.update it (Obj.mapFields (·.setIfInBounds 1 (rawInt ((i:Int)+1))))).IsKeyIter it d (i+1) es.size ep:=
  ⟨_,wF _ c (Obj.isFreed_of_fields (sE b _)),(Obj.cls_mapFields ..).trans k,by rw[sE b];simp[rawInt]⟩
 refine zA (xB ?_);refine zA (wpAny_isOneOf_keyiter (s:={s with heap:=s.heap.update it (Obj.mapFields (·.setIfInBounds 1 (rawInt ((i:Int)+1))))}) g.typeIs ?_);show wpAny _ _ (pure es[i].key) _ _ _;exact zB (zB ⟨_,rfl,zB (m _ g (vD ..))⟩)
theorem Tk{Q:Option Value->Shared->Prop}(hh:A.handled=none)(a:s.heap.IsKeyIter it d es.size es.size ep)(j:RawD s.heap d es ep)
  (k:∀h',Heap.ExtBut it s.heap h'->Q none {s with heap:=h'}):wpAny (model prog w) A (pyNext (.ref it)) Q E s:=by
 obtain⟨o,f,l,b⟩:=id a;obtain⟨n,c,m,e⟩:=id j;unfold pyNext;refine zA (vP (wB (name:=Str.ofString "__next__") a.typeIs wL
  (xW wL a.typeIs PySem.F.entry_dict_keyiterator_next ?_ (PySem.F.args_dict_keyiterator_next_1 _))))
 refine zA (zB ?_);refine zA ?_;refine zA ?_
 first|refine zA (vB a.typeIs (zB ?_))|refine zA (uD a.typeIs (zB ?_))
 refine zA (wpAny_fieldsOf f b ?_);have g:Builtin.Dict_items.ownsTuple "dict_keyiterator"=false:=∅
 simp only[g,Bool.false_eq_true,if_false];show wpAny _ _ (if(Value.ref d == Value.none)=true then _ else _) _ _ s;rw[zD (show¬ ((Value.ref d == Value.none)=true) from zX)];refine zA (zB ?_);refine zA (qK c e ?_);rw[zD (by simp)];refine zA (zB ?_);refine zA (pF c e ?_);rw[zD (by simp)];refine zB ?_;simp only[show¬ ((es.size:Int)<0) from⋯,if_false,Int.toNat_natCast,Array.getElem?_eq_none (Nat.le_refl _)];refine zA ?_
 first|refine zA (vB a.typeIs (zB ?_))|refine zA (uD a.typeIs (zB ?_))
 show wpAny _ _ (setField (.ref it) 0 .none >>= _) _ _ s;refine zA (sI f b (by simp) ?_);show wpAny _ _ (newExc (.type "StopIteration") [] >>= _) _ _ _;refine zA ?_;simp only[newExc,newTuple];refine zA (xL ?_ (by size_fits));refine zA (m:=firstArgMember _ _) (wpAny_of_eq (a:=Value.none) (by first|rfl|(simp only[firstArgMember];rfl)) ?_);refine xL ?_ (by size_fits);simp only[raiseNew];refine zA (wpAny_handled ?_);rw[show A.in1.handled=none from hh];refine zA (zB (wpAny_throw ?_));refine zA (vY (T:= "StopIteration") (b:=true) ⟨_,zS _ rfl,rfl⟩ pM ?_);exact zB (k _ (((vD ..).extBut.push _).push _))
theorem Tj(hh:A.handled=none)(I d:Addr)(k:d≠I)(es:Array DictEntry)(ep:Nat):
  Walks prog w A I [I,d] [I] es.size (λi v=>(es[i]?).map (·.key)=some v) (λi h=>h.IsKeyIter I d i es.size ep/\RawD h d es ep) where
 sub:=λb a=>by simp at a;simp[a]
 frame:=λ_ _ _ st g=>⟨st.1.at λo e=>g I (by simp) o e,st.2.at λo e=>g d (by simp) o e⟩
 item:=λi s Q E hi st c=>by
  refine Tl st.1 st.2 hi λh' l f=>?_;exact c _ h' s.toks (by simp[hi]) ⟨l,st.2.at λo e=>(f.2 d k).trans e⟩ λb o a e=>(f.2 b (λh=>a (by simp[h]))).trans e
 done:=λs Q E st c=>Tk hh st.1 st.2 λh' j=>c h' s.toks λb o a e=>j b o (λh=>a (by simp[h])) e
 self:=λ_ _ _ _ st c=>wpAny_pyIter_keyiter st.1 c
theorem Ti:typeLookup (.type "dict") "__len__"=pure (some (.builtin "dict.__len__")):=PySem.F.slot_dict_len.lookup
theorem Th{Q:LW->Shared->Prop}(hh:A.handled=none)(R:(d == sysModules)=false)(c:RawD s.heap d es ep)(S:es.size<=sizeLine)
  (h:∀h' tk,(∀b o,s.heap.get? b=some o->h'.get? b=some o)->Q (es.toList.map (·.key)) {s with heap:=h',toks:=tk}):wpAny (model prog w) A (collect (.ref d)) Q E s:=by
 obtain⟨o,M,V,X⟩:=id c;have u:@LT.lt Nat _ d s.heap.objs.size:=zL M;unfold collect;refine zA (wpAny_runValue (tW PySem.F.entry_proto_collect ?_));rw[tG PySem.F.plain_proto_collect _];show wpAny _ A.in1 (newList [] >>= λl=>again (.builtin "list.__iadd__" ⟨[l,.ref d],[]⟩)) _ _ s;refine zA (xL ?_);refine zB ⟨qH PySem.F.plain_list_iadd _,tW PySem.F.entry_list_iadd ?_⟩;rw[tG PySem.F.plain_list_iadd _];have K:(s.heap.push {cls:=.type "list",data:=.seq ([]:LW).toArray}).get? s.heap.objs.size=some {cls:=.type "list",data:=.seq ([]:LW).toArray}:=zS _ rfl;have q:RawD (s.heap.push {cls:=.type "list",data:=.seq ([]:LW).toArray}) d es ep:=c.at λo e=>zC _ e;have k1:∀b o,s.heap.get? b=some o->(s.heap.push {cls:=.type "list",data:=.seq ([]:LW).toArray}).get? b=some o:=λb o e=>zC _ e;have t:(s.heap.push {cls:=.type "list",data:=.seq ([]:LW).toArray}).objs.size=s.heap.objs.size+1:=size_push' _ _;show wpAny _ A.in1 (Builtin.List.listExtendWith (.ref s.heap.objs.size) (.ref d) (.ref s.heap.objs.size)) _ _ {s with heap:=s.heap.push {cls:=.type "list",data:=.seq ([]:LW).toArray}};generalize s.heap.push {cls:=.type "list",data:=.seq ([]:LW).toArray}=a at*
 unfold Builtin.List.listExtendWith;refine zA (uW (s:={s with heap:=a}) (T:= "dict") (RawD.typeIs (s:={s with heap:=a}) q) ?_);have e1:Builtin.List.listSameRef (.ref s.heap.objs.size) (.ref d)=false:=by simp only[Builtin.List.listSameRef,beq_eq_false_iff_ne];exact yA (zY u)
 rw[zD (by rw[e1];decide)];refine zA (Tm (s:={s with heap:=a}) R q ?_);have n:RawD (a.push {cls:=.type "dict_keyiterator",data:=.fields #[.ref d,.int 0 0,.int es.size 0,.int ep 0]}) d es ep:=q.at λo e=>zC _ e;have U:(a.push {cls:=.type "dict_keyiterator",data:=.fields #[.ref d,.int 0 0,.int es.size 0,.int ep 0]}).IsKeyIter a.objs.size d 0 es.size ep:=⟨_,zS _ rfl,rfl,rfl⟩;have C:(a.push {cls:=.type "dict_keyiterator",data:=.fields #[.ref d,.int 0 0,.int es.size 0,.int ep 0]}).get? s.heap.objs.size=_:=zC _ K;have k2:∀b o,a.get? b=some o->(a.push {cls:=.type "dict_keyiterator",data:=.fields #[.ref d,.int 0 0,.int es.size 0,.int ep 0]}).get? b=some o:=λb o e=>zC _ e;generalize a.push {cls:=.type "dict_keyiterator",data:=.fields #[.ref d,.int 0 0,.int es.size 0,.int ep 0]}=f at*
 refine zA (xB ?_);unfold Builtin.List.listLengthHint;refine zA (wpAny_specialOf (s:={s with heap:=f}) (RawD.typeIs (s:={s with heap:=f}) n) Ti ?_);generalize hid:("dict.__len__" :String)=x
 (fail_if_success (clear hid x))
 wp_delta
 rw[show splitId x=some ("dict","__len__") from by subst hid;decide +kernel];subst hid;refine zA (vY (b:=true) (RawD.typeIs (s:={s with heap:=f}) n) (by rw[isSubtype_type];kernel_rfl) ?_);refine zA (uW (s:={s with heap:=f}) (T:= "dict") (RawD.typeIs (s:={s with heap:=f}) n) ?_);refine zB ?_;rw[zF ∅];refine zA (wU ?_);refine zA ?_;show wpAny _ A.in1 (updateSeq s.heap.objs.size (·.push .none) >>= λ_=>updateSeq s.heap.objs.size (·.pop)) _ _ _;refine zA (wpAny_updateSeq C rfl ?_);have y:=wF (Obj.mapSeq (·.push Value.none)) C rfl;refine wpAny_updateSeq y rfl ?_;have N:=wF (Obj.mapSeq (·.pop)) y rfl;have P:d≠a.objs.size:=zY (by rw[t];exact qM u);have F:s.heap.objs.size≠a.objs.size:=by rw[t];exact zY (vX _)
 have G:s.heap.objs.size≠d:=yA (zY u);have r:∀b o,b≠s.heap.objs.size->f.get? b=some o->((f.update s.heap.objs.size (Obj.mapSeq (·.push Value.none))).update s.heap.objs.size (Obj.mapSeq (·.pop))).get? b=some o:=
  λb o m e=>(vH _ _ (yA m)).trans ((vH _ _ (yA m)).trans e)
 have W:=(Tj (prog:=prog) (w:=w) (A:=A.in1) hh a.objs.size d P es ep).toS;refine zB ⟨qH PySem.F.plain_extend_loop _,codeAny_extend_loopS W S s.heap.objs.size (λc=>by rcases xH.mp c with z|z;exact F z;exact G (pO.mp z)) _ es.size 0 _ _ _ rfl (yB _)
  ⟨U.at λo e=>r _ _ (yA F) e,n.at λo e=>r _ _ (yA G) e⟩ N (ItemsOf.nil _) λk p Y c O D=>?_⟩
 show wpAny _ A (load s.heap.objs.size >>= _) _ _ k;refine zA (wpAny_load O ?_);have T:p.toList=es.toList.map (·.key):=by
  refine List.ext_getElem? ?_
  intro j;rw[zI,yH,yH];cases hj:p[j]? with
  |some v=>exact(D.2 j v hj).symm
  |none =>
   have:p.size<=j:=Array.getElem?_eq_none_iff.mp hj;rw[Array.getElem?_eq_none (by rw[←D.1];exact this)];rfl
 show wpAny _ _ (pure p.toList) Q E k;rw[T];have I:k={s with heap:=k.heap,toks:=k.toks}:=by
  obtain⟨_,g,L,J,_⟩:=c;cases k;cases g;cases L;cases J;rfl
 rw[I];refine zB (h _ _ λb o e=>c.heap b o ?_ (r b o ?_ (k2 _ _ (k1 _ _ e))))
 ·have m:@LT.lt Nat _ b s.heap.objs.size:=zL e;intro c;rcases xH.mp c with z|z
  ·exact absurd z (zY m)
  ·rw[pO.mp z,t]at m;exact absurd m (Nat.not_lt.mpr (uM _))
 ·exact zY (zL e)
end
def Tg(K:Frag)(N:Nat):List V->Hp->VK->Prop:=λxs H Q=>∃(a:Addr)(kvs:List (PyData×V))(l0 l1:List PyData),xs=[.ref a]/\kvs.length<=N/\DTr K H a kvs/\(∀kv∈kvs,sm (.tuple (.tuple l1:: l0)) kv.1=true) /\
 ∀q(ps':List (V×PyData)) H',Same H H'->H q=none->H' q=some (.lst (ps'.map (·.1)))->(∀p∈ps',tT 4 p.2=true/\Dt K H p.1 p.2)->(ps'.map (·.2)).Perm (kvs.map (·.1))->Asc ps'->Q (.ref q) H'
section
variable {X:Cx}
theorem Tf{N:Nat}(U:∀n,n<=N->cI X.prog X.w n)(a2:X.A.units+64<cLine)(O:X.calm=true):lK X (.builtin "sorted") (Tg X.K N):=by
 intro b2 s a5 H xs us Q I r h;obtain⟨a,kvs,d,l1,rfl,a7,g,c,q⟩:=h;obtain⟨u,rfl,R⟩:=jE r;cases R;obtain⟨xs,e,f,dd⟩:=fB I g;obtain⟨o,es,ep,a3,Z,F,j,_⟩:=id dd;have a8:=g.len;have a1:RawD s.heap a es ep:=⟨o,a3,Z,F⟩;have L:es.toList.map (·.key)=xs.map λx=>Value.ref x.2.1:=by rw[j,xJ];rfl
 have pr:∀{kvs:List (PyData×V)}{xs:List (PyData×Addr×Value)},KP X.K H kvs xs->(∀i∈kvs,sm (.tuple (.tuple l1:: d)) i.1=true)->Paired (TV X.K H (.tuple (.tuple l1:: d))) (xs.map λx=>(V.ref x.2.1,x.1)) (xs.map λx=>Value.ref x.2.1)/\(xs.map (·.1))=kvs.map (·.1):=by
  intro kvs xs f
  induction f with
  |nil=>intro _;exact⟨.nil,rfl⟩
  |@cons p q ps a4 b b1 Y =>
   intro c;obtain⟨K,a0⟩:=Y λi S=>c i (.tail _ S);have z:=c p (.head _);rw[b.1]at z;have l:=b.2.1.1;have y:=b.2.1.2;rw[b.1]at l y;refine⟨.cons ⟨rfl,l,z,y⟩ K,?_⟩;rw[zK,zK,a0,b.1]
 obtain⟨k,w⟩:=pr f c;have b0:xs.length=kvs.length:=by have:=wI List.length w;simpa using this
 have le:es.size=xs.length:=by have:=wI List.length j;simpa using this
 refine Tn U a2 (d0:=.tuple (.tuple l1:: d)) (its:=xs.map λx=>Value.ref x.2.1) (ps:=xs.map λx=>(V.ref x.2.1,x.1)) (by rw[yS];omega) (by rw[yS];omega) rfl k (λa6 a9 C=>?_) λM G H' P W J m as=>?_
 ·refine Th (I.ok.hd O) g.sys a1 ⋯ λh' tk D=>?_;rw[L];exact C _ (I.kept (t':=tk) D)
 ·refine q M G H' P W J (λp T=>?_) ?_ as
  ·obtain⟨v,_,t⟩:=Paired.mem k p (m.mem_iff.mp T);exact⟨t.t,t.d⟩
  ·have:=m.map (·.2);rw[xJ]at this;rw[←w];exact this
end
open Sem (wp)
theorem Te:typeLookup (.type "list") (Str.ofString "keys")=pure none:=am_miss_of_fast (by kernel_rfl)
theorem Td:typeLookup (.type "list") "__getattr__"=pure none:=by rw[typeLookup_type,builtinLookup_eq_fast];kernel_rfl
section
variable {prog:Program} {w:World} {A:Around} {E:VP} {h:Heap} {g:Array GenState} {d:Drawn} {t:Nat} {os:OsState} {a:Addr} {o:Obj}
theorem Tc{tk:Tok}{Q:PySem.Fin->Shared->Prop}(hh:A.handled=none)(f:h.get? a=some o)(b:o.cls=.type "list")(i:o.dict=none){xs:Array Value}{n:Nat}(j:o.data=.seq xs n)(c:∀h' tk e,Heap.NewAttrErr h h' e (.ref a) (Str.ofString "keys")->E (.ref e) ⟨h',g,d,tk,os⟩):
  wpAny (model prog w) A (Builtin.«object.__getattribute__» ⟨[.ref a,.str (Str.ofString "keys") tk],[]⟩) Q E ⟨h,g,d,t,os⟩:=by
 have k:(⟨h,g,d,t,os⟩:Shared).TypeIs (.ref a) "list" := ⟨_,f,b⟩;have l:=Te;unfold Builtin.«object.__getattribute__»
 repeat (any_goals (first|assumption|wp_step))
 rw[j];dsimp only;unfold instanceDict
 repeat (any_goals (first|assumption|wp_step))
 rw[b,i];dsimp only;simp only[Bool.not_false,Bool.true_or,if_true]
 repeat (any_goals (first|assumption|wp_step))
 exact wpAny_raiseAttrError hh c (attrMsg_fits (nofun) (by size_fits))
theorem Ta{Q:Option Value->Shared->Prop}(hh:A.handled=none)(c:h.get? a=some o)(f:o.cls=.type "list")(l:o.dict=none){xs:Array Value}{n:Nat}(m:o.data=.seq xs n)(j:∀h' tk,(∀b i,h.get? b=some i->h'.get? b=some i)->Q none ⟨h',g,d,tk,os⟩):
  wpAny (model prog w) A (getAttr? (.ref a) (Str.ofString "keys")) Q E ⟨h,g,d,t,os⟩:=by
 have k:∀t,(⟨h,g,d,t,os⟩:Shared).TypeIs (.ref a) "list" := λt=>⟨_,c,f⟩;have u:(⟨h,g,d,t+1,os⟩:Shared).TypeIs (.ref a) "list" := ⟨_,c,f⟩;have x:=sub_AttributeError;have z:=PySem.F.slot_list_getattribute.lookup;have y:=PySem.F.slot_list_getattribute.bind (.ref a);have r:=Td;unfold getAttr? getAttrBy?;refine zA (wpAny_mkText ?_);refine zA (vP ?_);unfold getAttrBy
 repeat (any_goals (first|assumption|((with_reducible show wpAny _ _ (call (Value.builtin "list.__getattribute__") _ _) _ _ _);refine xW PySem.F.slot_list_getattribute (k _) PySem.F.entry_list_ga (Tc hh c f l m λh' p e c=>?_) (PySem.F.args_list_getattribute_2 _ _))|wp_step))
 obtain⟨t',q,v⟩:=c.there
 repeat (any_goals (first|assumption|wp_step))
 exact j _ _ c.keeps
end
theorem aI:plainId "dict.update.loop"=true:=nofun
theorem Ij:entryFor table "dict.update.loop"=some Builtin.«dict.update.loop»:=entryFor_of_fast (by kernel_rfl)
structure Ent where
 p:Addr
 k:PyData
 b:Addr
 v:Value
def Ent.ok(h:Heap)(t:Ent):Prop:=(∃o n,h.get? t.p=some o/\o.cls=.type "tuple" /\ o.data=.seq #[.ref t.b,t.v] n)/\isT h t.k t.b
theorem Ent.up{h h':Heap}{c:Ent}(x:c.ok h)(e:∀b o,h.get? b=some o->o.cls=.type "tuple" -> h'.get? b=some o):c.ok h':=by
 obtain⟨⟨o,n,i,d,f⟩,a,as,g⟩:=x;exact⟨⟨o,n,e _ _ i d,d,f⟩,a,as,Cv e 4 a g⟩
def putP(xs:List (PyData×Addr×Value))(t:Ent):List (PyData×Addr×Value):=storedH xs t.k t.b t.v
theorem Uz(xs:List (PyData×Addr×Value))(k:PyData)(b:Addr)(v:Value):(storedH xs k b v).length<=xs.length+1:=by
 unfold storedH;split <;> simp
section
variable {prog:Program} {w:World} {A:Around} {R:Result->Shared->Prop} {d it l:Addr} {items:Array Value}
theorem Ii(hh:A.handled=none)(b5:A.units+32<cLine)(t:d≠it)(T:d≠l)(N:l≠it):
  ∀(rest:List Ent)(i:Nat)(xs:List (PyData×Addr×Value))(s:Shared),(∀j,items[i+j]?=rest[j]?.map λa=>Value.ref a.p)->s.heap.IsListIter it l i->s.heap.IsList l items->s.heap.DictOfH (kD prog w) d xs->(∀a∈rest,a.ok s.heap)->xs.length+rest.length<=sizeLine ->
  (∀h' tk,(∀b o,b≠it->b≠d->s.heap.get? b=some o->h'.get? b=some o)->h'.DictOfH (kD prog w) d (rest.foldl putP xs)->R (.ok (.ret .none)) {s with heap:=h',toks:=tk}) ->
  codeAny (model prog w) A (.builtin "dict.update.loop" ⟨[.ref d,.ref it,.int i 0,.none],[]⟩) R s
 | [],i,xs,s,n,m,hl,F,_,_,K=>by
  refine tW Ij ?_;rw[tG aI _];show wpAny _ A.in1 (pyNext (.ref it) >>= _) _ _ s;refine zA (wpAny_pyNext_list_end (i:=i) hh m hl (by simpa using n 0) λh' I=>?_);show wpAny _ _ (Builtin.Dict.addKeywords d [] >>= _) _ _ _;refine zA (zB (zB ?_));obtain⟨o,es,ep,c,G⟩:=F;exact K h' s.toks (λb o b0 _ e=>I b o b0 e) ⟨o,es,ep,I d o t c,by
   obtain⟨f,v,C,J,D⟩:=G;refine⟨f,v,C,λx u=>?_,D⟩;obtain⟨a,as,r⟩:=J x u;refine⟨a,as,Cv (λb o e g=>I b o (λz=>?_) e) 4 a r⟩;obtain⟨b3,e1,a8,_⟩:=m;rw[z,e1]at e;cases e;rw[a8]at g;simp at g⟩
 | a:: rest,i,xs,s,n,m,hl,F,U,S,K=>by
  refine tW Ij ?_;rw[tG aI _];show wpAny _ A.in1 (pyNext (.ref it) >>= _) _ _ s;have b7:items[i]?=some (.ref a.p):=by simpa using n 0
  refine zA (wpAny_pyNext_list_item (i:=i) m hl b7 λc a3 p=>?_);obtain⟨b3,a2,a0,_⟩:=id m;have P:∀b o,s.heap.get? b=some o->o.cls=.type "tuple" -> c.get? b=some o:=λb o e g=>(p.2 b (λz=>by rw[z,a2]at e;cases e;rw[a0]at g;simp at g)).trans e;have O:c.DictOfH (kD prog w) d xs:=by
   obtain⟨o,es,ep,k,f,v,C,J,D⟩:=F;exact⟨o,es,ep,(p.2 d t).trans k,f,v,C,λx u=>let ⟨a,as,r⟩:=J x u;⟨a,as,Cv P 4 a r⟩,D⟩
  have a9:c.IsList l items:=by
   obtain⟨o,k,f⟩:=hl;exact⟨o,(p.2 l N).trans k,f⟩
  have M:∀t'∈a:: rest,t'.ok c:=λt' y=>Ent.up (U t' y) P;obtain⟨⟨op,c0,L,a5,b6⟩,Y⟩:=M a (.head _);refine zA (xB ?_);have W:xs.length<=sizeLine:=by
   have:=S;simp only[List.length_cons]at this;omega
  refine zA (wpAny_tryCatch ?_);unfold Builtin.Dict.pairItems;refine zA (uW (s:={s with heap:=c}) (T:= "tuple") ⟨op,L,a5⟩ ?_);rw[zF ∅];refine zA (wJ (s:={s with heap:=c}) L b6 (zB ?_));show wpAny _ A.in1 (holding [.ref a.b,a.v] (dictSet d (.ref a.b) a.v)) _ _ _;refine xB ?_;refine wpAny_dictSet_heap (knd:=kD prog w) (s:={s with heap:=c}) (hsz:=W) (show A.units+1+8<cLine by omega) Y O λG a4 q=>?_;obtain⟨b8,b9,c2,X,a1,c1,_⟩:=id O;have a7:∀b o,c.get? b=some o->o.cls=.type "tuple" -> G.get? b=some o:=λb o e g=>(q.2 b (λz=>by rw[z,X]at e;cases e;rw[a1.1]at g;simp at g)).trans e;refine zB ⟨qH aI _,?_⟩;have Z:(rawInt ((i:Int)+1))=.int ((i+1:Nat):Int) 0:=rfl;rw[Z];refine Ii hh b5 t T N rest (i+1) (storedH xs a.k a.b a.v) _ (λj=>?_) ?_ ?_ a4 (λt' y=>Ent.up (M t' (.tail _ y)) a7) ?_ λV b4 k3 a6=>?_
  ·have:=n (j+1);rw[List.getElem?_cons_succ]at this;rw[←this];congr 1;omega
  ·obtain⟨o,k,f⟩:=a3;exact⟨o,(q.2 it (yA t)).trans k,f⟩
  ·obtain⟨o,k,f⟩:=a9;exact⟨o,(q.2 l (yA T)).trans k,f⟩
  ·have:=Uz xs a.k a.b a.v;have:=S;simp only[List.length_cons]at this;omega
  ·exact K V b4 (λb o b1 b2 e=>k3 b o b1 b2 ((q.2 b b2).trans ((p.2 b b1).trans e))) a6
end
section
variable {prog:Program} {w:World} {A:Around} {E:VP} {s:Shared} {l:Addr}
theorem Uy{Q:VP}{es:List Ent}{o:Obj}{n:Nat}(hh:A.handled=none)(W:A.units+48<cLine)(d:s.heap.get? l=some o)(f:o.cls=.type "list")(L:o.dict=none)(m:o.data=.seq (es.map λc=>Value.ref c.p).toArray n)(G:∀c∈es,c.ok s.heap)(R:es.length<=sizeLine)
  (h:∀h' tk,(∀b o,s.heap.get? b=some o->h'.get? b=some o)->h'.DictOfH (kD prog w) s.heap.objs.size (es.foldl putP [])->Q (.ref s.heap.objs.size) {s with heap:=h',toks:=tk}):
  wpAny (model prog w) A (call (.type "dict") [.ref l]) Q E s:=by
 have q:@LT.lt Nat _ l s.heap.objs.size:=zL d;refine callType_codes (Q₁:=λz y=>z=.ref s.heap.objs.size/\y={s with heap:=s.heap.push {cls:=.type "dict",data:=.dict #[]}}) PySem.F.kt_called_dict (PySem.F.kt_typeCall_dict_1 _) PySem.F.entry_dict_init (kt_code_dict_new _ ⟨rfl,rfl⟩) ?_;rintro z y ⟨rfl,rfl⟩;have g:(s.heap.push {cls:=.type "dict",data:=.dict #[]}).DictOfH (kD prog w) s.heap.objs.size []:=Heap.DictOfH.new s.heap;have k1:∀b o,s.heap.get? b=some o->(s.heap.push {cls:=.type "dict",data:=.dict #[]}).get? b=some o:=λb o e=>zC _ e;have V:(s.heap.push {cls:=.type "dict",data:=.dict #[]}).objs.size=s.heap.objs.size+1:=size_push' _ _;generalize s.heap.push {cls:=.type "dict",data:=.dict #[]}=p at*
 have v:=Heap.DictOfH.typeIs (s:={s with heap:=p}) g;refine⟨v,PySem.F.args_dict_init_2 _ _,?_⟩;unfold Builtin.«dict.__init__»;refine zA ?_;unfold Builtin.Dict.selfAndRest;refine zA (wpAny_notOrdered_dict v ?_);show wpAny _ _ (pure (s.heap.objs.size,[Value.ref l])) _ _ _;refine zB ?_;show wpAny _ _ (Builtin.Dict.updateFrom "dict.__init__" s.heap.objs.size (.ref l) [] .none) _ _ {s with heap:=p};unfold Builtin.Dict.updateFrom;refine zA (uW (s:={s with heap:=p}) (T:= "list") ⟨o,k1 _ _ d,f⟩ ?_);rw[zF ∅];refine zA (Ta (A:=A.in1.in1) hh (k1 _ _ d) f L m λa t k2=>?_);rw[zF (by rfl)];refine zA (wU ?_);have P:a.IsList l (es.map λc=>Value.ref c.p).toArray:=⟨o,k2 _ _ (k1 _ _ d),f,n,m⟩;refine zA (sJ (s:={s with heap:=a,toks:=t}) P ?_);have k:s.heap.objs.size+1<=a.objs.size:=by
  obtain⟨u,_,_,e,_⟩:=id g;exact(show @LT.lt Nat _ s.heap.objs.size a.objs.size from zL (k2 _ _ e))
 have k3:∀b o,a.get? b=some o->(a.push {cls:=.type "list_iterator",data:=.fields #[.ref l,.int 0 0]}).get? b=some o:=λb o e=>zC _ e;have D:(a.push {cls:=.type "list_iterator",data:=.fields #[.ref l,.int 0 0]}).IsListIter a.objs.size l 0:=⟨_,zS _ rfl,rfl,rfl⟩;show wpAny _ _ _ _ _ {s with heap:=a.push {cls:=.type "list_iterator",data:=.fields #[.ref l,.int 0 0]},toks:=t};generalize a.push {cls:=.type "list_iterator",data:=.fields #[.ref l,.int 0 0]}=I at*
 have i:∀b o,s.heap.get? b=some o->I.get? b=some o:=λb o e=>k3 _ _ (k2 _ _ (k1 _ _ e));refine zA (zB ?_);refine zB ⟨qH aI _,?_⟩;refine Ii (A:=A.in1) (items:=(es.map λc=>Value.ref c.p).toArray) hh (by show A.units+1+32<cLine;omega) (zY (zJ (vX _) k)) (yA (zY q)) (zY (zJ (qM q) k)) es 0 [] _ (λj=>by simp) D
  ⟨o,i _ _ d,f,n,m⟩ ?_ (λc T=>Ent.up (G c T) λb o e _=>i b o e) (by simpa using R) λK U O M=>?_
 ·obtain⟨u,J,ep,e,r⟩:=id g;obtain⟨r1,r2,S,_,N⟩:=r;exact⟨u,J,ep,k3 _ _ (k2 _ _ e),r1,r2,S,λx F=>(nomatch F),N⟩
 ·refine⟨rfl,h K U (λb o e=>?_) M⟩;have C:@LT.lt Nat _ b s.heap.objs.size:=zL e;exact O b o (zY (zJ (qM C) k)) (zY C) (i _ _ e)
end
def Ux(K:Frag):List V->Hp->VK->Prop:=λxs H Q=>∃(l:Addr)(ts:List (Addr×PyData×Addr×V)),xs=[.ref l]/\SqL K H l (ts.map λt=>V.ref t.1)/\(∀t∈ts,SqT K H t.1 [.ref t.2.2.1,t.2.2.2]/\tT 4 t.2.1=true/\Dt K H (.ref t.2.2.1) t.2.1)/\(ts.map (·.2.1)).Nodup /\
 ∀D H',Same H H'->H D=none->DTr K H' D (ts.map λt=>(t.2.1,t.2.2.2))->Q (.ref D) H'
theorem Uw{kvs:List (PyData×V)}{k:PyData}(h:k∉kvs.map (·.1)):vT kvs k=none:=by
 induction kvs with
 |nil=>rfl
 |cons p r a =>
  rw[zK,xH,not_or]at h;rw[gZ (λe=>h.1 e.symm)];exact a h.2
section
variable {X:Cx}
theorem Uv(b1:X.A.units+64<cLine)(L:X.calm=true):lK X (.type "dict") (Ux X.K):=by
 intro b0 s a6 H xs us Q I r h;obtain⟨l,ts,rfl,J,b,T,q⟩:=h;obtain⟨u,rfl,P⟩:=jE r;cases P;obtain⟨its,a2,⟨o,a5,e,c,O,dd⟩,v⟩:=I.list J;have mk:∀(ts:List (Addr×PyData×Addr×V))(its:LW),Vals (ts.map λa=>V.ref a.1) its->(∀a∈ts,SqT X.K H a.1 [.ref a.2.2.1,a.2.2.2]/\tT 4 a.2.1=true/\Dt X.K H (.ref a.2.2.1) a.2.1) ->
   ∃es:List Ent,its=es.map (λa=>Value.ref a.p)/\Paired (λa(e:Ent)=>e.k=a.2.1/\e.b=a.2.2.1/\RelV a.2.2.2 e.v/\e.ok s.heap) ts es:=by
  intro ts
  induction ts with
  |nil=>intro its r _;cases r;exact⟨[],rfl,.nil⟩
  | cons a ts n =>
   intro its r b;cases r with
   | cons r1 r2 =>
    obtain⟨es,e1,g⟩:=n _ r2 λx i=>b x (.tail _ i);obtain⟨f,p,j⟩:=b a (.head _);obtain⟨a8,a4,⟨op,G,C,w,N⟩,_⟩:=I.tuple f;cases a4 with
    | cons a3 k =>
     cases k with
     |cons k M =>
      cases M;cases a3;cases r1;rename_i v2;refine⟨⟨a.1,a.2.1,a.2.2.1,v2⟩:: es,by rw[zK,←e1],.cons ⟨rfl,rfl,k,⟨op,w,G,C,N⟩,fA I p j⟩ g⟩
 obtain⟨es,e1,g⟩:=mk ts its a2 b;subst e1;have S:ts.length=es.length:=mE g;refine Uy (es:=es) (I.ok.hd L) ⋯ e c O (by rw[dd]) (λa m=>?_) (by rw[←S];simpa using v) λh' tk y D=>?_
 ·obtain⟨_,_,z⟩:=Ct g a m;exact z.2.2.2
 have W:∀(ts:List (Addr×PyData×Addr×V))(es:List Ent),Paired (λa(e:Ent)=>e.k=a.2.1/\e.b=a.2.2.1/\RelV a.2.2.2 e.v/\e.ok s.heap) ts es->(∀a∈ts,tT 4 a.2.1=true/\Dt X.K H (.ref a.2.2.1) a.2.1)->∀(kvs:List (PyData×V))(xs:List (PyData×Addr×Value)),KP X.K H kvs xs->(kvs.map (·.1)++ts.map (·.2.1)).Nodup->KP X.K H (kvs++ts.map λa=>(a.2.1,a.2.2.2)) (es.foldl putP xs):=by
  intro ts es pr
  induction pr with
  |nil=>intro _ kvs xs d _;rw[rD,wN];exact d
  | @cons a e ts es a1 _ n =>
   intro b kvs xs d nd;obtain⟨f,p,j,_⟩:=a1;have st:=d.put a.2.1 (b a (.head _)).1 (b a (.head _)).2 j;have K:a.2.1∉kvs.map (·.1):=λZ=>by
    have:=(qN.mp nd).2.2 _ Z a.2.1 (by simp);exact this rfl
   have ep:pT kvs a.2.1 a.2.2.2=kvs++[(a.2.1,a.2.2.2)]:=by
    unfold pT;rw[Uw K];rfl
   rw[ep,←f,←p]at st;have:=n (λx i=>b x (.tail _ i)) _ _ st (by rw[xD,yI];simpa [f]using nd);rw[yI]at this;rw[f]at this;show KP X.K H _ (List.foldl putP (storedH xs e.k e.b e.v) es);rw[f];exact this
 have d:=W ts es g (λa m=>(b a m).2) [] [] .nil (by simpa using T);rw[List.nil_append]at d;obtain⟨a9,a7,b2,F,R,a0,Y,_,U⟩:=D;have t:H s.heap.objs.size=none:=I.hok.fresh (zE _);have sm:Same H (upd H s.heap.objs.size (mH s.heap.objs.size (es.foldl putP []))):=Same.new t;refine⟨.ref s.heap.objs.size,_,I.laid (a:=s.heap.objs.size) (o:=mH s.heap.objs.size (es.foldl putP [])) (t':=tk) y (zE _) (bX F R a0 Y),rfl,?_⟩;refine q _ _ sm t ⟨by rw[yS];simpa using v,pY.mpr (yA (zY (Bp I))),_,oP,U,d.keeps (lP sm)⟩
end
open Classical in
structure FunD(K:Frag)(x qual:Str)(st:Stmt)(f:Addr)(fd:FuncData)(ds:LW):Prop where
 ex:∃(oc:Value)(od:Option Addr)(T:Addr)(kV doc pm:Value)(an:Option Addr)(cdv ct:Value)(osl:Array (Option Value)),
  fd=PySem.W.fnOf x qual (jR st) (kH st) (oR st) (.ref T) kV doc pm an cdv ct/\K.lookup f=some ⟨oc,od,.func fd,osl⟩/\PySem.W.codeIn K cdv qual=true/\∃(o2:Value)(d2:Option Addr)(n2:Nat)(s2:Array (Option Value)),K.lookup T=some ⟨o2,d2,.seq ds.toArray n2,s2⟩
 kp:PySem.W.keepIn K (.ref f)=true
section
variable {P:Program} {w:World} {K:Frag} {mg:MT} {base:Heap}
theorem FunD.binds{x g:Str}{st:Stmt}{f:Addr}{e:FuncData}{ps:List Str}{ds:LW}(F:FunD K x g st f e ds)
  (h:∀(T:Addr)(kV c d:Value)(a:Option Addr)(cdv b:Value)(us:LW),us.length+ds.length=ps.length->∃k,bindArgs (PySem.W.fnOf x g (jR st) (kH st) (oR st) (.ref T) kV c d a cdv b) ⟨us,[]⟩=seqItems? (.ref T) >>= k/\k (some ds.toArray)=pure (ps.zip (us++ds))):nZ K e ps ds:=by
 obtain⟨p,o,T,kV,c,d,a,cdv,b,q,rfl,u,n,l,t,m,r,lt⟩:=F.ex;intro s us j hl;obtain⟨k,e1,i⟩:=h T kV c d a cdv b us (by simpa using hl);exact BindsTo.of_defaults (T:=T) rfl (j _ _ lt) rfl e1 i
theorem FunD.bindsA{x g:Str}{st:Stmt}{f:Addr}{e:FuncData}{ps:List Str}{ds:LW}(F:FunD K x g st f e ds)
  (h:∀(T:Addr)(kV c d:Value)(a:Option Addr)(cdv b:Value)(us:LW),us.length=ps.length->∃k,bindArgs (PySem.W.fnOf x g (jR st) (kH st) (oR st) (.ref T) kV c d a cdv b) ⟨us,[]⟩=seqItems? (.ref T) >>= k/\k (some ds.toArray)=pure (ps.zip us)):nZ K e ps []:=by
 obtain⟨p,o,T,kV,c,d,a,cdv,b,q,rfl,u,n,l,t,m,r,lt⟩:=F.ex;intro s us j hl;rw[wN]at hl ⊢;obtain⟨k,e1,i⟩:=h T kV c d a cdv b us hl;exact BindsTo.of_defaults (T:=T) rfl (j _ _ lt) rfl e1 i
theorem Uu{x a:Str}{st:Stmt}{f T:Addr}{q j:Value}{m p b:Option Addr}{n o:Array (Option Value)}{kV e g cdv d:Value}{ds:LW}{i:Nat}(l:K.lookup f=some ⟨q,m,.func (PySem.W.fnOf x a (jR st) (kH st) (oR st) (.ref T) kV e g b cdv d),n⟩)
  (c:PySem.W.codeIn K cdv a=true)(k:PySem.W.keepIn K (.ref f)=true)(l2:K.lookup T=some ⟨j,p,.seq ds.toArray i,o⟩):FunD K x a st f (PySem.W.fnOf x a (jR st) (kH st) (oR st) (.ref T) kV e g b cdv d) ds:=⟨⟨q,m,T,kV,e,g,b,cdv,d,n,rfl,l,c,j,p,i,o,l2⟩,k⟩
end
end L2
namespace PySem
section
variable {prog:Program} {w:World} {A:Around} {E:VP} {h:Heap} {g:Array GenState} {d:Drawn} {t:Nat} {os:OsState}
variable {nm q:Str} {C N:Addr} {bs bm bmB:LW} {hdct:Bool} {sn:List Str} {sub:LW} {ab:Bool} {col:Option Bool} {dd:Option Addr} {k0 k1 k2 k3 k5:Option Value} {B newId initId:String}
noncomputable abbrev xTup(us:LW):Obj:={cls:=.type "tuple",data:=.seq us.toArray}
noncomputable abbrev xExc(C t:Addr)(dx:Option Addr):Obj:={cls:=.ref C,dict:=dx,data:=.fields #[.ref t,.none,.none,.none,.bool false,.none]}
noncomputable abbrev gE(h:Heap)(C:Addr)(us:LW):Heap:=(h.push (xTup us)).push (xExc C h.objs.size none)
theorem Ut(F:ExcBaseFacts B newId initId bmB)(T:OwnTail h bmB bm){mN:MT}{us:LW}{f:Addr}{j:Obj}{Q:Fin->Shared->Prop}
  (a:h.get? C=some (excClassObj nm q C N bs bm hdct sn sub ab col dd k0 k1 k2 k3 k5 newId))(m:h.Ns N mN)(hi:mN "__init__"=some (.ref f))(I:h.get? f=some j)(n:j.cls=.type "function")(D:us.length<=sizeLine)
  (l:wpAny (model prog w) A (call (.ref f) (.ref (h.objs.size+1):: us)) (λr k=>r=.none/\Q (.done (.ret (.ref (h.objs.size+1)))) k) E ⟨gE h C us,g,d,t,os⟩):
  wpAny (model prog w) A (Builtin.«type.__call__» ⟨.ref C:: us,[]⟩) Q E ⟨h,g,d,t,os⟩:=by
 repeat (first|with_reducible refine uQ a ?_|with_reducible refine wpAny_madeBy_exc a ?_|wp_step)
 refine codeAny_call_builtin_code (rW _ F.quiet) (wpAny_check_new_subT F T a (codeAny_exc_new_subT F T a ?_ D));show wpAny _ _ _ _ _ _;have c:∀b o,h.get? b=some o->(gE h C us).get? b=some o:=λb o e=>zC _ (zC _ e);have i:=c _ _ a;have z:=c _ _ I;have v:=m.keeps c;have y:(gE h C us).get? (h.objs.size+1)=some (xExc C h.objs.size none):=by heap_get
 have u:(Value.ref C:: bm).contains (.ref C)=true:=by simp
 have G:=T.keeps c;unfold isInstance
 repeat (first|with_reducible refine uQ y ?_|(with_reducible refine wpAny_isSubtype_exc i ?_;rw[u])|wp_step)
 show wpAny _ _ (typeLookup (.ref C) _) _ _ _;refine wpAny_typeLookup_tail i v G F.mroIs F.init.lookup ?_;rw[hi];refine xB (zA ?_);unfold bindSpecial;refine zA (uW (T:= "function") ⟨_,z,n⟩ ?_);rw[zF ∅];refine zB (zA (yU l (λr k hr=>?_) λ_ _ x=>x));obtain⟨rfl,p⟩:=hr
 wp_walk
 exact p
theorem Us(F:ExcBaseFacts B newId initId bmB)(T:OwnTail h bmB bm){mN:MT}{us:LW}{b:Addr}{c:Obj}{Q:VP}
  (a:h.get? C=some (excClassObj nm q C N bs bm hdct sn sub ab col dd k0 k1 k2 k3 k5 newId))(f:h.Ns N mN)(hi:mN "__init__"=some (.ref b))(k:h.get? b=some c)(i:c.cls=.type "function")(j:us.length<=sizeLine)
  (e:wpAny (model prog w) (A.under (.builtin "type.__call__" ⟨.ref C:: us,[]⟩)) (call (.ref b) (.ref (h.objs.size+1):: us)) (λr l=>r=.none/\Q (.ref (h.objs.size+1)) l) E ⟨gE h C us,g,d,t,os⟩):
  wpAny (model prog w) A (call (.ref C) us) Q E ⟨h,g,d,t,os⟩:=by
 have o:=tc_lookup;have m:=tc_bind (.ref C);have n:(⟨h,g,d,t,os⟩:Shared).TypeIs (.ref C) "type" := ⟨_,a,rfl⟩;refine tL (codeAny_of_tree ?_);show wpAny _ _ (callAny (.ref C) _) _ _ _
 repeat (any_goals (first|assumption|with_reducible refine uQ a ?_|wp_step))
 refine⟨rfl,codeAny_call_builtin_at (rW _ (nofun)) entry_typeCall (wpAny_check_type_call_sub a (Ut F T a f hi k i j ?_))⟩;exact e
theorem Ur{env:Env}{s:Shared}{x:Sem Value}{Q:Flow->Shared->Prop}(f:bm.contains (.type "BaseException")=true)(hh:A.handled=none){M:Model}
  (h:wpAny M A x (λv a=>∃e t c,v=.ref e/\a.heap.get? C=some (excClassObj nm q C N bs bm hdct sn sub ab col dd k0 k1 k2 k3 k5 newId)/\a.heap.get? e=some (xExc C t c)/\E (.ref e) a) E s):
  wpAny M A (raiseStmt env (some x) none) Q E s:=by
 have j:(Value.ref C:: bm).contains (.type "BaseException")=true:=by rw[List.contains_cons,f,Bool.or_true]
 unfold raiseStmt;refine zA (yU h (λv a l=>?_) λ_ _ x=>x);obtain⟨e,t,c,rfl,b,i,k⟩:=l;obtain⟨m,g,d,tk,os⟩:=a
 repeat (first|with_reducible refine uQ i ?_|with_reducible refine uQ b ?_|(with_reducible refine wpAny_isSubtype_exc b ?_;rw[j])|wp_step)
 exact wpAny_raiseNew_none hh k
end
end PySem
namespace L2
open PySem PySem.Spec PyProof.Rows
open PySem.W (Frag)
noncomputable def XObj(e C:Addr)(b:Bool):HO:=.ext λh=>∃t dx,h.get? e=some (xExc C t dx)/\(b=true->dx=none)
theorem Cs{P:Program}{w:World}{H:Hp}{h:Heap}{e C c:Addr}{a:Option Addr}{b:Bool}(q:h.get? e=some (xExc C c a))(d:b=true->a=none):nO P w H h e (XObj e C b):=⟨⟨c,a,q,d⟩,⟨_,q⟩,λ_ _⟨c,a,z,y⟩k=>⟨c,a,k _ z,y⟩⟩
noncomputable def rmv(H:Hp)(e:Addr):Hp:=λb=>if b=e then none else H b
theorem gF{H:Hp}{e b:Addr}(h:b≠e):rmv H e b=H b:=zD h
theorem Cr{H:Hp}{e:Addr}:rmv H e e=none:=zF rfl
theorem Uq{H:Hp}{e:Addr}{o:HO}(h:H e=some o):upd H e o=H:=by
 funext b
 by_cases q:b=e
 ·rw[q,oP,h]
 ·exact oT q
section
variable {X:Cx} {pins:PN} {σ:St} {H:Hp} {s:Shared} {e C:Addr} {b0:Bool}
theorem Inv.untrack(I:Inv X pins σ H s)(k:H e=some (XObj e C b0)):Inv X pins σ (rmv H e) s:=by
 have u:=I.base;have j:∀{b o},rmv H e b=some o->b≠e/\H b=some o:=λ{b o}z=>by
  by_cases q:b=e
  ·rw[q,Cr]at z;cases z
  ·rw[gF q]at z;exact⟨q,z⟩
 have f:∀{b o},H b=some o->o≠XObj e C b0->b≠e:=λ{b o}z d q=>by rw[q,k]at z;exact d (zW z).symm
 have g:∀b,H b=none->rmv H e b=none:=λb z=>by
  by_cases q:b=e
  ·rw[q,Cr]
  ·rw[gF q];exact z
 refine⟨I.ok,I.os,I.bare,⟨u.keep,u.slot,λb o q n i=>g _ (u.free b o q n i),u.there,λb xs q=>?_,λb o v q=>?_,λb ps q=>?_⟩,I.loc,I.cell,g _ I.free,λx c q=>g _ (I.freeC x c q),λp w=>?_,λa o q=>?_,I.len⟩
 ·have:=u.tups b xs q;rw[gF (f this (by intro z;cases z))];exact this
 ·have:=u.frzs b o v q;rw[gF (f this (by intro z;cases z))];exact this
 ·obtain⟨m,e1⟩:=u.tbls b ps q;exact⟨m,by rw[gF (f e1 (by intro z;cases z))];exact e1⟩
 ·obtain⟨e1,l,r⟩:=I.pin p w;exact⟨e1,g _ l,r⟩
 ·obtain⟨_,t⟩:=j q;exact(I.hok a o t).stay (λ_ _ _ z=>z) (λb z=>by rw[gF (f z (by intro z;cases z))];exact z) λb xs z=>by rw[gF (f z (by intro z;cases z))];exact z
end
def Ih(X:Cx)(EX:XE):Prop:=∀(pins:PN)(σ:St)(H:Hp)(s:Shared)(e C t:Addr)(dx:Option Addr),Inv X pins σ H s->H e=none->X.s₀.heap.get? e=none->s.heap.get? e=some (xExc C t dx)->EX σ (.ref C) H->X.xe (.ref e) s
section
variable {P:Program} {w:World} {K:Frag} {mg:MT} {base:Heap} {N:List Str} {qual:Str} {scope:Scope} {f:Addr} {cd:Value} {A:Around} {outer:List Env} {s₀:Shared} {H₀:Hp} {E:XK}
theorem Uo:Ih (cxOf (CX1 P w) P w K mg base N qual scope f cd A outer s₀ H₀ E) (λ_ C H=>E C none H):=by
 intro L J H s e C r M I p D x y;have l:=PySem.W.funFrames_hide (as:=e:: frs (cxOf (CX1 P w) P w K mg base N qual scope f cd A outer s₀ H₀ E).stack) I.stack (λenv d a j=>.tail _ (oG.mpr ⟨env,d,j⟩));refine wpAny_leaving_firstW (a0:=.ref r) I.ok.frames l rfl x (λb o q=>rX _ q) (rM _ (.head _)) rfl rfl rfl λh' i=>?_;obtain⟨g,⟨_,_,m⟩,F,n⟩:=i;obtain⟨un,ok,u⟩:=bJ I rfl rfl rfl g n λb o q t k=>rP _ q λd=>by
  rcases xH.mp d with z|z
  ·subst z;rcases k with⟨G,c⟩|⟨v,c⟩
   ·rw[D]at c;cases c
   ·rw[p]at c;cases c
  ·exact t z
 exact⟨e,.ref C,H,_,_,rfl,I.os,I.bare,un,ok,⟨g,rM _ (.head _),m,F⟩,u,y⟩
end
noncomputable def aJ(K:Frag)(C:Addr)(bmB:LW)(newId:String)(f:Addr):Bool:=
 (K.lookup f).any (λo=>o.cls == .type "function") &&
 (K.lookup C).any λob=>match ob with
  |⟨.type "type",_,.cls c1,sl⟩=>(match c1.mro,sl.toList with
   |.ref C1:: bm,[_,_,_,_,some (.builtin nw),_]=>C1 == C && nw == newId && !c1.hasDel && PySem.W.tailIn K bmB bm && PySem.W.nsOkIn K c1.ns && PySem.W.nsIn K c1.ns "__init__" == some (some (.ref f))
   |_,_=>false)
  |_=>false
theorem Um{K:Frag}{h:Heap}{N:Addr}{x:Str}{v:Value}(X:K.In h)(a:h.Ns N (h.nsMap N))(e:PySem.W.nsIn K N x=some (some v)):h.nsMap N x=some v:=by
 obtain⟨o,es,ep,i,b,_,g⟩:=a;unfold PySem.W.nsIn at e;split at e
 ·rename_i c d k j l q;have:=X _ _ q;rw[i]at this;cases this;cases b;split at e
  ·rename_i f;cases e;rw[←g];unfold nsFind findBy;rw[←Array.find?_toList,f];rfl
  ·split at e <;> cases e
 ·cases e
theorem Ig{K:Frag}{h:Heap}{C f:Addr}{i:LW}{newId:String}(KX:K.In h)(j:aJ K C i newId f=true):
  ∃bm N nm c bs d sn sub ab col dd k0 k1 k2 k3 k5 mN b,h.get? C=some (excClassObj nm c C N bs bm d sn sub ab col dd k0 k1 k2 k3 k5 newId)/\h.Ns N mN/\mN "__init__"=some (.ref f)/\OwnTail h i bm/\h.get? f=some b/\b.cls=.type "function" := by
 unfold aJ at j;obtain⟨e,a⟩:=Bool.and_eq_true_iff.mp j;obtain⟨b,n,e⟩:=sV e;obtain⟨G,y,a⟩:=sV a;split at a
 ·next dd t g =>
  split at a
  ·next z bm k0 k1 k2 k3 q k5 u es =>
   simp only[Bool.and_eq_true,beq_iff_eq,Bool.not_eq_true']at a;obtain⟨⟨⟨⟨⟨e1,D⟩,o⟩,w⟩,k⟩,m⟩:=a;subst e1 D;cases t with
   | mk nm bs x ns c d sn sub ab col r =>
    have v:x=Value.ref z:: bm:=u;have p:r=false:=o;subst v p;have F:g=#[k0,k1,k2,k3,some (Value.builtin q),k5]:=by
     cases g with
     |mk l=>exact wI Array.mk es
    subst F;exact⟨bm,ns,nm,c,bs,d,sn,sub,ab,col,dd,k0,k1,k2,k3,k5,_,b,KX _ _ y,pC (qB KX k),Um KX (pC (qB KX k)) m,PySem.W.tail_of_in KX w,KX _ _ n,pW.mp e⟩
  ·cases a
 ·cases a
section
variable {X:Cx} {CX:CXT} {EX:XE} {k:Nat} {C f:Addr} {fd:FuncData} {ps:List Str} {sp:Sp} {dvs:List V} {ds:LW} {x:Str} {np p cpos pos:Pos} {e e₀:Expr} {es rest:List Expr} {t:TA} {bmB:LW} {B newId initId:String}
def Ul(C:Addr)(sp:Sp)(EX:XE)(t:TA):TS:=λ_ σ H=>t σ H λvs H1=>vs.length<=sizeLine/\∀e,H1 e=none->sp (.ref e:: vs) (upd H1 e (XObj e C true)) (λv H2=>v=.non/\H2 e=some (XObj e C false)/\EX σ (.ref C) (rmv H2 e)) E0
theorem Uk(a7:X.calm=true)(Y:Ih X EX)(b4:Gl X x)(b9:X.mg x=some (.ref C))(b2:aJ X.K C bmB newId f=true)(G:ExcBaseFacts B newId initId bmB)(F:FnOk X.prog X.w X.K X.mg X.base CX k f fd ps sp)
  (hr:Room (k+1) X.A)(c0:nZ X.K fd ps [])(a0:iF CX X E0)(a1:PA X (e₀:: rest) t)
  (a4:(x == ("__debug__" :Str))=false:=by decide)(U:starEach (e₀:: rest) X.env=(false,eval e₀ X.env):: starEach rest X.env:=by rfl)(Z:(backTo cpos (starEach rest X.env)).any (·.1)=false:=by rfl):
  PS X (.Raise (some (.Call (.Name x np) (e₀:: rest) [] cpos)) none pos) (Ul C sp EX t):=by
 intro j s i H D I h;obtain⟨bm,N,nm,q,bs,b3,sn,sub,ab,col,dd,k0,k1,k2,k3,k5,mN,d0,S,a8,a9,T,b7,b1⟩:=Ig I.mod.kin b2;have R:(backTo cpos (starEach (e₀:: rest) X.env)).any (·.1)=false:=by
  rw[U];show(false || (backTo cpos (starEach rest X.env)).any (·.1))=false;rw[Z];rfl
 rw[arm_exec_Raise];refine zA (wS (Ur (C:=C) (nm:=nm) (q:=q) (N:=N) (bs:=bs) (bm:=bm) (hdct:=b3) (sn:=sn) (sub:=sub) (ab:=ab) (col:=col) (dd:=dd) (k0:=k0) (k1:=k1) (k2:=k2) (k3:=k3) (k5:=k5) (newId:=newId) (T.hasType G.hasBase) (I.ok.hd a7)
  (zA (yU (wpAny_Call_ofName (iC I b4 b9 ?_ a4)) (λv c5 a2=>zA (wS (zB a2))) λ_ _ x=>x))))
 unfold callWith;have K:=a1 cpos j s i H _ I h;rw[U]at K R ⊢;refine zA (xB (yU (vS (Q:=λa c=>∃us,a=⟨us,[]⟩/\AP X j i _ us c) (thn K λus c9 z=>⟨us,rfl,z⟩)) (λa c c1=>zA (wS ?_)) λ_ _ x=>x));obtain⟨us,rfl,vs,a3,d,r,b5,a6⟩:=c1;simp only[R];have y:=d.bk _ _ S;have hl:us.length<=sizeLine:=by rw[←r.length];exact b5
 have P:=a6 (c.heap.objs.size+1) (d.hok.fresh (uM _));have b8:∀b o,c.heap.get? b=some o->(gE c.heap C us).get? b=some o:=λb o e=>zC _ (zC _ e);have W:(gE c.heap C us).get? (c.heap.objs.size+1)=some (xExc C c.heap.objs.size none):=by
  have:=zS (c.heap.push (xTup us)) (o:=xExc C c.heap.objs.size none) rfl
  rwa[xR]at this
 have l:Inv X j i (upd a3 (c.heap.objs.size+1) (XObj (c.heap.objs.size+1) C true)) {c with heap:=gE c.heap C us}:=d.laid (t':=c.toks) b8 (uM _) (Cs W λ_=>rfl);have r2:Vals (V.ref (c.heap.objs.size+1):: vs) (Value.ref (c.heap.objs.size+1):: us):=.cons rfl r;have b0:(Value.ref (c.heap.objs.size+1):: us++[]).length=ps.length:=by rw[wN,←r2.length];exact F.len _ _ _ _ P
 have J:=c0 {c with heap:=gE c.heap C us} (Value.ref (c.heap.objs.size+1):: us) l.kIn b0;rw[wN]at J;have run:=F.run _ X.stack _ _ ⟨Value.ref (c.heap.objs.size+1):: us,[]⟩ _ _ _ E0 (hr.make C us []) (l.env0.make C us []) J r2 P;obtain⟨c6,c3,c8,c7,c4⟩:=c;refine zA (wpAny_keeperOf_exc y ?_);refine zA (Us G (T.keeps d.bk) y (a8.keeps d.bk) a9 (d.bk _ _ b7) b1 hl (tL (uV run λa5 n g=>?_)));cases a5 with
 |error w=>exact a0 j i _ _ w n l g
 | ok fl =>
  cases fl with
  |ret u =>
   obtain⟨v,H',m,c2,w,O,b6⟩:=l.after g;subst w;refine⟨c2,zA (xB (wpAny_point (zB ?_)))⟩;obtain⟨⟨t',M,L,_⟩,_⟩:=(show nO X.prog X.w H' n.heap _ (XObj _ C false) from m.hok _ _ O);refine⟨_,t',M,rfl,m.bk _ _ S,L,Y j i (rmv H' _) n _ C t' M (m.untrack O) Cr (Heap.get?_none_of_le (yG d.sz (uM _))) L b6⟩
  |next=>exact False.elim g
  |brk=>exact False.elim g
  |cont=>exact False.elim g
def Ie(C:Addr)(sp:Sp)(dvs:List V)(EX:XE)(t:TA):TE:=λσ H Q=>t σ H λvs H1=>∀x dx,H1 x=none->H1 dx=none->dx≠x ->
 sp (.ref x:: (vs++dvs)) (upd (upd H1 dx (.own x)) x (.ins C dx [])) (λv H2=>v=.non/\Q (.ref x) H2) λC' _ H'=>EX σ C' H'
theorem Uj{g:PN}{d:St}{H:Hp}{s:Shared}{Q:VK}{us:LW}{vs:List V}(M:Mk X.K C f)(F:FnOk X.prog X.w X.K X.mg X.base (CX1 X.prog X.w) k f fd ps sp)(hr:Room (k+1) X.A)(m:nZ X.K fd ps ds)(Y:Vals dvs ds)
  (L:fP X EX)(U:X.ex=[])(I:Inv X g d H s)(r:Vals vs us)
  (h:∀x i,H x=none->H i=none->i≠x->sp (.ref x:: (vs++dvs)) (upd (upd H i (.own x)) x (.ins C i [])) (λv O=>v=.non/\Q (.ref x) O) λj _ H'=>EX d j H'):
  wpAny (model X.prog X.w) X.A (call (.ref C) us) (EP X g d Q) X.xe s:=by
 have w:=h (s.heap.objs.size+1) s.heap.objs.size (I.hok.fresh (uM _)) (I.hok.fresh (zE _)) (zY (vX _));have a:=Inv.made (C:=C) I;have r2:Vals (V.ref (s.heap.objs.size+1):: (vs++dvs)) (Value.ref (s.heap.objs.size+1):: (us++ds)):=.cons rfl (r.append Y);have hl:(Value.ref (s.heap.objs.size+1):: us++ds).length=ps.length:=r2.length.symm.trans (F.len _ _ _ _ w);refine tL (Fr (f:=f) I.kIn M.makes M.init (pW.mp M.fn) (uV (F.run _ X.stack _ _ ⟨Value.ref (s.heap.objs.size+1):: us,[]⟩ (Value.ref (s.heap.objs.size+1):: (us++ds)) _ _ _ (hr.make C us [])
  (a.env0.make C us []) (m _ (Value.ref (s.heap.objs.size+1):: us) a.kIn hl) r2 w) λR J c=>?_))
 cases R with
 | error G =>
  obtain⟨e,j,H',Z,a0,rfl,P,a2,un,ok,fl,D,q⟩:=c;have n:Inv X g d H' J:=a.call' P un ok a2 λb z=>absurd z (by simp);refine L g d H' J e j n ⟨Z,a0,fl,λb o e1 m l=>D b o e1 m ?_,λp y=>?_⟩ q
  ·rcases l with⟨K,N⟩|l
   ·obtain⟨W,a3⟩:=a.base.there b K N (by rw[U];simp);exact .inl ⟨W,a3⟩
   ·exact .inr l
  ·obtain⟨e1,a7,T,a6,_⟩:=n.pin p y;refine D p.1 p.2 e1 (λa4=>?_) (.inl ⟨_,(a.pin p y).1⟩);rcases xH.mp (a.stkSub p.1 a4) with z|z
   ·exact T z
   ·exact a6 z
 | ok fl =>
  cases fl with
  |ret u =>
   obtain⟨v,H',a1,a5,G,S⟩:=a.after c;subst G;exact⟨a5,⟨V.ref (s.heap.objs.size+1),H',a1,rfl,S⟩⟩
  |next=>exact False.elim c
  |brk=>exact False.elim c
  |cont=>exact False.elim c
theorem Ui(M:Mk X.K C f)(F:FnOk X.prog X.w X.K X.mg X.base (CX1 X.prog X.w) k f fd ps sp)(hr:Room (k+1) X.A)(m:Gl X x)(c:X.mg x=some (.ref C))(d:nZ X.K fd ps ds)(i:Vals dvs ds)(b:fP X EX)
  (o:PA X (e:: es) t)(v:X.ex=[]:=by rfl)(u:(x == ("__debug__" :Str))=false:=by decide)(j:starEach (e:: es) X.env=(false,eval e X.env):: starEach es X.env:=by rfl)(g:(backTo pos (starEach es X.env)).any (·.1)=false:=by rfl):
  PE X (.Call (.Name x p) (e:: es) [] pos) (Ie C sp dvs EX t):=by
 intro l s n H Q I h;refine wH (iC I m c ?_ u);refine uH (h₀:=X.base) I.ok.mod.kin M.kp (thn (o pos l s n H _ I h) λus y⟨vs,w,a,r,q⟩=>⟨a.kIn,?_⟩) j g;exact Uj M F hr d i b v a r q
theorem FunD.okX{P:Program}{w:World}{K:Frag}{b:MT}{base:Heap}{x a:Str}{st:Stmt}{f:Addr}{fd:FuncData}{ds:LW}{N ps:List Str}{k:Nat}{sp:Sp}(F:FunD K x a st f fd ds)(S:nA N ps (oR st))(len:∀vs H Q E,sp vs H Q E->vs.length=ps.length)
  (d:∀(cdv:Value)(A:Around)(outer:List Env)(s:Shared)(H:Hp)(vs:List V)(Q:VK)(E:XK),Room k (A.deeper (envOfC a (oR st) s.heap.objs.size f cdv))->sp vs H Q E ->
   ∃t,PSs (cxOf (CX1 P w) P w K b base N a (oR st) f cdv A outer s H E) (kH st) t/\t {nx:=λ_ H'=>Q .non H',rt:=Q} (jQ N vs) H):FnOk P w K b base (CX1 P w) (k+1) f fd ps sp:=by
 obtain⟨m,n,T,kV,l,r,j,cdv,o,q,rfl,g,c,_⟩:=F.ex;exact Ai g c S len λA outer s H vs Q E hr i=>d cdv A outer s H vs Q E hr i
end
structure XIn(K:Frag)(C C0 f:Addr):Prop where
 cl:aJ K C [.type "ValueError",.type "Exception",.type "BaseException",.type "object"] "ValueError.__new__" f=true
 ga:PySem.W.specialIn K (.ref C0) "__getattribute__"=some (some (.builtin "type.__getattribute__"))
 rd:PySem.W.readsIn K C0 (.type "type")=true
 fi:PySem.W.findCls K (.ref C0) (.type "type") "__init__"=some (.val (.builtin "ValueError.__init__"))
noncomputable def Cq:LW->Bool
 |.ref _:: r=>Cq r
 |l=>l == [.type "ValueError",.type "Exception",.type "BaseException",.type "object"]
theorem Ic(a:Value):∀{l:LW},Cq l=true->refuseLoop a "__setattr__" l=pure ()/\l.contains (.type "object")=true
 |.ref c:: r,e=>by
  obtain⟨d,b⟩:=Ic a (l:=r) e;exact⟨by rw[refuseLoop_ref];exact d,by rw[List.contains_cons,b,Bool.or_true]⟩
 |[],e=>by cases e
 |.type n:: r,e=>by rw[show Value.type n:: r=_ from pW.mp e];exact⟨PySem.F.store_ValueError.passes a,∅⟩
structure XSt(K:Frag)(C:Addr)(x:Str):Prop where
 sa:PySem.W.findIn K (.ref C) "__setattr__"=some (some (.builtin "object.__setattr__"))
 mr:((PySem.W.clsIn K C).any λc1=>Cq c1.mro && c1.hasDict)=true
 tk:PySem.W.takerIn K C x=some none
section
variable {X:Cx} {C C0 f:Addr} {x nm:Str} {np apos cpos pos:Pos} {e o:Expr} {es:List Expr} {te to:TE} {t:TA}
def Ib(C:Addr)(t:TA):TE:=λσ H Q=>t σ H λvs H1=>∃p b r,vs=.ref p:: r/\H1 p=some (XObj p C b)/\r.length<=sizeLine/\Q .non H1
theorem Uh{pl:Sem Bool}(W:Gl X x)(a1:X.mg x=some (.ref C0))(g:XIn X.K C C0 f)(K:PA X (e:: es) t)(P:(x == ("__debug__" :Str))=false:=by decide)
  (L:starEach (e:: es) X.env=(false,eval e X.env):: starEach es X.env:=by rfl)(J:(backTo cpos (starEach es X.env)).any (·.1)=false:=by rfl)
  (Z:eval (.Call (.Attribute (.Name x np) "__init__" apos) (e:: es) [] cpos) X.env=(do
   let v ←eval (.Name x np) X.env
   standAt apos.atName
   let (f,first) ←holding [v] (getMethod v "__init__" pl)
   callWith cpos f first (backTo cpos (starEach (e:: es) X.env)) (backToKw cpos (keywordEach [] X.env))):=by rfl):
  PE X (.Call (.Attribute (.Name x np) "__init__" apos) (e:: es) [] cpos) (Ib C t):=by
 intro a0 s O H Q I h;refine sZ (pl:=pl) (iC I W a1 ?_ P) Z;refine PySem.W.method_cls I.kIn g.ga (PySem.W.cls_value I.kIn g.rd g.fi (by rfl) ?_);have a4:=I.tok (s.toks+1);have D:=K cpos a0 _ O H _ a4 h;show wpAny _ _ (callWith cpos (.builtin "ValueError.__init__") [] (backTo cpos (starEach (e:: es) X.env)) []) _ _ _;rw[L]at D ⊢;refine uN (by show(false || (backTo cpos (starEach es X.env)).any (·.1))=false;rw[J];rfl) (vS (thn D ?_));rintro us G ⟨vs,w,k,r,q⟩;obtain⟨p,b,M,rfl,j,Y,a3⟩:=q;obtain⟨u,d,rfl,a5,R⟩:∃u d,us=u:: d/\RelV (.ref p) u/\Vals M d:=by cases r with|cons a b=>exact⟨_,_,rfl,a,b⟩
 obtain rfl:u=Value.ref p:=a5;obtain⟨⟨t',y,i,U⟩,_⟩:=(show nO X.prog X.w w G.heap _ (XObj _ C b) from k.hok _ _ j);obtain⟨bm,N,nm,q,bs,b3,sn,sub,ab,col,dd,k0,k1,k2,k3,k5,mN,b5,V,a8,a9,T,b4,b1⟩:=Ig k.kIn g.cl;have F:=xF;have hl:d.length<=sizeLine:=by rw[←R.length];exact Y
 obtain⟨c,a6,b0,S,a7⟩:=G;refine tL (tE F.init.plain F.initEntry (wpAny_check_init_subT F T V i rfl ?_));have b2:p≠c.objs.size:=zY (zL i);have l:(c.push (xTup d)).get? p=some (xExc C t' y):=zC _ i;unfold Builtin.«BaseException.__init__»;refine zA (pN ?_ hl);refine zA (zA (xV l rfl rfl (zA (sI l rfl (by show 0<6;decide) (pH (zB ?_))))));have n:((c.push (xTup d)).update p (Obj.mapFields (·.setIfInBounds 0 (.ref c.objs.size)))).get? p=some (xExc C c.objs.size y):=wF _ l rfl;refine⟨.non,w,?_,rfl,a3⟩;have m:=k.write (h':=(c.push (xTup d)).update p (Obj.mapFields (·.setIfInBounds 0 (.ref c.objs.size)))) (x:=p) (e:=p) (t':=S) (o:=XObj p C b) (by rw[j];exact True.intro) (.inl rfl) (λb u a2 z=>(vH _ _ (yA a2)).trans (zC _ z)) ⟨_,n⟩ (Cs n U);rw[Uq j]at m;exact m
def Ia(C:Addr)(te to:TE):TS:=λD σ H=>te σ H λ_ H1=>to σ H1 λy H2=>∃p,y=.ref p/\H2 p=some (XObj p C true)/\D.nx σ (upd H2 p (XObj p C false))
open Builtin Builtin.ObjectAttr in
theorem Ug(xs:XSt X.K C nm)(F:PE X e te)(c4:PE X o to)(b5:swapsWith e (some (.Attribute o nm apos)) pos.line X.env=pure false:=by rfl):PS X (.Assign [.Attribute o nm apos] e pos) (Ia C te to):=by
 intro O s G H D I h;refine plainObj_wpAny_Assign_Attribute (thn (F O s G H _ I h) λu c3⟨v,a2,c2,c9,b9⟩=>thn (c4 O c3 G a2 _ c2 b9) ?_) b5;rintro a0 c ⟨y,W,n,b2,p,c0,N,b4⟩;subst c0;obtain rfl:a0=Value.ref p:=b2;obtain⟨⟨t',c5,j,a9⟩,_⟩:=(show nO X.prog X.w W c.heap _ (XObj _ C true) from n.hok _ _ N);obtain rfl:=a9 rfl;have g:=n.kIn;have ia:PySem.W.InstAt c.heap p (xExc C t' none) C none:=⟨j,rfl,rfl,trivial⟩;refine PySem.W.set_plain g ia xs.sa ?_;have i:=PySem.F.store_object;obtain⟨l,k,a5⟩:=sV xs.mr;obtain⟨r,a3⟩:=Bool.and_eq_true_iff.mp a5;obtain⟨Y,c1⟩:=Ic (.ref p) r;have b0:l.mro.isEmpty=false:=by cases q:l.mro with|nil=>rw[q]at r;cases r|cons _ _=>rfl
 have sub:PySem.W.Looks (model X.prog X.w) c.heap (isInstance (.ref p) (.type "object")) true:=ia.type.andThen (rO g (by unfold PySem.W.mroIn;rw[k,Option.bind_some,zD (by rw[b0];decide),c1]));refine tE i.slot.plain i.entry (@PySem.W.check_slot (model X.prog X.w) _ _ {c with toks:=c.toks+1} "object.__setattr__" "object" "__setattr__" (.ref p) [.str nm c.toks,u] [] _ i.kind i.split sub (i.args (.ref p) (.str nm c.toks) u) ?_);obtain⟨R,U,hr⟩:=Option.bind_eq_some_iff.mp xs.tk;have b6:PySem.W.Looks (model X.prog X.w) c.heap (mroOf (.ref C)) l.mro:=(rR g k).andThen .now;have a6:PySem.W.Looks (model X.prog X.w) c.heap (storeTaker? R) none:=by
  cases R with
  |none=>exact .now
  |some a =>
   obtain⟨b,w,b7⟩:=Option.map_eq_some_iff.mp hr;refine(PySem.W.looks_takesIn g w).andThen ?_;cases b
   ·exact .now
   ·cases b7
 have up:∀{K:Type}{m:Sem K}{a:K},PySem.W.Looks (model X.prog X.w) c.heap m a->PySem.W.Looks (model X.prog X.w) {c with toks:=c.toks+1}.heap m a:=λz=>z;rw[PySem.W.osa_eq,refuse_eq];refine zA (zA (wX (up ia.type) (zA (wX (up b6) ?_))));rw[Y];refine zB (zA (wX (up ia.type) (zA (wX (up (vR g U)) (zA (wX (up a6) ?_))))));obtain⟨d,V,b1,L,a1⟩:=c;have T:d.get? p=some ⟨.ref C,none,.fields #[.ref t',.none,.none,.none,.bool false,.none],#[]⟩:=j;refine zA (zB (zA (zA (pK T (zA (wX (s:=⟨d,V,b1,L+1,a1⟩) (rR g k) ?_))))));rw[a3];have J:p≠d.objs.size:=zY (zL j);have S:(d.push {cls:=.type "dict",data:=.dict #[]}).get? p=some (xExc C t' none):=zC _ j;refine zA (wpAny_alloc' (zA (wpAny_update' S (zB ?_))));have b3:((d.push {cls:=.type "dict",data:=.dict #[]}).update p λo=>{cls:=o.cls,dict:=some d.objs.size,data:=o.data,slots:=o.slots}).get? d.objs.size=some {cls:=.type "dict",data:=.dict #[]}:=
  (Heap.get?_update_ne _ _ _ _ J.symm).trans (Heap.get?_push_at rfl rfl)
 have a7:((d.push {cls:=.type "dict",data:=.dict #[]}).update p λo=>{cls:=o.cls,dict:=some d.objs.size,data:=o.data,slots:=o.slots}).Ns d.objs.size (λ_=>none):=
  ⟨_,#[],_,b3,rfl,λe F=>absurd F (by simp),λ_=>rfl⟩
 show wpAny _ _ (storeInDict d.objs.size (.str nm L) nm u) _ _ _;unfold storeInDict newKeyGuard;refine zA (zB (zA (wpAny_nsSet1 (Heap.Ns1.of_empty a7) λh' a4 M=>?_)));obtain⟨c6,c7,c8,Z,b8,a8⟩:=a4.count (Within.cons nm u Within.nil);refine zA (wpAny_lookBehind Z (by rw[b8];exact pastItsLine_dict (yG a8 (by rw[zU,List.length_nil,sizeLine_eq];omega))) (zB ?_));have P:h'.get? p=some (xExc C t' (some d.objs.size)):=(M.2 p J).trans (wF _ S rfl);refine⟨_,_,?_,b4⟩;exact n.write (h':=h') (x:=p) (e:=p) (o:=XObj p C false) (by rw[N];exact True.intro) (.inl rfl) (λb q w z=>(M.2 b (zY (zL z))).trans ((Heap.get?_update_ne _ _ _ _ w).trans (zC _ z))) ⟨_,P⟩ (Cs P (by intro z;cases z))
end
theorem Jz{a b:Type}(f:a->b):∀(l:List a)(j:Nat),(l.map f).eraseIdx j=(l.eraseIdx j).map f
 |[],_=>rfl
 |_:: _,0=>rfl
 |x:: l,j+1=>by show f x:: (l.map f).eraseIdx j=_;rw[Jz f l j];rfl
def Uf:List V->Hp->VK->Prop:=λvs H Q=>∃x p b,vs=[x,.ref p]/\H p=some (.tup [.ty "list",.ty "tuple"])/\((∃i,x=.int i/\b=false)\/∃a xs,x=.ref a/\H a=some (.lst xs)/\b=true)/\Q (.bl b) H
theorem Jy{X:Cx}(y:PySem.W.kitOne X.K (.type "int") (.type "list")=some false)(o:PySem.W.kitOne X.K (.type "int") (.type "tuple")=some false):lK X (.builtin "isinstance") Uf:=by
 intro r s j H xs us Q I w h;obtain⟨x,p,b,rfl,l,f,q⟩:=h;obtain⟨u,v,rfl,r1,r2⟩:=w.two;cases r2;have e:∀tk,EP X r j Q (.bool b) {s with toks:=tk}:=λtk=>⟨.bl b,H,I.tok tk,rfl,q⟩;obtain⟨_,its,m,⟨⟨M,G,D,F⟩,e1,d,n,c⟩⟩:=(show nO X.prog X.w H s.heap p (.tup _) from I.hok p _ l);obtain⟨L,J,rfl,t,C⟩:=m.two;cases t;cases C;dsimp only at d c;subst d c;rcases f with⟨i,rfl,rfl⟩|⟨a,ys,rfl,k,rfl⟩
 ·obtain⟨K,rfl⟩:=r1;exact PySem.W.kia_tup PySem.W.kitx_int I.kIn True.intro e1 (by unfold PySem.W.kitAny;rw[y];show PySem.W.kitAny _ _ _=_;unfold PySem.W.kitAny;rw[o];rfl) (λz=>nomatch z) e
 ·cases r1;obtain⟨_,_,n,_,g⟩:=(show nO X.prog X.w H s.heap a (.lst ys) from I.hok a _ k);exact PySem.W.kia_tup qO I.kIn ⟨_,g,rfl⟩ e1 (by rfl) (λz=>nomatch z) e
end L2
namespace Cw
open PySem L2
noncomputable abbrev pa':List Str:=["_law_group_here","_law_numbered_here","_law_script","_law_d","_law_sort_here","_law_spot_here"]
noncomputable abbrev pb':List Str:=["_law_group_here","_law_makers_here","_law_numbered_here","_law_script","_law_d"]
noncomputable abbrev pc':List Str:=["_law_group_here","_law_members","_law_numbered_here","_law_box_here"]
noncomputable abbrev pd':List Str:=["_law_script","_law_at","_law_d","_law_spot_here","_law_sort_here"]
noncomputable abbrev pe':List Str:=["_law_group_here","_law_members","_law_words","_law_held"]
noncomputable abbrev pf':List Str:=["_law_group_here","_law_one","_law_numbered_here"]
noncomputable abbrev pg':List Str:=["_law_group_here","_law_i","_law_j","_law_due"]
noncomputable abbrev ph':List Str:=["_law_sort_here","_law_box_here","_law_d"]
noncomputable abbrev pi':List Str:=["_law_rows_here","_law_tops","_law_under"]
noncomputable abbrev pj':List Str:=["_law_rows_here","_law_box_here"]
noncomputable abbrev pk':List Str:=["_law_box_here","_law_many"]
noncomputable abbrev pl':List Str:=["_law_d","_law_makers_here"]
noncomputable abbrev pm':List Str:=["self","d","makers","most"]
noncomputable abbrev pn':List Str:=["_law_box_here","_law_d"]
noncomputable abbrev po':List Str:=["_law_one","_law_other"]
noncomputable abbrev pp':List Str:=["_law_script","_law_k"]
noncomputable abbrev pq':List Str:=["_law_script","_law_d"]
noncomputable abbrev pr':List Str:=["rows","tops","under"]
noncomputable abbrev pt':List Str:=["d","makers","most"]
noncomputable abbrev pu':List Str:=["self","apart"]
noncomputable abbrev pv':List Str:=["rows","i","k"]
noncomputable abbrev pw':List Str:=["rows","count"]
noncomputable abbrev px':List Str:=["self","i","j"]
noncomputable abbrev py':List Str:=["one","other"]
noncomputable abbrev pz':List Str:=["rows","spot"]
noncomputable abbrev pA':List Str:=["_law_script"]
noncomputable abbrev pB':List Str:=["self","one"]
noncomputable abbrev pC':List Str:=["_law_found"]
noncomputable abbrev pD':List Str:=["self","i"]
noncomputable abbrev pE':List Str:=["rows"]
noncomputable abbrev pF':List Str:=["self"]
noncomputable abbrev pG':List Str:=["one"]
open PySem.W (nsIn keepIn codeIn findIn fnOf mg_of kitOne)
open PyProof.Rows (mulOk_of_bits)
theorem zqe{a b:Type}{l:List a}{f:a->b}:(l.map f).length=l.length:=yS ..
theorem zqa{b:Type}{l:List b}{i:Nat}{a:b}(h:l[i]?=some a):∃h:i<l.length,l[i]=a:=oH.mp h
theorem zqb{b:Type}{l:List b}{i:Nat}{a:b}(h:l[i]?=some a):a∈l:=yF h
theorem zqc{b:Type}{l:List b}{i:Nat}{a:b}:l.getD i a=l[i]?.getD a:=tN
theorem zqd{a:Type}{l:List a}{i:Nat}(h:i<l.length):l[i]?=some l[i]:=xN h
open PySem.W (Frag)
abbrev LM:=List (LI')
noncomputable def top(i:Nat):Stmt:=PySem.Challenge.pw_crystalwords_k43_whole_every_word.main.body.getD i (.Pass ⟨0,0,0,0⟩)
noncomputable abbrev s_1c:Stmt:=top 1
noncomputable abbrev N_1c:List Str:=["thing"]
noncomputable abbrev s_7:Stmt:=iX (top 6) 0
noncomputable abbrev N_7:List Str:=pu'
noncomputable abbrev s_18:Stmt:=top 8
noncomputable abbrev N_18:List Str:=["one","other","greater","lesser","remainder"]
noncomputable abbrev s_19:Stmt:=top 10
noncomputable abbrev N_19:List Str:=["tops","under","common","top"]
noncomputable abbrev aK:Stmt:=top 11
noncomputable abbrev N_r:List Str:=["one","under"]
noncomputable abbrev aL:Stmt:=top 13
noncomputable abbrev N_t:List Str:=["size"]
noncomputable abbrev s_1n:Stmt:=top 14
noncomputable abbrev N_1n:List Str:=py'
noncomputable abbrev s_1e:Stmt:=top 15
noncomputable abbrev N_1e:List Str:=pE'
noncomputable abbrev s_16:Stmt:=top 16
noncomputable abbrev N_16:List Str:=pv'
noncomputable abbrev s_3:Stmt:=top 17
noncomputable abbrev N_3:List Str:=["rows","total","sign","k","number"]
noncomputable abbrev s_13:Stmt:=top 18
noncomputable abbrev N_13:List Str:=["rows","i","k","sign"]
noncomputable abbrev s_1a:Stmt:=top 19
noncomputable abbrev N_1a:List Str:=["rows","size"]
noncomputable abbrev s_1f:Stmt:=top 20
noncomputable abbrev N_1f:List Str:=pw'
noncomputable abbrev s_1d:Stmt:=top 21
noncomputable abbrev N_1d:List Str:=pE'
noncomputable abbrev s_14:Stmt:=top 23
noncomputable abbrev N_14:List Str:=pz'
noncomputable abbrev s_1k:Stmt:=top 24
noncomputable abbrev N_1k:List Str:=["rows","tops","under","axes"]
noncomputable abbrev s_1h:Stmt:=top 25
noncomputable abbrev N_1h:List Str:=["d"]
noncomputable abbrev s_1g:Stmt:=top 26
noncomputable abbrev N_1g:List Str:=["one","spot","tops"]
noncomputable abbrev s_1b:Stmt:=top 27
noncomputable abbrev N_1b:List Str:=["one","other","columns","rows"]
noncomputable abbrev s_1l:Stmt:=top 28
noncomputable abbrev N_1l:List Str:=["one","rows"]
noncomputable abbrev s_1j:Stmt:=top 29
noncomputable abbrev N_1j:List Str:=pG'
noncomputable abbrev Cp:Stmt:=top 32
noncomputable abbrev N_x:List Str:=["most"]
noncomputable abbrev Co:Stmt:=top 33
noncomputable abbrev N_w:List Str:=["d","makers","maker"]
noncomputable abbrev s_15:Stmt:=top 34
noncomputable abbrev N_15:List Str:=["d","makers","most","steps","found","words","at","number","step","reached"]
noncomputable abbrev s_0:Stmt:=iX (top 35) 0
noncomputable abbrev N_0:List Str:=["self","d","makers","most","words"]
noncomputable abbrev s_5:Stmt:=iX (top 35) 2
noncomputable abbrev N_5:List Str:=pF'
noncomputable abbrev s_2:Stmt:=iX (top 35) 3
noncomputable abbrev N_2:List Str:=pF'
noncomputable abbrev s_6:Stmt:=iX (top 35) 4
noncomputable abbrev N_6:List Str:=pF'
noncomputable abbrev Cn:Stmt:=iX (top 35) 5
noncomputable abbrev N_a:List Str:=pB'
noncomputable abbrev s_9:Stmt:=iX (top 35) 6
noncomputable abbrev N_9:List Str:=px'
noncomputable abbrev s_8:Stmt:=iX (top 35) 7
noncomputable abbrev N_8:List Str:=pD'
noncomputable abbrev Cm:Stmt:=top 37
noncomputable abbrev N_v:List Str:=["_law_script","_law_k","_law_cells"]
noncomputable abbrev s_1:Stmt:=top 38
noncomputable abbrev N_1:List Str:=["_law_box_here","_law_many","_law_digit","_law_number"]
noncomputable abbrev Cl:Stmt:=top 39
noncomputable abbrev N_q:List Str:=pC'
noncomputable abbrev Ck:Stmt:=top 40
noncomputable abbrev N_i:List Str:=po'
noncomputable abbrev aM:Stmt:=top 41
noncomputable abbrev N_m:List Str:=["_law_d"]
noncomputable abbrev aN:Stmt:=top 42
noncomputable abbrev N_k:List Str:=["_law_one","_law_other","_law_d","_law_found","_law_i"]
noncomputable abbrev Cj:Stmt:=top 43
noncomputable abbrev N_y:List Str:=["_law_box_here","_law_d","_law_rows_here","_law_k"]
noncomputable abbrev aO:Stmt:=top 44
noncomputable abbrev N_j:List Str:=["_law_box_here","_law_d","_law_left","_law_rows_here","_law_i","_law_at","_law_sign"]
noncomputable abbrev s_17:Stmt:=top 45
noncomputable abbrev N_17:List Str:=ph'
noncomputable abbrev aP:Stmt:=top 46
noncomputable abbrev N_n:List Str:=["_law_rows_here","_law_box_here","_law_d","_law_k","_law_i","_law_j","_law_by","_law_row"]
noncomputable abbrev s_11:Stmt:=top 47
noncomputable abbrev N_11:List Str:=["_law_rows_here","_law_tops","_law_under","_law_by","_law_top"]
noncomputable abbrev cJ:Stmt:=top 48
noncomputable abbrev N_u:List Str:=["_law_rows_here","_law_tops","_law_under","_law_by","_law_top"]
noncomputable abbrev aQ:Stmt:=top 49
noncomputable abbrev N_g:List Str:=["_law_script","_law_at","_law_d","_law_spot_here","_law_sort_here","_law_box_here","_law_rows_here","_law_under","_law_tops","_law_i","_law_far"]
noncomputable abbrev aR:Stmt:=top 50
noncomputable abbrev N_z:List Str:=["_law_script","_law_d","_law_box_here","_law_under"]
noncomputable abbrev s_12:Stmt:=top 51
noncomputable abbrev N_12:List Str:=["_law_script","_law_box_here"]
noncomputable abbrev aS:Stmt:=top 52
noncomputable abbrev N_l:List Str:=["_law_script","_law_d","_law_many","_law_sort_here","_law_spot_here"]
noncomputable abbrev aT:Stmt:=top 53
noncomputable abbrev N_b:List Str:=["_law_one","_law_other","_law_rows_here","_law_tops","_law_i","_law_far"]
noncomputable abbrev Ci:Stmt:=top 54
noncomputable abbrev N_o:List Str:=["_law_one"]
noncomputable abbrev s_10:Stmt:=top 55
noncomputable abbrev N_10:List Str:=["_law_d","_law_makers_here","_law_group_here"]
noncomputable abbrev Cg:Stmt:=top 56
noncomputable abbrev N_c:List Str:=["_law_members","_law_found","_law_k"]
noncomputable abbrev Cf:Stmt:=top 57
noncomputable abbrev N_p:List Str:=["_law_group_here","_law_one","_law_numbered_here","_law_found"]
noncomputable abbrev Ce:Stmt:=top 58
noncomputable abbrev N_s:List Str:=["_law_group_here","_law_i","_law_j","_law_due","_law_found"]
noncomputable abbrev Cd:Stmt:=top 59
noncomputable abbrev N_e:List Str:=["_law_group_here","_law_makers_here","_law_numbered_here","_law_script","_law_d","_law_done","_law_start","_law_at","_law_cell","_law_maker_here","_law_here","_law_way"]
noncomputable abbrev Cc:Stmt:=top 60
noncomputable abbrev N_h:List Str:=["_law_group_here","_law_members","_law_numbered_here","_law_box_here","_law_i","_law_j","_law_due"]
noncomputable abbrev aU:Stmt:=top 61
noncomputable abbrev N_d:List Str:=["_law_group_here","_law_members","_law_words","_law_held","_law_told","_law_kept","_law_copy"]
noncomputable abbrev Cb:Stmt:=top 62
noncomputable abbrev N_f:List Str:=["_law_group_here","_law_numbered_here","_law_script","_law_d","_law_sort_here","_law_spot_here","_law_one","_law_box_here","_law_tops","_law_i","_law_far","_law_other","_law_far_one","_law_some"]
noncomputable abbrev s_1o:Stmt:=top 63
noncomputable abbrev N_1o:List Str:=["_law_script","_law_d","_law_makers_here","_law_handed","_law_group_here","_law_beside","_law_members","_law_words","_law_held","_law_numbered_here","_law_k"]
local macro_rules | `(tactic| walk_at "s")=>`(tactic| exact ⟨rfl,rfl,rfl,by decide +kernel,rfl,by decide +kernel,by decide +kernel⟩)
local macro_rules | `(tactic| walk_at "v")=>`(tactic| (intro _ _ _ _ h; first | (obtain ⟨_,hh,_⟩:=h; subst hh; rfl) | (obtain ⟨_,_,hh,_⟩:=h; subst hh; rfl) | (obtain ⟨_,_,_,hh,_⟩:=h; subst hh; rfl) | (obtain ⟨_,_,_,_,hh,_⟩:=h; subst hh; rfl) | (obtain ⟨_,_,_,_,_,hh,_⟩:=h; subst hh; rfl) | (obtain ⟨_,_,_,_,_,_,hh,_⟩:=h; subst hh; rfl) | (obtain ⟨_,_,_,_,_,_,_,hh,_⟩:=h; subst hh; rfl) | (obtain ⟨_,_,_,_,_,_,_,_,hh,_⟩:=h; subst hh; rfl) | (obtain ⟨_,_,_,_,_,_,_,_,_,hh,_⟩:=h; subst hh; rfl) | (obtain ⟨_,_,_,_,_,_,_,_,_,_,hh,_⟩:=h; subst hh; rfl) | (obtain ⟨_,_,_,_,_,_,_,_,_,_,_,hh,_⟩:=h; subst hh; rfl) | (obtain ⟨_,_,_,_,_,_,_,_,_,_,_,_,_,hh,_⟩:=h; subst hh; rfl)))
theorem sc_1c:nA N_1c ["thing"] (oR s_1c):=by walk_at "s"
theorem sc_7:nA N_7 pu' (oR s_7):=by walk_at "s"
theorem sc_18:nA N_18 py' (oR s_18):=by walk_at "s"
theorem sc_19:nA N_19 ["tops","under"] (oR s_19):=by walk_at "s"
theorem sc_r:nA N_r pG' (oR aK):=by walk_at "s"
theorem sc_t:nA N_t ["size"] (oR aL):=by walk_at "s"
theorem sc_1n:nA N_1n py' (oR s_1n):=by walk_at "s"
theorem sc_1e:nA N_1e pE' (oR s_1e):=by walk_at "s"
theorem sc_16:nA N_16 pv' (oR s_16):=by walk_at "s"
theorem sc_3:nA N_3 pE' (oR s_3):=by walk_at "s"
theorem sc_13:nA N_13 pv' (oR s_13):=by walk_at "s"
theorem sc_1a:nA N_1a pE' (oR s_1a):=by walk_at "s"
theorem sc_1f:nA N_1f pw' (oR s_1f):=by walk_at "s"
theorem sc_1d:nA N_1d pE' (oR s_1d):=by walk_at "s"
theorem sc_14:nA N_14 pz' (oR s_14):=by walk_at "s"
theorem sc_1k:nA N_1k pr' (oR s_1k):=by walk_at "s"
theorem sc_1h:nA N_1h ["d"] (oR s_1h):=by walk_at "s"
theorem sc_1g:nA N_1g ["one","spot"] (oR s_1g):=by walk_at "s"
theorem sc_1b:nA N_1b py' (oR s_1b):=by walk_at "s"
theorem sc_1l:nA N_1l pG' (oR s_1l):=by walk_at "s"
theorem sc_1j:nA N_1j pG' (oR s_1j):=by walk_at "s"
theorem sc_x:nA N_x ["most"] (oR Cp):=by walk_at "s"
theorem sc_w:nA N_w ["d","makers"] (oR Co):=by walk_at "s"
theorem sc_15:nA N_15 pt' (oR s_15):=by walk_at "s"
theorem sc_0:nA N_0 pm' (oR s_0):=by walk_at "s"
theorem sc_5:nA N_5 pF' (oR s_5):=by walk_at "s"
theorem sc_2:nA N_2 pF' (oR s_2):=by walk_at "s"
theorem sc_6:nA N_6 pF' (oR s_6):=by walk_at "s"
theorem sc_a:nA N_a pB' (oR Cn):=by walk_at "s"
theorem sc_9:nA N_9 px' (oR s_9):=by walk_at "s"
theorem sc_8:nA N_8 pD' (oR s_8):=by walk_at "s"
theorem sc_v:nA N_v pp' (oR Cm):=by walk_at "s"
theorem sc_1:nA N_1 pk' (oR s_1):=by walk_at "s"
theorem sc_q:nA N_q pC' (oR Cl):=by walk_at "s"
theorem sc_i:nA N_i po' (oR Ck):=by walk_at "s"
theorem sc_m:nA N_m ["_law_d"] (oR aM):=by walk_at "s"
theorem sc_k:nA N_k po' (oR aN):=by walk_at "s"
theorem sc_y:nA N_y pn' (oR Cj):=by walk_at "s"
theorem sc_j:nA N_j pn' (oR aO):=by walk_at "s"
theorem sc_17:nA N_17 ph' (oR s_17):=by walk_at "s"
theorem sc_n:nA N_n pj' (oR aP):=by walk_at "s"
theorem sc_11:nA N_11 pi' (oR s_11):=by walk_at "s"
theorem sc_u:nA N_u pi' (oR cJ):=by walk_at "s"
theorem sc_g:nA N_g pd' (oR aQ):=by walk_at "s"
theorem sc_z:nA N_z pq' (oR aR):=by walk_at "s"
theorem sc_12:nA N_12 pA' (oR s_12):=by walk_at "s"
theorem sc_l:nA N_l pA' (oR aS):=by walk_at "s"
theorem sc_b:nA N_b po' (oR aT):=by walk_at "s"
theorem sc_o:nA N_o ["_law_one"] (oR Ci):=by walk_at "s"
theorem sc_10:nA N_10 pl' (oR s_10):=by walk_at "s"
theorem sc_c:nA N_c ["_law_members"] (oR Cg):=by walk_at "s"
theorem sc_p:nA N_p pf' (oR Cf):=by walk_at "s"
theorem sc_s:nA N_s pg' (oR Ce):=by walk_at "s"
theorem sc_e:nA N_e pb' (oR Cd):=by walk_at "s"
theorem sc_h:nA N_h pc' (oR Cc):=by walk_at "s"
theorem sc_d:nA N_d pe' (oR aU):=by walk_at "s"
theorem sc_f:nA N_f pa' (oR Cb):=by walk_at "s"
theorem sc_1o:nA N_1o pA' (oR s_1o):=by walk_at "s"
set_option genInjectivity false in
structure Adr where
 (a_1c a_7 a_18 a_19 a_r a_t a_1n a_1e a_16 a_3 a_13 a_1a a_1f a_1d a_14 a_1k a_1h a_1g a_1b a_1l a_1j a_x a_w a_15 a_0 a_5 a_2 a_6 a_a a_9 a_8 a_v a_1 a_q a_i a_m a_k a_y a_j a_17 a_n a_11 a_u a_g a_z a_12 a_l a_b a_o a_10 a_c a_p a_s a_e a_h a_d a_f a_1o:Addr)
 (d_1c d_7 d_18 d_19 d_r d_t d_1n d_1e d_16 d_3 d_13 d_1a d_1f d_1d d_14 d_1k d_1h d_1g d_1b d_1l d_1j d_x d_w d_15 d_0 d_5 d_2 d_6 d_a d_9 d_8 d_v d_1 d_q d_i d_m d_k d_y d_j d_17 d_n d_11 d_u d_g d_z d_12 d_l d_b d_o d_10 d_c d_p d_s d_e d_h d_d d_f d_1o:FuncData)
 a_1m:Addr
 a_1q:Addr
 a_1p:Addr
 a_1i:Addr
 a_1r:Addr
 a_4:Addr
 k_0:Tok
structure Txt(K:Frag)(mg:MT)(t:Adr):Prop where
 F_1c:FunT K mg "copied" s_1c t.a_1c t.d_1c ["thing"]
 F_7:Fun K "__init__" "TooMany.__init__" s_7 t.a_7 t.d_7
 b_7:nZ K t.d_7 pu' []
 F_18:FunT K mg "divisor" s_18 t.a_18 t.d_18 py'
 F_19:FunT K mg "place" s_19 t.a_19 t.d_19 ["tops","under"]
 F_r:FunT K mg "rest_place" aK t.a_r t.d_r pG'
 F_t:FunT K mg "still_rows" aL t.a_t t.d_t ["size"]
 F_1n:FunT K mg "dot" s_1n t.a_1n t.d_1n py'
 F_1e:FunT K mg "turned" s_1e t.a_1e t.d_1e pE'
 F_16:FunT K mg "without" s_16 t.a_16 t.d_16 pv'
 F_3:FunT K mg "determinant" s_3 t.a_3 t.d_3 pE'
 F_13:FunT K mg "cofactor" s_13 t.a_13 t.d_13 pv'
 F_1a:FunT K mg "crossed" s_1a t.a_1a t.d_1a pE'
 F_1f:FunT K mg "scaled" s_1f t.a_1f t.d_1f pw'
 F_1d:FunT K mg "inverse" s_1d t.a_1d t.d_1d pE'
 F_14:FunT K mg "joined" s_14 t.a_14 t.d_14 pz'
 F_1k:FunT K mg "deed" s_1k t.a_1k t.d_1k pr'
 F_1h:FunT K mg "still" s_1h t.a_1h t.d_1h ["d"]
 F_1g:FunT K mg "moved" s_1g t.a_1g t.d_1g ["one","spot"]
 F_1b:FunT K mg "behind" s_1b t.a_1b t.d_1b py'
 F_1l:FunT K mg "back" s_1l t.a_1l t.d_1l pG'
 F_1j:FunT K mg "rest" s_1j t.a_1j t.d_1j pG'
 F_x:FunT K mg "check_most" Cp t.a_x t.d_x ["most"]
 F_w:FunT K mg "check_axes" Co t.a_w t.d_w ["d","makers"]
 F_15:FunT K mg "closed" s_15 t.a_15 t.d_15 pt'
 F_0:FunD K "__init__" "Group.__init__" s_0 t.a_0 t.d_0 [.int 200 t.k_0]
 bd_Group___init__:nZ K t.d_0 pm' [.int 200 t.k_0]
 b_0:nZ K t.d_0 pm' []
 F_5:Fun K "makers" "Group.makers" s_5 t.a_5 t.d_5
 b_5:nZ K t.d_5 pF' []
 F_2:Fun K "members" "Group.members" s_2 t.a_2 t.d_2
 b_2:nZ K t.d_2 pF' []
 F_6:Fun K "words" "Group.words" s_6 t.a_6 t.d_6
 b_6:nZ K t.d_6 pF' []
 F_a:Fun K "at" "Group.at" Cn t.a_a t.d_a
 b_a:nZ K t.d_a pB' []
 F_9:Fun K "product" "Group.product" s_9 t.a_9 t.d_9
 b_9:nZ K t.d_9 px' []
 F_8:Fun K "back_of" "Group.back_of" s_8 t.a_8 t.d_8
 b_8:nZ K t.d_8 pD' []
 F_v:FunT K mg "_law_box" Cm t.a_v t.d_v pp'
 F_1:FunT K mg "_law_take" s_1 t.a_1 t.d_1 pk'
 F_q:FunT K mg "_law_whole" Cl t.a_q t.d_q pC'
 F_i:FunT K mg "_law_common" Ck t.a_i t.d_i po'
 F_m:FunT K mg "_law_still" aM t.a_m t.d_m ["_law_d"]
 F_k:FunT K mg "_law_times" aN t.a_k t.d_k po'
 F_y:FunT K mg "_law_sixty" Cj t.a_y t.d_y pn'
 F_j:FunT K mg "_law_signed" aO t.a_j t.d_j pn'
 F_17:FunT K mg "_law_rows" s_17 t.a_17 t.d_17 ph'
 F_n:FunT K mg "_law_based" aP t.a_n t.d_n pj'
 F_11:FunT K mg "_law_rest" s_11 t.a_11 t.d_11 pi'
 F_u:FunT K mg "_law_low" cJ t.a_u t.d_u pi'
 F_g:FunT K mg "_law_maker" aQ t.a_g t.d_g pd'
 F_z:FunT K mg "_law_spot" aR t.a_z t.d_z pq'
 F_12:FunT K mg "_law_sort" s_12 t.a_12 t.d_12 pA'
 F_l:FunT K mg "_law_makers" aS t.a_l t.d_l pA'
 F_b:FunT K mg "_law_behind" aT t.a_b t.d_b po'
 F_o:FunT K mg "_law_rested" Ci t.a_o t.d_o ["_law_one"]
 F_10:FunT K mg "_law_group" s_10 t.a_10 t.d_10 pl'
 F_c:FunT K mg "_law_numbered" Cg t.a_c t.d_c ["_law_members"]
 F_p:FunT K mg "_law_right" Cf t.a_p t.d_p pf'
 F_s:FunT K mg "_law_pair" Ce t.a_s t.d_s pg'
 F_e:FunT K mg "_law_walked" Cd t.a_e t.d_e pb'
 F_h:FunT K mg "_law_any_two" Cc t.a_h t.d_h pc'
 F_d:FunT K mg "_law_changed" aU t.a_d t.d_d pe'
 F_f:FunT K mg "_law_others" Cb t.a_f t.d_f pa'
 F_1o:FunT K mg "law" s_1o t.a_1o t.d_1o pA'
 z_sum:mg "sum"=none
 z_zip:mg "zip"=none
 z_enumerate:mg "enumerate"=none
 z_range:mg "range"=none
 z_len:mg "len"=none
 z_abs:mg "abs"=none
 z_isinstance:mg "isinstance"=none
 z_int:mg "int"=none
 z_bool:mg "bool"=none
 z_list:mg "list"=none
 z_tuple:mg "tuple"=none
 z_sorted:mg "sorted"=none
 z_dict:mg "dict"=none
 z_any:mg "any"=none
 m_1m:mg "CrystalError"=some (.ref t.a_1m)
 m_1q:mg "NoPlace"=some (.ref t.a_1q)
 m_1p:mg "NoDeed"=some (.ref t.a_1p)
 m_1i:mg "TooMany"=some (.ref t.a_1i)
 m_1r:mg "NoNumber"=some (.ref t.a_1r)
 m_4:mg "Group"=some (.ref t.a_4)
 g_MOST_MEMBERS:∃u,mg "MOST_MEMBERS"=some u/\RelV (.int 200) u
 h_j:kitOne K (.type "list") (.type "list")=some true
 x_1q:PySem.W.excIn K t.a_1q [.type "ValueError",.type "Exception",.type "BaseException",.type "object"] "ValueError.__new__"=true
 x_1p:PySem.W.excIn K t.a_1p [.type "ValueError",.type "Exception",.type "BaseException",.type "object"] "ValueError.__new__"=true
 cl_4:L2.Cls K t.a_4
 mk_4:L2.Mk K t.a_4 t.a_0
 me_2:L2.Meth K t.a_4 "members" t.a_2
 h_5:findIn K (.ref t.a_4) "dimension"=some none
 h_h:findIn K (.ref t.a_4) "given"=some none
 h_8:findIn K (.ref t.a_4) "ordered"=some none
 h_6:findIn K (.ref t.a_4) "shortest"=some none
 h_9:findIn K (.ref t.a_4) "numbers"=some none
 me_5:L2.Meth K t.a_4 "makers" t.a_5
 me_6:L2.Meth K t.a_4 "words" t.a_6
 h_k:kitOne K (.type "int") (.type "list")=some false
 h_l:kitOne K (.type "int") (.type "tuple")=some false
 h_a:L2.XIn K t.a_1i t.a_1m t.a_7
 h_b:L2.XSt K t.a_1i "apart"
 h_d:PySem.W.exmOne K (.ref t.a_1i) (.ref t.a_1i)=some true
 me_a:L2.Meth K t.a_4 "at" t.a_a
 me_9:L2.Meth K t.a_4 "product" t.a_9
 me_8:L2.Meth K t.a_4 "back_of" t.a_8
 h_m:kitOne K (.type "tuple") (.type "tuple")=some true
 h_n:kitOne K (.type "int") (.type "bool")=some false
 h_i:kitOne K (.type "int") (.type "int")=some true
 bl:∀(s:Shared)(u:Value),BindsTo s t.d_1o ⟨[u],[]⟩ [("_law_script",u)]
local macro_rules | `(tactic| walk_at "r")=>`(tactic| simp only [tSeq,tAsg,nB,tVar,qVar,tC,tOp,t_t,u_j,u_k,tUn,bE,tB,tIfS,tIf,tAnd,tOr,tNot,Mb,tOrV,Ma,tRet,u_e,Ny,Ea,mS,Ph,nF,tNil,tCB,tTup,tLst,tPar,Gs,tBM,tBM0,tSl,Ag,Ah,List.getElem?_cons_zero,List.getElem?_cons_succ,Option.some.injEq,exists_eq_left',exists_eq_left,List.set_cons_zero,List.set_cons_succ,List.cons.injEq,V.int.injEq,V.bl.injEq,V.ref.injEq,and_true,true_and,List.append_nil,ne_eq,exists_and_left,and_assoc,↓reduceIte,Bool.not_true,Bool.not_false,Bool.false_eq_true])
set_option hygiene false in
local macro_rules | `(tactic|apply $e:term)=>`(tactic|refine $e (by walk_at "v") (λcdv A outer s H vs Q E hr h=>?_))
set_option hygiene false in
local macro_rules | `(tactic|left)=>`(tactic|(subst e1;refine st λN1 e1=>?_;ext))
set_option hygiene false in
local macro_rules | `(tactic|right)=>`(tactic|(refine st λN1 e1=>?_;ext))
set_option hygiene false in
local macro_rules | `(tactic|symm)=>`(tactic|(subst e1;ext))
set_option hygiene false in
local macro_rules | `(tactic|exfalso)=>`(tactic|(refine nN λB eB=>?_;simp only[iSeq];ext))
noncomputable def gcdI(a b:Int):Int:=(Int.gcd a b:Int)
noncomputable def absI(u:Int):Int:=if u<0 then -u else u
noncomputable def gl(u:Int)(ns:LI'):Int:=ns.foldl gcdI (absI u)
theorem Ue(u:Int):0<=absI u:=by unfold absI;split <;> omega
theorem Ud{d u:Int}:d∣absI u↔d∣u:=by
 unfold absI;split
 ·exact Int.dvd_neg
 ·exact Iff.rfl
theorem Jx{d:Int}:∀(ns:LI')(c:Int),d∣ns.foldl gcdI c↔d∣c/\∀f∈ns,d∣f
 |[],c=>by simp
 | f:: r,c=>by
  rw[wM,Jx r];unfold gcdI;rw[Int.dvd_coe_gcd_iff];constructor
  ·rintro⟨⟨g,a⟩,i⟩;refine⟨g,λx b=>?_⟩;rcases xH.mp b with e|e
   ·rw[e];exact a
   ·exact i x e
  ·rintro⟨g,a⟩;exact⟨⟨g,a f zZ⟩,λx b=>a x (zO _ b)⟩
theorem eO{d u:Int}{ns:LI'}:d∣gl u ns↔d∣u/\∀t∈ns,d∣t:=by
 unfold gl;rw[Jx,Ud]
theorem Jw:∀(ns:LI')(c:Int),0<=c->0<=ns.foldl gcdI c
 |[],_,h=>h
 |t:: r,c,_=>Jw r _ (Int.natCast_nonneg _)
theorem aV(u:Int)(ns:LI'):0<=gl u ns:=Jw ns _ (Ue u)
theorem gl_u(u:Int)(ns:LI'):gl u ns∣u:=(eO.mp (qW _)).1
theorem aW{u t:Int}{ns:LI'}(h:t∈ns):gl u ns∣t:=(eO.mp (qW _)).2 t h
theorem Ca{u:Int}(ns:LI')(h:u≠0):0<gl u ns:=by
 have:=aV u ns;rcases Int.lt_or_eq_of_le this with q|q
 ·exact q
 ·obtain⟨k,e⟩:=gl_u u ns;rw[←q,uE]at e;exact absurd e h
theorem Uc{u v:Int}{ns ms:LI'}(h:∀d:Int,(d∣u/\∀t∈ns,d∣t)↔(d∣v/\∀t∈ms,d∣t)):gl u ns=gl v ms:=
 Int.dvd_antisymm (aV _ _) (aV _ _) (eO.mpr ((h _).mp (eO.mp (qW _)))) (eO.mpr ((h _).mpr (eO.mp (qW _))))
theorem Ub(u:Int)(ns:LI')(t:Int):gl u (ns++[t])=gcdI (gl u ns) t:=by unfold gl;rw[uS];rfl
noncomputable def cs(u:Int)(ns:LI'):Int:=if u<0 then -(gl u ns) else gl u ns
theorem eP{u:Int}(ns:LI')(h:u≠0):cs u ns≠0:=by
 have:=Ca ns h;unfold cs;split <;> omega
theorem jX{u x:Int}{ns:LI'}(h:gl u ns∣x):cs u ns∣x:=by
 unfold cs;split
 ·exact Int.neg_dvd.mpr h
 ·exact h
theorem gG{c x:Int}(a:c≠0)(h:c∣x):x.fdiv c*c=x:=by
 obtain⟨k,e⟩:=h;subst e;rw[wQ c k,Int.mul_fdiv_cancel _ a]
theorem gH{u:Int}(ns:LI')(h:u≠0):0<u.fdiv (cs u ns):=by
 have e:=gG (eP ns h) (jX (gl_u u ns));have g:=Ca ns h;rcases Int.lt_trichotomy (u.fdiv (cs u ns)) 0 with q|q|q
 ·refine False.elim ?_;unfold cs at e q;split at e
  ·rename_i a;rw[zF a]at q;have:=Int.mul_nonneg_of_nonpos_of_nonpos (wZ q) (show -(gl u ns)<=0 by omega);omega
  ·rename_i a;rw[zD a]at q;have:=Int.mul_neg_of_neg_of_pos q g;omega
 ·rw[q,uE]at e;exact absurd e.symm h
 ·exact q
theorem Ua{u:Int}{ns:LI'}(h:0<u)(g:gl u ns=1):cs u ns=1:=by
 unfold cs;rw[zD ⋯,g]
theorem Vz{u:Int}{ns:LI'}(h:0<u)(g:gl u ns=1):(ns.map λt=>t.fdiv (cs u ns))=ns/\u.fdiv (cs u ns)=u:=by
 rw[Ua h g];refine⟨?_,Int.fdiv_one u⟩;rw[show(λt:Int=>t.fdiv 1)=id from funext λt=>Int.fdiv_one t,List.map_id]
theorem Vy{u:Int}(b:0<u)(a:Int):(a.fmod u-a).fmod u=0:=by
 rw[xS a (wZ b),xS _ (wZ b)];exact Int.emod_eq_zero_of_dvd (by
  have:=Int.emod_add_mul_ediv a u;exact⟨-(a/u),by rw[Int.mul_neg];omega⟩)
theorem Jv(g l:Int):Int.gcd l (Int.fmod g l)=Int.gcd g l:=by
 rw[Int.fmod_def,Int.gcd_sub_mul_left_right,Int.gcd_comm]
theorem Ju(a b:Int):Int.gcd (if a<0 then -a else a) (if b<0 then -b else b)=Int.gcd a b:=by
 split <;> split <;> simp
theorem aX(a:Int):0<=(if a<0 then -a else a):=by split <;> omega
theorem Jt{g l a b:Int}(h:Int.gcd g l=Int.gcd a b)(c:0<=g)(z:l=0):g=gcdI a b:=by
 rw[z,Int.gcd_zero_right]at h;unfold gcdI;rw[←h];omega
def Dz:Sp:=λvs H Q _=>∃a b,vs=[.int a,.int b]/\Q (.int (gcdI a b)) H
abbrev sp_18:Sp:=Dz
abbrev sp_i:Sp:=Dz
def iO(H:Hp)(p:Addr)(ns:LI')(u:Int):Prop:=∃q,H p=some (.tup [.ref q,.int u])/\H q=some (.tup (ns.map V.int))
theorem iO.up{H H':Hp}{p:Addr}{ns:LI'}{u:Int}(h:iO H p ns u)(s:Same H H'):iO H' p ns u:=let ⟨q,b,a⟩:=h;⟨q,s _ _ b,s _ _ a⟩
def mO(n:Int):Prop:=n.natAbs<2^8990
theorem Js{c:Int}(h:mO c)(z:c≠0):c.natAbs.log2<9000:=zJ ((pU ⋯).mpr h) ∅
theorem Jr{c u:Int}(h:mO u)(z:u≠0)(d:c∣u):mO c:=by
 have:=Int.natAbs_dvd_natAbs.mpr d;have:=Nat.le_of_dvd ⋯ this;unfold mO at*
 omega
noncomputable def redT(u:Int)(ns:LI'):LI':=ns.map λt=>t.fdiv (cs u ns)
noncomputable def redU(u:Int)(ns:LI'):Int:=u.fdiv (cs u ns)
noncomputable def nW(u:Int)(ns:LI'):LI':=ns.map λt=>t.fmod u
def sp_19(K:Frag)(C:Addr):Sp:=λvs H Q E=>E4 λ(b:Bool)(a:Addr)(ns:LI')(u:Int)=>A6 (vs=[.ref a,.int u]) (SqB b K H a (ns.map V.int)) (ns.length<=100) (mO u) (((u=0\/ns=[])->E (.ref C) none H)) ((u≠0->ns≠[]->∀p H',Same H H'->iO H' p (redT u ns) (redU u ns)->Q (.ref p) H'))
theorem Vx{a:Type}{ns:List a}{i:Nat}{n:a}(h:ns[i]?=some n):ns.take (i+1)=ns.take i++[n]:=by
 rw[wD,h];rfl
def sp_1n(K:Frag):Sp:=λvs H Q _=>E6 λ(b1 b2:Bool)(p q:Addr)(ms ns:LI')=>A7 (vs=[.ref p,.ref q]) (SqB b1 K H p (ms.map V.int)) (SqB b2 K H q (ns.map V.int)) (ms.length=ns.length) (ms.length<=1000) ((∀(i:Nat) m n,ms[i]?=some m->ns[i]?=some n->IntMulOk m n)) (∀H',Same H H'->Q (.int (dotI ms ns)) H')
def sp_1e(K:Frag):Sp:=λvs H Q _=>E5 λ(b1 b2:Bool)(a:Addr)(rows:LM)(w:Nat)=>A7 (vs=[.ref a]) (MatB b1 b2 K H a rows) (rows≠[]) ((∀r∈rows,r.length=w)) (w<=1000) (rows.length<=1000) (∀r H',H r=none->Same H H'->MatL H' r (bV w rows)->Q (.ref r) H')
noncomputable def lY(i k:Nat)(rows:LM):LM:=(rows.eraseIdx i).map λr=>r.eraseIdx k
noncomputable def sg(k:Nat):Int:=if k%2=0 then 1 else -1
noncomputable def altS(f:Nat->Int):Nat->Int
 |0=>0
 |k+1=>altS f k+sg k*f k
noncomputable def detM:Nat->LM->Int
 |0,_=>1
 |1,rows=>(rows.getD 0 []).getD 0 0
 |n+2,rows=>altS (λk=>(rows.getD 0 []).getD k 0*detM (n+1) (lY 0 k rows)) (n+2)
def Sq(n:Nat)(rows:LM):Prop:=rows.length=n/\∀r∈rows,r.length=n
def nS(B:Nat)(rows:LM):Prop:=∀r∈rows,∀x∈r,x.natAbs<2^B
theorem Vw(k:Nat):-sg k=sg (k+1):=by
 unfold sg
 by_cases h:k%2=0
 ·rw[zF h,zD ⋯]
 ·rw[zD h,zF ⋯];rfl
theorem Dy(k:Nat):(sg k).natAbs=1:=by unfold sg;split <;> rfl
theorem Sq.minor{n i k:Nat}{a:LM}(h:Sq (n+1) a)(hi:i<n+1)(c:k<n+1):Sq n (lY i k a):=by
 refine⟨?_,λr hr=>?_⟩
 ·unfold lY;rw[zqe,rK,h.1,zF hi];rfl
 ·obtain⟨z,b,rfl⟩:=oE.mp hr;have hl:=h.2 z (tY b);rw[rK,hl,zF c];rfl
theorem nS.minor{B i k:Nat}{a:LM}(h:nS B a):nS B (lY i k a):=λr hr x c=>by
 obtain⟨z,b,rfl⟩:=oE.mp hr;exact h z (tY b) x (tY c)
theorem Jq{f:Nat->Int}{M:Nat}:∀n:Nat,(∀k<n,(f k).natAbs<=M)->(altS f n).natAbs<=n*M
 |0,_=>by simp[altS]
 |n+1,h=>by
  have d:=Jq n λk b=>h k ⋯;have c:=h n ⋯;show(altS f n+sg n*f n).natAbs<=_;have a:=uO (altS f n) (sg n*f n);rw[xA,Dy,pV]at a;rw[qZ];omega
theorem row0{n:Nat}{a:LM}(h:Sq (n+1) a):a[0]?=some (a.getD 0 [])/\a.getD 0 []∈a:=by
 have hl:0<a.length:=by have:=h.1;omega
 have e:a.getD 0 []=a[0]:=by simp[hl]
 rw[e];exact⟨by simp[hl],vE hl⟩
theorem Dx{B:Nat}:∀(n:Nat)(a:LM),1<=n->n<=4->Sq n a->nS B a->(detM n a).natAbs<=2^(n*(B+2))
 |0,_,h,_,_,_=>⋯
 |1,a,_,_,b,c=>by
  have hr:=row0 b;have hl:0<(a.getD 0 []).length:=by rw[b.2 _ hr.2];decide
  have:=c _ hr.2 _ (L2.getD_mem hl);show((a.getD 0 []).getD 0 0).natAbs<=_;have:2^B<=2^(1*(B+2)):=yC ∅ ⋯;omega
 | n+2,a,_,j,b,c=>by
  have hr:=row0 b;have f:∀k<n+2,((a.getD 0 []).getD k 0*detM (n+1) (lY 0 k a)).natAbs<=2^B*2^((n+1)*(B+2)):=λk d=>by
   have hl:k<(a.getD 0 []).length:=by rw[b.2 _ hr.2];exact d
   have i:=c _ hr.2 _ (L2.getD_mem hl);have g:=Dx (n+1) (lY 0 k a) ⋯ ⋯ (b.minor ⋯ d) c.minor;rw[xA];exact xZ (uF i) g
  have:=Jq (n+2) f;have e:2^((n+2)*(B+2))=4*(2^B*2^((n+1)*(B+2))):=by
   rw[←vG,show(4:Nat)=2^2 from rfl,←vG];congr 1;rw[Nat.add_mul,Nat.add_mul];omega
  show(altS _ (n+2)).natAbs<=_;rw[e];refine yG this (wC _ ⋯)
theorem nL{x:Int}{B:Nat}(h:x.natAbs<2^B):Builtin.Int.intBits x<=B:=intBits_le_iff.mpr h
def sp_16(K:Frag):Sp:=λvs H Q _=>E7 λ(b1 b2:Bool)(a:Addr)(rows:LM)(i k w:Nat)=>A7 (vs=[.ref a,.int i,.int k]) (MatB b1 b2 K H a rows) ((∀r∈rows,r.length=w)) (k<w) (w<=1000) (rows.length<=1000) (∀r H',H r=none->Same H H'->MatL H' r (lY i k rows)->Q (.ref r) H')
def sp_3(K:Frag):Nat->Sp
 |0=>λ_ _ _ _=>False
 |n+1=>λvs H Q _=>∃(b1 b2:Bool)(a:Addr)(rows:LM)(B:Nat),vs=[.ref a]/\MatB b1 b2 K H a rows/\Sq (n+1) rows/\n<=3/\nS B rows/\B<=1000000/\∀H',Same H H'->Q (.int (detM (n+1) rows)) H'
section
variable {g:TG} {tt:TOx} {fr:List (Str×Nat)} {σ:St} {a:Addr} {H:Hp} {Q:VK} {K:Frag}
theorem Vv{b:Bool}{l:Addr}{xs:List V}(P:Nat->List V->Hp->Prop)(n:H a=none)(e:SqB b K H l xs)(F:xs.length<=1000)(G:P 0 [] (upd H a (.lst [])))
  (hl:∀i zs c,P i zs c->zs.length<=i)(mono:∀i zs c d,P i zs c->kS a c d->P i zs d)
  (J:∀i x c zs,xs[i]?=some x->Same H c->c a=some (.lst zs)->P i zs c->∀C:Option V->Hp->Prop,
   (∀y d,Same c d->P (i+1) (zs++[y]) d->C (some y) d)->(∀d,Same c d->P (i+1) zs d->C none d)->tt (some (.int i):: some x:: mI fr σ) c C)
  (D:∀c ys,Same H c->c a=some (.lst ys)->P xs.length ys c->Q (.ref a) c):
  lO (Ite K b l) (gTup K 2 (lC (nB 0) (lC (nB 1) gNil))) tt 2 fr σ a H Q:=by
 refine Bu xs.length P n F G hl mono (λi c hi s=>⟨xs,xs[i],e.up s,by simp[hi]⟩) (λc s=>⟨xs,e.up s,rfl⟩) ?_ D;intro i c zs hi j u p t x M v I C w m;obtain⟨q,x,rfl,z,rfl,k⟩:=I;refine⟨q,[.int i,x],rfl,SqT.of oP,rfl,_,[x],rfl,x,[],rfl,rfl,?_⟩;have sn:Same c (upd c q (.tup [.int i,x])):=Same.new z
 match t,v with
 |[o,L],_ =>
  exact⟨⟨[some (.int i),some x],rfl,rfl⟩,J i x _ zs (k xs (e.up j)) (j.trans sn) (sn _ _ u) (mono _ _ _ _ p sn.x) C (λy d f r=>w y d (sn.trans f) r) λd f r=>m d (sn.trans f) r⟩
end
theorem SqB.cut{b:Bool}{K:Frag}{H:Hp}{p:Addr}{xs:List V}:SqB b K (upd H p (seqO b xs)) p xs:=by
 cases b
 ·exact SqB.lst oP
 ·exact SqB.tup oP
theorem Vu{d:Type}{b:List d}{c a:Nat}{r:d}(e:b[a]?=some r):(b.take (a+1)).eraseIdx c=if a=c then(b.take a).eraseIdx c else(b.take a).eraseIdx c++[r]:=by
 have f:a<b.length:=(zqa e).1;have hl:(b.take a).length=a:=by rw[yJ];omega
 rw[wD,e];show(b.take a++[r]).eraseIdx c=_
 by_cases h:a=c
 ·rw[zF h,vV ⋯,hl,h,vJ,tM (l:=b.take c) (by rw[yJ];omega)];simp
 ·rw[zD h]
  by_cases g:c<a
  ·rw[List.eraseIdx_append_of_lt_length ⋯]
  ·rw[vV ⋯,hl,tM (l:=b.take a) ⋯];congr 1;rw[tM];simp;omega
theorem cK{B C:Nat}:∀(ms ns:LI'),(∀x∈ms,x.natAbs<2^B)->(∀y∈ns,y.natAbs<2^C)->(dotI ms ns).natAbs<=ms.length*2^(B+C)
 |[],ns,_,_=>by simp[dotI]
 |m:: ms,[],_,_=>by simp[dotI]
 | m:: ms,n:: ns,b,a=>by
  have j:=cK ms ns (λx f=>b x (zO _ f)) (λy d=>a y (zO _ d));have e:dotI (m:: ms) (n:: ns)=m*n+dotI ms ns:=by simp[dotI]
  have g:=b m zZ;have c:=a n zZ;have i:(m*n).natAbs<=2^(B+C):=by
   rw[xA,vG];exact xZ (uF g) (uF c)
  have k:=uO (m*n) (dotI ms ns);rw[e,zU,qZ];omega
noncomputable def idM(d:Nat):LM:=(List.range d).map λi=>(List.range d).map λk=>if i=k then(1:Int) else 0
def sp_t:Sp:=λvs H Q _=>E1 λ(n:Nat)=>A3 (vs=[.int n]) (n<=1000) (∀r H',H r=none->Same H H'->MatL H' r (idM n)->Q (.ref r) H')
def mX(K:Frag)(H:Hp)(p:Addr)(M:LM)(ts:LI')(u:Int):Prop:=∃pr pt,H p=some (.tup [.ref pr,.ref pt,.int u])/\MatB true true K H pr M/\H pt=some (.tup (ts.map V.int))
theorem mX.up{K:Frag}{H H':Hp}{p:Addr}{M:LM}{ts:LI'}{u:Int}(h:mX K H p M ts u)(s:Same H H'):mX K H' p M ts u:=let ⟨pr,pt,c,b,a⟩:=h;⟨pr,pt,s _ _ c,b.up s,s _ _ a⟩
def sp_14(K:Frag):Sp:=λvs H Q _=>E7 λ(b1 b2:Bool)(a p:Addr)(M:LM)(ts:LI')(u:Int)=>A5 (vs=[.ref a,.ref p]) (MatB b1 b2 K H a M) (iO H p ts u) (M.length<=100) (∀q H',Same H H'->mX K H' q M ts u->Q (.ref q) H')
def PlS(K:Frag)(H:Hp)(p:Addr)(ns:LI')(u:Int):Prop:=∃q,SqT K H p [.ref q,.int u]/\SqT K H q (ns.map V.int)
theorem PlS.up{K:Frag}{H H':Hp}{p:Addr}{ns:LI'}{u:Int}(h:PlS K H p ns u)(s:Same H H'):PlS K H' p ns u:=let ⟨q,b,a⟩:=h;⟨q,lP s _ _ b,lP s _ _ a⟩
theorem Jp{K:Frag}{H:Hp}{p:Addr}{ns:LI'}{u:Int}{Q:VK}(h:PlS K H p ns u)(k:∀q,SqT K H q (ns.map V.int)->Q (.ref q) H):rIxB K (.ref p) (.int 0) H Q:=let ⟨q,b,a⟩:=h;⟨true,p,_,_,_,rfl,rfl,(b:SqB true K H p _),rfl,k q a⟩
theorem Dw{K:Frag}{H:Hp}{p:Addr}{ns:LI'}{u:Int}{Q:VK}(h:PlS K H p ns u)(k:Q (.int u) H):rIxB K (.ref p) (.int 1) H Q:=let ⟨q,a,b⟩:=h;⟨true,p,_,_,_,rfl,rfl,(a:SqB true K H p _),rfl,k⟩
def sp_r(K:Frag):Sp:=λvs H Q _=>E3 λ(p:Addr)(ns:LI')(u:Int)=>A5 (vs=[.ref p]) (PlS K H p ns u) (ns.length<=100) (0<u) (∀p' H',Same H H'->iO H' p' (nW u ns) u->Q (.ref p') H')
def lR(K:Frag)(H:Hp)(p:Addr)(M:LM)(ts:LI')(u:Int):Prop:=∃v0 v1,SqT K H p [.ref v0,.ref v1,.int u]/\MatB true true K H v0 M/\SqT K H v1 (ts.map V.int)
theorem lR.up{K:Frag}{H H':Hp}{p:Addr}{M:LM}{ts:LI'}{u:Int}(h:lR K H p M ts u)(s:Same H H'):lR K H' p M ts u:=let ⟨c,a,e,d,b⟩:=h;⟨c,a,lP s _ _ e,d.up s,lP s _ _ b⟩
theorem mX.s{K:Frag}{H:Hp}{p:Addr}{M:LM}{ts:LI'}{u:Int}(h:mX K H p M ts u):lR K H p M ts u:=let ⟨c,a,e,d,b⟩:=h;⟨c,a,SqT.of e,d,SqT.of b⟩
theorem jK{K:Frag}{H:Hp}{p:Addr}{M:LM}{ts:LI'}{u:Int}{Q:VK}(h:lR K H p M ts u)(q:∀x,MatB true true K H x M->Q (.ref x) H):rIxB K (.ref p) (.int 0) H Q:=let ⟨x,y,b,a,c⟩:=h;⟨true,p,_,_,_,rfl,rfl,(b:SqB true K H p _),rfl,q x a⟩
theorem gI{K:Frag}{H:Hp}{p:Addr}{M:LM}{ts:LI'}{u:Int}{Q:VK}(h:lR K H p M ts u)(q:∀x,SqT K H x (ts.map V.int)->Q (.ref x) H):rIxB K (.ref p) (.int 1) H Q:=let ⟨x,y,b,c,a⟩:=h;⟨true,p,_,_,_,rfl,rfl,(b:SqB true K H p _),rfl,q y a⟩
theorem kW{K:Frag}{H:Hp}{p:Addr}{M:LM}{ts:LI'}{u:Int}{Q:VK}(h:lR K H p M ts u)(q:Q (.int u) H):rIxB K (.ref p) (.int 2) H Q:=let ⟨x,y,a,c,b⟩:=h;⟨true,p,_,_,_,rfl,rfl,(a:SqB true K H p _),rfl,q⟩
noncomputable def movT(M:LM)(ts:LI')(u:Int)(ns:LI')(v:Int):LI':=List.zipWith (λr t=>dotI r ns*u+t*v) M ts
def kX(B:Nat)(ns:LI'):Prop:=∀x∈ns,x.natAbs<2^B
structure Fine(d:Nat)(M:LM)(ts:LI')(u:Int):Prop where
 sq:Sq d M
 len:ts.length=d
 pos:0<u
 bm:nS 200000 M
 bt:kX 200000 ts
 bu:u<2^1500
def sp_1g(K:Frag):Sp:=λvs H Q _=>E8 λ(p q:Addr)(M:LM)(ts ns:LI')(u v:Int)(d:Nat)=>A11 (vs=[.ref p,.ref q]) (lR K H p M ts u) (PlS K H q ns v) (Fine d M ts u) (1<=d) (d<=4) (ns.length=d) (kX 200000 ns) (0<v) (v<2^1500) (∀r H',Same H H'->iO H' r (redT (u*v) (movT M ts u ns v)) (redU (u*v) (movT M ts u ns v))->Q (.ref r) H')
def sp_1b(K:Frag):Sp:=λvs H Q _=>E9 λ(p q:Addr)(M N:LM)(ts ns:LI')(u v:Int)(d:Nat)=>A8 (vs=[.ref p,.ref q]) (lR K H p M ts u) (lR K H q N ns v) (Fine d M ts u) (Fine d N ns v) (1<=d) (d<=4) (∀r H',Same H H'->mX K H' r (mulM d N M) (redT (v*u) (movT N ns v ts u)) (redU (v*u) (movT N ns v ts u))->Q (.ref r) H')
def sp_1j(K:Frag):Sp:=λvs H Q _=>E4 λ(p:Addr)(M:LM)(ts:LI')(u:Int)=>A6 (vs=[.ref p]) (lR K H p M ts u) (M.length<=100) (ts.length<=100) (0<u) (∀r H',Same H H'->mX K H' r M (nW u ts) u->Q (.ref r) H')
theorem eQ{u:Int}(b:0<u)(a:u<2^1500):u.natAbs<2^1500:=by
 have e:((2^1500:Nat):Int)=(2:Int)^1500:=nofun
 omega
theorem iP{u:Int}{B:Nat}(h:u.natAbs<2^B)(a:B<=8990):mO u:=zJ h (yC ∅ a)
theorem Vt{u v:Int}(b:0<u)(d:u<2^1500)(a:0<v)(c:v<2^1500):mO (u*v)/\0<u*v:=by
 refine⟨iP (B:=1500+1500) ?_ ∅,xE b a⟩;rw[xA,vG];exact tH (eQ b d) (eQ a c)
section
variable {P:Program} {w:World} {K:Frag} {mg:MT} {base:Heap} {t:Adr}
def sp_q:Sp:=λvs H Q _=>∃i,vs=[.int i]/\Q (.bl true) H
theorem ok_q(T:Txt K mg t):FnOk P w K mg base CX0 1 t.a_q t.d_q pC' sp_q:=by
 apply T.F_q.ok sc_q
 ·obtain⟨i,rfl,q⟩:=h;refine⟨_,(oO (oW (dG (lN Gp rfl T.z_isinstance (nofun) (oJ (pq 0) (oJ (fN (v:=.ty "int") rfl T.z_int (nofun) rfl) oK))) (dF (Nz (lN Gp rfl T.z_isinstance (nofun) (oJ (pq 0) (oJ (fN (v:=.ty "bool") rfl T.z_bool (nofun) rfl) oK)))))))),?_⟩;show tRet _ _ [some (.int i)] H;ext;refine⟨_,_,_,_,rfl,.ty (.int i),rfl,T.h_i,?_⟩;ext;refine⟨_,_,_,_,rfl,.ty (.int i),rfl,T.h_n,?_⟩;ext;exact q
theorem Vs{a b:Int}{H:Hp}{Q:VK}{E:XK}:Dz [.int a,.int b] H Q E=Q (.int (gcdI a b)) H:=propext ⟨λ⟨_,_,e,q⟩=>by cases e;exact q,λq=>⟨_,_,rfl,q⟩⟩
theorem ok_18(T:Txt K mg t):FnOk P w K mg base CX0 1 t.a_18 t.d_18 py' sp_18:=by
 apply T.F_18.ok sc_18
 ·obtain⟨a,b,rfl,k⟩:=h;refine⟨_,(oM (oU (i:=2) sc_18.nd rfl (Or.inl rfl) (lN dI rfl T.z_abs (nofun) (oJ (pq 0) oK)))
   (oM (oU (i:=3) sc_18.nd rfl (Or.inl rfl) (lN dI rfl T.z_abs (nofun) (oJ (pq 1) oK)))
   (oM (cY yL (nH hJ (pq 3) oN (nD _))
   (oM (oU (i:=4) sc_18.nd rfl (Or.inl rfl) (oS kG (pq 2) (pq 3)))
   (oM (oU (i:=2) sc_18.nd rfl (Or.inl rfl) (pq 3))
   (oO (oU (i:=3) sc_18.nd rfl (Or.inl rfl) (pq 4))))))
   (oO (oW (pq 2)))))),?_⟩
  show tSeq _ _ _ [some (.int a),some (.int b),none,none,none] H;ext;refine⟨λm f c=>∃g l r,f=[some (.int a),some (.int b),some (.int g),some (.int l),r]/\c=H/\0<=g/\0<=l/\Int.gcd g l=Int.gcd a b/\m=l.toNat,
   ⟨_,_,_,_,rfl,rfl,aX a,aX b,Ju a b,rfl⟩,?_⟩
  rintro m f c ⟨g,l,r,rfl,rfl,i,hl,e,rfl⟩;ext
  by_cases z:l=0
  ·rw[zP z];refine iteF ?_;rw[Jt e i z];exact k
  ·rw[zN z];refine iteT ⟨λd H'=>d=[some (.int a),some (.int b),some (.int l),some (.int (g.fmod l)),some (.int (g.fmod l))]/\H'=c,?_,z,rfl,rfl⟩;rintro d H' ⟨rfl,rfl⟩;have l1:=sD g (show 0<l by omega);have l2:=uL g (show 0<l by omega);exact⟨(g.fmod l).toNat,⋯,_,_,_,rfl,rfl,hl,l2,by rw[Jv];exact e,rfl⟩
theorem ok_19(T:Txt K mg t):FnOk P w K mg base (CX1 P w) 2 t.a_19 t.d_19 ["tops","under"] (sp_19 K t.a_1q):=by
 have R:=@ok_18 P w K mg base t T;refine T.F_19.okX sc_19 (λvs H Q E h=>?_) (λcdv A outer s H vs Q E hr h=>?_)
 ·obtain⟨b,a,ns,u,rfl,_⟩:=h;rfl
 ·obtain⟨b,a,ns,u,rfl,d,hl,J,D,W⟩:=h;refine⟨_,(oM (nK (nH lG (pq 1) oN (nD _))
   (oO (fS rfl fQ rfl T.m_1q T.x_1q xF (oJ gM oK)))
   nJ)
   (oM (nK (nH lG (mL T.z_len (pq 0)) oN (nD _))
   (oO (fS rfl fQ rfl T.m_1q T.x_1q xF (oJ gM oK)))
   nJ)
   (oM (oU (i:=2) sc_19.nd rfl (Or.inr rfl) (lN dI rfl T.z_abs (nofun) (oJ (pq 1) oK)))
   (oM (PS.nox (mQ yL rfl (nV (pq 0)) (nX (i:=3) sc_19.nd rfl (Or.inl rfl))
   (oO (oU (i:=2) sc_19.nd rfl (Or.inr rfl) (oQ R hr.mo T.F_18 (oJ (pq 2) (oJ (pq 3) oK)))))))
   (oM (nK (nH bA (pq 1) oN (nD _))
   (oO (oU (i:=2) sc_19.nd rfl (Or.inr rfl) (gO gQ (pq 2))))
   nJ)
   (oO (oW (lV (oJ (mB jJ rfl T.z_tuple (nofun) (oJ (nT (sc:=oR s_19) (N:=N_19) (fr:=[("common",2)]) (te:=(tOp (rI iY λi j=>.int (i.fdiv j)) (tVar 0) (tVar 1))) rfl rfl (nofun) rfl (nofun) (nV (pq 0)) (λ_ _ _ a2=>(oS iZ (pv 0) (pv 1)))) oK)) (oJ (oS iZ (pq 1) (pq 2)) oK)))))))))),?_⟩
  show tSeq _ _ _ [some (.ref a),some (.int u),none,none] H;refine st λN1 e1=>?_;simp only[iI];ext;refine ite2 (λz=>⟨∅,D (.inl (xQ z))⟩) (λz=>?_);have k:u≠0:=λq=>z (zP q);subst e1;refine st λN1 e1=>?_;simp only[iI];ext;refine Br d ?_;ext;refine ite2 (λz=>⟨∅,D (.inr ?_)⟩) (λz=>?_)
  ·have:=xQ z;exact vA ⋯
  have M:ns≠[]:=λq=>z (zP (by rw[q];rfl));left;subst e1;refine st λN1 e1=>mT λB eB=>?_;simp only[iSeq];ext;refine⟨b,⟨_,d⟩,?_⟩;refine gU (g:=nB 3) (tb:=B) (λi g c=>∃v3,g=[some (.ref a),some (.int u),some (.int (gl u (ns.take i))),v3]/\c=H) ⟨_,rfl,rfl⟩ (λi g c _⟨_,_,e⟩=>e ▸ d) ?_ ?_
  ·rintro i x g c hi ⟨v3,rfl,rfl⟩;obtain⟨n,o,rfl⟩:=kU hi;subst eB;ext;simp only[Vs];rw[Vx o,Ub]
   first|trivial|exact⟨_,rfl,rfl⟩
  ·rintro g c ⟨v3,rfl,rfl⟩;rw[zqe,qV];subst e1;refine st λL S=>?_;have f:L [some (.ref a),some (.int u),some (.int (cs u ns)),v3] c:=by
    subst S;have X:mO (cs u ns):=Jr J k (jX (gl_u u ns));have C:∀x,iY x (cs u ns):=λx=>⟨eP ns k,Js X (eP ns k)⟩;ext;exfalso;refine⟨b,⟨_,d⟩,λZ a0=>mU (λj y _=>∃n,ns[j]?=some n/\y=.int (n.fdiv (cs u ns))) a0 d (by rw[zqe];omega) (λ_ _ _ _ r _=>r) ?_ ?_⟩
    ·intro i x m zs F _ _ G I;obtain⟨n,o,rfl⟩:=kU F;subst eB;show tOp _ _ _ [some (.int n),some (.int (cs u ns))] m G;ext;exact⟨C n,I _ m (Same.refl _) ⟨n,o,rfl⟩⟩
    ·intro m ys a1 e1 O N;have Y:ys=(redT u ns).map V.int:=by
      unfold redT;rw[xJ];exact mK (by simpa using O) N
     subst Y;refine⟨Z,_,rfl,.inl ⟨SqL.of e1,λl U=>?_⟩⟩;ext;refine⟨C u,(by show 2<=sizeLine;decide),λp v=>W k M p _ ((a1.trans (Same.new U)).trans (Same.new v)) ⟨l,oP,?_⟩⟩;rw[oT (nY oP v)];exact oP
   ext;unfold cs at f;refine ite2 (λz=>?_) (λz=>?_)
   ·rw[zF (xQ z)]at f;exact f
   ·rw[zD (λq=>z (zP q))]at f;exact f
theorem Vr{H:Hp}{p:Addr}{ns:LI'}{u:Int}{Q:VK}(h:iO H p ns u)(q:∀x,H x=some (.tup (ns.map V.int))->Q (.ref x) H):rIxB K (.ref p) (.int 0) H Q:=let ⟨x,b,a⟩:=h;⟨true,p,_,_,_,rfl,rfl,SqB.tup b,rfl,q x a⟩
theorem Vq{H:Hp}{p:Addr}{ns:LI'}{u:Int}{Q:VK}(h:iO H p ns u)(q:Q (.int u) H):rIxB K (.ref p) (.int 1) H Q:=let ⟨x,a,b⟩:=h;⟨true,p,_,_,_,rfl,rfl,SqB.tup a,rfl,q⟩
theorem ok_r(T:Txt K mg t):FnOk P w K mg base CX0 1 t.a_r t.d_r pG' (sp_r K):=by
 apply T.F_r.ok sc_r
 ·obtain⟨p,ns,u,rfl,d,hl,I,k⟩:=h;refine⟨_,(oM (oU (i:=1) sc_r.nd rfl (Or.inr rfl) (oX (pq 0)))
   (oO (oW (lV (oJ (mB jJ rfl T.z_tuple (nofun) (oJ (nT (sc:=oR aK) (N:=N_r) (fr:=[("under",1)]) (te:=(tOp (rI (λ_ j=>j≠0) λi j=>.int (i.fmod j)) (tVar 0) (tVar 1))) rfl rfl (nofun) rfl (nofun) (nV (oX (pq 0))) (λ_ _ _ G=>(oS kG (pv 0) (pv 1)))) oK)) (oJ (pq 1) oK)))))),?_⟩
  show tSeq _ _ _ [some (.ref p),none] H;right;refine Dw d ?_;symm;exfalso;refine Jp d λx a=>⟨true,x,rfl,⟨_,(show SqB true K H x _ from a)⟩,λq C=>mU (λj y _=>∃n,ns[j]?=some n/\y=.int (n.fmod u)) C ((show SqB true K H x _ from a)) (by rw[zqe];omega) (λ_ _ _ _ r _=>r) ?_ ?_⟩
  ·intro i x b zs a _ _ z F;obtain⟨n,f,rfl⟩:=kU a;subst eB;show tOp _ _ _ [some (.int n),some (.int u)] b z;ext;exact⟨⋯,F _ b (Same.refl _) ⟨n,f,rfl⟩⟩
  ·intro b ys D e1 v m;have o:ys=(nW u ns).map V.int:=by
    unfold nW;rw[xJ];exact mK (by simpa using v) m
   subst o;refine⟨q,_,rfl,.inl ⟨SqL.of e1,λl g=>?_⟩⟩;refine⟨(by show 2<=sizeLine;decide),λe c=>k e _ ((D.trans (Same.new g)).trans (Same.new c)) ⟨l,oP,?_⟩⟩;rw[oT (nY oP c)];exact oP
theorem ok_1n(T:Txt K mg t):FnOk P w K mg base CX0 1 t.a_1n t.d_1n py' (sp_1n K):=by
 apply T.F_1n.ok sc_1n
 ·obtain⟨b1,b2,p,q,ms,ns,rfl,o,l,hl,G,z,C⟩:=h;refine⟨_,(oO (oW (lN (bP rfl) rfl T.z_sum (nofun) (oJ (iJ (xs:=["left","right"]) (fr:=[]) (g:=(gTup K 2 (lC (nB 0) (lC (nB 1) gNil)))) (tt:=(tEl (tOp (rI (λi j=>IntMulOk i j) λi j=>.int (i*j)) (tVar 0) (tVar 1)))) (kQ (sc:=oR s_1n) (N:=N_1n) rfl rfl (nofun)) rfl (Ge rfl T.z_zip (oJ (pq 0) (oJ (pq 1) oK))) (λ_ _ _ d=>(gN rfl (lD (jS (N:=["left","right"]) (i:=0) d rfl (nofun)) (lD (jS (N:=["left","right"]) (i:=1) d rfl (nofun)) iU)))) (λ_ _ _ d=>(jI (oS nR (pv 0) (pv 1))))) oK)))),?_⟩;show tRet _ _ [some (.ref p),some (.ref q)] H;ext;refine nN λB eB=>?_;simp only[iZip];ext;refine⟨b1,⟨_,o⟩,b2,⟨_,l⟩,λa I=>?_⟩;refine Gb (λj y _=>∃m n,ms[j]?=some m/\ns[j]?=some n/\y=.int (m*n)) I o l (by simpa using hl) (by simpa using G) (λ_ _ _ _ r _=>r) ?_ ?_
  ·intro i x y g zs L f u k D J;obtain⟨m,b,rfl⟩:=kU L;obtain⟨n,c,rfl⟩:=kU f;subst eB;show tOp _ _ _ [some (.int m),some (.int n)] g D;ext;exact⟨z i m n b c,J _ _ (Same.refl _) ⟨m,n,b,c,rfl⟩⟩
  ·intro g zs u k v F;have f:zs=(List.zipWith (·*·) ms ns).map V.int:=by
    refine mK (by simp at v ⊢;omega) λj y e=>?_;obtain⟨m,n,b,c,rfl⟩:=F j y e;exact⟨m*n,by rw[wA,b,c],rfl⟩
   subst f;exact⟨_,rfl,_,SqL.of k,C g u⟩
theorem ok_1e(T:Txt K mg t):FnOk P w K mg base CX0 1 t.a_1e t.d_1e pE' (sp_1e K):=by
 apply T.F_1e.ok sc_1e
 ·obtain⟨b1,b2,a,b,w,rfl,C,R,v,N,a7,a0⟩:=h;refine⟨_,(oO (oW (iJ (xs:=["k"]) (fr:=[("rows",0)]) (g:=(nB 0)) (tt:=(tEl (mP (iSeq K (tVar 1)) (nB 0) (tEl (tOp (rIxB K) (tVar 0) (tVar 1))) 1 [("k",0)]))) (kQ (sc:=oR s_1e) (N:=N_1e) rfl rfl (nofun)) rfl (mF rfl T.z_range (oJ (mL T.z_len (oX (pq 0))) oK)) (λ_ _ _ g=>(fV (N:=["k","rows"]) (i:=0) g rfl (nofun) rfl)) (λ_ _ _ g=>(jI (nT (N:=["k","rows"]) (fr:=[("k",0)]) (te:=(tOp (rIxB K) (tVar 0) (tVar 1))) g rfl (nofun) rfl (nofun) (nV (pv 1)) (λ_ _ _ a6=>(nQ ix_B (pv 0) (pv 1) (λ_ _=>rfl))))))))),?_⟩;show tRet _ _ [some (.ref a)] H;ext;refine nN λB eB=>?_;simp only[nU];ext;obtain⟨c,o⟩:∃c,b[0]?=some c:=by cases b with|nil=>exact absurd rfl R|cons r _=>exact⟨r,rfl⟩
  have a2:c.length=w:=v c (zqb o);obtain⟨ps,p,k1,k2,k3,S⟩:=C.row o;refine⟨b1,a,_,0,_,rfl,rfl,k1,kC k2 rfl,b2,p,_,rfl,S,?_⟩;rw[zqe,a2];refine⟨_,rfl,⋯,⋯,λm F=>?_⟩;rw[zQ];refine kI (RowR m λk=>colI k b) F N (RowR.mono (a:=m)) ?_ ?_
  ·intro i f zs hi l M I J;subst eB;show mP _ _ _ _ _ [some (.int (0+(i:Int))),some (.ref a)] f I;exfalso;obtain⟨xs,q,a5,L⟩:=(C.up l).walk;refine⟨b1,⟨_,q⟩,λY z=>?_⟩;refine mU (λj y _=>∃r,b[j]?=some r/\y=.int (r.getD i 0)) z q ⋯ (λ_ _ _ _ r _=>r) ?_ ?_
   ·intro j x u a8 a4 n a9 a3 X;obtain⟨p,r,rfl,d,O⟩:=L j x a4;subst eB;show tOp _ _ _ [some (.ref p),some (.int (0+(i:Int)))] u a3;ext;have W:i<r.length:=by rw[v r (zqb d)];exact hi
    exact⟨b2,p,_,_,_,rfl,rfl,O.up n,kC (iL (getD_at W)) ⋯,X _ _ (Same.refl _) ⟨r,d,rfl⟩⟩
   ·intro u ys n Z D U;have a1:ys=(colI i b).map V.int:=by
     refine mK (by simp[colI];omega) λj y e=>?_;obtain⟨r,d,rfl⟩:=U j y e;exact⟨r.getD i 0,by unfold colI;rw[zI,d];rfl,rfl⟩
    subst a1;exact J _ _ n ⟨Y,rfl,yA (nY M z),Z⟩
  ·intro f ys l e1 D G;have:=MatL.of e1 G;rw[D]at this;exact a0 m f F l this
theorem ok_16(T:Txt K mg t):FnOk P w K mg base CX0 1 t.a_16 t.d_16 pv' (sp_16 K):=by
 apply T.F_16.ok sc_16
 ·obtain⟨b1,b2,a,S,c,k,w,rfl,a8,a0,b7,b8,b9,b0⟩:=h;refine⟨_,(oO (oW (iJ (xs:=["at","row"]) (fr:=[("i",1),("k",2)]) (g:=(gTup K 2 (lC (nB 0) (lC (nB 1) gNil)))) (tt:=(fU (bE (tOp (rI0 λi j=>.bl (!decide (i=j))) (tVar 0) (tVar 2))) (tOp rCat (tCB (gT K) (nF (tSl (rSlB K) (tVar 1) Ah (Ag (tVar 3))) tNil)) (tCB (gT K) (nF (tSl (rSlB K) (tVar 1) (Ag (tOp (rI0 λi j=>.int (i+j)) (tVar 3) (tC (.int 1)))) Ah) tNil))))) (kQ (sc:=oR s_16) (N:=N_16) rfl rfl (nofun)) rfl (bO rfl T.z_enumerate (oJ (pq 0) oK)) (λ_ _ _ G=>(gN rfl (lD (jS (N:=["at","row","i","k"]) (i:=0) G rfl (nofun)) (lD (jS (N:=["at","row","i","k"]) (i:=1) G rfl (nofun)) iU)))) (λ_ _ _ G=>(Qv (nH hJ (pv 0) (pv 2) (nD _)) (oS dO (mB kR rfl T.z_list (nofun) (oJ (bH sl_B (pv 1) Af (dM (pv 3))) oK)) (mB kR rfl T.z_list (nofun) (oJ (bH sl_B (pv 1) (dM (oS mJ (pv 3) oN)) Af) oK)))))))),?_⟩;show tRet _ _ [some (.ref a),some (.int c),some (.int k)] H;ext;refine Qd λb5 b6 a9 eB=>?_;simp only[dU];ext;obtain⟨xs,N,a3,a4⟩:=a8.walk;refine⟨b1,⟨_,N⟩,λW X=>?_⟩;refine Vv (λt zs b=>lW W b zs (((S.take t).eraseIdx c).map λ(r:LI')=>r.eraseIdx k)) X N ⋯ lW.nil ?_ (λ_ _ _ _ r s=>r.mono s) ?_ ?_
  ·intro i zs b p;rw[p.len,zqe,rK];have:=List.length_take_le i S;split <;> omega
  ·intro i x b zs b4 M a5 p C J F;obtain⟨I,r,rfl,Y,o⟩:=a4 i x b4;have c0:r.length=w:=a0 r (zqb Y);replace o:=o.up M;rw[Vu Y]at J F;subst a9 eB;show fU _ _ [some (.int i),some (.ref I),some (.int c),some (.int k)] b C;simp only[fU];ext
   by_cases z:i=c
   ·subst z;rw[zF rfl]at F;rw[zP rfl];exact F b (Same.refl _) p
   ·rw[zD z]at J;rw[zN (show¬ (i:Int)=c by omega)];refine iteT ?_;refine⟨b2,I,_,rfl,o,λ_=>by rw[zqe,HT.sIx_none,HT.sIx_nat];omega,λg Z=>?_⟩;have sq1:SqB b2 K (upd b g (seqO b2 (cutV (r.map V.int) none (some (k:Int))))) g (cutV (r.map V.int) none (some (k:Int))):=SqB.cut;have D:Same b (upd b g (seqO b2 (cutV (r.map V.int) none (some (k:Int))))):=Same.new Z;generalize upd b g _=m at sq1 D;rw[Ry ⋯]at sq1;refine⟨b2,g,_,rfl,sq1,λl b3=>?_⟩;have U:(upd m l (.lst ((r.take k).map V.int))) l=some (.lst ((r.take k).map V.int)):=oP;have n:Same m (upd m l (.lst ((r.take k).map V.int))):=Same.new b3;generalize upd m l _=y at U n;refine⟨b2,I,_,rfl,(o.up D).up n,λ_=>by rw[zqe,HT.sIx_none,show(k:Int)+1=((k+1:Nat):Int) by omega,HT.sIx_nat];omega,λd a7=>?_⟩;have sq3:SqB b2 K (upd y d (seqO b2 (cutV (r.map V.int) (some ((k:Int)+1)) none))) d (cutV (r.map V.int) (some ((k:Int)+1)) none):=SqB.cut;have u:Same y (upd y d (seqO b2 (cutV (r.map V.int) (some ((k:Int)+1)) none))):=Same.new a7;generalize upd y d _=q at sq3 u;rw[show(k:Int)+1=((k+1:Nat):Int) by omega,Rx ⋯]at sq3;refine⟨b2,d,_,rfl,sq3,λf a2=>?_⟩;have v:Same q (upd q f (.lst ((r.drop (k+1)).map V.int))):=Same.new a2;have R:(upd q f (.lst ((r.drop (k+1)).map V.int))) f=some (.lst ((r.drop (k+1)).map V.int)):=oP;generalize upd q f _=a6 at R v;refine⟨l,f,_,_,rfl,rfl,v _ _ (u _ _ U),R,by rw[zqe,zqe,yJ,tJ];exact uF (iH ⋯),λa1 L=>?_⟩;have O:Same b (upd a6 a1 (.lst ((r.take k).map V.int++(r.drop (k+1)).map V.int))):=(((D.trans n).trans u).trans v).trans (Same.new L);refine J _ _ O ?_;rw[xD];refine(p.mono O.x).snoc (λe=>?_) ?_
    ·subst e;rw[v _ _ (u _ _ (n _ _ (D _ _ a5)))]at L;cases L
    ·rw[oP];dsimp only;rw[List.eraseIdx_eq_take_drop_succ,xD]
  ·intro b ys M e1 p;rw[a3,qV]at p;exact b0 W b X M (lW.mat e1 p)
theorem ok_3(T:Txt K mg t):∀n:Nat,FnOk P w K mg base CX0 (n+1) t.a_3 t.d_3 pE' (sp_3 K n)
 |0=>⟨λ_ _ _ _ h=>h.elim,λ_ _ _ _ _ _ _ _ _ _ _ _ _ h=>h.elim⟩
 | n+1=>by
  have U:FnOk P w K mg base CX0 (n+1) t.a_3 t.d_3 pE' (sp_3 K n):=ok_3 T n;have Y:=@ok_16 P w K mg base t T;apply T.F_3.ok sc_3
  ·obtain⟨b1,b2,a,c,B,rfl,g,d,a9,O,Z,R⟩:=h;refine⟨_,(oM (nK (nH lG (mL T.z_len (pq 0)) oN (nD _))
   (oO (oW (oX (oX (pq 0)))))
   nJ)
   (oM (oU (i:=1) sc_3.nd rfl (Or.inl rfl) oN)
   (oM (oU (i:=2) sc_3.nd rfl (Or.inl rfl) oN)
   (oM (mQ yL rfl (bO rfl T.z_enumerate (oJ (oX (pq 0)) oK)) (gN rfl (lD (nX (i:=3) sc_3.nd rfl (Or.inl rfl)) (lD (nX (i:=4) sc_3.nd rfl (Or.inl rfl)) iU)))
   (oM (nK (nH hJ (pq 4) oN (nD _))
   (oO (Fy (i:=1) sc_3.nd rfl (Or.inl rfl) (oS nR (oS nR (pq 2) (pq 4)) (oQ U hr.mo T.F_3 (oJ (oQ Y hr.mo T.F_16 (oJ (pq 0) (oJ oN (oJ (pq 3) oK)))) oK))) Fx))
   nJ)
   (oO (oU (i:=2) sc_3.nd rfl (Or.inl rfl) (gO gQ (pq 2))))))
   (oO (oW (pq 1))))))),?_⟩
   show tSeq _ _ _ [some (.ref a),none,none,none,none] H;obtain⟨C,J⟩:=row0 d;have W:(c.getD 0 []).length=n+1:=d.2 _ J;right;refine hX g ?_;ext;rw[d.1]
   by_cases z:n=0
   ·subst z;rw[zP (by rfl)];exact iteT (gW g C (getD_at (k:=0) ⋯) rfl rfl (R H (Same.refl _)))
   ·rw[zN (show¬ ((n+1:Nat):Int)=1 by omega)];refine iteF ?_;obtain⟨n,rfl⟩:∃m,n=m+1:=⟨n-1,⋯⟩;left;left;subst e1;refine st λN1 e1=>mT λa7 eB=>?_;simp only[dU];ext;refine Rz g C rfl λp L=>⟨b2,_,rfl,⟨_,L⟩,?_⟩;generalize hf:(λk=>(c.getD 0 []).getD k 0*detM (n+1) (lY 0 k c))=f;refine Hv (nx:=N1) (rt:=Q) (λk o e=>∃v3 l,o=[some (.ref a),some (.int (altS f k)),some (.int (sg k)),v3,l]/\Same H e) ⟨_,_,rfl,Same.refl _⟩ (λ_ _ _ _⟨_,_,_,b⟩=>L.up b) ?_ ?_
    ·rintro k x q o e a5 ⟨v3,l,rfl,b⟩ V;obtain⟨x,M,rfl⟩:=kU a5;have I:k<n+2:=by have:=(zqa M).1;omega
     refine⟨q,[.int k,.int x],rfl,SqT.of oP,rfl,_,_,rfl,_,_,rfl,rfl,?_⟩;replace b:=b.trans (Same.new (o:=.tup [.int k,.int x]) V);generalize upd e q (.tup [.int k,.int x])=F at b;subst eB;show tSeq _ _ _ [some (.ref a),some (.int (altS f k)),some (.int (sg k)),some (.int k),some (.int x)] F;refine st λX a1=>?_;have D:∀i(j:Int),Same H i->j=altS f (k+1)->X [some (.ref a),some (.int j),some (.int (sg k)),some (.int k),some (.int x)] i:=by
      intro i j u a3;subst a1 a3;ext;rw[Vw];exact⟨rfl,u⟩
     ext;have y:(c.getD 0 []).getD k 0=x:=Qb M;have G:f k=x*detM (n+1) (lY 0 k c):=by rw[←hf];dsimp only;rw[y]
     have S:=d.minor (i:=0) (k:=k) ⋯ I;have N:nS B (lY 0 k c):=O.minor
     by_cases v:x=0
     ·rw[zP v];refine iteF (D F _ b ?_);show _=altS f k+sg k*f k;rw[G,v];simp
     ·rw[zN v];refine iteT ?_;simp only[tAug,ipI];ext;refine⟨tF (by unfold sg;split <;> decide),b1,b2,a,c,0,k,_,rfl,g.up b,d.2,I,⋯,by rw[d.1];omega,λr i _ u a4=>?_⟩;refine⟨false,false,r,_,B,rfl,a4.b,S,⋯,N,Z,λa0 a2=>?_⟩;ext;have a8:=O _ J x (by rw[←y];exact L2.getD_mem ⋯);have a6:=Dx (n+1) _ ⋯ ⋯ S N;refine⟨yQ (m:=B+1) (n:=(n+1)*(B+2)+1) (nL ?_) (nL ?_) ?_,?_⟩
      ·rw[xA,Dy,pV,qU];omega
      ·rw[qU];have:=tS ((n+1)*(B+2));omega
      ·have:(n+1)*(B+2)<=4*1000002:=xZ ⋯ ⋯;omega
      ·refine D a0 _ ((b.trans u).trans a2) ?_;show _=altS f k+sg k*f k;rw[G,Int.mul_assoc]
    ·rintro o e ⟨v3,l,rfl,b⟩;symm;rw[zqe,W];have:altS f (n+2)=detM (n+2) c:=by rw[←hf];rfl
     rw[this];exact R e b
theorem ok_t(T:Txt K mg t):FnOk P w K mg base CX0 1 t.a_t t.d_t ["size"] sp_t:=by
 apply T.F_t.ok sc_t
 ·obtain⟨n,rfl,p,N⟩:=h;refine⟨_,(oO (oW (iJ (xs:=["i"]) (fr:=[("size",0)]) (g:=(nB 0)) (tt:=(tEl (mP (nU (nF (tVar 1) tNil)) (nB 0) (tEl (tIf (bE (tOp (rI0 λi j=>.bl (decide (i=j))) (tVar 1) (tVar 0))) (tC (.int 1)) (tC (.int 0)))) 1 [("i",0)]))) (kQ (sc:=oR aL) (N:=N_t) rfl rfl (nofun)) rfl (mF rfl T.z_range (oJ (pq 0) oK)) (λ_ _ _ b=>(fV (N:=["i","size"]) (i:=0) b rfl (nofun) rfl)) (λ_ _ _ b=>(jI (nT (N:=["i","size"]) (fr:=[("i",0)]) (te:=(tIf (bE (tOp (rI0 λi j=>.bl (decide (i=j))) (tVar 1) (tVar 0))) (tC (.int 1)) (tC (.int 0)))) b rfl (nofun) rfl (nofun) (mF rfl T.z_range (oJ (pv 1) oK)) (λ_ _ _ W=>(Eb (nH lG (pv 1) (pv 0) (nD _)) oN oN)))))))),?_⟩;show tRet _ _ [some (.int n)] H;ext;refine nN λB eB=>?_;simp only[nU];ext;refine⟨⋯,⋯,λc f=>?_⟩;rw[zQ];refine kI (RowR c λi=>(List.range n).map λk=>if i=k then(1:Int) else 0) f p (RowR.mono (a:=c)) ?_ ?_
  ·intro i a zs hi v I x F;subst eB;show mP _ _ _ _ _ [some (.int (0+(i:Int))),some (.int n)] a x;refine nN λB eB=>?_;simp only[nU];ext;refine⟨⋯,⋯,λL m=>?_⟩;rw[zQ];refine kI (λk y _=>k<n/\y=.int (if i=k then 1 else 0)) m p (λ_ _ _ _ r _=>r) ?_ ?_
   ·intro k u U o l S R q;subst eB;show tIf _ _ _ [some (.int (0+(k:Int))),some (.int (0+(i:Int)))] u R;ext
    by_cases z:i=k
    ·rw[zP ⋯];exact iteT (q _ _ (Same.refl _) ⟨o,by rw[zF z]⟩)
    ·rw[zN ⋯];exact iteF (q _ _ (Same.refl _) ⟨o,by rw[zD z]⟩)
   ·intro u ys l C d G;have O:ys=((List.range n).map λk=>if i=k then(1:Int) else 0).map V.int:=by
     refine mK (by simpa using d) λj y e=>?_;obtain⟨D,rfl⟩:=G j y e;exact⟨_,by rw[zI,yW D];rfl,rfl⟩
    subst O;exact F _ _ l ⟨L,rfl,yA (nY I m),C⟩
  ·intro a ys v M d J;have g:=MatL.of M J;rw[d]at g;exact N c a f v g
theorem Dv{H:Hp}{a f:Addr}{M:LM}{O:St}{Q:VK}{b1 b2:Bool}(C:MatB b1 b2 K H a M)(hl:M.length<=1000)(G:H f=none)
  (F:∀b zs,Same H b->b f=some (.lst zs)->(∀l,b l=none->MatB true true K (upd b l (.tup zs)) l M)->Q (.ref f) b):lO (Its K b1 a) (nB 0) (tEl (tCB (fW K) (nF (tVar 0) tNil))) 1 [] O f H Q:=by
 cases b2 with
 |false =>
  refine Rv C hl G λb c m=>?_;obtain⟨zs,d,_⟩:=id m;refine F b _ c d λl k=>?_;obtain⟨a4,o,U⟩:=m.tuple (K:=K) k;rw[d]at o;cases o;exact U
 | true =>
  obtain⟨xs,I,a1,S⟩:=C.walk;refine mU (λj y _=>∃p r,y=.ref p/\M[j]?=some r/\SqB true K H p (r.map V.int)) G I ⋯ (λ_ _ _ _ r _=>r) ?_ ?_
  ·intro i x b zs Y c a2 Z R;obtain⟨p,r,rfl,X,u⟩:=S i x Y;exact⟨_,rfl,p,_,rfl,.inr ⟨u.up c,R _ _ (Same.refl _) ⟨p,r,rfl,X,u⟩⟩⟩
  ·intro b ys c e1 D n;have N:∃ps:LA,ys=ps.map V.ref:=by
    clear e1 D;have:∀(zs:List V),(∀(j:Nat) y,zs[j]?=some y->∃p:Addr,y=.ref p)->∃ps:LA,zs=ps.map V.ref:=by
     intro zs
     induction zs with
     |nil=>intro _;exact⟨[],rfl⟩
     |cons z r W =>
      intro d;obtain⟨p,e⟩:=d 0 z rfl;obtain⟨ps,g⟩:=W λj y q=>d (j+1) y (by simpa using q);exact⟨p:: ps,by rw[e,g];rfl⟩
    exact this ys λj y e=>let ⟨p,r,e1,_⟩:=n j y e;⟨p,e1⟩
   obtain⟨ps,rfl⟩:=N;refine F b _ c e1 λl k=>⟨ps,SqB.tup oP,by simp at D;omega,λi p r g L=>?_⟩;obtain⟨a0,a3,T,v,J⟩:=n i (.ref p) (by simp[g]);cases T;rw[L]at v;cases v;exact J.up (c.trans (Same.new k))
theorem ok_14(T:Txt K mg t):FnOk P w K mg base CX0 1 t.a_14 t.d_14 pz' (sp_14 K):=by
 apply T.F_14.ok sc_14
 ·obtain⟨b1,b2,a,p,M,ts,u,rfl,g,f,hl,n⟩:=h;refine⟨_,(oO (oW (lV (oJ (mB jJ rfl T.z_tuple (nofun) (oJ (nT (sc:=oR s_14) (N:=N_14) (fr:=[]) (te:=(tCB (fW K) (nF (tVar 0) tNil))) rfl rfl (nofun) rfl (nofun) (nV (pq 0)) (λ_ _ _ y=>(mB jJ rfl T.z_tuple (nofun) (oJ (pv 0) oK)))) oK)) (oJ (oX (pq 1)) (oJ (oX (pq 1)) oK)))))),?_⟩;show tRet _ _ [some (.ref a),some (.ref p)] H;ext;exfalso;obtain⟨xs,k,_⟩:=g.walk;refine⟨b1,⟨_,k⟩,λo v=>?_⟩;subst eB;refine Dv g ⋯ v λi zs m r c=>?_;refine⟨o,_,rfl,.inl ⟨SqL.of r,λl e=>?_⟩⟩;have b:Same H (upd i l (.tup zs)):=m.trans (Same.new e);replace c:=c l e;generalize upd i l (.tup zs)=z at b c;refine Vr (f.up b) λx j=>Vq (f.up b) ⟨(by show 3<=sizeLine;decide),λq d=>n q _ (b.trans (Same.new d)) ⟨l,x,oP,c.up (Same.new d),Same.new d _ _ j⟩⟩
theorem ok_1j(T:Txt K mg t):FnOk P w K mg base CX0 2 t.a_1j t.d_1j pG' (sp_1j K):=by
 have z:=@ok_14 P w K mg base t T;have f:=@ok_r P w K mg base t T;apply T.F_1j.ok sc_1j
 ·obtain⟨p,M,ts,u,rfl,a,hl,v,o,m⟩:=h;refine⟨_,(oO (oW (oQ z hr.mo T.F_14 (oJ (oX (pq 0)) (oJ (oQ f hr.mo T.F_r (oJ (lV (oJ (oX (pq 0)) (oJ (oX (pq 0)) oK))) oK)) oK))))),?_⟩;show tRet _ _ [some (.ref p)] H;ext;refine jK a λx g=>gI a λy i=>kW a ⟨(by show 2<=sizeLine;decide),λl j=>?_⟩;have b:Same H (upd H l (.tup [.ref y,.int u])):=Same.new j;refine⟨l,ts,u,rfl,⟨y,SqT.of oP,lP b _ _ i⟩,v,o,λe C c k=>?_⟩;exact⟨true,true,x,e,M,_,u,rfl,g.up (b.trans c),k,hl,λq n r d=>m q n ((b.trans c).trans r) d⟩
theorem ok_1g(T:Txt K mg t):FnOk P w K mg base CX0 3 t.a_1g t.d_1g ["one","spot"] (sp_1g K):=by
 have a3:=@ok_1n P w K mg base t T;have a5:=@ok_19 P w K mg base t T;apply T.F_1g.ok sc_1g
 ·obtain⟨p,q,M,ts,ns,u,v,d,rfl,f,g,a,c3,b9,b8,L,I,F,a8⟩:=h;refine⟨_,(oM (Bw (i:=2) (xs:=["row","top"]) (fr:=[("one",0),("spot",1)]) (g:=(gTup K 2 (lC (nB 0) (lC (nB 1) gNil)))) (tt:=(tEl (tOp (rI0 λi j=>.int (i+j)) (tOp (rI (λi j=>IntMulOk i j) λi j=>.int (i*j)) (mS (sp_1n K) [] E0 (nF (tVar 0) (nF (tOp (rIxB K) (tVar 3) (tC (.int 0))) tNil))) (tOp (rIxB K) (tVar 2) (tC (.int 2)))) (tOp (rI (λi j=>IntMulOk i j) λi j=>.int (i*j)) (tVar 1) (tOp (rIxB K) (tVar 3) (tC (.int 1))))))) (kQ (sc:=oR s_1g) (N:=N_1g) rfl rfl (nofun)) rfl sc_1g.nd rfl rfl (Ge rfl T.z_zip (oJ (oX (pq 0)) (oJ (oX (pq 0)) oK))) (λ_ _ _ D=>(gN rfl (lD (jS (N:=["row","top","one","spot"]) (i:=0) D rfl (nofun)) (lD (jS (N:=["row","top","one","spot"]) (i:=1) D rfl (nofun)) iU)))) (λ_ _ _ D=>(jI (oS mJ (oS nR (oQ a3 hr.mo T.F_1n (oJ (pv 0) (oJ (oX (pv 3)) oK))) (oX (pv 2))) (oS nR (pv 1) (oX (pv 3)))))))
   (oO (oW (dL a5 hr.mo rfl T.F_19.m T.F_19.kp T.F_19.b .nil fR (oJ (pq 2) (oJ (oS nR (oX (pq 0)) (oX (pq 1))) oK)))))),?_⟩
  show tSeq _ _ _ [some (.ref p),some (.ref q),none] H;right;refine nN λB eB=>?_;simp only[iZip];ext;refine jK f λx U=>gI f λy S=>?_;obtain⟨xs,J,C,a2⟩:=U.walk;refine⟨true,true,x,rfl,y,rfl,⟨_,J⟩,⟨_,(S:SqB true K H y _)⟩,λb1 b4=>?_⟩;have b0:∀(i:Nat)(r:LI')(tt:Int),M[i]?=some r->ts[i]?=some tt->(movT M ts u ns v)[i]?=some (dotI r ns*u+tt*v):=λi r tt e1 G=>by
   unfold movT;rw[wA,e1,G]
  refine Gb (λj z _=>∃n,(movT M ts u ns v)[j]?=some n/\z=.int n) b4 J ((S:SqB true K H y _)) (by rw[C,a.sq.1,zqe,a.len]) (by rw[C,a.sq.1];omega) (λ_ _ _ _ r _=>r) ?_ ?_
  ·intro i a1 c0 l zs W b2 b c1 Y a0;obtain⟨pr,r,rfl,k,a4⟩:=a2 i a1 W;obtain⟨tt,N,rfl⟩:=kU b2;have c2:r.length=d:=a.sq.2 r (zqb k);have R:=a.bm r (zqb k);subst eB;show tOp _ _ _ [some (.ref pr),some (.int tt),some (.ref p),some (.ref q)] l Y;ext;refine Jp (g.up b) λz a6=>?_;refine⟨true,true,pr,z,r,ns,rfl,a4.up b,(a6:SqB true K l z _),⋯,⋯,λc4 m n e1 G=>yQ (nL (R m (zqb e1))) (nL (L n (zqb G))) ∅,λO c=>?_⟩;refine kW (f.up (b.trans c)) ?_;ext;have b7:=cK r ns R L;have Z:(dotI r ns).natAbs<2^400010:=by
    have:r.length*2^(200000+200000)<=4*2^(200000+200000):=wC _ ⋯;have e:(2:Nat)^400010=1024*2^(200000+200000):=by rw[show(400010:Nat)=10+(200000+200000) from rfl,vG]
    have:=tS (200000+200000);omega
   refine⟨yQ (nL Z) (nL (eQ a.pos a.bu)) ∅,?_⟩;refine Dw (g.up (b.trans c)) ?_;ext;refine⟨yQ (nL (a.bt tt (zqb N))) (nL (eQ I F)) ∅,?_⟩;exact a0 _ _ c ⟨_,b0 i r tt k N,rfl⟩
  ·intro l zs b b3 a7 X;have o:(movT M ts u ns v).length=d:=by unfold movT;rw[xX,a.sq.1,a.len];omega
   have a9:zs=(movT M ts u ns v).map V.int:=mK (by rw[a7,C,a.sq.1,o]) X;subst a9;symm;refine kW (f.up b) ?_;refine Dw (g.up b) ?_;ext;have b6:=Vt a.pos a.bu I F;refine⟨yQ (nL (eQ a.pos a.bu)) (nL (eQ I F)) ∅,?_⟩;refine⟨false,b1,_,_,rfl,SqB.lst b3,⋯,b6.1,λz=>?_,λ_ _ r O c b5=>a8 r O (b.trans c) b5⟩;rcases z with z|z
   ·omega
   ·rw[z]at o;simp at o;omega
theorem ok_1b(T:Txt K mg t):FnOk P w K mg base CX0 4 t.a_1b t.d_1b py' (sp_1b K):=by
 have c4:=@ok_1n P w K mg base t T;have d7:=@ok_1e P w K mg base t T;have b6:=@ok_1g P w K mg base t T;have c8:=@ok_14 P w K mg base t T;apply T.F_1b.ok sc_1b
 ·obtain⟨p,q,M,N,ts,ns,u,v,d,rfl,R,a3,a,o,d2,b4,e4⟩:=h;refine⟨_,(oM (oU (i:=2) sc_1b.nd rfl (Or.inr rfl) (oQ d7 hr.mo T.F_1e (oJ (oX (pq 0)) oK)))
   (oM (Bw (i:=3) (xs:=["row"]) (fr:=[("columns",2)]) (g:=(nB 0)) (tt:=(tEl (mP (iSeq K (tVar 1)) (nB 0) (tEl (mS (sp_1n K) [] E0 (nF (tVar 1) (nF (tVar 0) tNil)))) 1 [("row",0)]))) (kQ (sc:=oR s_1b) (N:=N_1b) rfl rfl (nofun)) rfl sc_1b.nd rfl rfl (nV (oX (pq 1))) (λ_ _ _ O=>(fV (N:=["row","columns"]) (i:=0) O rfl (nofun) rfl)) (λ_ _ _ O=>(jI (nT (N:=["row","columns"]) (fr:=[("row",0)]) (te:=(mS (sp_1n K) [] E0 (nF (tVar 1) (nF (tVar 0) tNil)))) O rfl (nofun) rfl (nofun) (nV (pv 1)) (λ_ _ _ f5=>(oQ c4 hr.mo T.F_1n (oJ (pv 1) (oJ (pv 0) oK))))))))
   (oO (oW (oQ c8 hr.mo T.F_14 (oJ (pq 3) (oJ (oQ b6 hr.mo T.F_1g (oJ (pq 1) (oJ (lV (oJ (oX (pq 0)) (oJ (oX (pq 0)) oK))) oK))) oK))))))),?_⟩
  show tSeq _ _ _ [some (.ref p),some (.ref q),none,none] H;right;have d1:M≠[]:=λz=>by have:=a.sq.1;rw[z]at this;simp at this;omega
  refine jK R λx a9=>⟨true,true,x,M,d,rfl,a9,d1,a.sq.2,⋯,by rw[a.sq.1];omega,λc e8 e9 a2 d0=>?_⟩;left;exfalso;refine jK (a3.up a2) λy e2=>?_;obtain⟨xs,X,Z,c0⟩:=e2.walk;refine⟨true,y,rfl,⟨_,X⟩,λU c2=>?_⟩;refine mU (RowR U λj=>(List.range d).map λk=>dotI (N.getD j []) (colI k M)) c2 X (by rw[Z,o.sq.1];omega) (RowR.mono (a:=U)) ?_ ?_
  ·intro i x C zs e7 I c1 b1 b5;obtain⟨pr,r,rfl,W,c7⟩:=c0 i x e7;have d8:N.getD i []=r:=by rw[zqc,W];rfl
   have c6:r.length=d:=o.sq.2 r (zqb W);have c5:=o.bm r (zqb W);subst eB;show mP _ _ _ _ _ [some (.ref pr),some (.ref c)] C b1;exfalso;obtain⟨f6,a4,f3,b3⟩:=((d0.up I).b (K:=K)).walk;refine⟨false,⟨_,a4⟩,λd9 Y=>?_⟩;have f1:(bV d M).length=d:=by simp[bV]
   refine mU (λj y _=>y=.int (dotI r (colI j M))/\j<d) Y a4 ⋯ (λ_ _ _ _ r _=>r) ?_ ?_
   ·intro j y a5 f2 S b f0 e6 d4;obtain⟨a8,col,rfl,D,L⟩:=b3 j y S;have g:j<d:=by have:=(zqa D).1;omega
    have b9:col=colI j M:=by
     unfold bV at D;rw[zI,yW g]at D;exact(zW D).symm
    subst eB b9;show mS _ _ _ _ [some (.ref a8),some (.ref pr)] a5 e6;ext;refine⟨true,false,pr,a8,r,colI j M,rfl,(c7.up I).up b,L.up b,by simp[colI,c6,a.sq.1],⋯,λe0 m n e1 f=>?_,λd5 G=>d4 _ _ G ⟨rfl,g⟩⟩;unfold colI at f;rw[zI]at f;cases eb:M[e0]? with
    |none=>rw[eb]at f;cases f
    |some J =>
     rw[eb]at f;have c3:J.getD j 0=n:=zW f;subst c3;have a0:=zqb eb;exact yQ (nL (c5 m (zqb e1))) (nL (a.bm J a0 _ (L2.getD_mem (by rw[a.sq.2 J a0];exact g)))) ∅
   ·intro a5 ys b b2 a1 b8;have S:ys=((List.range d).map λk=>dotI r (colI k M)).map V.int:=by
     refine mK (by simp;omega) λj y e=>?_;obtain⟨rfl,g⟩:=b8 j y e;exact⟨_,by rw[zI,yW g];rfl,rfl⟩
    subst S;exact b5 _ _ b ⟨d9,rfl,yA (nY c1 Y),by dsimp only;rw[d8];exact b2⟩
  ·intro C ys I f a1 d3;have a7:=MatL.of f d3;have e:(List.range ys.length).map (λj=>(List.range d).map λk=>dotI (N.getD j []) (colI k M))=mulM d N M:=by
    rw[a1,Z];unfold mulM;refine uB (by simp) λi a6 f4=>?_;simp at a6;simp[a6]
   rw[e]at a7;have F:=a2.trans I;symm;refine gI (R.up F) λz d6=>kW (R.up F) ⟨(by show 2<=sizeLine;decide),λl e3=>?_⟩;have b:Same C (upd C l (.tup [.ref z,.int u])):=Same.new e3;refine⟨q,l,N,ns,ts,v,u,d,rfl,(a3.up F).up b,⟨z,SqT.of oP,lP b _ _ d6⟩,o,d2,b4,a.len,a.bt,a.pos,a.bu,λr d5 G b0=>?_⟩;exact⟨false,false,U,r,_,_,_,rfl,((a7.up b).up G).b,b0,by simp[mulM,o.sq.1];omega,λb7 c9 e5 L=>e4 b7 c9 (((F.trans b).trans G).trans e5) L⟩
def Du(rows:LM)(tops:LI')(u:Int):Prop:=(rows.length=2\/rows.length=3)/\(∀r∈rows,r.length=rows.length)/\tops.length=rows.length/\u≠0/\(detM rows.length rows=1\/detM rows.length rows=-1)
def sp_1k(K:Frag)(C:Addr):Sp:=λvs H Q E=>E9 λ(b1 b2 b3:Bool)(a p:Addr)(rows:LM)(tops:LI')(u:Int)(B:Nat)=>A10 (vs=[.ref a,.ref p,.int u]) (MatB b1 b2 K H a rows) (SqB b3 K H p (tops.map V.int)) (rows.length<=100) (tops.length<=100) (nS B rows) (B<=1000000) (mO u) ((¬ Du rows tops u->∀H',Same H H'->E (.ref C) none H')) ((Du rows tops u->∀q H',Same H H'->mX K H' q rows (redT u tops) (redU u tops)->Q (.ref q) H'))
theorem inV2(L x y:Int):inV (.int L) [.int x,.int y]=decide (L=x\/L=y):=by
 have e:inV (.int L) [.int x,.int y]=(eqV (.int x) (.int L) || (eqV (.int y) (.int L) || false)):=rfl;have f:∀a b:Int,eqV (.int a) (.int b)=decide (a=b):=λa b=>by
  first|rfl|(unfold eqV;rfl)|(simp only[eqV];by_cases h:a=b <;> simp[h])
 rw[e,f,f,Bool.or_false]
 by_cases d:x=L
 ·rw[zP d,zP (p:=L=x\/L=y) (Or.inl d.symm)];rfl
 ·rw[zN d]
  by_cases c:y=L
  ·rw[zP c,zP (p:=L=x\/L=y) (Or.inr c.symm)];rfl
  ·rw[zN c,zN (p:=L=x\/L=y) ⋯];rfl
theorem Vp{H:Hp}{Q:VK}{E:XK}{b1 b2:Bool}{a:Addr}{b:LM}{n B:Nat}(g:1<=n)(d:n<=4)(f:MatB b1 b2 K H a b)(c:Sq n b)(e:nS B b)(i:B<=1000000)(q:∀H',Same H H'->Q (.int (detM n b)) H'):sp_3 K n [.ref a] H Q E:=by
 match n,g,d,c,q with
 |m+1,_,d,c,q=>exact⟨b1,b2,a,b,B,rfl,f,c,⋯,e,i,q⟩
theorem ok_1k(T:Txt K mg t):FnOk P w K mg base (CX1 P w) 6 t.a_1k t.d_1k pr' (sp_1k K t.a_1p):=by
 have c0:=@ok_19 P w K mg base t T;have b5:=@ok_14 P w K mg base t T;refine T.F_1k.okX sc_1k (λvs H Q E h=>?_) (λcdv A outer s H vs Q E hr h=>?_)
 ·obtain⟨b1,b2,W,a,p,c,D,u,B,rfl,_⟩:=h;rfl
 ·obtain⟨b1,b2,W,a,p,c,D,u,B,rfl,l,X,c4,c2,b9,a1,a8,f,c6⟩:=h;obtain⟨n,d3,I⟩:∃n:Nat,n<=3/\((c.length=2\/c.length=3)->n=c.length):=by
   by_cases z:c.length=2\/c.length=3
   ·exact⟨c.length,⋯,λ_=>rfl⟩
   ·exact⟨0,⋯,λh=>absurd h z⟩
  have a7:FnOk P w K mg base CX0 (n+1) t.a_3 t.d_3 pE' (sp_3 K n):=ok_3 T n;refine⟨_,(oM (oU (i:=3) sc_1k.nd rfl (Or.inr rfl) (mL T.z_len (pq 0)))
   (oM (nK (nH Ac (pq 3) (lV (oJ oN (oJ oN oK))) rfl)
   (oO (fS rfl fQ rfl T.m_1p T.x_1p xF (oJ gM oK)))
   nJ)
   (oM (nK (PW.pt (kN (lJ (lN (Rt rfl) rfl T.z_any (nofun) (oJ (nT (sc:=oR s_1k) (N:=N_1k) (fr:=[("axes",3)]) (te:=(tOp (rI0 λi j=>.bl (!decide (i=j))) (tCB (dW K) (nF (tVar 0) tNil)) (tVar 1))) rfl rfl (nofun) rfl (nofun) (nV (pq 0)) (λ_ _ _ d6=>(jD hJ (mL T.z_len (pv 0)) (pv 1) (nD _)))) oK))) (jP (nH hJ (mL T.z_len (pq 1)) (pq 3) (nD _)))))
   (oO (fS rfl fQ rfl T.m_1p T.x_1p xF (oJ gM oK)))
   nJ)
   (oM (nK (nH lG (pq 2) oN (nD _))
   (oO (fS rfl fQ rfl T.m_1p T.x_1p xF (oJ gM oK)))
   nJ)
   (oM (nK (nH Ac (oQ a7 hr.mo T.F_3 (oJ (pq 0) oK)) (lV (oJ oN (oJ (gO gQ oN) oK))) rfl)
   (oO (fS rfl fQ rfl T.m_1p T.x_1p xF (oJ gM oK)))
   nJ)
   (oO (oW (oQ b5 hr.mo T.F_14 (oJ (pq 0) (oJ (dL c0 hr.mo rfl T.F_19.m T.F_19.kp T.F_19.b .nil fR (oJ (pq 1) (oJ (pq 2) oK))) oK)))))))))),?_⟩
  show tSeq _ _ _ [some (.ref a),some (.ref p),some (.int u),none] H;right;refine hX l ?_;subst e1;refine st λN1 e1=>?_;simp only[iI];ext;refine⟨by show 2<=sizeLine;decide,λF b8=>?_⟩;have o:Same H (upd H F (.tup [.int 2,.int 3])):=Same.new b8;refine⟨F,_,rfl,.inr (SqT.of oP),rfl,rfl,_,rfl,?_⟩;generalize upd H F (.tup [.int 2,.int 3])=d4 at o;rw[inV2]
  by_cases M:c.length=2\/c.length=3
  case neg =>
   rw[zN ⋯];refine iteT ?_;simp only[iI];ext;exact⟨∅,f (λg=>M g.1) _ o⟩
  rw[zP ⋯];refine iteF ?_;replace I:=I M;subst I;left;refine nN λC c1=>?_;simp only[iSeq];ext;obtain⟨xs,R,d5,b3⟩:=(l.up o).walk;refine⟨b1,⟨_,R⟩,λc9 d0=>?_⟩;refine mU (λj y _=>∃r,c[j]?=some r/\y=.bl (!decide (r.length=c.length))) d0 R ⋯ (λ_ _ _ _ r _=>r) ?_ ?_
  ·intro i x S zs d2 O d7 a4 a6;obtain⟨pr,U,rfl,d1,b4⟩:=b3 i x d2;subst c1;show tOp _ _ _ [some (.ref pr),some (.int c.length)] S a4;ext;refine Br (b4.up O) ?_
   try ext
   refine a6 _ _ (Same.refl _) ⟨U,d1,?_⟩
   by_cases z:U.length=c.length
   ·rw[zP z,zP ⋯]
   ·rw[zN z,zN ⋯]
  ·intro S ys O c3 d9 J;have c7:ys=(c.map λr=>!decide (r.length=c.length)).map V.bl:=by
    rw[xJ];exact mK ⋯ J
   subst c7;refine⟨c9,rfl,_,SqL.of c3,?_⟩
   try ext
   have d:=o.trans O
   by_cases e:∀r∈c,r.length=c.length
   case neg =>
    have G:(c.map λr=>!decide (r.length=c.length)).any id=true:=by
     rw[List.any_eq_true];obtain⟨r,hr⟩:=Classical.not_forall.mp e;obtain⟨a3,J⟩:=Classical.not_imp.mp hr;exact⟨true,oE.mpr ⟨r,a3,by rw[zN J];rfl⟩,rfl⟩
    rw[G];refine iteT ?_;simp only[iI];ext;exact⟨∅,f (λg=>e g.2.1) _ d⟩
   have G:(c.map λr=>!decide (r.length=c.length)).any id=false:=by
    rw[List.any_eq_false];intro b c8;obtain⟨r,hr,rfl⟩:=oE.mp c8;rw[zP (e r hr)]
    decide
   rw[G];refine iteF ?_;refine Br (X.up d) ?_
   try ext
   by_cases k:D.length=c.length
   case neg =>
    rw[zN ⋯];refine iteT ?_;simp only[iI];ext;exact⟨∅,f (λg=>k g.2.2.1) _ d⟩
   rw[zP ⋯];refine iteF ?_;subst e1;refine st λN1 e1=>?_;simp only[iI];ext;refine ite2 (λz=>⟨∅,f (λg=>g.2.2.2.1 (xQ z)) _ d⟩) (λz=>?_);have a0:u≠0:=λq=>z (zP q);left;refine Vp ⋯ ⋯ (l.up d) ⟨rfl,e⟩ b9 a1 λN a5=>?_
   try ext
   refine⟨by show 2<=sizeLine;decide,λL b0=>?_⟩;have Y:Same N (upd N L (.tup [.int 1,.int (-1)])):=Same.new b0;refine⟨L,_,rfl,.inr (SqT.of oP),rfl,rfl,_,rfl,?_⟩;generalize upd N L (.tup [.int 1,.int (-1)])=e0 at Y;have v:=(d.trans a5).trans Y;rw[inV2]
   by_cases m:detM c.length c=1\/detM c.length c=-1
   case neg =>
    rw[zN m];refine iteT ?_;simp only[iI];ext;exact⟨∅,f (λg=>m g.2.2.2.2) _ v⟩
   rw[zP m];refine iteF ?_;symm;refine⟨W,p,D,u,rfl,X.up v,c2,a8,λz=>?_,λ_ _ b6 d8 Z a2=>⟨b1,b2,a,b6,c,_,_,rfl,l.up (v.trans Z),a2,c4,λq c5 b7 a9=>c6 ⟨M,e,k,a0,m⟩ q c5 ((v.trans Z).trans b7) a9⟩⟩;rcases z with z|z
   ·exact absurd z a0
   ·rw[z]at k;simp at k;omega
def sp_1h(K:Frag):Sp:=λvs H Q _=>E1 λ(d:Nat)=>A3 (vs=[.int d]) ((d=2\/d=3)) (∀q H',Same H H'->mX K H' q (idM d) (List.replicate d 0) 1->Q (.ref q) H')
theorem Vo(ns:LI'):gl 1 ns=1:=Int.eq_one_of_dvd_one (aV 1 ns) (gl_u 1 ns)
theorem Vn{d:Nat}(a:d=2\/d=3):Du (idM d) (List.replicate d 0) 1/\nS 1 (idM d):=by
 rcases a with rfl|rfl
 ·exact⟨⟨.inl rfl,∅,∅,∅,.inl ∅⟩,by intro r hr x b;revert r x;decide⟩
 ·exact⟨⟨.inr rfl,∅,∅,∅,.inl ∅⟩,by intro r hr x b;revert r x;decide⟩
theorem Vm:mO 1:=iP (B:=1) ∅ ∅
theorem ok_1h(T:Txt K mg t):FnOk P w K mg base CX0 8 t.a_1h t.d_1h ["d"] (sp_1h K):=by
 have u:=@ok_1k P w K mg base t T;have p:=@ok_t P w K mg base t T;apply T.F_1h.ok sc_1h
 ·obtain⟨d,rfl,m,C⟩:=h;refine⟨_,(oO (oW (dL u hr.mo rfl T.F_1k.m T.F_1k.kp T.F_1k.b .nil fR (oJ (oQ p hr.mo T.F_t (oJ (pq 0) oK)) (oJ (oS Ab (nI (oJ oN oK)) (pq 0)) (oJ oN oK)))))),?_⟩;show tRet _ _ [some (.int d)] H;ext;refine⟨d,rfl,⋯,λr b _ F D=>?_⟩
  try ext
  refine⟨by show 1<=sizeLine;decide,λl hl=>?_⟩;have e:Same b (upd b l (.lst [.int 0])):=Same.new hl;have j:(upd b l (.lst [.int 0])) l=some (.lst [.int 0]):=oP;generalize upd b l (.lst [.int 0])=a at e j;refine⟨l,d,_,rfl,rfl,j,⋯,⋯,?_,λl2 x=>?_⟩
  ·rw[zQ];show 1*d<=sizeLine;have:3<=sizeLine:=∅
   omega
  have c:Same a (upd a l2 (.lst (List.replicate (d:Int).toNat [V.int 0]).flatten)):=Same.new x;have f:(upd a l2 (.lst (List.replicate (d:Int).toNat [V.int 0]).flatten)) l2=some (.lst ((List.replicate d (0:Int)).map V.int)):=by
   rw[oP,zQ];rcases m with rfl|rfl <;> rfl
  generalize upd a l2 (.lst (List.replicate (d:Int).toNat [V.int 0]).flatten)=G at c f;obtain⟨g,o⟩:=Vn m;have k:=Vz (u:=1) ∅ (Vo (List.replicate d 0));have e1:redT 1 (List.replicate d 0)=List.replicate d 0:=k.1;have y:redU 1 (List.replicate d 0)=1:=k.2;refine⟨false,false,false,r,l2,idM d,List.replicate d 0,1,1,rfl,((D.up e).up c).b,SqB.lst f,by simp[idM];omega,by simp;omega,o,∅,Vm,λn=>absurd g n,λ_ q v z i=>?_⟩;rw[e1,y]at i;exact C q v ((F.trans (e.trans c)).trans z) i
noncomputable def cL(M:LM)(ts:LI')(u:Int):PyData:=.tuple [matD true true M,fY true ts,.int u]
theorem Vl{M N:LM}{ts ns:LI'}{u v:Int}:cL M ts u=cL N ns v↔(M=N/\ts=ns/\u=v):=by
 unfold cL;simp only[PyData.tuple.injEq,List.cons.injEq,PyData.int.injEq,and_true,Qe,Hw]
theorem Dt.deed{K:Frag}{H:Hp}{p:Addr}{M:LM}{ts:LI'}{u:Int}(h:mX K H p M ts u):Dt K H (.ref p) (cL M ts u):=by
 obtain⟨pr,pt,c,b,a⟩:=h;exact .tup (SqT.of c) (.cons (Dt.matB b) (.cons (Dt.intsB (SqB.tup a)) (.cons (.int u) .nil)))
abbrev Dd:=LM×List Int×Int
noncomputable def dat(x:Dd):PyData:=cL x.1 x.2.1 x.2.2
theorem eT{x y:Dd}:dat x=dat y↔x=y:=by
 obtain⟨M,ts,u⟩:=x;obtain⟨N,ns,v⟩:=y;unfold dat;rw[Vl];simp
theorem aY{n:Nat}{ds:List PyData}:tT (n+1) (.tuple ds)=ds.all (tT n):=rfl
theorem kL(x:Dd):tT 4 (dat x)=true:=by
 obtain⟨M,ts,u⟩:=x;have hi:∀(n:Nat)(l:LI'),(l.map PyData.int).all (tT n)=true:=λn l=>by
  rw[vF];intro d a;obtain⟨i,_,rfl⟩:=oE.mp a;cases n <;> rfl
 show tT 4 (.tuple [.tuple (M.map λr=>.tuple (r.map PyData.int)),.tuple (ts.map PyData.int),.int u])=true;rw[aY,xI,xI,xI,aY,aY,hi];have:(M.map λr=>PyData.tuple (r.map PyData.int)).all (tT 2)=true:=by
  rw[vF];intro d a;obtain⟨r,_,rfl⟩:=oE.mp a;rw[aY];exact hi 1 r
 rw[this];rfl
def DdAt(K:Frag)(H:Hp)(p:Addr)(x:Dd):Prop:=mX K H p x.1 x.2.1 x.2.2
theorem DdAt.up{K:Frag}{H H':Hp}{p:Addr}{x:Dd}(h:DdAt K H p x)(s:Same H H'):DdAt K H' p x:=mX.up h s
theorem DdAt.dt{K:Frag}{H:Hp}{p:Addr}{x:Dd}(h:DdAt K H p x):Dt K H (.ref p) (dat x):=Dt.deed h
abbrev DdS(K:Frag)(H:Hp)(p:Addr)(x:Dd):Prop:=lR K H p x.1 x.2.1 x.2.2
theorem DdS.up{K:Frag}{H H':Hp}{p:Addr}{x:Dd}(h:DdS K H p x)(s:Same H H'):DdS K H' p x:=lR.up h s
theorem DdAt.s{K:Frag}{H:Hp}{p:Addr}{x:Dd}(h:DdAt K H p x):DdS K H p x:=mX.s h
noncomputable def oV(x:Dd):Dd:=(x.1,nW x.2.2 x.2.1,x.2.2)
noncomputable def behD(d:Nat)(x s:Dd):Dd:=(mulM d s.1 x.1,redT (s.2.2*x.2.2) (movT s.1 s.2.1 s.2.2 x.2.1 x.2.2),redU (s.2.2*x.2.2) (movT s.1 s.2.1 s.2.2 x.2.1 x.2.2))
noncomputable def oZ(d:Nat)(x s:Dd):Dd:=oV (behD d x s)
noncomputable def nE(d:Nat):Dd:=(idM d,List.replicate d 0,1)
abbrev Tb:=List (Dd×List Nat)
noncomputable def nxt(d:Nat)(x:Dd)(w:List Nat)(tb:Tb)(ks:Dd×Nat):Tb:=if oZ d x ks.1∈tb.map (·.1) then tb else tb++[(oZ d x ks.1,w++[ks.2])]
noncomputable def kA(d:Nat)(ss:List Dd)(tb:Tb)(i:Nat):Tb:=match tb[i]? with
 |none=>tb
 |some xw=>ss.zipIdx.foldl (nxt d xw.1 xw.2) tb
noncomputable def nP(d:Nat)(ss:List Dd):Nat->Nat->Tb->Tb
 |0,_,tb=>tb
 |n+1,i,tb=>if i<tb.length then nP d ss n (i+1) (kA d ss tb i) else tb
theorem Vk(d:Nat)(x:Dd)(w:List Nat)(tb:Tb)(ks:Dd×Nat):∃r,nxt d x w tb ks=tb++r:=by
 unfold nxt;split
 ·exact⟨[],by simp⟩
 ·exact⟨_,rfl⟩
theorem cM(d:Nat)(x:Dd)(w:List Nat):∀(l:List (Dd×Nat))(tb:Tb),∃r,l.foldl (nxt d x w) tb=tb++r
 |[],tb=>⟨[],by simp⟩
 |k:: l,tb=>by
  obtain⟨r1,e1⟩:=Vk d x w tb k;obtain⟨r2,a⟩:=cM d x w l (nxt d x w tb k);exact⟨r1++r2,by rw[wM,a,e1,yI]⟩
theorem Jo(d:Nat)(ss:List Dd)(tb:Tb)(i:Nat):∃r,kA d ss tb i=tb++r:=by
 unfold kA;split
 ·exact⟨[],by simp⟩
 ·exact cM ..
theorem Ds(d:Nat)(ss:List Dd):∀(n i:Nat)(tb:Tb),∃r,nP d ss n i tb=tb++r
 |0,i,tb=>⟨[],by simp[nP]⟩
 |n+1,i,tb=>by
  unfold nP;split
  ·obtain⟨r1,e1⟩:=Jo d ss tb i;obtain⟨r2,a⟩:=Ds d ss n (i+1) (kA d ss tb i);exact⟨r1++r2,by rw[a,e1,yI]⟩
  ·exact⟨[],by simp⟩
def mY(d:Nat)(x:Dd):Prop:=Fine d x.1 x.2.1 x.2.2
def TbAt(H0 H:Hp)(tb:Tb)(kvs:List (PyData×V)):Prop:=Paired (λ(x:Dd×List Nat)(kv:PyData×V)=>kv.1=dat x.1/\∃p,kv.2=.ref p/\H0 p=none/\H p=some (.lst (x.2.map λn=>V.int (n:Nat)))) tb kvs
def sp_15(K:Frag)(C:Addr):Sp:=λvs H Q E=>E7 λ(b:Bool)(d:Nat)(a:Addr)(ps:LA)(ms:List Dd)(most:Nat)(G:Dd->Prop)=>A14 (vs=[.int d,.ref a,.int most]) ((d=2\/d=3)) (SqB b K H a (ps.map V.ref)) (Paired (DdS K H) ps ms) (ms.length<=200) ((∀s∈ms,mY d s)) ((∀s∈ms,mY d (oV s))) ((∀x,G x->mY d x)) (G (nE d)) ((∀x s,G x->s∈ms->G (oZ d x (oV s)))) (1<=most) (most<=200) (((nP d (ms.map oV) 201 0 [(nE d,[])]).length<=most->∀w kvs H',Same H H'->H w=none->DTr K H' w kvs->TbAt H H' (nP d (ms.map oV) 201 0 [(nE d,[])]) kvs->Q (.ref w) H')) ((most<(nP d (ms.map oV) 201 0 [(nE d,[])]).length->∀H',Same H H'->E (.ref C) none H'))
def sp_x:Sp:=λvs H Q _=>E1 λ(n:Nat)=>A4 (vs=[.int n]) (1<=n) (n<=200) (Q .non H)
def sp_w(K:Frag):Sp:=λvs H Q _=>E5 λ(b:Bool)(d:Nat)(a:Addr)(ps:LA)(ms:List Dd)=>A6 (vs=[.int d,.ref a]) ((d=2\/d=3)) (SqB b K H a (ps.map V.ref)) (Paired (DdS K H) ps ms) ((∀s∈ms,s.1.length=d)) (∀H',Same H H'->Q .non H')
theorem Vj{prog:Program}{w:World}:∀n,n<=200->cI prog w n:=λn _=>Tu n
theorem Dr{K:Frag}{H:Hp}{a b:Addr}{kvs:List (PyData×V)}{k:PyData}{v:V}{Q:VK}(g:DTr K H a kvs)(t:tT 4 k=true)(d:Dt K H (.ref b) k)(e:vT kvs k=some v)(q:Q v H):bW K (.ref a) (.ref b) H Q:=⟨a,kvs,b,k,v,rfl,rfl,g,t,d,e,q⟩
theorem Vi{K:Frag}{H:Hp}{a b:Addr}{kvs:List (PyData×V)}{k:PyData}{c:Bool}{Q:VK}(g:DTr K H a kvs)(t:tT 4 k=true)(d:Dt K H (.ref b) k)(q:Q (.bl (if c=true then !(vT kvs k).isSome else(vT kvs k).isSome)) H):rInT K c (.ref b) (.ref a) H Q:=⟨a,kvs,b,k,rfl,rfl,g,t,d,q⟩
theorem gJ{b a:Type}{f:b->a}{l:List b}{i:Nat}{y:a}(h:(l.map f)[i]?=some y):∃x,l[i]?=some x/\y=f x:=by
 rw[zI]at h;cases hx:l[i]? with
 |none=>rw[hx]at h;cases h
 |some x=>rw[hx]at h;exact⟨x,rfl,(zW h).symm⟩
def CpOk:Nat->V->Hp->Prop
 |0,x,_=>∃i,x=.int i
 |n+1,x,H=>∃a xs,x=.ref a/\H a=some (.lst xs)/\xs.length<=1000/\∀y∈xs,CpOk n y H
theorem CpOk.up{H H':Hp}(s:Same H H'):∀{n:Nat}{x:V},CpOk n x H->CpOk n x H'
 |0,_,h=>h
 |_+1,_,⟨a,xs,e,h,l,k⟩=>⟨a,xs,e,s _ _ h,l,λy b=>CpOk.up s (k y b)⟩
def sp_1c(n:Nat):Sp:=λvs H Q _=>∃x,vs=[x]/\CpOk n x H/\∀y H',Same H H'->Q y H'
def Vh(C:Addr):Sp:=λvs H Q _=>E2 λ(e:Addr)(x:V)=>A4 (vs=[.ref e,x]) (H e=some (XObj e C true)) (CpOk 2 x H) (∀H',(∀b o,b≠e->H b=some o->H' b=some o)->H' e=some (XObj e C false)->Q .non H')
theorem lH{H H':Hp}{b:Addr}(s:Same H H')(h:H' b=none):H b=none:=by
 cases e:H b with
 |none=>rfl
 |some o=>rw[s _ _ e]at h;cases h
structure TK(K:Frag)(H H':Hp):Prop where
 k:∀b xs,H b=some (.tup xs)->H' b=some (.tup xs)
 t:∀b xs,SqT K H b xs->SqT K H' b xs
theorem TK.trans{K:Frag}{H f d:Hp}(a:TK K H f)(b:TK K f d):TK K H d:=⟨λc xs e=>b.k _ _ (a.k _ _ e),λc xs e=>b.t _ _ (a.t _ _ e)⟩
theorem TK.off{K:Frag}{H H':Hp}{a:Addr}{o:HO}(e:H a=some o)(g:∀xs,o≠.tup xs)(f:∀d u,o≠.frz d u)(h:∀c,c≠a->H' c=H c):TK K H H':=by
 have k:∀b xs,H b=some (.tup xs)->H' b=some (.tup xs):=λb xs q=>by
  rw[h b λz=>g xs (by rw[z,e]at q;exact zW q)];exact q
 refine⟨k,λb xs q=>?_⟩;rcases q with(q|⟨d,q⟩)|q
 ·exact .inl (.inl (k _ _ q))
 ·exact .inl (.inr ⟨d,by rw[h b λz=>f _ _ (by rw[z,e]at q;exact zW q)];exact q⟩)
 ·exact .inr q
theorem MatB.tk{K:Frag}{H H':Hp}{a:Addr}{M:LM}(h:MatB true true K H a M)(s:TK K H H'):MatB true true K H' a M:=let ⟨ps,e,d,c⟩:=h;⟨ps,s.t _ _ e,d,λi p r e1 b=>s.t _ _ (c i p r e1 b)⟩
theorem DdAt.tk{K:Frag}{H H':Hp}{p:Addr}{x:Dd}(h:DdAt K H p x)(s:TK K H H'):DdAt K H' p x:=let ⟨pr,pt,c,b,a⟩:=h;⟨pr,pt,s.k _ _ c,MatB.tk b s,s.k _ _ a⟩
theorem DdS.tk{K:Frag}{H H':Hp}{p:Addr}{x:Dd}(h:DdS K H p x)(s:TK K H H'):DdS K H' p x:=let ⟨pr,pt,c,b,a⟩:=h;⟨pr,pt,s.t _ _ c,MatB.tk b s,s.t _ _ a⟩
theorem DTr.tk{K:Frag}{H H':Hp}{a:Addr}{kvs:List (PyData×V)}(h:DTr K H a kvs)(s:TK K H H')(e:H' a=H a):DTr K H' a kvs:=by
 obtain⟨l,y,xs,b,n,r⟩:=h;exact⟨l,y,xs,e.trans b,n,r.keeps s.t⟩
structure CI(K:Frag)(H0:Hp)(qs:LA)(ss:List Dd)(as af aw:Addr)(tb:Tb)(H:Hp):Prop where
 s:∀b o,H0 b=some o->H b=some o
 st:H as=some (.lst (qs.map V.ref))/\Paired (DdAt K H) qs ss
 fo:∃fs,H af=some (.lst (fs.map V.ref))/\Paired (λp(x:Dd×List Nat)=>DdAt K H p x.1) fs tb
 wo:∃kvs,DTr K H aw kvs/\Paired (λ(x:Dd×List Nat)(kv:PyData×V)=>kv.1=dat x.1/\∃p,kv.2=.ref p/\(p≠af/\H0 p=none)/\H p=some (.lst (x.2.map λn=>V.int (n:Nat)))) tb kvs
 n1:H0 as=none
 n2:H0 af=none
 n3:H0 aw=none
 x1:as≠af
theorem CI.up{K:Frag}{H0 H H':Hp}{a:LA}{ss:List Dd}{as d c:Addr}{tb:Tb}(h:CI K H0 a ss as d c tb H)(s:Same H H'):CI K H0 a ss as d c tb H':=by
 obtain⟨k,⟨b1,b2⟩,⟨fs,q,f⟩,⟨kvs,x,v⟩,l,g,n,i⟩:=h;exact⟨λb o e=>s _ _ (k _ _ e),⟨s _ _ b1,Paired.mapP b2 λ_ _ z=>z.up s⟩,⟨fs,s _ _ q,Paired.mapP f λ_ _ z=>z.up s⟩,⟨kvs,x.up s,Paired.mapP v λ_ _ z=>let ⟨r,p,u,m,j⟩:=z;⟨r,p,u,m,s _ _ j⟩⟩,l,g,n,i⟩
theorem Dq{H0 H:Hp}{d:Addr}{x:Dd}:∀{tb:Tb}{kvs:List (PyData×V)},Paired (λ(x:Dd×List Nat)(a:PyData×V)=>a.1=dat x.1/\∃p,a.2=.ref p/\(p≠d/\H0 p=none)/\H p=some (.lst (x.2.map λn=>V.int (n:Nat)))) tb kvs ->
  (x∉tb.map (·.1)/\vT kvs (dat x)=none)\/∃w p,(x,w)∈tb/\vT kvs (dat x)=some (.ref p)/\(p≠d/\H0 p=none)/\H p=some (.lst (w.map λn=>V.int (n:Nat))):=by
 intro tb kvs h
 induction h with
 |nil=>exact .inl ⟨by simp,rfl⟩
 | @cons y a tb kvs f _ j =>
  obtain⟨e1,p,e,i,g⟩:=f
  by_cases z:y.1=x
  ·refine .inr ⟨y.2,p,by rw[←z];exact .head _,?_,i,g⟩;rw[dZ (by rw[e1,z]),e]
  ·have k:¬ a.1=dat x:=λq=>z (eT.mp (e1.symm.trans q));rw[gZ k];rcases j with⟨c,b⟩|⟨w,p,c,b⟩
   ·exact .inl ⟨by rw[zK,xH,not_or];exact⟨λq=>z q.symm,c⟩,b⟩
   ·exact .inr ⟨w,p,.tail _ c,b⟩
theorem Jn{d:Nat}{x:Dd}{w:List Nat}{tb:Tb}{ks:Dd×Nat}(h:(tb.map (·.1)).Nodup):((nxt d x w tb ks).map (·.1)).Nodup:=by
 unfold nxt;split
 ·exact h
 ·next q =>
  rw[xD,qN];refine⟨h,by simp,λy b z a=>?_⟩;simp only[List.map_cons,List.map_nil,List.mem_singleton]at a;rw[a];exactλe=>q (e ▸ b)
theorem Jm{d:Nat}{x:Dd}{w:List Nat}:∀(l:List (Dd×Nat))(tb:Tb),(tb.map (·.1)).Nodup->((l.foldl (nxt d x w) tb).map (·.1)).Nodup
 |[],_,h=>h
 |k:: l,tb,h=>Jm l _ (Jn h)
theorem Jl{d:Nat}{x:Dd}{w:List Nat}{tb:Tb}{ks:Dd×Nat}{b:Dd->Prop}(h:∀y∈tb,b y.1)(c:b (oZ d x ks.1)):∀y∈nxt d x w tb ks,b y.1:=by
 unfold nxt;split
 ·exact h
 ·intro y a;rcases oF.mp a with a|a
  ·exact h y a
  ·rw[pO.mp a];exact c
theorem Vg{tb:Tb}(h:(tb.map (·.1)).Nodup){i:Nat}{x:Dd}{w b:List Nat}(e:tb[i]?=some (x,w))(m:(x,b)∈tb):w=b:=by
 obtain⟨j,a⟩:=xT m;have e1:(tb.map (·.1))[i]?=some x:=by rw[zI,e];rfl
 have c:(tb.map (·.1))[j]?=some x:=by rw[zI,a];rfl
 have hi:i<(tb.map (·.1)).length:=(zqa e1).1;have:i=j:=(List.getElem?_inj hi h).mp (e1.trans c.symm);subst this;rw[e]at a;cases a;rfl
theorem Vf{d:Nat}{ss:List Dd}{n i:Nat}{tb:Tb}(h:tb.length<=i):nP d ss n i tb=tb:=by
 cases n with
 |zero=>rfl
 |succ n=>unfold nP;rw[zD ⋯]
theorem Ve{d:Nat}{ss:List Dd}{n i:Nat}{tb:Tb}(h:i<tb.length)(a:0<n):nP d ss n i tb=nP d ss (n-1) (i+1) (kA d ss tb i):=by
 obtain⟨m,rfl⟩:∃m,n=m+1:=⟨n-1,⋯⟩;show(if i<tb.length then _ else _)=_;rw[zF h];rfl
theorem Vd{d:Nat}{ss:List Dd}{tb:Tb}{i:Nat}{x:Dd}{w:List Nat}(e:tb[i]?=some (x,w)):kA d ss tb i=ss.zipIdx.foldl (nxt d x w) tb:=by
 unfold kA;rw[e]
noncomputable def part(d:Nat)(x:Dd)(w:List Nat)(ss:List Dd)(tb:Tb)(i:Nat):Tb:=(ss.zipIdx.take i).foldl (nxt d x w) tb
theorem cN{d:Nat}{x s:Dd}{w:List Nat}{ss:List Dd}{tb:Tb}{i:Nat}(e:ss[i]?=some s):part d x w ss tb (i+1)=nxt d x w (part d x w ss tb i) (s,i):=by
 unfold part;rw[wD,rH,e,uS];simp
theorem Vc{d:Nat}{x:Dd}{w:List Nat}{ss:List Dd}{tb:Tb}:part d x w ss tb ss.length=ss.zipIdx.foldl (nxt d x w) tb:=by
 unfold part;rw[yT (by simp)]
theorem Vb{d:Nat}{x:Dd}{w:List Nat}{ss:List Dd}{tb:Tb}(i:Nat):∃r,part d x w ss tb i=tb++r:=cM ..
theorem Jk{d:Nat}{x:Dd}{w:List Nat}{ss:List Dd}{tb:Tb}(i:Nat):(part d x w ss tb i).length<=(ss.zipIdx.foldl (nxt d x w) tb).length:=by
 have e:ss.zipIdx.foldl (nxt d x w) tb=(ss.zipIdx.drop i).foldl (nxt d x w) (part d x w ss tb i):=by
  unfold part;rw[←uS,xY]
 obtain⟨r,a⟩:=cM d x w (ss.zipIdx.drop i) (part d x w ss tb i);rw[e,a,yE];omega
def ND(tb:Tb):Prop:=(tb.map (·.1)).Nodup/\∀y∈tb,y.2.length<tb.length
theorem Dp{d:Nat}{x:Dd}{w:List Nat}{tb:Tb}{ks:Dd×Nat}(h:ND tb)(c:(x,w)∈tb):ND (nxt d x w tb ks):=by
 refine⟨Jn h.1,?_⟩;have b:=h.2 _ c;unfold nxt;split
 ·exact h.2
 ·intro y a;rw[yE];rcases oF.mp a with a|a
  ·have:=h.2 y a;simp only[List.length_cons,List.length_nil];omega
  ·rw[pO.mp a];simp only[List.length_append,List.length_cons,List.length_nil];have e:w.length<tb.length:=b;omega
theorem ok_x(T:Txt K mg t):FnOk P w K mg base CX0 2 t.a_x t.d_x ["most"] sp_x:=by
 apply T.F_x.ok sc_x
 ·obtain⟨n,rfl,b,c,a⟩:=h;refine⟨_,(oO (nK (PW.pt (kN (nH bA (pq 0) oN (nD _)) (jP (nH bB (pq 0) (Ru (v:=(.int 200)) rfl T.g_MOST_MEMBERS) (nD _)))))
   (oO An)
   nJ)),?_⟩
  show tIfS _ _ _ _ [some (.int n)] H;ext;rw[zN (show¬ (n:Int)<1 by omega),zN (show¬ (200:Int)<n by omega)];refine iteF (iteF ?_);exact a
theorem kM{a b:Type}{F:a->b->Prop}{xs:List a}{ys:List b}(h:Paired F xs ys):∀{i:Nat}{x:a},xs[i]?=some x->∃y,ys[i]?=some y/\F x y:=by
 induction h with
 |nil=>intro i x e;simp at e
 |cons d _ c =>
  intro i x e;cases i with
  |zero=>cases e;exact⟨_,rfl,d⟩
  |succ i=>exact c (by simpa using e)
theorem ok_w(T:Txt K mg t):FnOk P w K mg base CX0 2 t.a_w t.d_w ["d","makers"] (sp_w K):=by
 apply T.F_w.ok sc_w
 ·obtain⟨b,d,a,ps,ms,rfl,z,l,y,hl,p⟩:=h;refine⟨_,(oM (nK (nH Ac (pq 0) (lV (oJ oN (oJ oN oK))) rfl)
   (oO An)
   nJ)
   (oO (mQ yL rfl (nV (pq 1)) (nX (i:=2) sc_w.nd rfl (Or.inl rfl))
   (oO (nK (nH hJ (mL T.z_len (oX (pq 2))) (pq 0) (nD _))
   (oO An)
   nJ))))),?_⟩
  show tSeq _ _ _ [some (.int d),some (.ref a),none] H;right;refine⟨by show 2<=sizeLine;decide,λk r=>?_⟩;have j:Same H (upd H k (.tup [.int 2,.int 3])):=Same.new r;refine⟨k,_,rfl,.inr (SqT.of oP),rfl,rfl,_,rfl,?_⟩;generalize upd H k (.tup [.int 2,.int 3])=C at j;rw[inV2,zP ⋯];refine iteF ?_;subst e1;refine mT λB eB=>?_;simp only[iSeq];ext;refine⟨b,⟨_,l.up j⟩,?_⟩;refine gU (g:=nB 2) (tb:=B) (nx:=λ_ H'=>Q .non H') (rt:=Q) (λi g c=>∃v,g=[some (.int d),some (.ref a),v]/\Same H c) ⟨_,rfl,j⟩ (λi g c _⟨_,_,e⟩=>l.up e) ?_ ?_
  ·rintro i x g c f ⟨v,rfl,e⟩;rw[zI]at f;cases hp':ps[i]? with
   |none=>rw[hp']at f;cases f
   |some q =>
    rw[hp']at f;cases f;obtain⟨m,u,o⟩:=kM y hp';subst eB;show tIfS _ _ _ _ [some (.int d),some (.ref a),some (.ref q)] c;ext;refine jK (DdS.up o e) λx n=>hX n ?_
    try ext
    rw[hl m (zqb u),zP rfl];refine iteF ?_;exact e
  ·rintro g c ⟨v,rfl,e⟩;exact p c e
theorem ok_1c(T:Txt K mg t):∀n:Nat,FnOk P w K mg base CX0 (n+2) t.a_1c t.d_1c ["thing"] (sp_1c n):=by
 intro n
 induction n with
 |zero =>
  apply T.F_1c.ok sc_1c
  ·obtain⟨x,rfl,⟨i,rfl⟩,d⟩:=h;refine⟨_,(oM (nK (lJ (lN (Jy T.h_k T.h_l) (by rfl) T.z_isinstance (nofun) (oJ (pq 0) (oJ (lV (oJ (fN (v:=.ty "list") rfl T.z_list (nofun) rfl) (oJ (fN (v:=.ty "tuple") rfl T.z_tuple (nofun) rfl) oK))) oK)))) Nx nJ) (oO (oW (pq 0)))),?_⟩;show tSeq _ _ _ [some (.int i)] H;ext;refine⟨by show 2<=sizeLine;decide,λp c=>⟨_,p,false,rfl,oP,.inl ⟨i,rfl,rfl⟩,false,rfl,?_⟩⟩;refine iteF ?_;exact d _ _ (Same.new c)
 | succ n m =>
  have o:=m;apply T.F_1c.ok sc_1c
  ·obtain⟨x,rfl,⟨a,xs,rfl,e,hl,j⟩,d⟩:=h;refine⟨_,(oM (nK (lJ (lN (Jy T.h_k T.h_l) (by rfl) T.z_isinstance (nofun) (oJ (pq 0) (oJ (lV (oJ (fN (v:=.ty "list") rfl T.z_list (nofun) rfl) (oJ (fN (v:=.ty "tuple") rfl T.z_tuple (nofun) rfl) oK))) oK))))
   (oO (oW (nT (sc:=oR s_1c) (N:=N_1c) (fr:=[]) (te:=(mS (sp_1c n) [] E0 (nF (tVar 0) tNil))) rfl rfl (nofun) rfl (nofun) (nV (pq 0)) (λ_ _ _ z=>(oQ o hr.mo T.F_1c (oJ (pv 0) oK))))))
   nJ)
   (oO (oW (pq 0)))),?_⟩
   show tSeq _ _ _ [some (.ref a)] H;ext;refine⟨by show 2<=sizeLine;decide,λp c=>⟨_,p,true,rfl,oP,.inr ⟨a,xs,rfl,Same.new c _ _ e,rfl⟩,true,rfl,?_⟩⟩;refine iteT ?_;have b:Same H (upd H p (.tup [.ty "list",.ty "tuple"])):=Same.new c;generalize upd H p (.tup [.ty "list",.ty "tuple"])=D at b;exfalso;refine⟨false,⟨_,SqB.lst (b _ _ e)⟩,λl v=>?_⟩;refine mU (λ_ _ _=>True) v (SqB.lst (b _ _ e)) hl (λ_ _ _ _ _ _=>trivial) ?_ ?_
   ·intro i x g zs q f _ k u;subst eB;show mS _ _ _ _ [some x] g k;ext;exact⟨x,rfl,(j x (zqb q)).up (b.trans f),λy C r=>u _ _ r trivial⟩
   ·intro g ys f _ _ _;exact d _ _ (b.trans f)
theorem ok_7(T:Txt K mg t):FnOk P w K mg base CX0 6 t.a_7 t.d_7 pu' (Vh t.a_1i):=by
 have i:=ok_1c (P:=P) (w:=w) (base:=base) T 2;apply T.F_7.ok sc_7
 ·obtain⟨e,x,rfl,a,d,g⟩:=h;have n:=2;refine⟨_,(oM (lU (Uh rfl T.m_1m T.h_a (oJ (pq 0) (oJ gM oK))))
   (oO (Ug T.h_b (oQ i hr.mo T.F_1c (oJ (pq 1) oK)) (pq 0)))),?_⟩
  show tSeq _ _ _ [some (.ref e),some x] H;unfold Ib Ia;ext;refine⟨true,a,by show 1<=sizeLine;decide,x,rfl,d,λy j c=>⟨c _ _ a,?_⟩⟩;exact g _ (λb o f z=>by rw[oT f];exact c _ _ z) oP
theorem Do{d:Nat}{x:Dd}{w:List Nat}{tb:Tb}{ks:Dd×Nat}:(nxt d x w tb ks).length<=tb.length+1:=by
 unfold nxt;split
 ·omega
 ·rw[yE];exact zE _
noncomputable def offH(a:Addr)(H:Hp):Hp:=λb=>if b=a then none else H b
theorem Jj{a:Addr}{H:Hp}:Same (offH a H) H:=λb o e=>by
 unfold offH at e
 by_cases z:b=a
 ·rw[zF z]at e;cases e
 ·rw[zD z]at e;exact e
theorem Ji{a:Addr}{d c:Hp}(s:kS a d c):Same (offH a d) (offH a c):=λb o e=>by
 unfold offH at e ⊢
 by_cases z:b=a
 ·rw[zF z]at e;cases e
 ·rw[zD z]at e ⊢;exact s _ _ z e
theorem Dm{K:Frag}{a:Addr}{H:Hp}{xs:List V}(e:H a=some (.lst xs)):TK K H (offH a H):=TK.off e (λ_ z=>by cases z) (λ_ _ z=>by cases z) λc b=>by unfold offH;rw[zD b]
def DdR(K:Frag)(a:Addr)(ms:List Dd)(j:Nat)(y:V)(H:Hp):Prop:=∃q m,y=.ref q/\ms[j]?=some m/\DdAt K (offH a H) q m
theorem DdR.mono{K:Frag}{a:Addr}{ms:List Dd}(i:Nat)(y:V)(c b:Hp)(h:DdR K a ms i y c)(s:kS a c b):DdR K a ms i y b:=let ⟨q,m,e,f,d⟩:=h;⟨q,m,e,f,d.up (Ji s)⟩
theorem Jh{a:Type}{F:Addr->a->Prop}{D:List a}{ys:List V}(hl:ys.length=D.length)(h:∀(j:Nat) y,ys[j]?=some y->∃p e,y=V.ref p/\D[j]?=some e/\F p e):∃ps:LA,ys=ps.map V.ref/\Paired F ps D:=by
 induction D generalizing ys with
 |nil =>
  obtain rfl:=vA hl;exact⟨[],rfl,.nil⟩
 |cons m ms c =>
  obtain⟨y,ys,rfl⟩:=List.exists_cons_of_length_eq_add_one hl;obtain⟨q,l,rfl,f,d⟩:=h 0 y rfl;cases f;obtain⟨b,rfl,g⟩:=c (qQ hl) λj i k=>h (j+1) i k;exact⟨q:: b,rfl,.cons d g⟩
theorem Va{K:Frag}{a:Addr}{H:Hp}{ms:List Dd}{ys:List V}(hl:ys.length=ms.length)(h:∀j y,ys[j]?=some y->DdR K a ms j y H):∃c:LA,ys=c.map V.ref/\Paired (DdAt K H) c ms:=Jh hl λj y e=>by
 obtain⟨q,m,a,b,d⟩:=h j y e;exact⟨q,m,a,b,d.up Jj⟩
theorem jL{H:Hp}{p:Addr}{x:V}{xs:List V}{i:Nat}{I:Int}{Q:VK}(e:H p=some (.lst xs))(a:xs[i]?=some x)(hi:I=i)(q:Q x H):rIxB K (.ref p) (.int I) H Q:=⟨false,p,_,_,_,rfl,rfl,SqB.lst e,kC a hi,q⟩
theorem tyL{H:Hp}{p:Addr}{xs:List V}(e:H p=some (.lst xs)):tyV K "list" (.ref p) H:=.inl ⟨rfl,xs,.inl (.inl e)⟩
def CPv(K:Frag)(H0:Hp)(G:Dd->Prop)(qs:LA)(ss:List Dd)(a as af aw:Addr)(d i most:Nat)(f:Nat->Tb)(k:Nat)(σ:St)(H:Hp):Prop:=
 ∃v7 v8 v9,σ=[some (.int d),some (.ref a),some (.int most),some (.ref as),some (.ref af),some (.ref aw),some (.int i),v7,v8,v9]/\CI K H0 qs ss as af aw (f k) H/\ND (f k)/\(∀y∈f k,G y.1)/\(f k).length<=most
theorem ok_15(T:Txt K mg t):FnOk P w K mg base (CX1 P w) 10 t.a_15 t.d_15 pt' (sp_15 K t.a_1i):=by
 have j5:=@ok_1j P w K mg base t T;have u3:=@ok_1h P w K mg base t T;have o9:=@ok_1b P w K mg base t T;have n1:=@ok_7 P w K mg base t T;refine T.F_15.okX sc_15 (λvs H Q E h=>?_) (λcdv A outer s H vs Q E hr h=>?_)
 ·obtain⟨b,d,a,ps,ms,most,O,rfl,_⟩:=h;rfl
 ·have c4:=hr.units;obtain⟨b,d,a,ps,ms,most,O,rfl,p6,j4,j3,w0,t8,p3,l6,u5,t7,n8,v9,o4,s2⟩:=h;refine⟨_,(oM (Rl (i:=3) (sc:=oR s_15) (N:=N_15) (fr:=[]) (te:=(mS (sp_1j K) [] E0 (nF (tVar 0) tNil))) rfl rfl (nofun) rfl sc_15.nd rfl rfl (nofun) (nV (pq 1)) (λ_ _ _ n4=>(oQ j5 hr.mo T.F_1j (oJ (pv 0) oK))))
   (oM (oU (i:=4) sc_15.nd rfl (Or.inl rfl) (nI (oJ (oQ u3 hr.mo T.F_1h (oJ (pq 0) oK)) oK)))
   (oM (oU (i:=5) sc_15.nd rfl (Or.inr rfl) (Ra c4 (oX (pq 4)) (nI oK)))
   (oM (oU (i:=6) sc_15.nd rfl (Or.inl rfl) oN)
   (oM (cY PassesOwn.leaving (nH bA (pq 6) (mL T.z_len (pq 4)) (nD _))
   (oM (mQ PassesOwn.leaving rfl (bO rfl T.z_enumerate (oJ (pq 3) oK)) (gN rfl (lD (nX (i:=7) sc_15.nd rfl (Or.inl rfl)) (lD (nX (i:=8) sc_15.nd rfl (Or.inl rfl)) iU)))
   (oM (oU (i:=9) sc_15.nd rfl (Or.inl rfl) (oQ j5 hr.mo T.F_1j (oJ (oQ o9 hr.mo T.F_1b (oJ (nQ ix_B (pq 4) (pq 6) (λ_ _=>rfl)) (oJ (pq 8) oK))) oK)))
   (oM (nK (nH (Re c4) (pq 9) (pq 5) rfl)
   (oM (iV (oS dO (nQ (ix_T c4) (pq 5) (nQ ix_B (pq 4) (pq 6) (λ_ _=>rfl)) (λ_ _=>rfl)) (nI (oJ (pq 7) oK))) (fO (pq 5) (pq 9) (Hm c4)))
   (oO (lU (jF yM yZ yY jG (pq 4) (oJ (pq 9) oK)))))
   nJ)
   (oO (nK (nH bB (mL T.z_len (pq 4)) (pq 2) (nD _))
   (oO (Uk rfl Uo rfl T.m_1i T.h_a.cl xF n1 hr.mo T.b_7 mC (oJ (nT (sc:=oR s_15) (N:=N_15) (fr:=[("words",5)]) (te:=(tOp (bW K) (tVar 1) (tVar 0))) rfl rfl (nofun) rfl (nofun) (nV (pq 4)) (λ_ _ _ n4=>(nQ (ix_T c4) (pv 1) (pv 0) (λ_ _=>rfl)))) oK)))
   nJ)))))
   (oO (Fy (i:=6) sc_15.nd rfl (Or.inl rfl) oN Fx))))
   (oO (oW (pq 5)))))))),?_⟩
  show tSeq _ _ _ [some (.int d),some (.ref a),some (.int most),none,none,none,none,none,none,none] H;have w2:ps.length=ms.length:=mE j3;right;exfalso;refine⟨b,⟨_,j4⟩,λas i1=>?_⟩;refine mU (DdR K as (ms.map oV)) i1 j4 (by rw[zqe];omega) DdR.mono ?_ ?_
  ·intro i x l7 zs f4 c9 k4 f9 g0;obtain⟨q,p9,rfl⟩:=gJ f4;obtain⟨m,i5,t6⟩:=kM j3 p9;have h5:=t8 m (zqb i5);subst eB;show mS _ _ _ _ [some (.ref q)] l7 f9;ext;refine⟨q,m.1,m.2.1,m.2.2,rfl,DdS.up t6 c9,by rw[h5.sq.1];omega,by rw[h5.len];omega,h5.pos,λr I v c8=>?_⟩;refine g0 _ _ v ⟨r,oV m,rfl,by rw[zI,i5];rfl,?_⟩;exact DdAt.tk (show DdAt K I r (oV m) from c8) (Dm (v _ _ k4))
  ·intro l7 ys c9 b5 m5 d9;obtain⟨N,rfl,j8⟩:=Va (by rw[m5,zqe,zqe];omega) d9;left;refine⟨d,rfl,p6,λa6 I v j2=>⟨by show 1<=sizeLine;decide,λg b9=>?_⟩⟩;have c6:Same I (upd I g (.lst [.ref a6])):=Same.new b9;have b7:(upd I g (.lst [.ref a6])) g=some (.lst [.ref a6]):=oP;generalize upd I g (.lst [.ref a6])=c0 at*
   have d3:DdAt K c0 a6 (nE d):=DdAt.up j2 c6;have e4:=c6 _ _ (v _ _ b5);have m7:=Paired.mapP j8 λ_ _ z=>z.up (v.trans c6);have e7:=(c9.trans v).trans c6;have n0:H g=none:=by
    cases z:H g with
    |none=>rfl
    |some o=>rw[v _ _ (c9 _ _ z)]at b9;cases b9
   have o7:as≠g:=λz=>by rw[z]at b5;rw[v _ _ b5]at b9;cases b9
   subst e1;refine st λN1 e1=>?_;simp only[Hi];ext;intro f U;have M:Same c0 (upd c0 f (mH f [])):=Same.new U;have e8:(upd c0 f (mH f [])) f=some (mH f []):=oP;have j6:H f=none:=by
    cases z:H f with
    |none=>rfl
    |some o=>rw[e7 _ _ z]at U;cases U
   generalize upd c0 f (mH f [])=e2 at*;ext;refine jL (i:=0) (M _ _ b7) rfl rfl ?_;refine⟨yB _,λZ a3=>?_⟩;have R:Same e2 (upd e2 Z (.lst [])):=Same.new a3;have ep:(upd e2 Z (.lst [])) Z=some (.lst []):=oP;have m1:Z≠g:=λz=>by rw[z,M _ _ b7]at a3;cases a3
   have e6:Z≠f:=λz=>by rw[z,e8]at a3;cases a3
   generalize upd e2 Z (.lst [])=p4 at*;refine⟨a6,rfl,dat (nE d),kL _,(DdAt.up d3 (M.trans R)).dt,R _ _ e8,λk9 b6 m3=>?_⟩;have k6:∀b o,H b=some o->b≠f:=λb o e z=>by rw[z,j6]at e;cases e
   have g8:TK K p4 k9:=TK.off (R _ _ e8) (λ_ z=>by cases z) (λ_ _ z=>by cases z) b6;have f1:as≠f:=λz=>by rw[z]at e4;rw[e4]at U;cases U
   have c3:g≠f:=λz=>by rw[z]at b7;rw[b7]at U;cases U
   have S:CI K H N (ms.map oV) as g f [(nE d,[])] k9:=⟨λb o e=>by rw[b6 b (k6 b o e)];exact R _ _ (M _ _ (e7 _ _ e)),⟨by rw[b6 _ f1];exact R _ _ (M _ _ e4),Paired.mapP m7 λ_ _ z=>DdAt.tk (z.up (M.trans R)) g8⟩,
    ⟨[a6],by rw[b6 _ c3];exact R _ _ (M _ _ b7),.cons (DdAt.tk (DdAt.up d3 (M.trans R)) g8) .nil⟩,⟨_,m3,.cons ⟨rfl,Z,rfl,⟨m1,lH (e7.trans M) a3⟩,by rw[b6 _ e6];exact ep⟩ .nil⟩,i1,n0,j6,o7⟩
   clear m3 g8 ep m1 e6 a3 R e8 M U m7 e4 d3 b7 c6 b9 j2 v j8 d9 m5 b5 c9 e7 c3 f1 k6 b6;left;subst e1;refine st λN1 e1=>Gm λB eB=>?_;refine⟨λm c5 H'=>∃(i:Nat)(tb:Tb)(D F C:Option V),c5=[some (.int d),some (.ref a),some (.int most),some (.ref as),some (.ref g),some (.ref f),some (.int i),D,F,C]/\CI K H N (ms.map oV) as g f tb H'/\nP d (ms.map oV) (201-i) i tb=nP d (ms.map oV) 201 0 [(nE d,[])]/\ND tb/\(∀y∈tb,O y.1)/\tb.length<=most/\m=201-i,
    ⟨201,0,_,none,none,none,rfl,S,rfl,⟨by simp,λy f8=>by rw[List.mem_singleton.mp f8];exact Nat.zero_lt_one⟩,λy f8=>by rw[pO.mp f8];exact u5,n8,rfl⟩,?_⟩
   clear S;rintro m c5 r3 ⟨i,tb,D,F,C,rfl,S,Y,nd,q4,l3,rfl⟩;ext;obtain⟨fs,o3,u1⟩:=S.fo;have fl:fs.length=tb.length:=mE u1;refine⟨false,g,_,rfl,SqB.lst o3,?_⟩
   try ext
   rw[zqe,fl]
   by_cases hi:i<tb.length
   case neg =>
    rw[zN ⋯];refine iteF ?_;symm;rw[Vf ⋯]at Y;obtain⟨kvs,c2,b0⟩:=S.wo;refine o4 (by rw[←Y];exact l3) f kvs r3 S.s S.n3 c2 ?_;rw[←Y];exact Paired.mapP b0 λ_ _ z=>let ⟨a9,p,W,f0,e3⟩:=z;⟨a9,p,W,f0.2,e3⟩
   rw[zP (show(i:Int)<tb.length by omega)];obtain⟨⟨x,u⟩,f4⟩:∃e6,tb[i]?=some e6:=⟨_,zqd hi⟩;have s5:0<201-i:=⋯
   rw[Ve hi s5,Vd f4]at Y;have v0:((ms.map oV).zipIdx.foldl (nxt d x u) tb).length<=(nP d (ms.map oV) 201 0 [(nE d,[])]).length:=by
    obtain⟨r,q2⟩:=Ds d (ms.map oV) (201-i-1) (i+1) ((ms.map oV).zipIdx.foldl (nxt d x u) tb);rw[←Y,q2,yE];omega
   refine iteT ⟨λi9 H'=>∃(a8:Tb)(D F C:Option V),i9=[some (.int d),some (.ref a),some (.int most),some (.ref as),some (.ref g),some (.ref f),some (.int (i+1:Nat)),D,F,C]/\CI K H N (ms.map oV) as g f a8 H'/\nP d (ms.map oV) (201-(i+1)) (i+1) a8=nP d (ms.map oV) 201 0 [(nE d,[])]/\ND a8/\(∀y∈a8,O y.1)/\a8.length<=most,?_,?_⟩
   ·rintro i9 H' ⟨a8,D,F,C,rfl,k1,k2,k3,g1,k5⟩;exact⟨201-(i+1),⋯,i+1,a8,D,F,C,rfl,k1,k2,k3,g1,k5,rfl⟩
   subst eB;refine st λv1 b8=>mT λB eB=>?_;simp only[dU];ext;refine⟨false,⟨_,SqB.lst S.st.1⟩,?_⟩;refine Hv (g:=gTup K 2 (lC (nB 7) (lC (nB 8) gNil))) (tb:=B) (CPv K H O N (ms.map oV) a as g f d i most (part d x u (ms.map oV) tb))
    ⟨_,_,_,rfl,S,nd,q4,l3⟩ (λk c5 H' _⟨_,_,_,_,c,_⟩=>SqB.lst c.st.1) ?_ ?_
   ·rintro k y p c5 i2 r9 ⟨D,F,C,rfl,a2,a4,d1,g4⟩ t1;obtain⟨q,j9,rfl⟩:=gJ r9;obtain⟨l,a5,_⟩:=kM a2.st.2 j9;have t3:=Same.new (o:=.tup [.int (k:Int),.ref q]) t1;refine⟨p,[.int k,.ref q],rfl,SqT.of oP,rfl,_,[.ref q],rfl,_,[],rfl,rfl,?_⟩;have h3:=a2.up t3;generalize upd i2 p (.tup [.int (k:Int),.ref q])=o5 at*
    clear a2;obtain⟨u9,r0⟩:=Vb (d:=d) (x:=x) (w:=u) (ss:=ms.map oV) (tb:=tb) k;have L:(part d x u (ms.map oV) tb k)[i]?=some (x,u):=by rw[r0,yD hi];exact f4
    have u7:=Jk (d:=d) (x:=x) (w:=u) (ss:=ms.map oV) (tb:=tb) k;have u2:=Jk (d:=d) (x:=x) (w:=u) (ss:=ms.map oV) (tb:=tb) (k+1);have p1:∀D F C H',CI K H N (ms.map oV) as g f (nxt d x u (part d x u (ms.map oV) tb k) (l,k)) H'->O (oZ d x l)->(nxt d x u (part d x u (ms.map oV) tb k) (l,k)).length<=most->CPv K H O N (ms.map oV) a as g f d i most (part d x u (ms.map oV) tb) (k+1) [some (.int d),some (.ref a),some (.int most),some (.ref as),some (.ref g),some (.ref f),some (.int i),D,F,C] H':=λD F C H' c gs o1=>⟨D,F,C,rfl,by rw[cN a5];exact c,by rw[cN a5];exact Dp a4 (zqb L),by rw[cN a5];exact Jl d1 gs,by rw[cN a5];exact o1⟩;rw[cN a5]at u2;generalize CPv K H O N (ms.map oV) a as g f d i most (part d x u (ms.map oV) tb) (k+1)=v6 at*
    generalize part d x u (ms.map oV) tb k=tk at*;obtain⟨m0,i3,l5⟩:∃m∈ms,oV m=l:=by
     have:=zqb a5;obtain⟨m,s3,q9⟩:=oE.mp this;exact⟨m,s3,q9⟩
    have l9:O x:=d1 _ (zqb L);have gs:O (oZ d x l):=by rw[←l5];exact t7 x m0 l9 i3
    have r8:=l6 x l9;have fs':mY d l:=by rw[←l5];exact p3 m0 i3
    have g3:=l6 _ gs;subst eB;show tSeq _ _ _ [some (.int d),some (.ref a),some (.int most),some (.ref as),some (.ref g),some (.ref f),some (.int i),some (.int k),some (.ref q),C] o5;refine st λv5 g9=>?_;ext;obtain⟨t2,s8,i0⟩:=h3.fo;obtain⟨g7,l0⟩:∃g7,t2[i]?=some g7:=⟨_,zqd (by rw[mE i0];exact(zqa L).1)⟩;obtain⟨w4,h9,q6⟩:=kM i0 l0;rw[L]at h9;cases h9;obtain⟨w1,i4,q5⟩:=kM h3.st.2 j9;rw[a5]at i4;cases i4;refine jL (i:=i) s8 (by rw[zI,l0];rfl) rfl ?_;refine⟨g7,q,x.1,l.1,x.2.1,l.2.1,x.2.2,l.2.2,d,rfl,mX.s q6,mX.s q5,r8,fs',⋯,⋯,λr1 u0 n6 d9=>?_⟩;have t4:DdAt K u0 r1 (behD d x l):=d9;refine⟨r1,_,_,_,rfl,mX.s t4,?_,?_,g3.pos,λr2 a1 r6 c8=>?_⟩
    ·have:=g3.sq.1;show(mulM d l.1 x.1).length<=100;have:(mulM d l.1 x.1).length=d:=this;omega
    ·have:=g3.len;have e:(nW (behD d x l).2.2 (behD d x l).2.1).length=(behD d x l).2.1.length:=by unfold nW;simp
     have:(nW (behD d x l).2.2 (behD d x l).2.1).length=d:=this;omega
    have l4:DdAt K a1 r2 (oZ d x l):=c8;have d5:=h3.up (n6.trans r6);subst g9;show tSeq _ _ _ [some (.int d),some (.ref a),some (.int most),some (.ref as),some (.ref g),some (.ref f),some (.int i),some (.int k),some (.ref q),some (.ref r2)] a1;refine st λp8 c7=>?_;have k0:∀H',CI K H N (ms.map oV) as g f (nxt d x u tk (l,k)) H'->p8 [some (.int d),some (.ref a),some (.int most),some (.ref as),some (.ref g),some (.ref f),some (.int i),some (.int k),some (.ref q),some (.ref r2)] H':=by
     intro H' e9;subst c7;ext;obtain⟨w3,h1,f3⟩:=e9.fo;refine⟨false,g,_,rfl,SqB.lst h1,?_⟩
     try ext
     rw[zqe,mE f3]
     by_cases q7:(nxt d x u tk (l,k)).length<=most
     ·rw[zN ⋯];refine iteF ?_;exact p1 _ _ _ H' e9 gs q7
     ·rw[zP ⋯];refine iteT ?_;have o2:=s2 ⋯;obtain⟨v7,p5,t9⟩:=e9.wo;exfalso;refine⟨false,⟨_,SqB.lst h1⟩,λg5 f5=>?_⟩;refine mU (λ_ y I=>∃p,y=.ref p/\p≠g5/\∃d0:List Nat,d0.length<=201/\I p=some (.lst (d0.map λn=>V.int (n:Nat)))) f5 (SqB.lst h1) (by rw[zqe,mE f3];have:=Do (d:=d) (x:=x) (w:=u) (tb:=tk) (ks:=(l,k));omega) (λ_ _ _ _⟨p,e1,b8,d0,g9,c7⟩n7=>⟨p,e1,b8,d0,g9,n7 _ _ b8 c7⟩) ?_ ?_
      ·intro j m4 I zs s6 v k4 f9 g0;obtain⟨n2,s1,rfl⟩:=gJ s6;obtain⟨p0,q1,d3⟩:=kM f3 s1;subst eB;show tOp _ _ _ [some (.ref n2),some (.ref f)] I f9;ext;rcases Dq (x:=p0.1) t9 with⟨a0,_⟩|⟨g2,d7,a0,f6,s4,d4⟩
       ·exact absurd (oE.mpr ⟨_,zqb q1,rfl⟩) a0
       refine Dr (p5.up v) (kL _) (DdAt.dt (d3.up v)) f6 ?_;refine g0 _ _ (Same.refl _) ⟨d7,rfl,(λz=>by rw[z]at d4;rw[d4]at f5;cases f5),g2,?_,v _ _ d4⟩;have s0:=(Dp (d:=d) (ks:=(l,k)) a4 (zqb L)).2 _ a0;have:=Do (d:=d) (x:=x) (w:=u) (tb:=tk) (ks:=(l,k));exact yG (uF s0) ⋯
      ·intro I ys v b8 r5 c8;refine⟨by show 1<=sizeLine;decide,λe l1=>⟨e,.ref g5,rfl,oP,?_,λc0 k3 g1=>⟨rfl,g1,?_⟩⟩⟩
       ·have i6:=Same.new (o:=XObj e t.a_1i true) l1;refine⟨g5,ys,rfl,i6 _ _ b8,by rw[r5,zqe,mE f3];have:=Do (d:=d) (x:=x) (w:=u) (tb:=tk) (ks:=(l,k));omega,λm4 u4=>?_⟩;obtain⟨j,s7⟩:=xT u4;obtain⟨n3,b5,_,d0,u8,c7⟩:=c8 j m4 s7;refine⟨n3,_,b5,i6 _ _ c7,by rw[zqe];omega,λz p7=>?_⟩;obtain⟨n,_,rfl⟩:=oE.mp p7;exact⟨_,rfl⟩
       ·refine o2 _ λb o p2=>?_;have h7:=v _ _ (e9.s b o p2);have h2:b≠e:=λz=>by rw[z,l1]at h7;cases h7
        rw[gF h2];exact k3 b o h2 (by rw[oT h2];exact h7)
    ext;obtain⟨kvs,c2,b0⟩:=d5.wo;refine Vi c2 (kL _) l4.dt ?_;rcases Dq (x:=oZ d x l) b0 with⟨a9,W⟩|⟨g2,d7,a9,W,f0,e3⟩
    case inr =>
     rw[W]
     try ext
     refine k0 a1 ?_;have g6:nxt d x u tk (l,k)=tk:=zF (oE.mpr ⟨_,a9,rfl⟩);rw[g6];exact d5
    rw[W]
    try ext
    rw[zF (by rfl)];obtain⟨a7,h4,f2⟩:=d5.fo;obtain⟨m9,i7⟩:∃m9,a7[i]?=some m9:=⟨_,zqd (by rw[mE f2];exact(zqa L).1)⟩;obtain⟨u6,j0,q3⟩:=kM f2 i7;rw[L]at j0;cases j0;refine jL (i:=i) h4 (by rw[zI,i7];rfl) rfl ?_;rcases Dq (x:=x) b0 with⟨a0,_⟩|⟨g2,d7,a0,f6,s4,d4⟩
    ·exact absurd (oE.mpr ⟨_,zqb L,rfl⟩) a0
    have o8:=Vg a4.1 L a0;subst o8;have w5:u.length<tk.length:=a4.2 _ (zqb L);have v4:tk.length=kvs.length:=mE b0;have hsz:1000<=sizeLine:=∅
    refine Dr c2 (kL _) (DdAt.dt q3) f6 ?_;refine⟨by show 1<=sizeLine;decide,λd2 t5=>?_⟩;have c1:Same a1 (upd a1 d2 (.lst [.int k])):=Same.new t5;have q8:(upd a1 d2 (.lst [.int k])) d2=some (.lst [.int k]):=oP;generalize upd a1 d2 (.lst [.int k])=e0 at*
    refine⟨d7,d2,_,_,rfl,rfl,c1 _ _ d4,q8,by rw[zqe];show u.length+1<=sizeLine;omega,λG e5=>?_⟩;have m8:Same e0 (upd e0 G (.lst ((u.map λn=>V.int (n:Nat))++[.int k]))):=Same.new e5;have l8:(upd e0 G (.lst ((u.map λn=>V.int (n:Nat))++[.int k]))) G=some (.lst ((u.map λn=>V.int (n:Nat))++[.int k])):=oP;have J:=d5.up (c1.trans m8);have l2:G≠g:=λz=>by rw[z,c1 _ _ h4]at e5;cases e5
    generalize upd e0 G (.lst ((u.map λn=>V.int (n:Nat))++[.int k]))=h6 at*;have d6:=c1.trans m8;have k8:=c2.up d6;have o0:=Paired.mapP b0 λ_ _ z=>(let ⟨a9,p,W,f0,e3⟩:=z;⟨a9,p,W,f0,d6 _ _ e3⟩:_/\∃p,_/\(p≠g/\H p=none)/\h6 p=_);have j7:=DdAt.up l4 d6;have h0:=d6 _ _ h4;have r4:=Paired.mapP f2 λ_ _ z=>DdAt.up z d6;simp only[gSub];ext;have g6:nxt d x u tk (l,k)=tk++[(oZ d x l,u++[k])]:=zD a9;have o6:pT kvs (dat (oZ d x l)) (.ref G)=kvs++[(dat (oZ d x l),.ref G)]:=by
     unfold pT;rw[W];rfl
    obtain⟨v8,d8,_,_⟩:=k8.ex;have c3:g≠f:=λz=>by rw[z,d8]at h0;cases h0
    have f1:as≠f:=λz=>by have:=J.st.1;rw[z,d8]at this;cases this
    refine⟨f,kvs,r2,dat (oZ d x l),rfl,rfl,k8,kL _,j7.dt,⋯,λX _ b4 m2=>?_⟩;rw[o6]at m2;have n9:DTr K X f (kvs++[(dat (oZ d x l),V.ref G)]):=m2;have tk1:TK K h6 X:=TK.off d8 (λ_ z=>by cases z) (λ_ _ z=>by cases z) b4;have f7:X g=some (.lst (a7.map V.ref)):=by rw[b4 g c3];exact h0
    refine⟨tyL f7,g,_,_,rfl,rfl,f7,by rw[zqe,mE f2];omega,k0 _ ?_⟩;rw[g6];have b3:∀c,c≠g->upd X g (.lst (a7.map V.ref++[.ref r2])) c=X c:=λc Y=>oT Y;have s9:upd X g (.lst (a7.map V.ref++[.ref r2])) g=some (.lst (a7.map V.ref++[.ref r2])):=oP;generalize upd X g (.lst (a7.map V.ref++[.ref r2]))=n5 at*
    have j1:TK K X n5:=TK.off f7 (λ_ z=>by cases z) (λ_ _ z=>by cases z) b3;have h8:=tk1.trans j1;have i8:∀p xs,h6 p=some (.lst xs)->p≠f:=λp xs e z=>by rw[z,d8]at e;cases e
    refine⟨λb o e=>?_,⟨?_,Paired.mapP J.st.2 λ_ _ z=>DdAt.tk z h8⟩,⟨a7++[r2],by rw[s9];simp,Paired.snoc (Paired.mapP r4 λ_ _ z=>DdAt.tk z h8) (DdAt.tk j7 h8)⟩,⟨kvs++[(dat (oZ d x l),V.ref G)],DTr.tk n9 j1 (b3 f (yA c3)),Paired.snoc (Paired.mapP o0 λ_ _ z=>?_) ⟨rfl,G,rfl,⟨l2,lH (λb o e=>c1 _ _ (d5.s b o e)) e5⟩,?_⟩⟩,J.n1,J.n2,J.n3,J.x1⟩
    ·have b1:b≠g:=λz=>by rw[z,J.n2]at e;cases e
     have b2:b≠f:=λz=>by rw[z,J.n3]at e;cases e
     rw[b3 b b1,b4 b b2];exact J.s b o e
    ·rw[b3 as J.x1,b4 as f1];exact J.st.1
    ·obtain⟨r7,p,t0,k7,m6⟩:=z;refine⟨r7,p,t0,k7,?_⟩;rw[b3 p k7.1,b4 p (i8 _ _ m6)];exact m6
    ·rw[b3 G l2,b4 G (i8 _ _ l8),l8];simp
   ·rintro c5 i2 ⟨D,F,C,rfl,a2,a4,d1,g4⟩;have q0:(N.map V.ref).length=(ms.map oV).length:=by rw[zqe];exact mE a2.st.2
    rw[q0,Vc]at a2 a4 d1 g4;subst b8;refine⟨.int i,rfl,?_⟩;unfold tC ipI;refine⟨i,1,rfl,rfl,?_⟩;refine⟨_,D,F,C,rfl,a2,?_,a4,d1,g4⟩;rw[show 201-(i+1)=201-i-1 by omega];exact Y
theorem Dl:∀{l a:LI'},l.length=a.length->smA (l.map PyData.int) (a.map PyData.int)=true
 |[],[],_=>rfl
 |_:: l,_:: a,h=>by
  show(sm (.int _) (.int _) && smA (l.map PyData.int) (a.map PyData.int))=true;rw[Dl (by simpa using h)];rfl
theorem Jg{d:Nat}:∀{M a:LM},M.length=a.length->(∀r∈M,r.length=d)->(∀r∈a,r.length=d)->smA (M.map λr=>PyData.tuple (r.map PyData.int)) (a.map λr=>PyData.tuple (r.map PyData.int))=true
 |[],[],_,_,_=>rfl
 |r:: M,c:: a,h,f,e=>by
  show(smA (r.map PyData.int) (c.map PyData.int) && smA (M.map λr=>PyData.tuple (r.map PyData.int)) (a.map λr=>PyData.tuple (r.map PyData.int)))=true;rw[Dl ((f r (.head _)).trans (e c (.head _)).symm),Jg (by simpa using h) (λx b=>f x (.tail _ b)) λx b=>e x (.tail _ b)];rfl
theorem Wz{d:Nat}{x y:Dd}(b:mY d x)(a:mY d y):sm (dat x) (dat y)=true:=by
 show(smA (x.1.map λr=>PyData.tuple (r.map PyData.int)) (y.1.map λr=>PyData.tuple (r.map PyData.int)) && (smA (x.2.1.map PyData.int) (y.2.1.map PyData.int) && (sm (.int _) (.int _) && true)))=true;rw[Jg (b.sq.1.trans a.sq.1.symm) b.sq.2 a.sq.2,Dl (b.len.trans a.len.symm)];rfl
noncomputable def Wy(d:Nat)(lg lo ls ln:Addr):List (Str×V):=[(Str.ofString "dimension",.int d),(Str.ofString "given",.ref lg),(Str.ofString "ordered",.ref lo),(Str.ofString "shortest",.ref ls),(Str.ofString "numbers",.ref ln)]
noncomputable abbrev fG1(d:Nat):List (Str×V):=[(Str.ofString "dimension",.int d)]
noncomputable abbrev fG2(d:Nat)(lg:Addr):List (Str×V):=[(Str.ofString "dimension",.int d),(Str.ofString "given",.ref lg)]
noncomputable abbrev fG3(d:Nat)(lg lo:Addr):List (Str×V):=[(Str.ofString "dimension",.int d),(Str.ofString "given",.ref lg),(Str.ofString "ordered",.ref lo)]
noncomputable abbrev fG4(d:Nat)(lg lo ls:Addr):List (Str×V):=[(Str.ofString "dimension",.int d),(Str.ofString "given",.ref lg),(Str.ofString "ordered",.ref lo),(Str.ofString "shortest",.ref ls)]
noncomputable abbrev fG5(d:Nat)(lg lo ls ln:Addr):List (Str×V):=[(Str.ofString "dimension",.int d),(Str.ofString "given",.ref lg),(Str.ofString "ordered",.ref lo),(Str.ofString "shortest",.ref ls),(Str.ofString "numbers",.ref ln)]
noncomputable def numT(srt:Tb)(n:Nat):List (PyData×V):=(srt.zipIdx n).map λp=>(dat p.1.1,V.int ((p.2:Nat):Int))
structure GrpF(K:Frag)(t:Adr)(H:Hp)(g:Addr)(d:Nat)(ms:List Dd)(srt:Tb):Prop where
 ex:∃dx lg lo ls ln,H g=some (.ins t.a_4 dx (Wy d lg lo ls ln))/\(∃gs:LA,H lg=some (.lst (gs.map V.ref))/\Paired (DdS K H) gs ms) /\
  (∃os:LA,H lo=some (.lst (os.map V.ref))/\Paired (λp x=>Dt K H (.ref p) (dat x.1)) os srt) /\
  (∃ws:LA,H ls=some (.lst (ws.map V.ref))/\Paired (λp(x:Dd×List Nat)=>H p=some (.lst (x.2.map λn=>V.int (n:Nat)))) ws srt)/\DTr K H ln (numT srt 0)
def Jf(K:Frag)(t:Adr):Sp:=λvs H Q E=>E9 λ(b:Bool)(d:Nat)(a x dx:Addr)(ps:LA)(ms:List Dd)(G:Dd->Prop)(most:Nat)=>A17 (vs=[.ref x,.int d,.ref a,.int most]) (H x=some (.ins t.a_4 dx [])) ((d=2\/d=3)) (SqB b K H a (ps.map V.ref)) (Paired (DdS K H) ps ms) (ms.length<=200) ((∀s∈ms,mY d s)) ((∀s∈ms,mY d (oV s))) ((∀x,G x->mY d x)) (G (nE d)) ((∀x s,G x->s∈ms->G (oZ d x (oV s)))) (1<=most) (most<=200) ((∀y∈nP d (ms.map oV) 201 0 [(nE d,[])],mY d y.1)) (((nP d (ms.map oV) 201 0 [(nE d,[])]).map (·.1)).Nodup) (((nP d (ms.map oV) 201 0 [(nE d,[])]).length<=most->∀srt H',(∀b o,b≠x->H b=some o->H' b=some o)->GrpF K t H' x d ms srt->(∀a l,H a=some (.lst l)->GrpF K t (offH a H') x d ms srt)->srt.Perm (nP d (ms.map oV) 201 0 [(nE d,[])])->srt.Pairwise (λp q=>lx (fl (dat q.1)) (fl (dat p.1))=false)->Q .non H')) ((most<(nP d (ms.map oV) 201 0 [(nE d,[])]).length->∀H',Same H H'->E (.ref t.a_1i) none H'))
theorem Je{c d:Type}{f:c->d}:∀{l:List d}{tb:List c},l.Perm (tb.map f)->∃srt:List c,srt.Perm tb/\srt.map f=l
 |[],tb,h=>by
  have:=h.length_eq;rw[zqe]at this;exact⟨[],by rw[List.length_eq_zero_iff.mp this.symm],rfl⟩
 | b:: l,tb,h=>by
  obtain⟨a,i,e⟩:=oE.mp (h.mem_iff.mp (zZ));obtain⟨s,r,rfl⟩:=List.append_of_mem i;have g:(b:: l).Perm (b:: (s++r).map f):=by
   refine h.trans ?_;rw[xD,zK,e,xD];exact List.perm_middle
  obtain⟨srt,p,q⟩:=Je (List.Perm.cons_inv g);exact⟨a:: srt,(List.Perm.cons a p).trans List.perm_middle.symm,by rw[zK,e,q]⟩
def KX(x:Addr)(H H':Hp):Prop:=∀b o,b≠x->H b=some o->H' b=some o
theorem KX.same{x:Addr}{H H':Hp}(s:Same H H'):KX x H H':=λb o _ e=>s b o e
theorem KX.put{x:Addr}{H:Hp}{o:HO}:KX x H (upd H x o):=λb c a e=>by rw[oT a];exact e
theorem KX.trans{x:Addr}{H g f:Hp}(a:KX x H g)(b:KX x g f):KX x H f:=λc o d e=>b c o d (a c o d e)
theorem KX.tk{K:Frag}{x C d:Addr}{fs:List (Str×V)}{H H':Hp}(k:KX x H H')(e:H x=some (.ins C d fs)):TK K H H':=by
 have a:∀b xs,H b=some (.tup xs)->H' b=some (.tup xs):=λb xs q=>k b _ (λz=>by rw[z,e]at q;cases q) q;refine⟨a,λb xs q=>?_⟩;rcases q with(q|⟨c,q⟩)|q
 ·exact .inl (.inl (a _ _ q))
 ·exact .inl (.inr ⟨c,k b _ (λz=>by rw[z,e]at q;cases q) q⟩)
 ·exact .inr q
theorem Wx{H0 H:Hp}{x:Dd}{w:List Nat}{p:Addr}:∀{tb:Tb}{kvs:List (PyData×V)},TbAt H0 H tb kvs->(tb.map (·.1)).Nodup->(x,w)∈tb->vT kvs (dat x)=some (.ref p)->H0 p=none/\H p=some (.lst (w.map λn=>V.int (n:Nat))):=by
 intro tb kvs h
 induction h with
 |nil=>intro _ a;cases a
 |@cons y f tb kvs d _ g =>
  intro nd a e;obtain⟨e1,q,c,b⟩:=d;rw[zK,tV]at nd;rcases xH.mp a with a|a
  ·rw[←a]at e1 b;rw[dZ e1,c]at e;cases e;exact b
  ·have i:¬ f.1=dat x:=λq=>nd.1 (by rw[eT.mp (e1.symm.trans q)];exact oE.mpr ⟨_,a,rfl⟩);rw[gZ i]at e;exact g nd.2 a e
theorem Ww{K:Frag}{H:Hp}{C x d a:Addr}{fs:List (Str×V)}{o:HO}{b:Bool}{xs:List V}(e:H x=some (.ins C d fs))(h:SqB b K H a xs):SqB b K (upd H x o) a xs:=by
 cases b with
 |false =>
  rcases(show SqL K H a xs from h) with(h|⟨c,h⟩)|h
  ·exact(.inl (.inl (by rw[oT (λz=>by rw[z,e]at h;cases h)];exact h)):SqL K (upd H x o) a xs)
  ·exact(.inl (.inr ⟨c,by rw[oT (λz=>by rw[z,e]at h;cases h)];exact h⟩):SqL K (upd H x o) a xs)
  ·exact(.inr h:SqL K (upd H x o) a xs)
 |true =>
  rcases(show SqT K H a xs from h) with(h|⟨c,h⟩)|h
  ·exact(.inl (.inl (by rw[oT (λz=>by rw[z,e]at h;cases h)];exact h)):SqT K (upd H x o) a xs)
  ·exact(.inl (.inr ⟨c,by rw[oT (λz=>by rw[z,e]at h;cases h)];exact h⟩):SqT K (upd H x o) a xs)
  ·exact(.inr h:SqT K (upd H x o) a xs)
theorem Wv{H:Hp}{v:V}{ds:List PyData}(h:Dt K H v (.tuple ds)):∃q,v=V.ref q:=by
 cases h;exact⟨_,rfl⟩
theorem fG{H:Hp}{a:St}{i:Nat}{C x b:Addr}{fs:List (Str×V)}{f:Str}{v:V}{Q:VK}(d:a[i]?=some (some (V.ref x)))(e:H x=some (.ins C b fs))(c:Cls K C)(n:gR K C f)(l:fs.lookup f=some v)(q:Q v H):tFld K (tVar i) f a H Q:=⟨_,d,x,C,b,fs,v,rfl,e,c,n,l,q⟩
theorem Wu{H0 H:Hp}:∀{tb:Tb}{kvs:List (PyData×V)},TbAt H0 H tb kvs->∀y∈tb,∃p,vT kvs (dat y.1)=some (V.ref p):=by
 intro tb kvs h
 induction h with
 |nil=>intro y a;cases a
 | @cons z c tb kvs d _ e =>
  intro y a;obtain⟨e1,p,b,_⟩:=d
  by_cases q:c.1=dat y.1
  ·exact⟨p,by rw[dZ q,b]⟩
  ·rw[gZ q];rcases xH.mp a with a|a
   ·exact absurd (by rw[e1,a]) q
   ·exact e y a
theorem Ws{K:Frag}{H:Hp}{ps:List (V×PyData)}{zs:List V}{n:Nat}(hl:zs.length=ps.length)(d:∀p∈ps,tT 4 p.2=true/\Dt K H p.1 p.2/\∃q,p.1=V.ref q)(e:∀j y,zs[j]?=some y->∃p m,y=V.ref p/\ps[j]?=some m/\H p=some (.tup [m.1,.int ((n+j:Nat):Int)])):
  ∃ts:List (Addr×PyData×Addr×V),zs=ts.map (λt=>V.ref t.1)/\(ts.map (·.2.1)=ps.map (·.2)/\ts.map (λt=>(t.2.1,t.2.2.2))=(ps.zipIdx n).map λp=>(p.1.2,V.int ((p.2:Nat):Int)))/\∀t∈ts,SqT K H t.1 [.ref t.2.2.1,t.2.2.2]/\tT 4 t.2.1=true/\Dt K H (.ref t.2.2.1) t.2.1:=by
 induction ps generalizing zs n with
 |nil =>
  obtain rfl:=vA hl;exact⟨[],rfl,⟨rfl,rfl⟩,λ_ h=>nomatch h⟩
 | cons p ps u =>
  obtain⟨z,zs,rfl⟩:=List.exists_cons_of_length_eq_add_one hl;obtain⟨a,m,e1,G,c⟩:=e 0 z rfl;cases G;obtain⟨J,f,q,C⟩:=d p (.head _);obtain⟨ts,l,⟨F,k⟩,g⟩:=u (zs:=zs) (n:=n+1) (qQ hl) (λx i=>d x (.tail _ i)) λj y L=>by
   obtain⟨o,r,v,I,D⟩:=e (j+1) y L;exact⟨o,r,v,I,by rw[D,show n+(j+1)=n+1+j by omega]⟩
  rw[C]at c f;refine⟨(a,p.2,q,.int ((n+0:Nat):Int)):: ts,by rw[e1,l];rfl,⟨by rw[zK,zK,F],by rw[zK,vZ,zK,k];rfl⟩,λt b=>?_⟩;rcases xH.mp b with b|b
  ·rw[b];exact⟨SqT.of c,J,f⟩
  ·exact g t b
theorem ord_of{K:Frag}{H:Hp}:∀{ps:List (V×PyData)}{srt:Tb},(srt.map λy=>dat y.1)=ps.map (·.2)->(∀p∈ps,Dt K H p.1 p.2/\(∃q,p.1=V.ref q))->∃a:LA,ps.map (·.1)=a.map V.ref/\Paired (λp(x:Dd×List Nat)=>Dt K H (.ref p) (dat x.1)) a srt
 |[],[],_,_=>⟨[],rfl,.nil⟩
 |[],_:: _,h,_=>by simp at h
 |_:: _,[],h,_=>by simp at h
 |p:: ps,y:: srt,e,h=>by
  rw[zK,zK,yR]at e;obtain⟨a,e1,f⟩:=ord_of (ps:=ps) (srt:=srt) e.2 λx d=>h x (.tail _ d);obtain⟨b,q,c⟩:=h p (.head _);rw[c,←e.1]at b;exact⟨q:: a,by rw[zK,zK,e1,c],.cons b f⟩
theorem Wq{H:Hp}{kvs:List (PyData×V)}{srt:Tb}{ys:List V}(hl:ys.length=srt.length)(h:∀(j:Nat) y,ys[j]?=some y->∃p m,y=V.ref p/\srt[j]?=some m/\vT kvs (dat m.1)=some (V.ref p))
  (f:∀m∈srt,∀p,vT kvs (dat m.1)=some (V.ref p)->H p=some (.lst (m.2.map λn=>V.int (n:Nat)))):∃d:LA,ys=d.map V.ref/\Paired (λp(x:Dd×List Nat)=>H p=some (.lst (x.2.map λn=>V.int (n:Nat)))) d srt:=Jh hl λj y e=>by
 obtain⟨p,m,a,b,c⟩:=h j y e;exact⟨p,m,a,b,f m (zqb b) p c⟩
theorem Jd:∀{srt:Tb}{ps:List (V×PyData)},(srt.map λy=>dat y.1)=ps.map (·.2)->∀n,((srt.zipIdx n).map λp=>(dat p.1.1,V.int ((p.2:Nat):Int)))=(ps.zipIdx n).map λp=>(p.1.2,V.int ((p.2:Nat):Int))
 |[],[],_,_=>rfl
 |[],_:: _,h,_=>by simp at h
 |_:: _,[],h,_=>by simp at h
 |y:: srt,p:: ps,e,n=>by
  rw[zK,zK,yR]at e;rw[vZ,vZ,zK,zK,Jd e.2 (n+1),e.1]
structure GI(K:Frag)(H0:Hp)(C x dx wd:Addr)(fs:List (Str×V))(tb:Tb)(kvs:List (PyData×V))(H:Hp):Prop where
 hx:H x=some (.ins C dx fs)
 s:∀b o,b≠x->H0 b=some o->H b=some o
 D:DTr K H wd kvs
 T:TbAt H0 H tb kvs
theorem GI.up{K:Frag}{H0 H H':Hp}{C x c a:Addr}{fs:List (Str×V)}{tb:Tb}{kvs:List (PyData×V)}(h:GI K H0 C x c a fs tb kvs H)(s:Same H H'):GI K H0 C x c a fs tb kvs H':=
 ⟨s _ _ h.hx,λb o d e=>s _ _ (h.s b o d e),h.D.up s,Paired.mapP h.T λ_ _ z=>let ⟨g,p,j,i,f⟩:=z;⟨g,p,j,i,s _ _ f⟩⟩
theorem aZ{K:Frag}{H:Hp}{C x a:Addr}{fs fs':List (Str×V)}(e:H x=some (.ins C a fs)):TK K H (upd H x (.ins C a fs')):=TK.off e (λ_ z=>by cases z) (λ_ _ z=>by cases z) λ_ b=>oT b
theorem GI.put{K:Frag}{H0 H:Hp}{C x d c:Addr}{fs:List (Str×V)}{tb:Tb}{kvs:List (PyData×V)}(h:GI K H0 C x d c fs tb kvs H)(fs':List (Str×V)):GI K H0 C x d c fs' tb kvs (upd H x (.ins C d fs')):=by
 have g:c≠x:=λz=>by
  obtain⟨_,_,xs,e,_⟩:=h.D;rw[z,h.hx]at e;cases e
 refine⟨oP,λb o f e=>?_,DTr.tk h.D (aZ h.hx) (oT g),Paired.mapP h.T λ_ _ z=>?_⟩
 ·rw[oT f];exact h.s b o f e
 ·obtain⟨i,p,k,j,a⟩:=z;have:p≠x:=λq=>by rw[q,h.hx]at a;cases a
  exact⟨i,p,k,j,by rw[oT this];exact a⟩
theorem GI.non{K:Frag}{H0 H:Hp}{C x c a b:Addr}{fs:List (Str×V)}{tb:Tb}{kvs:List (PyData×V)}(h:GI K H0 C x c a fs tb kvs H)(e:H b=none):H0 b=none:=by
 cases z:H0 b with
 |none=>rfl
 |some o =>
  by_cases q:b=x
  ·rw[q,h.hx]at e;cases e
  ·rw[h.s b o q z]at e;cases e
theorem ok_0(T:Txt K mg t):FnOk P w K mg base (CX1 P w) 12 t.a_0 t.d_0 pm' (Jf K t):=by
 have h3:=@ok_x P w K mg base t T;have l2:=@ok_w P w K mg base t T;have n4:=@ok_15 P w K mg base t T;refine T.F_0.okX sc_0 (λvs H Q E h=>?_) (λcdv A outer s H vs Q E hr h=>?_)
 ·obtain⟨b,d,a,x,g,ps,ms,g1,most,rfl,_⟩:=h;rfl
 ·have d1:=hr.units;obtain⟨b,d,a,x,g,ps,ms,g1,most,rfl,c2,f5,c7,c6,d6,g8,j4,g5,h1,n5,f0,d5,n2,g6,c0,g3⟩:=h;refine⟨_,(oM (lU (oQ h3 hr.mo T.F_x (oJ (pv 3) oK)))
   (oM (lU (oQ l2 hr.mo T.F_w (oJ (pv 1) (oJ (pv 2) oK))))
   (oM (oU (i:=4) sc_0.nd rfl (Or.inr rfl) (Pf n4 hr.mo rfl T.F_15.m T.F_15.kp T.F_15.b .nil Pi (oJ (pv 1) (oJ (pv 2) (oJ (pv 3) oK)))))
   (oM (dJ (pv 0) (pv 1) rfl)
   (oM (dJ (pv 0) (mB kR rfl T.z_list (nofun) (oJ (pv 2) oK)) rfl)
   (oM (dJ (pv 0) (lN (Tf (N:=200) Vj d1 rfl) rfl T.z_sorted (nofun) (oJ (pv 4) oK)) rfl)
   (oM (dJ (pv 0) (nT (sc:=oR s_0) (N:=N_0) (fr:=[("words",4)]) (te:=(tOp (bW K) (tVar 1) (tVar 0))) rfl rfl (nofun) rfl (nofun) (nV (iE (pv 0) rfl)) (λ_ _ _ a4=>(nQ (ix_T d1) (pv 1) (pv 0) (λ_ _=>rfl)))) rfl)
   (oO (dJ (pv 0) (mB (Uv d1 rfl) rfl T.z_dict (nofun) (oJ (iJ (xs:=["number","member"]) (fr:=[]) (g:=(gTup K 2 (lC (nB 0) (lC (nB 1) gNil)))) (tt:=(tEl (tTup (nF (tVar 1) (nF (tVar 0) tNil))))) (kQ (sc:=oR s_0) (N:=N_0) rfl rfl (nofun)) rfl (bO rfl T.z_enumerate (oJ (iE (pv 0) rfl) oK)) (λ_ _ _ a4=>(gN rfl (lD (jS (N:=["number","member"]) (i:=0) a4 rfl (nofun)) (lD (jS (N:=["number","member"]) (i:=1) a4 rfl (nofun)) iU)))) (λ_ _ _ a4=>(jI (lV (oJ (pv 1) (oJ (pv 0) oK)))))) oK)) rfl))))))))),?_⟩
  show tSeq _ _ _ [some (.ref x),some (.int d),some (.ref a),some (.int most),none] H;right;refine⟨most,rfl,f0,d5,?_⟩;left;refine⟨b,d,a,ps,ms,rfl,f5,c7,c6,λs i3=>(g8 s i3).sq.1,λp1 Z=>?_⟩;left;refine⟨b,d,a,ps,ms,most,g1,rfl,f5,c7.up Z,Paired.mapP c6 λ_ _ z=>z.up Z,d6,g8,j4,g5,h1,n5,f0,d5,λb0 e3 kvs N d0 p0 n3 k8=>?_,λb0 N d0=>g3 b0 N (Z.trans d0)⟩;have c0:=c0 b0;have p2:=yG b0 d5;clear g3;generalize nP d (ms.map oV) 201 0 [(nE d,[])]=tb at*
  have e2:=Z.trans d0;have b7:=e2 _ _ c2;subst e1;refine st λN1 e1=>?_;simp only[sFld];ext;have e6:GI K H t.a_4 x g e3 [] tb kvs N:=⟨b7,λb o _ e=>e2 _ _ e,n3,Paired.mapP k8 λ_ _ z=>let ⟨o2,p,i4,m4,j8⟩:=z;⟨o2,p,i4,lH Z m4,j8⟩⟩;refine⟨_,_,_,b7,T.cl_4,T.h_5,∅,?_⟩;have e0:=e6.put (fG1 d);have sq3:SqB b K (upd N x (.ins t.a_4 g (fG1 d))) a (ps.map V.ref):=Ww b7 (c7.up e2);show N1 _ (upd N x (.ins t.a_4 g (fG1 d)));generalize upd N x (.ins t.a_4 g (fG1 d))=b5 at*
  clear e6;subst e1;refine st λN1 e1=>?_;simp only[sFld];ext;refine⟨b,a,_,rfl,sq3,λf b2=>?_⟩;have l9:Same b5 (upd b5 f (.lst (ps.map V.ref))):=Same.new b2;have h6:(upd b5 f (.lst (ps.map V.ref))) f=some (.lst (ps.map V.ref)):=oP;have n0:f≠x:=λz=>by rw[z,e0.hx]at b2;cases b2
  have l3:=e0.non b2;have h0:=e0.up l9;generalize upd b5 f (.lst (ps.map V.ref))=G at*
  refine⟨_,_,_,h0.hx,T.cl_4,T.h_h,by show 1<1000;decide,?_⟩;have a2:=h0.put (fG2 d f);have m5:KX x G (upd G x (.ins t.a_4 g (fG2 d f))):=KX.put;show N1 _ (upd G x (.ins t.a_4 g (fG2 d f)));generalize upd G x (.ins t.a_4 g (fG2 d f))=o7 at*
  subst e1;refine st λN1 e1=>?_;simp only[sFld];ext;have o9:tb.length=kvs.length:=mE a2.T;have f8:∀I∈kvs,∃y∈tb,I.1=dat y.1:=λI a1=>by
   obtain⟨y,W,z⟩:=Ct a2.T I a1;exact⟨y,W,z.1⟩
  have k4:=g5 _ h1;refine⟨e3,kvs,[.tuple ((List.replicate d (0:Int)).map PyData.int),.int 1],(idM d).map (λr=>PyData.tuple (r.map PyData.int)),rfl,⋯,a2.D,λI a1=>?_,λlo u Y d4 j5 a7 a6 b1 k3=>?_⟩
  ·obtain⟨y,W,e⟩:=f8 I a1;rw[e];exact Wz k4 (n2 y W)
  have l7:=a2.non j5;have b4:=a2.up d4;have m9:=m5.trans (KX.same d4);refine⟨_,_,_,b4.hx,T.cl_4,T.h_8,by show 2<1000;decide,?_⟩;have pl:u.length<=200:=by
   have:=b1.length_eq;rw[zqe,zqe]at this;omega
  have o4:=a7;have R:=b4.put (fG3 d f lo);have b6:lo≠x:=λz=>by rw[z,b4.hx]at a7;cases a7
  have m2:KX x G (upd Y x (.ins t.a_4 g (fG3 d f lo))):=m9.trans KX.put;have d2:(upd Y x (.ins t.a_4 g (fG3 d f lo))) lo=some (.lst (u.map (·.1))):=by rw[oT b6];exact a7
  have U:∀p∈u,tT 4 p.2=true/\Dt K (upd Y x (.ins t.a_4 g (fG3 d f lo))) p.1 p.2:=λp c=>⟨(a6 p c).1,kJ (aZ b4.hx).t 4 (a6 p c).1 (kJ (lP d4) 4 (a6 p c).1 (a6 p c).2)⟩;show N1 _ (upd Y x (.ins t.a_4 g (fG3 d f lo)));generalize upd Y x (.ins t.a_4 g (fG3 d f lo))=o8 at*
  -- every member is a reference to one of the dict's keys
  have mem:∀p∈u,∃y∈tb,p.2=dat y.1:=λp c=>by
   have:p.2∈kvs.map (·.1):=b1.mem_iff.mp (oE.mpr ⟨p,c,rfl⟩);obtain⟨I,a1,e⟩:=oE.mp this;obtain⟨y,W,c9⟩:=f8 I a1;exact⟨y,W,by rw[←e,c9]⟩
  have e7:kvs.map (·.1)=tb.map λy=>dat y.1:=by
   have:∀{H0 H':Hp}{tb:Tb}{kvs:List (PyData×V)},TbAt H0 H' tb kvs->kvs.map (·.1)=tb.map λy=>dat y.1:=by
    intro H0 H' tb kvs h
    induction h with
    |nil=>rfl
    |cons c8 _ j6=>rw[zK,zK,j6,c8.1]
   exact this R.T
  obtain⟨srt,g4,X⟩:=Je (f:=λy:Dd×List Nat=>dat y.1) (l:=u.map (·.2)) (tb:=tb) (by rw[←e7];exact b1);have m1:srt.length=u.length:=by have:=wI List.length X;simpa using this
  have c1:∀p∈u,∃q,p.1=V.ref q:=λp c=>by
   obtain⟨y,_,e⟩:=mem p c;have e8:=(U p c).2;rw[e]at e8;exact Wv e8
  subst e1;refine st λN1 e1=>?_;simp only[sFld];refine nN λB eB=>?_;simp only[iSeq];refine fG rfl R.hx T.cl_4 T.h_8 rfl ?_;refine⟨false,lo,rfl,⟨_,SqB.lst d2⟩,λk a9=>?_⟩;refine mU (λj y _=>∃(p:Addr)(m:Dd×List Nat),y=V.ref p/\srt[j]?=some m/\vT kvs (dat m.1)=some (V.ref p)) a9 (SqB.lst d2) (by rw[zqe];omega) (λ_ _ _ _ h _=>h) ?_ ?_
  ·intro i y C zs d7 F f7 c3 c5;obtain⟨p,c,rfl⟩:=gJ d7;have b9:=zqb c;obtain⟨q,l6⟩:=c1 p b9;obtain⟨n1,n7,l4⟩:=mem p b9;obtain⟨f3,f9⟩:=U p b9;subst eB;show tOp _ _ _ [some p.1,some (.ref e3)] C c3;ext;rw[l6]at f9 ⊢;have M:=R.up F;obtain⟨i5,d8⟩:=Wu M.T n1 n7;rw[←l4]at d8;refine Dr M.D f3 (kJ (lP F) 4 f3 f9) d8 ?_;have i8:∃m,srt[i]?=some m/\dat m.1=p.2:=by
    have e:=wI (λl=>l[i]?) X;simp only[List.getElem?_map,c,Option.map_some]at e;cases hm2:srt[i]? with
    |none=>rw[hm2]at e;cases e
    |some m=>rw[hm2]at e;exact⟨m,rfl,zW e⟩
   obtain⟨m,b8,n6⟩:=i8;exact c5 _ _ (Same.refl _) ⟨i5,m,rfl,b8,by rw[n6];exact d8⟩
  ·intro C ys F j1 i7 j3;have k6:=R.non a9;have M:=R.up F;have e9:k≠x:=λz=>by rw[z,R.hx]at a9;cases a9
   have m0:=m2.trans (KX.same F);have l0:KX x G (upd C x (.ins t.a_4 g (fG4 d f lo k))):=m0.trans KX.put;have i9:(upd C x (.ins t.a_4 g (fG4 d f lo k))) k=some (.lst ys):=by rw[oT e9];exact j1
   refine⟨.ref x,rfl,x,_,_,_,rfl,M.hx,T.cl_4,T.h_6,by show 3<1000;decide,?_⟩;have f4:=M.put (fG4 d f lo k);have d3:(upd C x (.ins t.a_4 g (fG4 d f lo k))) lo=some (.lst (u.map (·.1))):=by rw[oT b6];exact F _ _ d2
   have D:∀p∈u,tT 4 p.2=true/\Dt K (upd C x (.ins t.a_4 g (fG4 d f lo k))) p.1 p.2:=λp c=>⟨(U p c).1,kJ (aZ M.hx).t 4 (U p c).1 (kJ (lP F) 4 (U p c).1 (U p c).2)⟩;show N1 _ (upd C x (.ins t.a_4 g (fG4 d f lo k)));generalize upd C x (.ins t.a_4 g (fG4 d f lo k))=o6 at*
   subst e1;simp only[sFld];ext;refine nN λB eB=>?_;simp only[dU];ext;refine fG rfl f4.hx T.cl_4 T.h_8 rfl ?_;refine⟨false,lo,rfl,⟨_,SqB.lst d3⟩,λg9 k0=>?_⟩;refine Qf (λj y H=>∃p m,y=V.ref p/\p≠g9/\u[j]?=some m/\H p=some (.tup [m.1,.int (j:Int)])) k0 (SqB.lst d3) (by rw[zqe];omega) (λ_ _ _ _⟨p,m,e,n,b8,h⟩h8=>⟨p,m,e,n,b8,h8 _ _ n h⟩) ?_ ?_
   ·intro i y e4 zs d7 a5 f7 c3 c5;obtain⟨p,c,rfl⟩:=gJ d7;subst eB;show tTup _ [some (.int i),some p.1] e4 c3;ext;refine⟨by show 2<=sizeLine;decide,λq d9=>?_⟩;refine c5 _ _ (Same.new d9) ⟨q,p,rfl,(λz=>by rw[z,f7]at d9;cases d9),c,oP⟩
   ·intro e4 zs a5 l1 n9 c8;obtain⟨ts,h4,⟨j7,m6⟩,k7⟩:=Ws (K:=K) (H:=e4) (ps:=u) (zs:=zs) (n:=0) (by rw[n9,zqe]) (λp c=>⟨(D p c).1,kJ (lP a5) 4 (D p c).1 (D p c).2,c1 p c⟩) λj y j2=>by
     obtain⟨p,m,i2,_,o0,n8⟩:=c8 j y j2;exact⟨p,m,i2,o0,by rw[xO];exact n8⟩
    have f1:=f4.up a5;have j0:(u.map (·.2)).Nodup:=b1.nodup_iff.mpr (by
     rw[e7,show(tb.map λy=>dat y.1)=(tb.map (·.1)).map dat by rw[xJ];rfl];exact List.Pairwise.map dat (λa b h e=>h (eT.mp e)) g6)
    refine⟨g9,ts,rfl,by rw[←h4];exact .inl (.inl l1),k7,by rw[j7];exact j0,λv J g0 i0 e5=>?_⟩;have h7:=f1.non i0;have a3:=f1.up g0;refine⟨_,_,_,a3.hx,T.cl_4,T.h_9,by show 4<1000;decide,?_⟩;have a8:=a5.trans g0;have f6:=aZ (K:=K) (fs':=(fG5 d f lo k v)) a3.hx;have a0:=a3.put (fG5 d f lo k v);show Q .non (upd J x (.ins t.a_4 g (fG5 d f lo k v)));have l5:KX x J (upd J x (.ins t.a_4 g (fG5 d f lo k v))):=KX.put;have j9:(upd J x (.ins t.a_4 g (fG5 d f lo k v))) k=some (.lst ys):=by rw[oT e9];exact a8 _ _ i9
    have m7:v≠x:=λz=>by
     obtain⟨_,_,xs,e,_⟩:=e5;rw[z,a3.hx]at e;cases e
    have i6:=DTr.tk e5 f6 (oT m7);have i1:(upd J x (.ins t.a_4 g (fG5 d f lo k v))) lo=some (.lst (u.map (·.1))):=by rw[oT b6];exact a8 _ _ d3
    generalize upd J x (.ins t.a_4 g (fG5 d f lo k v))=O at*;have o3:KX x G O:=((l0.trans (KX.same a8)).trans l5);have h5:TK K H O:=KX.tk (λb o o1 e=>a0.s b o o1 e) c2;have h2:∀L:Hp,TK K O L->(∀p,H p=none\/p=x->L p=O p)->GrpF K t L x d ms srt:=by
     intro L c4 S;refine⟨g,f,lo,k,v,by rw[S x (.inr rfl)];exact a0.hx,⟨ps,by rw[S f (.inl l3)];exact o3 _ _ n0 h6,Paired.mapP c6 λ_ _ z=>DdS.tk (DdS.tk z h5) c4⟩,?_,?_,?_⟩
     ·obtain⟨k9,h9,k5⟩:=ord_of (K:=K) (H:=L) (ps:=u) (srt:=srt) X λp c=>⟨kJ c4.t 4 (D p c).1 (kJ f6.t 4 (D p c).1 (kJ (lP a8) 4 (D p c).1 (D p c).2)),c1 p c⟩;exact⟨k9,by rw[S lo (.inl l7),i1,h9],k5⟩
     ·obtain⟨m3,l8,m8⟩:=Wq (H:=L) (srt:=srt) (kvs:=kvs) (ys:=ys) (by rw[i7,zqe,m1]) j3 λm d6 p e=>(by
       obtain⟨k1,k2⟩:=Wx (x:=m.1) (w:=m.2) a0.T g6 (g4.mem_iff.mp d6) e;rw[S p (.inl k1)];exact k2)
      exact⟨m3,by rw[S k (.inl k6),←l8];exact j9,m8⟩
     ·have c9:numT srt 0=ts.map λt=>(t.2.1,t.2.2.2):=by
       rw[m6];unfold numT;exact Jd X 0
      rw[c9];exact DTr.tk i6 c4 (S v (.inl h7))
    refine c0 srt O a0.s (h2 O ⟨λ_ _ e=>e,λ_ _ e=>e⟩ λ_ _=>rfl) (λg2 o5 b3=>?_) g4 ?_
    ·have g7:g2≠x:=λz=>by rw[z,c2]at b3;cases b3
     refine h2 _ (Dm (a0.s g2 _ g7 b3)) λp c=>zD λz=>?_;rcases c with c|c
     ·rw[z,b3]at c;cases c
     ·exact g7 (z.symm.trans c)
    ·have f2:(u.map (·.2)).Pairwise λp q=>lx (fl q) (fl p)=false:=List.pairwise_map.mpr k3;rw[←X]at f2;exact List.pairwise_map.mp f2
theorem Jc{d c e:Type}{F:d->e->Prop}{f:c->e}:∀{xs:List d}{ys:List c},Paired (λa b=>F a (f b)) xs ys->Paired F xs (ys.map f)
 |_,_,.nil=>.nil
 |_,_,.cons h hh=>.cons h (Jc hh)
theorem GrpF.up{H H':Hp}{g:Addr}{d:Nat}{ms:List Dd}{srt:Tb}(h:GrpF K t H g d ms srt)(s:Same H H'):GrpF K t H' g d ms srt:=by
 obtain⟨p,n,lo,e,q,j,⟨gs,m,f⟩,⟨k,l,i⟩,⟨c,b,o⟩,a⟩:=h;exact⟨p,n,lo,e,q,s _ _ j,⟨gs,s _ _ m,Paired.mapP f λ_ _ z=>DdS.up z s⟩,⟨k,s _ _ l,Paired.mapP i λ_ x z=>kJ (lP s) 4 (kL x.1) z⟩,⟨c,s _ _ b,Paired.mapP o λ_ _ z=>s _ _ z⟩,a.up s⟩
def sp_5(K:Frag)(t:Adr):Sp:=λvs H Q _=>E4 λ(g:Addr)(d:Nat)(ms:List Dd)(srt:Tb)=>A3 (vs=[.ref g]) (GrpF K t H g d ms srt) (∀l gs H',Same H H'->H l=none->H' l=some (.lst (gs.map V.ref))->Paired (DdS K H') gs ms->Q (.ref l) H')
def sp_2(K:Frag)(t:Adr):Sp:=λvs H Q _=>E4 λ(g:Addr)(d:Nat)(ms:List Dd)(srt:Tb)=>A3 (vs=[.ref g]) (GrpF K t H g d ms srt) (∀l os H',Same H H'->H l=none->H' l=some (.lst (os.map V.ref))->Paired (λp x=>Dt K H' (.ref p) (dat x.1)) os srt->Q (.ref l) H')
noncomputable def wV(w:List Nat):List V:=w.map λn=>V.int (n:Nat)
def WlN(H0 H:Hp)(l:Addr)(W:List (List Nat)):Prop:=H0 l=none/\∃ps:LA,H l=some (.lst (ps.map V.ref))/\Paired (λp(w:List Nat)=>H0 p=none/\p≠l/\H p=some (.lst (wV w))) ps W
def sp_6(K:Frag)(t:Adr):Sp:=λvs H Q _=>E4 λ(g:Addr)(d:Nat)(ms:List Dd)(srt:Tb)=>A4 (vs=[.ref g]) (GrpF K t H g d ms srt) (srt.length<=200) (∀l H',Same H H'->WlN H H' l (srt.map (·.2))->Q (.ref l) H')
theorem ok_5(T:Txt K mg t):FnOk P w K mg base CX0 2 t.a_5 t.d_5 pF' (sp_5 K t):=by
 apply T.F_5.ok sc_5
 ·obtain⟨g,d,ms,srt,rfl,⟨j,f,lo,i,k,c,⟨gs,e,b⟩,_⟩,a⟩:=h;refine⟨_,(oO (oW (mB kR rfl T.z_list (nofun) (oJ (iE (pv 0) rfl) oK)))),?_⟩;show tRet _ _ [some (.ref g)] H;simp only[tRet,tCB,nF,tNil];refine fG rfl c T.cl_4 T.h_h rfl ?_;refine⟨false,f,_,rfl,SqB.lst e,λl hl=>?_⟩;exact a l gs _ (Same.new hl) hl oP (Paired.mapP b λ_ _ z=>DdS.up z (Same.new hl))
theorem ok_2(T:Txt K mg t):FnOk P w K mg base CX0 2 t.a_2 t.d_2 pF' (sp_2 K t):=by
 apply T.F_2.ok sc_2
 ·obtain⟨g,d,ms,srt,rfl,⟨k,j,lo,i,m,c,_,⟨e,f,b⟩,_⟩,a⟩:=h;refine⟨_,(oO (oW (mB kR rfl T.z_list (nofun) (oJ (iE (pv 0) rfl) oK)))),?_⟩;show tRet _ _ [some (.ref g)] H;simp only[tRet,tCB,nF,tNil];refine fG rfl c T.cl_4 T.h_8 rfl ?_;refine⟨false,lo,_,rfl,SqB.lst f,λl hl=>?_⟩;exact a l e _ (Same.new hl) hl oP (Paired.mapP b λ_ x z=>kJ (lP (Same.new hl)) 4 (kL x.1) z)
def WdR(H0:Hp)(a:Addr)(W:List (List Nat))(j:Nat)(y:V)(H:Hp):Prop:=∃p m,y=V.ref p/\p≠a/\W[j]?=some m/\H0 p=none/\H p=some (.lst (wV m))
theorem Jb{H0:Hp}{a:Addr}{H:Hp}:∀{W:List (List Nat)}{ys:List V},ys.length=W.length->(∀(j:Nat) y,ys[j]?=some y->WdR H0 a W j y H)->∃b:LA,ys=b.map V.ref/\Paired (λp(w:List Nat)=>H0 p=none/\p≠a/\H p=some (.lst (wV w))) b W
 |[],[],_,_=>⟨[],rfl,.nil⟩
 | m:: W,y:: ys,hl,h=>by
  obtain⟨p,c,e1,e,f,i,n⟩:=h 0 y rfl;cases f;obtain⟨b,d,l⟩:=Jb (H0:=H0) (a:=a) (H:=H) (W:=W) (ys:=ys) (by simpa using hl) λj r v=>by
   obtain⟨p,c,o,g,k,q,u⟩:=h (j+1) r (by simpa using v);exact⟨p,c,o,g,by simpa using k,q,u⟩
  exact⟨p:: b,by rw[e1,d];rfl,.cons ⟨i,e,n⟩ l⟩
theorem Dk{fr:List (Str×Nat)}{k:St}{o a:Addr}{H:Hp}{Q:VK}{r:LA}{W:List (List Nat)}(l:H a=none)(G:H o=some (.lst (r.map V.ref)))(j:Paired (λp(w:List Nat)=>H p=some (.lst (wV w))) r W)(hl:W.length<=1000)(I:∀d,Same H d->WlN H d a W->Q (.ref a) d):lO (Its K false o) (nB 0) (tEl (tCB (gT K) (nF (tVar 0) tNil))) 1 fr k a H Q:=by
 have J:=mE j;refine mU (WdR H a W) l (SqB.lst G) (by rw[zqe];omega) (λ_ _ _ _⟨p,m,e,n,g,z,h⟩C=>⟨p,m,e,n,g,z,C _ _ n h⟩) ?_ ?_
 ·intro i y f zs O c x u v;obtain⟨p,N,rfl⟩:=gJ O;obtain⟨m,g,M⟩:=kM j N;show tCB _ _ (some (.ref p):: mI fr k) f u;simp only[tCB,nF,tNil,tVar];refine⟨_,rfl,false,p,_,rfl,SqB.lst (c _ _ M),λq b=>?_⟩;exact v _ _ (Same.new b) ⟨q,m,rfl,(λz=>by rw[z,x]at b;cases b),g,lH c b,oP⟩
 ·intro f ys c T R F;obtain⟨S,L,D⟩:=Jb (by rw[R,zqe,J]) F;exact I f c ⟨l,S,by rw[T,L],D⟩
theorem ok_6(T:Txt K mg t):FnOk P w K mg base CX0 2 t.a_6 t.d_6 pF' (sp_6 K t):=by
 apply T.F_6.ok sc_6
 ·obtain⟨g,d,ms,srt,rfl,⟨q,p,lo,e,r,f,_,_,⟨o,a,k⟩,_⟩,m,c⟩:=h;refine⟨_,(oO (oW (nT (sc:=oR s_6) (N:=N_6) (fr:=[]) (te:=(tCB (gT K) (nF (tVar 0) tNil))) rfl rfl (nofun) rfl (nofun) (nV (iE (pv 0) rfl)) (λ_ _ _ n=>(mB kR rfl T.z_list (nofun) (oJ (pv 0) oK)))))),?_⟩;show tRet _ _ [some (.ref g)] H;simp only[tRet];refine nN λB eB=>?_;simp only[iSeq];refine fG rfl f T.cl_4 T.h_6 rfl ?_;refine⟨false,e,rfl,⟨_,SqB.lst a⟩,λl hl=>?_⟩;subst eB;exact Dk hl a (Jc k) (by rw[zqe];omega) λj b i=>c l j b i
noncomputable def cofM(d:Nat)(rows:LM)(i k:Nat):Int:=sg (i+k)*detM d (lY i k rows)
noncomputable def invR(n:Nat)(rows:LM):LM:=(List.range n).map λi=>(List.range n).map λk=>detM n rows*cofM (n-1) rows k i
noncomputable def crsM(n:Nat)(rows:LM):LM:=(List.range n).map λi=>(List.range n).map λk=>cofM (n-1) rows k i
noncomputable def lT(n:Nat)(M:LM)(ts:LI'):LI':=(invR n M).map λr=>-(dotI r ts)
def sp_13(K:Frag):Sp:=λvs H Q _=>E7 λ(b1 b2:Bool)(a:Addr)(rows:LM)(i k n:Nat)=>A9 (vs=[.ref a,.int i,.int k]) (MatB b1 b2 K H a rows) (Sq (n+1) rows) (i<n+1) (k<n+1) (1<=n) (n<=3) (nS 1000 rows) (∀H',Same H H'->Q (.int (cofM n rows i k)) H')
def sp_1d(K:Frag):Sp:=λvs H Q _=>E5 λ(b1 b2:Bool)(a:Addr)(rows:LM)(n:Nat)=>A7 (vs=[.ref a]) (MatB b1 b2 K H a rows) (Sq n rows) (2<=n) (n<=4) (nS 1000 rows) (∀r H',H r=none->Same H H'->MatL H' r (invR n rows)->Q (.ref r) H')
def sp_1f(K:Frag):Sp:=λvs H Q _=>E5 λ(b1 b2:Bool)(a:Addr)(rows:LM)(c:Int)=>A6 (vs=[.ref a,.int c]) (MatB b1 b2 K H a rows) (rows.length<1000) ((∀r∈rows,r.length<1000)) ((∀r∈rows,∀x∈r,IntMulOk c x)) (∀q H',H q=none->Same H H'->MatL H' q (rows.map λr=>r.map (c*·))->Q (.ref q) H')
def sp_1a(K:Frag):Sp:=λvs H Q _=>E5 λ(b1 b2:Bool)(a:Addr)(rows:LM)(n:Nat)=>A7 (vs=[.ref a]) (MatB b1 b2 K H a rows) (Sq n rows) (2<=n) (n<=4) (nS 1000 rows) (∀r H',H r=none->Same H H'->MatL H' r (crsM n rows)->Q (.ref r) H')
def sp_1l(K:Frag):Sp:=λvs H Q _=>E5 λ(p:Addr)(M:LM)(ts:LI')(u:Int)(n:Nat)=>A11 (vs=[.ref p]) (lR K H p M ts u) (Sq n M) (ts.length=n) (0<u) (mO u) (nS 1000 M) (kX 1000 ts) (2<=n) (n<=4) (∀r H',Same H H'->mX K H' r (invR n M) (redT u (lT n M ts)) (redU u (lT n M ts))->Q (.ref r) H')
theorem Dj{n B C:Nat}{a:LM}(f:1<=n)(e:n<=4)(d:Sq n a)(c:nS B a)(b:n*(B+2)<C):(detM n a).natAbs<2^C:=wW (Dx n a f e d c) (Nat.pow_lt_pow_right ∅ b)
theorem Ja{n:Nat}{a:LM}{i k:Nat}(e:1<=n)(d:n<=3)(c:Sq (n+1) a)(hi:i<n+1)(f:k<n+1)(b:nS 1000 a):(cofM n a i k).natAbs<2^4000:=by
 unfold cofM;rw[xA,Dy,pV];have:n*(1000+2)<=3*1002:=xZ d ⋯;exact Dj e ⋯ (c.minor hi f) b.minor ⋯
theorem eW{n:Nat}{a:LM}:Sq n (invR n a):=⟨by simp[invR],λr hr=>by
 obtain⟨i,_,rfl⟩:=oE.mp hr;simp⟩
theorem Wp{n:Nat}{a:LM}(q:2<=n)(c:n<=4)(d:Sq n a)(b:nS 1000 a):nS 9000 (invR n a):=λr hr x e=>by
 obtain⟨i,hi,rfl⟩:=oE.mp hr;obtain⟨k,o,rfl⟩:=oE.mp e;have hi':=oB.mp hi;have f:=oB.mp o;obtain⟨m,rfl⟩:∃m,n=m+1:=⟨n-1,⋯⟩;have p:(m+1)*(1000+2)<=4*1002:=xZ c ⋯;have l:(detM (m+1) a).natAbs<2^4500:=Dj ⋯ c d b ⋯;have g:(cofM m a k i).natAbs<2^4000:=Ja ⋯ ⋯ d f hi' b;show(detM (m+1) a*cofM m a k i).natAbs<_;rw[xA,show(9000:Nat)=4500+4500 from rfl,vG];have j:(cofM m a k i).natAbs<2^4500:=zJ g (yC ∅ ∅);exact tH l j
theorem Wo{n:Nat}{a:LM}:Sq n (crsM n a):=⟨by simp[crsM],λr hr=>by
 obtain⟨i,_,rfl⟩:=oE.mp hr;simp⟩
theorem Wn{n:Nat}{a:LM}(j:2<=n)(g:n<=4)(e:Sq n a)(d:nS 1000 a):nS 4000 (crsM n a):=λr hr x b=>by
 obtain⟨i,hi,rfl⟩:=oE.mp hr;obtain⟨k,f,rfl⟩:=oE.mp b;have hi':=oB.mp hi;have c:=oB.mp f;obtain⟨m,rfl⟩:∃m,n=m+1:=⟨n-1,⋯⟩;exact Ja ⋯ ⋯ e c hi' d
theorem Wm{n:Nat}{a:LM}:(crsM n a).map (λr=>r.map (detM n a*·))=invR n a:=by
 unfold crsM invR;rw[xJ];refine wE λi _=>?_;exact xJ ..
theorem ok_13(T:Txt K mg t):FnOk P w K mg base CX0 5 t.a_13 t.d_13 pv' (sp_13 K):=by
 have e:=@ok_16 P w K mg base t T;apply T.F_13.ok sc_13
 ·obtain⟨b1,b2,a,x,i,k,n,rfl,l,c,hi,d,D,y,f,j⟩:=h;have v:FnOk P w K mg base CX0 (n+1) t.a_3 t.d_3 pE' (sp_3 K n):=ok_3 T n;refine⟨_,(oM (oU (i:=3) sc_13.nd rfl (Or.inl rfl) (Eb (nH lG (oS kG (oS mJ (pq 1) (pq 2)) oN) oN (nD _)) oN (gO gQ oN)))
   (oO (oW (oS nR (pq 3) (oQ v hr.mo T.F_3 (oJ (oQ e hr.mo T.F_16 (oJ (pq 0) (oJ (pq 1) (oJ (pq 2) oK)))) oK)))))),?_⟩
  show tSeq _ _ _ [some (.ref a),some (.int i),some (.int k),none] H;obtain⟨m,rfl⟩:∃m,n=m+1:=⟨n-1,⋯⟩;refine st λN1 e1=>?_;have b:N1 [some (.ref a),some (.int i),some (.int k),some (.int (sg (i+k)))] H:=by
   symm;refine⟨b1,b2,a,x,i,k,_,rfl,l,c.2,d,⋯,by rw[c.1];omega,λr C _ u q=>?_⟩;refine⟨false,false,r,_,1000,rfl,q.b,c.minor hi d,⋯,f.minor,∅,λo p=>?_⟩;ext;exact⟨tF (by unfold sg;split <;> decide),j o (u.trans p)⟩
  ext;refine⟨∅,?_⟩;have g:((i:Int)+k).fmod 2=((i+k)%2:Nat):=by
   rw[xS _ ∅];omega
  rw[g];unfold sg at b
  by_cases z:(i+k)%2=0
  ·rw[zF z]at b;rw[zP (show(((i+k)%2:Nat):Int)=0 by omega)];exact iteT b
  ·rw[zD z]at b;rw[zN (show¬ (((i+k)%2:Nat):Int)=0 by omega)];exact iteF b
theorem ok_1f(T:Txt K mg t):FnOk P w K mg base CX0 1 t.a_1f t.d_1f pw' (sp_1f K):=by
 apply T.F_1f.ok sc_1f
 ·obtain⟨b1,b2,a,b,c,rfl,W,hl,I,a1,a2⟩:=h;refine⟨_,(oO (oW (nT (sc:=oR s_1f) (N:=N_1f) (fr:=[("count",1)]) (te:=(mP (iSeq K (tVar 0)) (nB 0) (tEl (tOp (rI (λi j=>IntMulOk i j) λi j=>.int (i*j)) (tVar 1) (tVar 0))) 1 [("count",1)])) rfl rfl (nofun) rfl (nofun) (nV (pq 0)) (λ_ _ _ N=>(nT (N:=["row","count"]) (fr:=[("count",1)]) (te:=(tOp (rI (λi j=>IntMulOk i j) λi j=>.int (i*j)) (tVar 1) (tVar 0))) N rfl (nofun) rfl (nofun) (nV (pv 0)) (λ_ _ _ a6=>(oS nR (pv 1) (pv 0)))))))),?_⟩;show tRet _ _ [some (.ref a),some (.int c)] H;ext;exfalso;obtain⟨xs,o,M,O⟩:=W.walk;refine⟨b1,⟨_,o⟩,λn D=>?_⟩;refine mU (RowR n λj=>(b.getD j []).map (c*·)) D o ⋯ (RowR.mono (a:=n)) ?_ ?_
  ·intro i x k zs a5 f R J L;obtain⟨p,r,rfl,F,v⟩:=O i x a5;have z:=zqb F;subst eB;show mP _ _ _ _ _ [some (.ref p),some (.int c)] k J;exfalso;refine⟨b2,⟨_,v.up f⟩,λZ u=>?_⟩;refine mU (λj y _=>∃m,r[j]?=some m/\y=.int (c*m)) u (v.up f) (by have:=I r z;rw[zqe];omega) (λ_ _ _ _ r _=>r) ?_ ?_
   ·intro j x q a7 X C a8 a4 U;obtain⟨m,d,rfl⟩:=kU X;subst eB;show tOp _ _ _ [some (.int m),some (.int c)] q a4;ext;exact⟨a1 r z m (zqb d),U _ _ (Same.refl _) ⟨m,d,rfl⟩⟩
   ·intro q ys C a0 l S;have a3:ys=(r.map (c*·)).map V.int:=by
     refine mK (by simp at l ⊢;omega) λj y e=>?_;obtain⟨m,d,rfl⟩:=S j y e;exact⟨c*m,by rw[zI,d];rfl,rfl⟩
    subst a3;refine L _ _ C ⟨Z,rfl,yA (nY R u),?_⟩;show _=some (HO.lst (((b.getD i []).map (c*·)).map V.int));rw[a0,zqc,F];rfl
  ·intro k ys f e1 l G;have g:=MatL.of e1 G;rw[l,M]at g;have Y:((List.range b.length).map λj=>(b.getD j []).map (c*·))=b.map λr=>r.map (c*·):=by
    refine List.ext_getElem? λi=>?_;rw[zI,zI]
    by_cases hi:i<b.length
    ·rw[yW hi,zqd hi];simp[zqc,hi]
    ·rw[wG (by simp;omega),wG ⋯];rfl
   rw[Y]at g;exact a2 n k D f g
theorem ok_1a(T:Txt K mg t):FnOk P w K mg base CX0 6 t.a_1a t.d_1a pE' (sp_1a K):=by
 have G:=@ok_13 P w K mg base t T;apply T.F_1a.ok sc_1a
 ·obtain⟨b1,b2,a,b,n,rfl,v,x,a6,a2,W,Y⟩:=h;refine⟨_,(oM (oU (i:=1) sc_1a.nd rfl (Or.inr rfl) (mL T.z_len (pq 0)))
   (oO (oW (iJ (xs:=["i"]) (fr:=[("rows",0),("size",1)]) (g:=(nB 0)) (tt:=(tEl (mP (nU (nF (tVar 2) tNil)) (nB 0) (tEl (mS (sp_13 K) [] E0 (nF (tVar 2) (nF (tVar 0) (nF (tVar 1) tNil))))) 1 [("i",0),("rows",1)]))) (kQ (sc:=oR s_1a) (N:=N_1a) rfl rfl (nofun)) rfl (mF rfl T.z_range (oJ (pq 1) oK)) (λ_ _ _ f=>(fV (N:=["i","rows","size"]) (i:=0) f rfl (nofun) rfl)) (λ_ _ _ f=>(jI (nT (N:=["i","rows","size"]) (fr:=[("i",0),("rows",1)]) (te:=(mS (sp_13 K) [] E0 (nF (tVar 2) (nF (tVar 0) (nF (tVar 1) tNil))))) f rfl (nofun) rfl (nofun) (mF rfl T.z_range (oJ (pv 2) oK)) (λ_ _ _ a5=>(oQ G hr.mo T.F_13 (oJ (pv 2) (oJ (pv 0) (oJ (pv 1) oK)))))))))))),?_⟩
  show tSeq _ _ _ [some (.ref a),none] H;obtain⟨m,rfl⟩:∃m,n=m+1:=⟨n-1,⋯⟩;right;refine hX v ?_;rw[x.1];symm;refine nN λB eB=>?_;simp only[nU];ext;refine⟨⋯,⋯,λl C=>?_⟩;rw[zQ];refine kI (RowR l λi=>(List.range (m+1)).map λk=>cofM m b k i) C ⋯ (RowR.mono (a:=l)) ?_ ?_
  ·intro i c zs hi o M F J;subst eB;show mP _ _ _ _ _ [some (.int (0+(i:Int))),some (.ref a),some (.int ((m+1:Nat):Int))] c F;refine nN λB eB=>?_;simp only[nU];ext;refine⟨⋯,⋯,λS q=>?_⟩;rw[zQ];refine kI (λk y _=>k<m+1/\y=.int (cofM m b k i)) q ⋯ (λ_ _ _ _ r _=>r) ?_ ?_
   ·intro k z a3 u d a1 a0 R;subst eB;have N:=o.trans d;show mS _ _ _ _ [some (.int (0+(k:Int))),some (.int (0+(i:Int))),some (.ref a)] z a0;ext;refine⟨b1,b2,a,b,k,i,m,by rw[sF,sF],v.up N,x,u,hi,⋯,⋯,W,λa4 X=>?_⟩;exact R _ _ X ⟨u,rfl⟩
   ·intro z ys d D g L;have Z:ys=((List.range (m+1)).map λk=>cofM m b k i).map V.int:=by
     refine mK (by simpa using g) λj y e=>?_;obtain⟨I,rfl⟩:=L j y e;exact⟨_,by rw[zI,yW I];rfl,rfl⟩
    subst Z;exact J _ _ d ⟨S,rfl,yA (nY M q),D⟩
  ·intro c ys o U g O;have p:=MatL.of U O;rw[g]at p;exact Y l c C o p
theorem ok_1d(T:Txt K mg t):FnOk P w K mg base CX0 7 t.a_1d t.d_1d pE' (sp_1d K):=by
 have I:=@ok_1a P w K mg base t T;have C:=@ok_1f P w K mg base t T;apply T.F_1d.ok sc_1d
 ·obtain⟨b1,b2,a,b,n,rfl,v,d,y,c,f,J⟩:=h;have G:FnOk P w K mg base CX0 (n+1) t.a_3 t.d_3 pE' (sp_3 K n):=ok_3 T n;refine⟨_,(oO (oW (oQ C hr.mo T.F_1f (oJ (oQ I hr.mo T.F_1a (oJ (pq 0) oK)) (oJ (oQ G hr.mo T.F_3 (oJ (pq 0) oK)) oK))))),?_⟩;show tRet _ _ [some (.ref a)] H;obtain⟨m,rfl⟩:∃m,n=m+1:=⟨n-1,⋯⟩;ext;refine⟨b1,b2,a,b,m+1,rfl,v,d,y,c,f,λr O R k M=>?_⟩;refine⟨b1,b2,a,b,1000,rfl,v.up k,d,⋯,f,∅,λN j=>?_⟩;have l:Sq (m+1) (crsM (m+1) b):=Wo;refine⟨false,false,r,crsM (m+1) b,detM (m+1) b,rfl,(M.up j).b,by rw[l.1];omega,λg i=>by rw[l.2 g i];omega,λg i x z=>?_,λq L u D p=>?_⟩
  ·have S:(m+1)*(1000+2)<=4*1002:=xZ c ⋯;exact yQ (nL (Dj (C:=4500) ⋯ c d f ⋯)) (nL (Wn y c d f g i x z)) ∅
  ·have e:(crsM (m+1) b).map (λr=>r.map (detM (m+1) b*·))=invR (m+1) b:=Wm;rw[e]at p;have F:H q=none:=by cases w:H q with|none=>rfl|some o=>rw[(k.trans j) _ _ w]at u;cases u
   exact J q L F ((k.trans j).trans D) p
theorem ok_1l(T:Txt K mg t):FnOk P w K mg base CX0 8 t.a_1l t.d_1l pG' (sp_1l K):=by
 have a1:=@ok_1n P w K mg base t T;have R:=@ok_1d P w K mg base t T;have a8:=@ok_19 P w K mg base t T;have a5:=@ok_14 P w K mg base t T;apply T.F_1l.ok sc_1l
 ·obtain⟨p,M,ts,u,n,rfl,f,C,lt,c2,W,bm,a0,J,F,b2⟩:=h;refine⟨_,(oM (oU (i:=1) sc_1l.nd rfl (Or.inl rfl) (oQ R hr.mo T.F_1d (oJ (oX (pq 0)) oK)))
   (oO (oW (oQ a5 hr.mo T.F_14 (oJ (pq 1) (oJ (dL a8 hr.mo rfl T.F_19.m T.F_19.kp T.F_19.b .nil fR (oJ (nT (sc:=oR s_1l) (N:=N_1l) (fr:=[("one",0)]) (te:=(tUn (rU λi=>.int (-i)) (mS (sp_1n K) [] E0 (nF (tVar 0) (nF (tOp (rIxB K) (tVar 1) (tC (.int 1))) tNil))))) rfl rfl (nofun) rfl (nofun) (nV (pq 1)) (λ_ _ _ b9=>(gO gQ (oQ a1 hr.mo T.F_1n (oJ (pv 0) (oJ (oX (pv 1)) oK)))))) (oJ (oX (pq 0)) oK))) oK)))))),?_⟩
  show tSeq _ _ _ [some (.ref p),none] H;right;refine jK f λx N=>⟨true,true,x,M,n,rfl,N,C,J,F,bm,λr b8 _ I L=>?_⟩;symm;exfalso;obtain⟨xs,v,D,Z⟩:=(L.b (K:=K)).walk;have a:Sq n (invR n M):=eW;refine⟨false,⟨_,v⟩,λb4 b6=>?_⟩;refine mU (λj y _=>∃z,(lT n M ts)[j]?=some z/\y=.int z) b6 v (by rw[D,a.1];omega) (λ_ _ _ _ r _=>r) ?_ ?_
  ·intro i x e zs b7 b c0 S U;obtain⟨pr,d,rfl,o,a4⟩:=Z i x b7;have a3:d.length=n:=a.2 d (zqb o);have a2:=Wp J F C bm d (zqb o);subst eB;show tUn _ _ [some (.ref pr),some (.ref p)] e S;ext;refine gI (lR.up f (I.trans b)) λz a9=>?_;refine⟨false,true,pr,z,d,ts,rfl,a4.up b,(a9:SqB true K e z _),by rw[a3,lt],⋯,λc1 m k e1 l=>yQ (nL (a2 m (zqb e1))) (nL (a0 k (zqb l))) ∅,λb5 c=>?_⟩;ext;exact U _ _ c ⟨_,by unfold lT;rw[zI,o];rfl,rfl⟩
  ·intro e ys b l a7 a6;have g:(lT n M ts).length=n:=by unfold lT;rw[zqe,a.1]
   have b3:ys=(lT n M ts).map V.int:=mK (by rw[a7,D,a.1,g]) a6;subst b3;have G:=I.trans b;refine kW (lR.up f G) ?_;refine⟨false,b4,_,u,rfl,SqB.lst l,⋯,W,λz=>?_,λ_ _ q b5 c O=>?_⟩
   ·rcases z with z|z
    ·omega
    ·rw[z]at g;simp at g;omega
   ·exact⟨false,false,r,q,_,_,_,rfl,((L.up b).up c).b,O,by rw[a.1];omega,λX b0 b1 Y=>b2 X b0 ((G.trans c).trans b1) Y⟩
theorem sq1{b:LM}(h:Sq 1 b):∃a,b=[[a]]:=by
 obtain⟨hl,hr⟩:=h
 match b,hl with
 |[r],_ =>
  have:=hr r (by simp)
  match r,this with
  |[a],_=>exact⟨a,rfl⟩
theorem len2{r:LI'}(h:r.length=2):∃a b,r=[a,b]:=by match r,h with|[a,b],_=>exact⟨a,b,rfl⟩
theorem len3{r:LI'}(h:r.length=3):∃a b c,r=[a,b,c]:=by match r,h with|[a,b,c],_=>exact⟨a,b,c,rfl⟩
theorem len4{r:LI'}(h:r.length=4):∃a b c d,r=[a,b,c,d]:=by match r,h with|[a,b,c,d],_=>exact⟨a,b,c,d,rfl⟩
theorem sq2{e:LM}(h:Sq 2 e):∃a b c d,e=[[a,b],[c,d]]:=by
 obtain⟨hl,hr⟩:=h
 match e,hl with
 |[r,s],_ =>
  obtain⟨a,b,rfl⟩:=len2 (hr r (by simp));obtain⟨c,d,rfl⟩:=len2 (hr s (by simp));exact⟨a,b,c,d,rfl⟩
theorem sq3{k:LM}(h:Sq 3 k):∃a b c d e f g i j,k=[[a,b,c],[d,e,f],[g,i,j]]:=by
 obtain⟨hl,hr⟩:=h
 match k,hl with
 |[r,s,t],_ =>
  obtain⟨a,b,c,rfl⟩:=len3 (hr r (by simp));obtain⟨d,e,f,rfl⟩:=len3 (hr s (by simp));obtain⟨g,i,j,rfl⟩:=len3 (hr t (by simp));exact⟨a,b,c,d,e,f,g,i,j,rfl⟩
theorem sq4{v:LM}(h:Sq 4 v):∃a b c d e f g i j k l m n o p q,v=[[a,b,c,d],[e,f,g,i],[j,k,l,m],[n,o,p,q]]:=by
 obtain⟨hl,hr⟩:=h
 match v,hl with
 |[r,s,t,u],_ =>
  obtain⟨a,b,c,d,rfl⟩:=len4 (hr r (by simp));obtain⟨e,f,g,i,rfl⟩:=len4 (hr s (by simp));obtain⟨j,k,l,m,rfl⟩:=len4 (hr t (by simp));obtain⟨n,o,p,q,rfl⟩:=len4 (hr u (by simp));exact⟨a,b,c,d,e,f,g,i,j,k,l,m,n,o,p,q,rfl⟩
theorem id2:idM 2=[[1,0],[0,1]]:=nofun
theorem id3:idM 3=[[1,0,0],[0,1,0],[0,0,1]]:=nofun
theorem Wl(a b v:Int)(c:0<v):gcdI (a*v) (b*v)=gcdI a b*v:=by
 unfold gcdI;rw[Int.gcd_mul_right];have:((v.natAbs:Nat):Int)=v:=⋯
 rw[Int.natCast_mul,this]
theorem Wk{u v:Int}(b:0<v)(ts:LI'):gl (u*v) (ts.map (·*v))=gl u ts*v:=by
 have e:∀(ts:LI')(a:Int),(ts.map (·*v)).foldl gcdI (a*v)=ts.foldl gcdI a*v:=by
  intro ts
  induction ts with
  |nil=>intro a;rfl
  |cons t r d=>intro a;rw[zK,wM,wM,Wl _ _ _ b,d]
 unfold gl;have:absI (u*v)=absI u*v:=by
  unfold absI;rcases Int.lt_or_le u 0 with l|l
  ·have c:u*v<0:=Int.mul_neg_of_neg_of_pos l b;rw[zF l,zF c,Int.neg_mul]
  ·have c:0<=u*v:=Int.mul_nonneg l (wZ b);rw[zD ⋯,zD ⋯]
 rw[this,e]
def Cong(u:Int)(xs ys:LI'):Prop:=xs.length=ys.length/\∀(i:Nat)(x y:Int),xs[i]?=some x->ys[i]?=some y->u∣x-y
theorem Kz{u x y:Int}(a:0<u)(h:u∣x-y):x.fmod u=y.fmod u:=by
 rw[xS _ (wZ a),xS _ (wZ a)];exact Int.emod_eq_emod_iff_emod_sub_eq_zero.mpr (Int.emod_eq_zero_of_dvd h)
theorem Cong.rest{u:Int}(b:0<u)(ns:LI'):Cong u ns (nW u ns):=by
 refine⟨by simp[nW],λi x y e1 a=>?_⟩;unfold nW at a;rw[zI,e1]at a;cases zW a;have:=Vy b x;have d:=xS (x.fmod u-x) (wZ b);rw[d]at this;have c:=Int.dvd_of_emod_eq_zero this;have:=Int.dvd_neg.mpr c
 rwa[Int.neg_sub]at this
theorem Cong.gl{u:Int}{xs ys:LI'}(h:Cong u xs ys):Cw.gl u xs=Cw.gl u ys:=by
 have f:∀{xs ys:LI'}{d:Int},Cong u xs ys->d∣u->(∀t∈xs,d∣t)->∀t∈ys,d∣t:=λ{xs ys d}h k j t n=>by
  obtain⟨i,hi,e⟩:=wO n;have c:i<xs.length:=by rw[h.1];exact hi
  have a:=h.2 i xs[i] t (by simp[c]) (by simp[hi,e]);have b:=j _ (vE c);have m:=Int.dvd_sub b (Int.dvd_trans k a)
  rwa[show xs[i]-(xs[i]-t)=t by omega]at m
 have l:Cong u ys xs:=⟨h.1.symm,λi x y e1 g=>by
  have:=Int.dvd_neg.mpr (h.2 i y x g e1)
  rwa[Int.neg_sub]at this⟩
 exact Uc λd=>⟨λ⟨a,b⟩=>⟨a,f h a b⟩,λ⟨a,b⟩=>⟨a,f l a b⟩⟩
theorem Cong.red{u:Int}{xs ys:LI'}(q:0<u)(h:Cong u xs ys):redU u xs=redU u ys/\nW (redU u xs) (redT u xs)=nW (redU u ys) (redT u ys):=by
 have n:=h.gl;have d:cs u xs=cs u ys:=by unfold cs;rw[n]
 have a:=eP xs (show u≠0 by omega);have e:redU u xs=redU u ys:=by unfold redU;rw[d]
 refine⟨e,?_⟩;have l:0<redU u xs:=gH xs ⋯;have o:redU u xs*cs u xs=u:=gG a (jX (gl_u u xs));rw[←e];unfold nW redT;refine uB (by simp[h.1]) λi c b=>?_;simp at c b;simp only[List.getElem_map];have j:=h.2 i xs[i] ys[i] (by simp[c]) (by simp[b]);have k:∀x y:Int,u∣x-y->cs u xs∣x->cs u ys∣y->redU u xs∣x.fdiv (cs u xs)-y.fdiv (cs u ys):=λx y m p f=>by
  have e1:x.fdiv (cs u xs)*cs u xs=x:=gG a p;rw[←d]at f ⊢;have g:y.fdiv (cs u xs)*cs u xs=y:=gG a f;refine Int.dvd_of_mul_dvd_mul_right a ?_;rw[o,Int.sub_mul,e1,g];exact m
 exact Kz l (k _ _ j (jX (aW (vE c))) (jX (aW (vE b))))
theorem Ky{u:Int}:∀(r ts c:LI'),Cong u ts c->u∣dotI r ts-dotI r c
 |[],ts,c,_=>by simp[dotI]
 |x:: r,[],c,h=>by
  have:c=[]:=vA h.1.symm;subst this;simp[dotI]
 |x:: r,t:: ts,[],h=>by have:=h.1;simp at this
 |x:: r,t:: ts,t':: c,h=>by
  have e:=Ky r ts c ⟨by have:=h.1;simpa using this,λi a b e1 d=>h.2 (i+1) a b (by simpa using e1) (by simpa using d)⟩;have f:=h.2 0 t t' rfl rfl;have e1:dotI (x:: r) (t:: ts)=x*t+dotI r ts:=by simp[dotI]
  have d:dotI (x:: r) (t':: c)=x*t'+dotI r c:=by simp[dotI]
  rw[e1,d,show x*t+dotI r ts-(x*t'+dotI r c)=x*(t-t')+(dotI r ts-dotI r c) by rw[Int.mul_sub];omega];exact Int.dvd_add (Int.dvd_mul_of_dvd_right f) e
theorem Kx{N:LM}{ns ts c b:LI'}{v u:Int}(e:Cong v ns c)(g:Cong u ts b):Cong (v*u) (movT N ns v ts u) (movT N c v b u):=by
 refine⟨by unfold movT;rw[xX,xX,e.1],λi x y e1 a=>?_⟩;unfold movT at e1 a;rw[wA]at e1 a;cases en:N[i]? with
 |none=>rw[en]at e1;cases e1
 | some r =>
  rw[en]at e1 a;cases e3:ns[i]? with
  |none=>rw[e3]at e1;cases e1
  | some n =>
   cases e4:c[i]? with
   |none=>rw[e4]at a;cases a
   |some d =>
    rw[e3]at e1;rw[e4]at a;cases zW e1;cases zW a;obtain⟨k,o⟩:=Ky r ts b g;obtain⟨m,l⟩:=e.2 i n d e3 e4;refine⟨k+m,?_⟩;have f:dotI r ts=dotI r b+u*k:=⋯
    have j:n=d+v*m:=⋯
    rw[f,j];grind
theorem Cong.rest_eq{u:Int}{xs ys:LI'}(c:0<u)(h:Cong u xs ys):nW u xs=nW u ys:=by
 unfold nW;refine uB (by simp[h.1]) λi b a=>?_;simp at b a;simp only[List.getElem_map];exact Kz c (h.2 i xs[i] ys[i] (by simp[b]) (by simp[a]))
theorem Wj{d:Nat}{x s:Dd}(b:0<x.2.2)(a:0<s.2.2):oV (behD d x s)=oZ d (oV x) (oV s):=by
 obtain⟨e,c⟩:=Cong.red (xE a b) (Kx (N:=s.1) (Cong.rest a s.2.1) (Cong.rest b x.2.1));unfold oZ oV behD;show(_,_,_)=(_,_,_);rw[Prod.mk.injEq,Prod.mk.injEq];exact⟨rfl,c,e⟩
theorem Sq.mul{n:Nat}{A B:LM}(a:Sq n A):Sq n (mulM n A B):=by
 refine⟨by simp[mulM,a.1],λr hr=>?_⟩;obtain⟨z,_,rfl⟩:=oE.mp hr;simp
theorem jY{d:Nat}:Sq d (idM d):=⟨by simp[idM],λr hr=>by
 obtain⟨i,_,rfl⟩:=oE.mp hr;simp⟩
theorem mul2(a b c d f e g d':Int):mulM 2 [[a,b],[c,d]] [[f,e],[g,d']]=[[a*f+b*g,a*e+b*d'],[c*f+d*g,c*e+d*d']]:=by simp[mulM,dotI,colI,List.range,List.range.loop]
theorem mul3(a b c d e f g i j l n q d' m k g' p o:Int):mulM 3 [[a,b,c],[d,e,f],[g,i,j]] [[l,n,q],[d',m,k],[g',p,o]]=[[a*l+(b*d'+c*g'),a*n+(b*m+c*p),a*q+(b*k+c*o)],[d*l+(e*d'+f*g'),d*n+(e*m+f*p),d*q+(e*k+f*o)],[g*l+(i*d'+j*g'),g*n+(i*m+j*p),g*q+(i*k+j*o)]]:=by
 simp[mulM,dotI,colI,List.range,List.range.loop]
theorem mul_assoc{d:Nat}(o:d=2\/d=3){A B C:LM}(l:Sq d A)(m:Sq d B)(k:Sq d C):mulM d (mulM d A B) C=mulM d A (mulM d B C):=by
 rcases o with e|e <;> subst e
 ·obtain⟨a,b,c,d,rfl⟩:=sq2 l;obtain⟨u,p,v,d',rfl⟩:=sq2 m;obtain⟨q,b2,r,n,rfl⟩:=sq2 k;simp only[mul2,List.cons.injEq,and_true];refine⟨⟨?_,?_⟩,?_,?_⟩ <;> grind
 ·obtain⟨a,b,c,d,e,f,g,i,j,rfl⟩:=sq3 l;obtain⟨u,p,v,d',y,F,g',z,L,rfl⟩:=sq3 m;obtain⟨q,b2,r,n,I,J,x,G,D,rfl⟩:=sq3 k;simp only[mul3,List.cons.injEq,and_true];refine⟨⟨?_,?_,?_⟩,⟨?_,?_,?_⟩,?_,?_,?_⟩ <;> grind
theorem jM{d:Nat}(l:d=2\/d=3){A:LM}(k:Sq d A):mulM d (idM d) A=A/\mulM d A (idM d)=A:=by
 rcases l with e|e <;> subst e
 ·obtain⟨a,b,c,d,rfl⟩:=sq2 k;rw[id2,mul2,mul2];simp
 ·obtain⟨a,b,c,d,e,f,g,i,j,rfl⟩:=sq3 k;rw[id3,mul3,mul3];simp
theorem v2{v:LI'}(h:v.length=2):∃x y,v=[x,y]:=len2 h
theorem v3{v:LI'}(h:v.length=3):∃x y z,v=[x,y,z]:=len3 h
noncomputable def mv(M:LM)(v:LI'):LI':=M.map λr=>dotI r v
noncomputable def va(v w:LI'):LI':=List.zipWith (·+·) v w
theorem Di{d:Nat}{A:LM}{v:LI'}(h:Sq d A):(mv A v).length=d:=by unfold mv;rw[zqe];exact h.1
theorem mv2(a b c e x y:Int):mv [[a,b],[c,e]] [x,y]=[a*x+b*y,c*x+e*y]:=by simp[mv,dotI]
theorem mv3(a b c d g j e f i x y z:Int):mv [[a,b,c],[d,g,j],[e,f,i]] [x,y,z]=[a*x+(b*y+c*z),d*x+(g*y+j*z),e*x+(f*y+i*z)]:=by simp[mv,dotI]
theorem Wi{d:Nat}(j:d=2\/d=3){A B:LM}(f:Sq d A)(i:Sq d B){v:LI'}(g:v.length=d):mv (mulM d A B) v=mv A (mv B v):=by
 rcases j with rfl|rfl
 ·obtain⟨a,b,c,e,rfl⟩:=sq2 f;obtain⟨G,C,R,l,rfl⟩:=sq2 i;obtain⟨x,y,rfl⟩:=v2 g;rw[mul2,mv2,mv2,mv2];simp only[List.cons.injEq,and_true];refine⟨?_,?_⟩ <;> grind
 ·obtain⟨I,F,r,k,D,N,J,M,n,rfl⟩:=sq3 f;obtain⟨b1,b2,u,m,q,p,O,o,L,rfl⟩:=sq3 i;obtain⟨x,y,z,rfl⟩:=v3 g;rw[mul3,mv3,mv3,mv3];simp only[List.cons.injEq,and_true];refine⟨?_,?_,?_⟩ <;> grind
theorem Kw{d:Nat}(b:d=2\/d=3){v:LI'}(a:v.length=d):mv (idM d) v=v:=by
 rcases b with rfl|rfl
 ·obtain⟨x,y,rfl⟩:=v2 a;rw[id2,mv2];simp
 ·obtain⟨x,y,z,rfl⟩:=v3 a;rw[id3,mv3];simp
noncomputable def smul(k:Int)(T:LI'):LI':=T.map λt=>k*t
theorem Kv{k:Int}{T:LI'}:(smul k T).length=T.length:=by unfold smul;rw[zqe]
theorem Ku(c a b:Int):smul c [a,b]=[c*a,c*b]:=rfl
theorem Kt(c a b e:Int):smul c [a,b,e]=[c*a,c*b,c*e]:=rfl
theorem Wh{d:Nat}(i:d=2\/d=3){A:LM}(f:Sq d A){v:LI'}(g:v.length=d)(c:Int):mv A (smul c v)=smul c (mv A v):=by
 rcases i with rfl|rfl
 ·obtain⟨a,b,c,e,rfl⟩:=sq2 f;obtain⟨x,y,rfl⟩:=v2 g;rw[Ku,mv2,mv2,Ku];simp only[List.cons.injEq,and_true];refine⟨?_,?_⟩ <;> grind
 ·obtain⟨k,r,p,j,q,o,m,n,l,rfl⟩:=sq3 f;obtain⟨x,y,z,rfl⟩:=v3 g;rw[Kt,mv3,mv3,Kt];simp only[List.cons.injEq,and_true];refine⟨?_,?_,?_⟩ <;> grind
structure Chg(d:Nat)(P P':LM):Prop where
 p:Sq d P
 q:Sq d P'
 l:mulM d P' P=idM d
 r:mulM d P P'=idM d
theorem Chg.id{d:Nat}(a:d=2\/d=3):Chg d (idM d) (idM d):=⟨jY,jY,(jM a jY).1,(jM a jY).1⟩
theorem Chg.then{d:Nat}(a:d=2\/d=3){P c R b:LM}(h:Chg d P c)(g:Chg d R b):Chg d (mulM d R P) (mulM d c b):=by
 refine⟨g.p.mul,h.q.mul,?_,?_⟩
 ·rw[mul_assoc a h.q g.q g.p.mul,←mul_assoc a g.q g.p h.p,g.l,(jM a h.p).1,h.l]
 ·rw[mul_assoc a g.p h.p h.q.mul,←mul_assoc a h.p h.q g.q,h.r,(jM a g.q).1,g.r]
noncomputable def cjM(d:Nat)(P P' M:LM):LM:=mulM d (mulM d P M) P'
theorem fH{d:Nat}{P a:LM}(h:Chg d P a)(M:LM):Sq d (cjM d P a M):=h.p.mul.mul
theorem Wg{d:Nat}(b:d=2\/d=3){P c R a M:LM}(h:Chg d P c)(g:Chg d R a)(e:Sq d M):cjM d R a (cjM d P c M)=cjM d (mulM d R P) (mulM d c a) M:=by
 unfold cjM;rw[mul_assoc b g.p h.p e,←mul_assoc b (g.p.mul) h.q g.q,mul_assoc b g.p (h.p.mul) h.q]
noncomputable def vs(v w:LI'):LI':=List.zipWith (· - ·) v w
theorem Ks{d:Nat}{v w:LI'}(b:v.length=d)(a:w.length=d):(va v w).length=d:=by unfold va;rw[xX,b,a,pR]
noncomputable def cjT(d:Nat)(P P' M:LM)(ts S:LI'):LI':=vs (va (mv P ts) S) (mv (cjM d P P' M) S)
theorem Dh{d:Nat}(a:d=2\/d=3){P c A B:LM}(h:Chg d P c)(b:Sq d A)(e:Sq d B):mulM d (cjM d P c B) (cjM d P c A)=cjM d P c (mulM d B A):=by
 unfold cjM;rw[mul_assoc a h.p.mul h.q h.p.mul.mul,mul_assoc a h.p b h.q,←mul_assoc a h.q h.p b.mul,h.l,(jM a b.mul).1,←mul_assoc a h.p.mul b h.q,mul_assoc a h.p e b]
noncomputable def stE(i j:Nat)(m:Int)(a b:Nat):Int:=if a=b then 1 else if a=i/\b=j then m else 0
noncomputable def stM(d i j:Nat)(m:Int):LM:=(List.range d).map λa=>(List.range d).map λb=>if a=b then 1 else if a=i/\b=j then m else 0
noncomputable def vst(i j:Nat)(m:Int)(v:LI'):LI':=v.set i (v.getD i 0+m*v.getD j 0)
noncomputable def mixR(d:Nat)(x y:LI')(m:Int):LI':=(List.range d).map λk=>x.getD k 0+m*y.getD k 0
noncomputable def colR(d i j:Nat)(m:Int)(row:LI'):LI':=(List.range d).map λk=>row.getD k 0-(if k=j then 1 else 0)*m*row.getD i 0
noncomputable def Az(d i j:Nat)(m:Int)(A:LM):LM:=(A.set i (mixR d (A.getD i []) (A.getD j []) m)).map (colR d i j m)
theorem cO{d i j:Nat}{m:Int}:Sq d (stM d i j m):=⟨by simp[stM],λr hr=>by
 obtain⟨a,_,rfl⟩:=oE.mp hr;simp⟩
theorem cP{a:Type}{d k:Nat}{f:Nat->a}{z:a}(h:k<d):((List.range d).map f).getD k z=f k:=by
 rw[zqc,zI,yW h];rfl
theorem eY{a:Type}{d:Nat}{l:List a}{z:a}(h:l.length=d):l=(List.range d).map λk=>l.getD k z:=by
 refine uB (by simp[h]) λk b c=>?_;rw[uC,rY,zqc,zqd b];rfl
theorem Dg{b:Type}{d i:Nat}{f:Nat->b}{v:b}:((List.range d).map f).set i v=(List.range d).map λa=>if a=i then v else f a:=by
 refine uB (by simp) λk g c=>?_;rw[uC,rY,List.getElem_set]
 by_cases e:i=k
 ·rw[zF e,zF e.symm]
 ·rw[zD e,zD (yA e),uC,rY]
theorem kY{a:Type}{d:Nat}{f g:Nat->a}(h:∀k,k<d->f k=g k):(List.range d).map f=(List.range d).map g:=wE λk b=>h k (oB.mp b)
theorem eZ{x y:Int}{r c:LI'}:dotI (x:: r) (y:: c)=x*y+dotI r c:=by simp[dotI]
theorem Df{n:Int}{a:Nat}:∀{c:LI'}{s:Nat},dotI ((List.range' s c.length).map λb=>if a=b then n else 0) c=if s<=a then n*c.getD (a-s) 0 else 0
 |[],s=>by simp[dotI]
 | x:: c,s=>by
  rw[zU,List.range'_succ,zK,eZ,Df]
  by_cases h:a=s
  ·subst h;rw[zF rfl,zD ⋯,zF (zE _),vJ,wY];rfl
  ·rw[zD h,uE,sF]
   by_cases d:s<=a
   ·rw[zF d,zF ⋯,show a-s=(a-(s+1))+1 by omega];rfl
   ·rw[zD d,zD ⋯]
theorem Kr{f g:Nat->Int}:∀{l:List Nat}{c:LI'},dotI (l.map λb=>f b+g b) c=dotI (l.map f) c+dotI (l.map g) c
 |[],c=>by simp[dotI]
 |b:: l,[]=>by simp[dotI]
 |b:: l,x:: c=>by
  rw[zK,zK,zK,eZ,eZ,eZ,Kr,Int.add_mul];omega
theorem De{d a i j:Nat}(n:i≠j){m:Int}{c:LI'}(l:c.length=d):dotI ((List.range d).map (stE i j m a)) c=c.getD a 0+if a=i then m*c.getD j 0 else 0:=by
 have e:stE i j m a=λb=>(if a=b then(1:Int) else 0)+if j=b then(if a=i then m else 0) else 0:=funext λb=>by
  unfold stE
  by_cases k:a=b
  ·subst k;rw[zF rfl,zF rfl]
   by_cases f:j=a
   ·rw[zF f,zD (λz=>n ⋯),wY]
   ·rw[zD f,wY]
  ·rw[zD k,zD k,sF]
   by_cases f:j=b
   ·by_cases g:a=i
    ·rw[zF ⟨g,f.symm⟩,zF f,zF g]
    ·rw[zD (λz=>g z.1),zF f,zD g]
   ·rw[zD (λz=>f z.2.symm),zD f]
 subst l;rw[e,Kr,List.range_eq_range',Df,Df,zF (yB _),zF (yB _),pI];show c.getD a 0+_*c.getD j 0=_
 by_cases h:a=i
 ·rw[zF h,zF h]
 ·rw[zD h,zD h,uE]
theorem Kq{A:LM}{a k:Nat}:(colI k A).getD a 0=(A.getD a []).getD k 0:=by
 unfold colI;rw[zqc,zI,zqc (l:=A)];cases A[a]? <;> rfl
theorem Kp:∀{r c:LI'},dotI r c=dotI c r
 |[],c=>by cases c <;> rfl
 |x:: r,[]=>rfl
 |x:: r,y:: c=>by rw[eZ,eZ,Kp,wQ]
theorem Wf{i j a k:Nat}{n:Int}:stE i j n a k=stE j i n k a:=by
 unfold stE
 by_cases h:a=k
 ·rw[zF h,zF h.symm]
 ·rw[zD h,zD (yA h)]
  by_cases z:a=i/\k=j
  ·rw[zF z,zF z.symm]
  ·rw[zD z,zD (λw=>z w.symm)]
theorem Ko{d i j:Nat}{m:Int}(b:i≠j){A:LM}(c:A.length=d):mulM d (stM d i j m) A=(List.range d).map λa=>(List.range d).map λk=>(A.getD a []).getD k 0+if a=i then m*(A.getD j []).getD k 0 else 0:=by
 unfold mulM stM;rw[xJ];refine kY λa _=>kY λk _=>?_;have e:(colI k A).length=d:=by unfold colI;rw[zqe,c]
 have:=De (a:=a) (m:=m) b e;rw[Kq,Kq]at this;exact this
theorem We{d i j:Nat}{n:Int}(c:i≠j){B:LM}(b:∀r∈B,r.length=d):mulM d B (stM d i j n)=B.map λr=>(List.range d).map λk=>r.getD k 0+if k=j then n*r.getD i 0 else 0:=by
 unfold mulM;refine wE λr hr=>kY λk f=>?_;have e:colI k (stM d i j n)=(List.range d).map (stE j i n k):=by
  unfold colI stM;rw[xJ];refine kY λa _=>?_;show((List.range d).map (stE i j n a)).getD k 0=_;rw[cP f,Wf]
 rw[e,Kp,De (yA c) (b r hr)]
theorem Kn{d i j:Nat}{m:Int}(l:i≠j)(n:j<d):mulM d (stM d i j m) (stM d i j (-m))=idM d:=by
 rw[Ko l cO.1];unfold idM;refine kY λa g=>kY λk o=>?_;have e:∀a,a<d->(((stM d i j (-m)).getD a []).getD k 0)=stE i j (-m) a k:=λa g=>by
  unfold stM;rw[cP g];exact cP o
 rw[e a g,e j n];unfold stE
 by_cases f:a=k
 ·rw[zF f,zF f]
  by_cases b:a=i
  ·rw[zF b,zD ⋯,zD ⋯,pS,wY]
  ·rw[zD b,wY]
 ·rw[zD f,zD f]
  by_cases b:a=i
  ·rw[zF b]
   by_cases c:k=j
   ·rw[zF ⟨b,c⟩,zF c.symm,rT,Int.add_left_neg]
   ·rw[zD (λz=>c z.2),zD (yA c),zD (λz=>c z.2),pS,wY]
  ·rw[zD (λz=>b z.1),zD b,wY]
theorem Km{d i j:Nat}{m:Int}(n:d=2\/d=3)(hi:i<d)(g:j<d)(c:i≠j):Chg d (stM d i j m) (stM d i j (-m))/\(∀v:LI',v.length=d->mv (stM d i j m) v=vst i j m v)/\∀A,Sq d A->Az d i j m A=cjM d (stM d i j m) (stM d i j (-m)) A:=by
 refine⟨⟨cO,cO,?_,Kn c g⟩,λv f=>?_,λA b=>?_⟩
 ·have:=Kn (d:=d) (m:=-m) c g;rw[Int.neg_neg]at this;exact this
 ·unfold mv stM vst;rw[xJ]
  conv=>rhs;rw[eY (z:=0) f,Dg,←eY f]
  refine kY λa _=>?_;show dotI ((List.range d).map (stE i j m a)) v=_;rw[De c f]
  by_cases h:a=i
  ·rw[zF h,zF h,h]
  ·rw[zD h,zD h,wY]
 ·unfold cjM;rw[We c cO.mul.2,Ko c b.1];unfold Az;have e:A.set i (mixR d (A.getD i []) (A.getD j []) m)=(List.range d).map λa=>(List.range d).map λk=>(A.getD a []).getD k 0+if a=i then m*(A.getD j []).getD k 0 else 0:=by
   conv=>lhs;rw[eY (l:=A) (z:=[]) b.1,Dg,←eY b.1]
   refine kY λa l=>?_
   by_cases h:a=i
   ·rw[zF h];unfold mixR;refine kY λk _=>?_;rw[zF h,h]
   ·rw[zD h];have hr:(A.getD a []).length=d:=b.2 _ (by rw[zqc,zqd (by rw[b.1];exact l)];exact vE _)
    conv=>lhs;rw[eY (z:=0) hr]
    exact kY λk _=>by rw[zD h,wY]
  rw[e];refine wE λr _=>kY λk _=>?_
  by_cases h:k=j
  ·rw[zF h,zF h,pI,Int.neg_mul,Int.sub_eq_add_neg]
  ·rw[zD h,zD h,uE,uE,Int.sub_zero,wY]
structure Stp where
 i:Nat
 j:Nat
 m:Int
structure Stp.Ok(d:Nat)(s:Stp):Prop where
 hi:s.i<d
 hj:s.j<d
 ne:s.i≠s.j
 m2:s.m.natAbs<=1000000
noncomputable def chP(d:Nat):List Stp->LM
 |[]=>idM d
 |s:: L=>mulM d (stM d s.i s.j s.m) (chP d L)
noncomputable def chQ(d:Nat):List Stp->LM
 |[]=>idM d
 |s:: L=>mulM d (chQ d L) (stM d s.i s.j (-s.m))
theorem kE{d:Nat}(a:d=2\/d=3):∀{L:List Stp},(∀s∈L,s.Ok d)->Chg d (chP d L) (chQ d L)
 |[],_=>Chg.id a
 |s:: L,h=>by
  have o:=h s (zZ ..);exact(kE a λz b=>h z (zO _ b)).then a (Km a o.hi o.hj o.ne).1
theorem Wd{d:Nat}(a:d=2\/d=3){L:List Stp}(h:∀s∈L,s.Ok d){s:Stp}(o:s.Ok d){A:LM}(b:Sq d A):Az d s.i s.j s.m (cjM d (chP d L) (chQ d L) A)=cjM d (chP d (s:: L)) (chQ d (s:: L)) A:=by
 have g:=(Km (m:=s.m) a o.hi o.hj o.ne);rw[g.2.2 _ (fH (kE a h) A),Wg a (kE a h) g.1 b];rfl
theorem Wc{d:Nat}(a:d=2\/d=3){A:LM}(b:Sq d A){v:LI'}(c:v.length=d):cjM d (chP d []) (chQ d []) A=A/\mv (chP d []) v=v:=by
 refine⟨?_,Kw a c⟩;unfold chP chQ cjM;rw[(jM a b).1,(jM a b).2]
def LeM(N:Nat)(A:LM):Prop:=∀r∈A,∀z∈r,z.natAbs<=N
theorem Kl{d i j:Nat}{m:Int}{N:Nat}(h:m.natAbs<=N)(e:1<=N):LeM N (stM d i j m):=λr hr z c=>by
 obtain⟨a,_,rfl⟩:=oE.mp hr;obtain⟨b,_,rfl⟩:=oE.mp c;split
 ·exact e
 ·split
  ·exact h
  ·omega
theorem Kk{A B:Nat}:∀(r ns:LI'),(∀z∈r,z.natAbs<=A)->(∀z∈ns,z.natAbs<=B)->(dotI r ns).natAbs<=r.length*(A*B)
 |[],ns,_,_=>by simp[dotI]
 |_:: _,[],_,_=>by simp[dotI]
 |a:: r,b:: ns,e,d=>by
  have i:=Kk r ns (λz c=>e z (zO _ c)) λz c=>d z (zO _ c);unfold dotI at i ⊢;rw[yX,List.sum_cons,zU,qZ];have e1:(a*b).natAbs<=A*B:=by rw[xA];exact xZ (e a zZ) (d b zZ)
  have j:=uO (a*b) (List.zipWith (λg f=>g*f) r ns).sum;omega
theorem Wb{N:Nat}{A:LM}(h:LeM N A)(k:Nat):∀z∈colI k A,z.natAbs<=N:=λz a=>by
 unfold colI at a;obtain⟨r,hr,rfl⟩:=oE.mp a;rw[zqc];cases e:r[k]? with
 |none=>exact yB _
 |some y=>exact h r hr y (zqb e)
theorem dA{d A B:Nat}{M N:LM}(f:Sq d M)(b:LeM A M)(e:LeM B N):LeM (d*(A*B)) (mulM d M N):=λr hr z c=>by
 obtain⟨x,a,rfl⟩:=oE.mp hr;obtain⟨k,_,rfl⟩:=oE.mp c;have:=Kk x (colI k N) (b x a) (Wb e k);rw[f.2 x a]at this;exact this
theorem Kj{c:Int}:∀{r v:LI'},dotI r (smul c v)=c*dotI r v
 |[],v=>by simp[dotI]
 |_:: _,[]=>by simp[dotI,smul]
 |a:: r,x:: v=>by
  have:=Kj (c:=c) (r:=r) (v:=v);unfold dotI smul at this ⊢;simp only[List.map_cons,List.zipWith_cons_cons,List.sum_cons];rw[this];grind
noncomputable def canD(M:LM)(ts:LI')(U:Int):Dd:=(M,nW (redU U ts) (redT U ts),redU U ts)
theorem Dc{M:LM}{ts b:LI'}{U:Int}(d:0<U)(h:Cong U ts b):canD M ts U=canD M b U:=by
 obtain⟨a,c⟩:=h.red d;unfold canD;rw[a,←a,c,a]
theorem Ay{U:Int}{ts:LI'}(a:0<U):cs U ts=gl U ts/\0<cs U ts:=by
 have:=Ca ts (show U≠0 by omega);unfold cs;rw[zD ⋯];exact⟨rfl,this⟩
theorem dB{U:Int}{ts:LI'}(d:0<U):∃c,0<c/\ts=smul c (redT U ts)/\U=c*redU U ts/\0<redU U ts:=by
 obtain⟨e,b⟩:=Ay (ts:=ts) d;refine⟨cs U ts,b,?_,?_,gH ts ⋯⟩
 ·unfold smul redT;rw[xJ]
  conv=>lhs;rw[←List.map_id ts]
  refine wE λt a=>?_;show t=cs U ts*t.fdiv (cs U ts);rw[wQ];exact(gG ⋯ (jX (aW a))).symm
 ·rw[wQ];exact(gG ⋯ (jX (gl_u U ts))).symm
theorem Ax{U k:Int}{ts:LI'}(b:0<U)(a:0<k):redT (k*U) (smul k ts)=redT U ts/\redU (k*U) (smul k ts)=redU U ts:=by
 have d:0<k*U:=xE a b;have c:cs (k*U) (smul k ts)=k*cs U ts:=by
  rw[(Ay d).1,(Ay b).1,wQ k U,wQ k (gl U ts),←Wk a];unfold smul;congr 1;exact wE λt _=>wQ k t
 have e:=(Ay (ts:=ts) b).2;refine⟨?_,?_⟩
 ·unfold redT;rw[c];unfold smul;rw[xJ];exact wE λt f=>by
   show(k*t).fdiv (k*cs U ts)=_;exact Int.mul_fdiv_mul_of_pos _ _ a
 ·unfold redU;rw[c];exact Int.mul_fdiv_mul_of_pos _ _ a
theorem cQ{M:LM}{U k:Int}{ts:LI'}(c:0<U)(d:0<k):canD M (smul k ts) (k*U)=canD M ts U:=by
 obtain⟨a,b⟩:=Ax (ts:=ts) c d;unfold canD;rw[a,b]
theorem Ki{N:LM}{ns ts:LI'}{c e u v:Int}:movT N (smul e ns) (e*v) (smul c ts) (c*u)=smul (e*c) (movT N ns v ts u):=by
 unfold movT
 induction N generalizing ns with
 |nil=>rfl
 | cons r N b =>
  cases ns with
  |nil=>rfl
  |cons n ns =>
   have:=b (ns:=ns);unfold smul at this ⊢;rw[zK,yX,yX,zK,this];have a:=Kj (c:=c) (r:=r) (v:=ts);unfold smul at a;rw[a];congr 1;grind
theorem iQ{d:Nat}{M N:LM}{ts ns:LI'}{U V:Int}(k:0<U)(n:0<V):oZ d (canD M ts U) (canD N ns V)=canD (mulM d N M) (movT N ns V ts U) (V*U):=by
 obtain⟨c,i,e1,f,a⟩:=dB (ts:=ts) k;obtain⟨e,l,m,g,b⟩:=dB (ts:=ns) n;have k1:canD (mulM d N M) (movT N ns V ts U) (V*U)=canD (mulM d N M) (movT N (redT V ns) (redU V ns) (redT U ts) (redU U ts)) (redU V ns*redU U ts):=by
  have hh:V*U=(e*c)*(redU V ns*redU U ts):=by
   conv=>lhs;rw[f,g]
   grind
  have j:movT N ns V ts U=smul (e*c) (movT N (redT V ns) (redU V ns) (redT U ts) (redU U ts)):=by
   rw[←Ki,←e1,←f,←m,←g]
  rw[hh,j,cQ (xE b a) (xE l i)]
 rw[k1];exact Dc (xE b a) (Kx (Cong.rest b _) (Cong.rest a _)) |>.symm
noncomputable def frD(d:Nat)(P P':LM)(s:LI')(su p:Int)(R:LM)(t:LI'):Dd:=canD (cjM d P P' R) (cjT d P P' R (smul su t) (smul p s)) (p*su)
theorem Kh{N:LM}{ns ts:LI'}{U:Int}:movT N ns U ts U=smul U (va (mv N ts) ns):=by
 unfold movT va mv
 induction N generalizing ns with
 |nil=>rfl
 | cons r N a =>
  cases ns with
  |nil=>rfl
  |cons n ns =>
   have:=a (ns:=ns);unfold smul at this ⊢;rw[yX,zK,yX,zK,this];congr 1;grind
theorem Kg{f:Type}:∀{l L:List f},l.Nodup->(∀x∈l,x∈L)->l.length<=L.length
 |[],L,_,_=>yB _
 | a:: l,L,nd,h=>by
  obtain⟨s,t,e⟩:=List.append_of_mem (h a zZ);have d:=tV.mp nd;have:=Kg (L:=s++t) d.2 λx c=>by
   have b:=h x (zO _ c);rw[e]at b;rcases oF.mp b with b|b
   ·exact xU _ b
   ·rcases xH.mp b with rfl|b
    ·exact absurd c d.1
    ·exact yO _ b
  rw[e];simp only[List.length_append,List.length_cons]at this ⊢;omega
theorem Kf{d:Nat}{x:Dd}{w:List Nat}{a:Dd->Prop}:∀(l:List (Dd×Nat))(tb:Tb),(∀k∈l,a (oZ d x k.1))->(∀y∈tb,a y.1)->∀y∈l.foldl (nxt d x w) tb,a y.1
 |[],_,_,h=>h
 |k:: l,tb,b,h=>Kf l _ (λc e=>b c (zO _ e)) (Jl h (b k zZ))
theorem Ke{ss:List Dd}{k:Dd×Nat}(h:k∈ss.zipIdx):k.1∈ss/\ss[k.2]?=some k.1:=by
 obtain⟨i,hi⟩:=xT h;rw[rH]at hi;cases e:ss[i]? with
 |none=>rw[e]at hi;cases hi
 |some s =>
  rw[e]at hi;cases hi;exact⟨zqb e,by simpa using e⟩
theorem Wa{d:Nat}{ss:List Dd}{a:Dd->Prop}(b:∀x,a x->∀s∈ss,a (oZ d x s)){tb:Tb}{i:Nat}(h:∀y∈tb,a y.1):∀y∈kA d ss tb i,a y.1:=by
 unfold kA;cases e:tb[i]? with
 |none=>exact h
 |some f=>exact Kf _ _ (λk c=>b _ (h _ (zqb e)) _ (Ke c).1) h
theorem Kd{d:Nat}{ss:List Dd}{a:Dd->Prop}(b:∀x,a x->∀s∈ss,a (oZ d x s)):∀(n i:Nat)(tb:Tb),(∀y∈tb,a y.1)->∀y∈nP d ss n i tb,a y.1
 |0,_,_,h=>h
 |n+1,i,tb,h=>by
  unfold nP;split
  ·exact Kd b n (i+1) _ (Wa b h)
  ·exact h
theorem Xz{d:Nat}{ss:List Dd}{tb:Tb}{i:Nat}(h:(tb.map (·.1)).Nodup):((kA d ss tb i).map (·.1)).Nodup:=by
 unfold kA;split
 ·exact h
 ·exact Jm _ _ h
theorem Kc{d:Nat}{ss:List Dd}:∀(n i:Nat)(tb:Tb),(tb.map (·.1)).Nodup->((nP d ss n i tb).map (·.1)).Nodup
 |0,_,_,h=>h
 |n+1,i,tb,h=>by
  unfold nP;split
  ·exact Kc n (i+1) _ (Xz h)
  ·exact h
noncomputable abbrev tab(d:Nat)(ss:List Dd)(N:Nat):Tb:=nP d ss N 0 [(nE d,[])]
theorem Aw{d:Nat}{ss:List Dd}{N:Nat}:((tab d ss N).map (·.1)).Nodup:=Kc N 0 _ (by simp)
theorem Db{d:Nat}{ss:List Dd}{N:Nat}{a:Dd->Prop}(b:a (nE d))(e:∀x,a x->∀s∈ss,a (oZ d x s)):∀y∈tab d ss N,a y.1:=Kd e N 0 _ λy c=>by rw[pO.mp c];exact b
theorem Kb{d:Nat}{x:Dd}{w:List Nat}:∀(l:List (Dd×Nat))(tb:Tb),∀k∈l,oZ d x k.1∈(l.foldl (nxt d x w) tb).map (·.1)
 | k:: l,tb,a,b=>by
  rw[wM];rcases xH.mp b with rfl|b
  ·have h:oZ d x a.1∈(nxt d x w tb a).map (·.1):=by
    unfold nxt;split
    ·assumption
    ·simp
   obtain⟨r,e⟩:=cM d x w l (nxt d x w tb a);rw[e,xD];exact xU _ h
  ·exact Kb l _ a b
theorem Xy{d:Nat}{ss:List Dd}{tb:Tb}{i:Nat}{a:Dd×List Nat}(e:tb[i]?=some a){s:Dd}(b:s∈ss):oZ d a.1 s∈(kA d ss tb i).map (·.1):=by
 unfold kA;rw[e];obtain⟨j,c⟩:=xT b;exact Kb ss.zipIdx tb (s,j) (zqb (i:=j) (by rw[rH,c];simp))
theorem Ka{d:Nat}{ss:List Dd}:∀(n i:Nat)(tb:Tb),(∀j,j<i->∀a,tb[j]?=some a->∀s∈ss,oZ d a.1 s∈tb.map (·.1))->(nP d ss n i tb).length<=n+i->∀a∈nP d ss n i tb,∀s∈ss,oZ d a.1 s∈(nP d ss n i tb).map (·.1)
 |0,i,tb,h,hl=>λa f s c=>by
  obtain⟨j,b⟩:=xT f;have:=(zqa b).1;unfold nP at hl this b ⊢;exact h j ⋯ _ b s c
 | n+1,i,tb,h,hl=>by
  unfold nP at hl ⊢;split
  ·next q =>
   rw[zF q]at hl;obtain⟨r,g⟩:=Jo d ss tb i;refine Ka n (i+1) _ (λj b a e s c=>?_) ⋯;rcases vW j i with l|l
   ·rw[g,yD ⋯]at e;rw[g,xD];exact xU _ (h j l a e s c)
   ·have:j=i:=⋯
    subst this;rw[g,yD ⋯]at e;exact Xy e c
  ·next q =>
   intro a f s c;obtain⟨j,b⟩:=xT f;have:=(zqa b).1;exact h j ⋯ _ b s c
theorem Lz{d:Nat}{ss:List Dd}{N:Nat}(h:(tab d ss N).length<=N):∀b∈tab d ss N,∀s∈ss,oZ d b.1 s∈(tab d ss N).map (·.1):=Ka N 0 _ (λj a=>absurd a (Nat.not_lt_zero j)) h
theorem Xx{d:Nat}{ss:List Dd}{N:Nat}:(nE d,[])∈tab d ss N:=by
 obtain⟨r,e⟩:=Ds d ss N 0 [(nE d,[])];unfold tab;rw[e];simp
noncomputable def Av(d:Nat)(ss:List Dd)(w:List Nat):Dd:=w.foldl (λx k=>oZ d x (ss.getD k (nE d))) (nE d)
def WdOk(d:Nat)(ss:List Dd)(y:Dd×List Nat):Prop:=y.1=Av d ss y.2/\∀k∈y.2,k<ss.length
theorem Ly{d:Nat}{ss:List Dd}{x:Dd}{w:List Nat}(c:WdOk d ss (x,w)):∀(l:List (Dd×Nat))(tb:Tb),(∀k∈l,ss[k.2]?=some k.1)->(∀y∈tb,WdOk d ss y)->∀y∈l.foldl (nxt d x w) tb,WdOk d ss y
 |[],_,_,h=>h
 | k :: l,tb,hl,h=>by
  refine Ly c l _ (λf g=>hl f (zO _ g)) λy a=>?_;unfold nxt at a;split at a
  ·exact h y a
  ·rcases oF.mp a with a|a
   ·exact h y a
   ·rw[pO.mp a];have e:=hl k zZ;refine⟨?_,λj b=>?_⟩
    ·show oZ d x k.1=Av d ss (w++[k.2]);unfold Av;rw[uS,wM,List.foldl_nil];show _=oZ d (Av d ss w) _;rw[←c.1,zqc,e];rfl
    ·rcases oF.mp b with b|b
     ·exact c.2 j b
     ·rw[pO.mp b];exact(zqa e).1
theorem Lx{d:Nat}{ss:List Dd}:∀(n i:Nat)(tb:Tb),(∀y∈tb,WdOk d ss y)->∀y∈nP d ss n i tb,WdOk d ss y
 |0,_,_,h=>h
 | n+1,i,tb,h=>by
  unfold nP;split
  ·refine Lx n (i+1) _ ?_;unfold kA;cases e:tb[i]? with
   |none=>exact h
   |some b=>exact Ly (h _ (zqb e)) _ _ (λk a=>(Ke a).2) h
  ·exact h
theorem Xw{d:Nat}{ss:List Dd}{N:Nat}:∀y∈tab d ss N,WdOk d ss y:=Lx N 0 _ λy a=>by rw[pO.mp a];exact⟨rfl,λk b=>by cases b⟩
noncomputable def famG:Nat->List LM
 |0=>[[[0,-1],[1,0]],[[-1,0],[0,1]]]
 |1=>[[[1,-1],[1,0]],[[0,1],[1,0]]]
 |2=>[[[0,-1,0],[1,0,0],[0,0,1]],[[0,0,1],[1,0,0],[0,1,0]],[[-1,0,0],[0,-1,0],[0,0,-1]]]
 |_=>[[[1,-1,0],[1,0,0],[0,0,1]],[[0,1,0],[1,0,0],[0,0,1]],[[1,0,0],[0,1,0],[0,0,-1]]]
noncomputable def famD(k:Nat):Nat:=if k<2 then 2 else 3
noncomputable def Xv(d:Nat)(gs l:List LM):List LM:=(l.flatMap λA=>gs.map λg=>mulM d g A).foldl (λacc M=>if acc.contains M then acc else acc++[M]) l
noncomputable def Da(d:Nat)(gs:List LM):Nat->List LM->List LM
 |0,l=>l
 |n+1,l=>Da d gs n (Xv d gs l)
noncomputable def pgL(k:Nat):List LM:=Da (famD k) (famG k) 10 [idM (famD k)]
noncomputable def invM(d:Nat)(A:LM):LM:=mulM d A (mulM d (mulM d A A) (mulM d (mulM d (mulM d A A) (mulM d A A)) (mulM d (mulM d A A) (mulM d A A))))
noncomputable def Lw(k:Nat):Bool:=
 (pgL k).contains (idM (famD k)) && (famG k).all (λg=>(pgL k).contains g) &&
 (pgL k).all (λA=>(famG k).all λg=>(pgL k).contains (mulM (famD k) g A)) &&
 (pgL k).all (λA=>decide (mulM (famD k) A (invM (famD k) A)=idM (famD k)) && decide (mulM (famD k) (invM (famD k) A) A=idM (famD k))) &&
 (pgL k).all (λA=>decide (A.length=famD k) && A.all λr=>decide (r.length=famD k) && r.all λz=>decide (z.natAbs<=1))
theorem Xu:(List.range 4).all Lw=true:=nofun
theorem kZ(k:Nat):famD k=2\/famD k=3:=by unfold famD;split <;> simp
theorem Lv{M:LM}:∀(xs acc:List LM),M∈xs.foldl (λacc M=>if acc.contains M then acc else acc++[M]) acc->M∈acc\/M∈xs
 |[],_,h=>.inl h
 | x:: xs,acc,h=>by
  rcases Lv xs _ h with q|q
  ·dsimp only at q;split at q
   ·exact .inl q
   ·rcases oF.mp q with q|q
    ·exact .inl q
    ·exact .inr (by rw[pO.mp q];exact .head _)
  ·exact .inr (.tail _ q)
theorem Lu{P:LM->Prop}{d:Nat}{gs:List LM}(a:∀A,P A->∀g∈gs,P (mulM d g A)):∀(n:Nat)(l:List LM),(∀A∈l,P A)->∀M∈Da d gs n l,P M
 |0,_,h=>h
 |n+1,l,h=>Lu a n _ λM c=>by
  rcases Lv _ _ c with q|q
  ·exact h M q
  ·obtain⟨A,b,q⟩:=List.mem_flatMap.mp q;obtain⟨g,e,rfl⟩:=oE.mp q;exact a A (h A b) g e
structure Fam(k:Nat):Prop where
 one:idM (famD k)∈pgL k
 gen:∀g∈famG k,g∈pgL k
 mul:∀A∈pgL k,∀B∈pgL k,mulM (famD k) A B∈pgL k
 inv:∀A∈pgL k,∃B∈pgL k,mulM (famD k) A B=idM (famD k)/\mulM (famD k) B A=idM (famD k)
 sq:∀A∈pgL k,Sq (famD k) A
 wee:∀A∈pgL k,∀r∈A,∀z∈r,z.natAbs<=1
theorem jZ{k:Nat}(q:k<4):Fam k:=by
 have h:=vF.mp Xu k (oB.mpr q);simp only[Lw,Bool.and_eq_true,List.all_eq_true,decide_eq_true_eq,List.contains_iff_mem]at h;obtain⟨⟨⟨⟨p,f⟩,l⟩,n⟩,e⟩:=h;have i:=kZ k;have c:∀A∈pgL k,Sq (famD k) A:=λA a=>⟨(e A a).1,λr hr=>((e A a).2 r hr).1⟩;have mul:∀A∈pgL k,∀B∈pgL k,mulM (famD k) A B∈pgL k:=λA a=>(Lu (P:=λA=>Sq (famD k) A/\∀B∈pgL k,mulM (famD k) A B∈pgL k) (gs:=famG k) (λA⟨j,o⟩g d=>⟨(c g (f g d)).mul,λB b=>by
  rw[mul_assoc i (c g (f g d)) j (c B b)];exact l _ (o B b) g d⟩) 10 [idM (famD k)] (λA a=>by
   rw[pO.mp a];exact⟨jY,λB b=>by rw[(jM i (c B b)).1];exact b⟩) A a).2
 have sq2:=λA a=>mul A a A a;have sq4:=λA a=>mul _ (sq2 A a) _ (sq2 A a);exact⟨p,f,mul,λA a=>⟨invM (famD k) A,mul A a _ (mul _ (sq2 A a) _ (mul _ (sq4 A a) _ (sq4 A a))),n A a⟩,c,λA a r hr z m=>((e A a).2 r hr).2 z m⟩
theorem Xt{d:Nat}{c:Int}:smul c (List.replicate d 0)=List.replicate d 0:=by
 unfold smul;rw[List.map_replicate,pS]
theorem cR{d:Nat}(a:d=2\/d=3){M:LM}{U:Int}(b:0<U):canD M (List.replicate d 0) U=(M,List.replicate d 0,1):=by
 have h:=cQ (M:=M) (ts:=List.replicate d 0) (U:=1) (k:=U) ⋯ b;rw[Xt,rT]at h;rw[h];have:nW (redU 1 (List.replicate d 0)) (redT 1 (List.replicate d 0))=List.replicate d 0/\redU 1 (List.replicate d 0)=1:=by
  rcases a with rfl|rfl <;> decide +kernel
 unfold canD;rw[this.1,this.2]
def Rs(d:Nat)(x:Dd):Prop:=∃M ts U,Sq d M/\ts.length=d/\0<U/\x=canD M ts U
theorem Ez{d:Nat}{N:LM}{ns ts:LI'}{u v:Int}(b:Sq d N)(a:ns.length=d):(movT N ns v ts u).length=d:=by
 unfold movT;rw[xX,b.1,a,pR]
theorem Rs.step{d:Nat}{x y:Dd}(f:Rs d x)(e:Rs d y):Rs d (oZ d x y):=by
 obtain⟨M,ts,U,i,lt,a,rfl⟩:=f;obtain⟨N,ns,V,c,g,b,rfl⟩:=e;exact⟨_,_,_,c.mul,Ez c g,xE b a,iQ a b⟩
theorem Xs{d:Nat}(n:d=2\/d=3){N O:LM}(j:Sq d N)(i:Sq d O){ts ns f:LI'}(lt:ts.length=d)(g:ns.length=d)(lo:f.length=d){U V W:Int}:
  movT O f W (movT N ns V ts U) (V*U)=movT (mulM d O N) (movT O f W ns V) (W*V) ts U:=by
 rcases n with rfl|rfl
 ·obtain⟨a,b,c,e,rfl⟩:=sq2 j;obtain⟨R,J,a2,u,rfl⟩:=sq2 i;obtain⟨k,p,rfl⟩:=v2 lt;obtain⟨l,q,rfl⟩:=v2 g;obtain⟨o,m,rfl⟩:=v2 lo;rw[mul2];simp only[movT,dotI,List.zipWith_cons_cons,List.zipWith_nil_left,List.sum_cons,List.sum_nil,List.cons.injEq,and_true];refine⟨?_,?_⟩ <;> grind
 ·obtain⟨T,L,G,r,M,a0,X,Z,x,rfl⟩:=sq3 j;obtain⟨b1,b2,I,v,D,C,a1,z,Y,rfl⟩:=sq3 i;obtain⟨k,p,F,rfl⟩:=v3 lt;obtain⟨l,q,y,rfl⟩:=v3 g;obtain⟨o,m,S,rfl⟩:=v3 lo;rw[mul3];simp only[movT,dotI,List.zipWith_cons_cons,List.zipWith_nil_left,List.sum_cons,List.sum_nil,List.cons.injEq,and_true];refine⟨?_,?_,?_⟩ <;> grind
theorem Ey{d:Nat}(e:d=2\/d=3){x y z:Dd}(j:Rs d x)(i:Rs d y)(l:Rs d z):oZ d (oZ d x y) z=oZ d x (oZ d y z):=by
 obtain⟨M,ts,U,k,lt,c,rfl⟩:=j;obtain⟨N,ns,V,g,m,a,rfl⟩:=i;obtain⟨O,n,W,f,lo,b,rfl⟩:=l;rw[iQ c a,iQ (xE a c) b,iQ a b,iQ c (xE b a),mul_assoc e f g k,Xs e g f lt m lo,Int.mul_assoc]
theorem Xr{d:Nat}(a:d=2\/d=3):Rs d (nE d):=⟨idM d,List.replicate d 0,1,jY,by simp,⋯,(cR a ⋯).symm⟩
theorem Xq{d:Nat}(a:d=2\/d=3):nE d=canD (idM d) (List.replicate d 0) 1:=(cR a ⋯).symm
theorem Ls{d:Nat}(j:d=2\/d=3){N:LM}(f:Sq d N){ns:LI'}(g:ns.length=d){V:Int}:movT N ns V (List.replicate d 0) 1=ns/\movT (idM d) (List.replicate d 0) 1 ns V=ns:=by
 rcases j with rfl|rfl
 ·obtain⟨a,b,c,e,rfl⟩:=sq2 f;obtain⟨k,i,rfl⟩:=v2 g;rw[id2];simp[movT,dotI,List.replicate]
 ·obtain⟨n,x,v,l,m,u,p,r,o,rfl⟩:=sq3 f;obtain⟨k,i,q,rfl⟩:=v3 g;rw[id3];simp[movT,dotI,List.replicate]
theorem gK{d:Nat}(a:d=2\/d=3){x:Dd}(e:Rs d x):oZ d (nE d) x=x/\oZ d x (nE d)=x:=by
 obtain⟨M,ts,U,b,lt,c,rfl⟩:=e;rw[Xq a];refine⟨?_,?_⟩
 ·rw[iQ ⋯ c,(Ls a b lt).1,(jM a b).2,rT]
 ·rw[iQ c ⋯,(Ls a b lt).2,(jM a b).1,pI]
theorem Ex{d:Nat}:∀{v:LI'},v.length=d->va v (smul (-1) v)=List.replicate d 0/\va (smul (-1) v) v=List.replicate d 0
 |[],h=>by subst h;exact⟨rfl,rfl⟩
 |a:: v,h=>by
  obtain⟨m,rfl⟩:∃m,d=m+1:=⟨v.length,by rw[←h];rfl⟩;have:=Ex (v:=v) (d:=m) (by simpa using h);unfold va smul at this ⊢;rw[zK,yX,yX,this.1,this.2,wP,show a+-1*a=0 by omega,show -1*a+a=0 by omega];exact⟨rfl,rfl⟩
structure Grp(d:Nat)(T:List Dd):Prop where
 dim:d=2\/d=3
 nd:T.Nodup
 rs:∀x∈T,Rs d x
 one:nE d∈T
 mul:∀x∈T,∀y∈T,oZ d x y∈T
 inv:∀x∈T,∃y∈T,oZ d x y=nE d/\oZ d y x=nE d
theorem Lr{d:Nat}(e:d=2\/d=3){ss T:List Dd}(f:∀x∈T,Rs d x)(b:∀s∈ss,Rs d s)(i:∀x∈T,∀s∈ss,oZ d x s∈T){x:Dd}(c:x∈T):∀(w:List Nat),(∀k∈w,k<ss.length)->∀y,Rs d y->oZ d x y∈T->oZ d x (w.foldl (λx k=>oZ d x (ss.getD k (nE d))) y)∈T
 |[],_,y,_,h=>h
 | k:: w,g,y,l,h=>by
  rw[wM];have m:=g k zZ;have a:ss.getD k (nE d)∈ss:=by
   rw[zqc,zqd m];exact vE m
  refine Lr e f b i c w (λj n=>g j (zO _ n)) _ (l.step (b _ a)) ?_;rw[←Ey e (f x c) l (b _ a)];exact i _ h _ a
theorem Xp{c:Type}{l L:List c}(nd:l.Nodup)(sub:∀x∈l,x∈L)(hl:L.length<=l.length){a:c}(e:a∈L):a∈l:=by
 refine Classical.byContradiction λd=>?_;have:=Kg (l:=a:: l) (L:=L) (tV.mpr ⟨d,nd⟩) λx b=>by
  rcases xH.mp b with rfl|b
  ·exact e
  ·exact sub x b
 rw[zU]at this;omega
theorem Lq{c m:Type}{f:c->m}:∀{l:List c},l.Nodup->(∀x∈l,∀y∈l,f x=f y->x=y)->(l.map f).Nodup
 |[],_,_=>by simp
 |a:: l,nd,h=>by
  rw[zK,tV];have g:=tV.mp nd;refine⟨λj=>?_,Lq g.2 λx i y k=>h x (zO _ i) y (zO _ k)⟩;obtain⟨b,d,e⟩:=oE.mp j;exact g.1 ((h b (zO _ d) a zZ e) ▸ d)
theorem LeM.le{A B:Nat}{M:LM}(h:LeM A M)(b:A<=B):LeM B M:=λr hr z a=>yG (h r hr z a) b
theorem Lp{d:Nat}:LeM 1 (idM d):=λr hr z a=>by
 obtain⟨i,_,rfl⟩:=oE.mp hr;obtain⟨j,_,rfl⟩:=oE.mp a;split <;> decide
theorem cS{U:Int}{ts:LI'}(i:0<U):(∀z∈redT U ts,∃t∈ts,z.natAbs<=t.natAbs)/\0<redU U ts/\redU U ts<=U:=by
 have b:=eP ts (show U≠0 by omega);have g:0<redU U ts:=gH ts ⋯;refine⟨λz c=>?_,g,?_⟩
 ·unfold redT at c;obtain⟨t,d,rfl⟩:=oE.mp c;refine⟨t,d,?_⟩;have e:t.fdiv (cs U ts)*cs U ts=t:=gG b (jX (aW d));have a:=wI Int.natAbs e;rw[xA]at a;have:1<=(cs U ts).natAbs:=⋯
  rw[←a];exact Nat.le_mul_of_pos_right _ this
 ·have e:redU U ts*cs U ts=U:=gG b (jX (gl_u U ts));have a:=wI Int.natAbs e;rw[xA]at a;have f:1<=(cs U ts).natAbs:=⋯
  have:=Nat.le_mul_of_pos_right (redU U ts).natAbs f;omega
theorem fms(x y:Int)(h:0<y):0<=x.fmod y/\x.fmod y<y:=⟨uL x h,sD x h⟩
structure Amb(d:Nat)(G:Dd->Prop):Prop where
 dim:d=2\/d=3
 rs:∀x,G x->Rs d x
 fine:∀x,G x->mY d x
 one:G (nE d)
 mul:∀x y,G x->G y->G (oZ d x y)
 inv:∀x,G x->∃y,G y/\oZ d x y=nE d/\oZ d y x=nE d
theorem Xo{d:Nat}{k:Dd->Prop}(A:Amb d k){ss:List Dd}(q:∀s∈ss,k s){N:Nat}(C:(tab d ss N).length<=N):Grp d ((tab d ss N).map (·.1)):=by
 have c:=A.dim;have G:=Db (N:=N) A.one λx a s g=>A.mul x s a (q s g);have p:∀x∈(tab d ss N).map (·.1),k x:=λx a=>by
  obtain⟨y,b,rfl⟩:=oE.mp a;exact G y b
 have f:∀x∈(tab d ss N).map (·.1),Rs d x:=λx a=>A.rs x (p x a);have F:∀s∈ss,Rs d s:=λs g=>A.rs s (q s g);have v:∀x∈(tab d ss N).map (·.1),∀s∈ss,oZ d x s∈(tab d ss N).map (·.1):=λx a s g=>by
  obtain⟨y,b,rfl⟩:=oE.mp a;exact Lz C y b s g
 have mul:∀x∈(tab d ss N).map (·.1),∀y∈(tab d ss N).map (·.1),oZ d x y∈(tab d ss N).map (·.1):=λx a y b=>by
  obtain⟨z,i,rfl⟩:=oE.mp b;obtain⟨e,u⟩:=Xw z i;rw[e];exact Lr c f F v a z.2 u _ (Xr c) (by rw[(gK c (f x a)).2];exact a)
 have one:nE d∈(tab d ss N).map (·.1):=oE.mpr ⟨_,Xx,rfl⟩;refine⟨c,Aw,f,one,mul,λm l=>?_⟩;obtain⟨n,D,e1,I⟩:=A.inv m (p m l);have o:=A.rs n D;have j:∀x∈(tab d ss N).map (·.1),oZ d (oZ d x m) n=x:=λx a=>by
  rw[Ey c (f x a) (f m l) o,e1,(gK c (f x a)).2]
 have nd:(((tab d ss N).map (·.1)).map λx=>oZ d x m).Nodup:=Lq Aw λx a y b e=>by rw[←j x a,←j y b,e]
 have i:nE d∈((tab d ss N).map (·.1)).map λx=>oZ d x m:=Xp nd (λz i=>by
  obtain⟨x,a,rfl⟩:=oE.mp i;exact mul x a m l) (tX (zqe ..).symm) one
 obtain⟨y,b,e⟩:=oE.mp i;have r:y=n:=by
  have:=j y b;rw[e,(gK c o).1]at this;exact this.symm
 subst r;exact⟨y,b,e1,I⟩
theorem Ew{d:Nat}(b:d=2\/d=3):∀{L:List Stp},(∀s∈L,s.Ok d)->LeM (3000000^L.length) (chP d L)/\LeM (3000000^L.length) (chQ d L)
 |[],_=>⟨Lp,Lp⟩
 | s:: L,h=>by
  obtain⟨i,g⟩:=Ew b (L:=L) λz a=>h z (zO _ a);have o:=h s zZ;have c:=kE b (L:=L) λz a=>h z (zO _ a);have f:=o.m2;rw[zU,qU];have e:d*(1000000*3000000^L.length)<=3000000^L.length*3000000:=by
   have:d*(1000000*3000000^L.length)<=3*(1000000*3000000^L.length):=wC _ ⋯;omega
  refine⟨(dA cO (Kl f ∅) i).le e,?_⟩;have:=dA c.q g (Kl (d:=d) (i:=s.i) (j:=s.j) (m:=-s.m) (N:=1000000) ⋯ ∅);rw[tZ (3000000^L.length) 1000000]at this;exact this.le e
structure Fr4 where
 k:Nat
 L:List Stp
 U:Int
structure Fr4.Ok(F:Fr4):Prop where
 k:F.k<4
 ok:∀s∈F.L,s.Ok (famD F.k)
 l3:F.L.length<=3
 u0:0<F.U
 u1:F.U<2^100
noncomputable def Fr4.cj(F:Fr4)(R:LM):LM:=cjM (famD F.k) (chP (famD F.k) F.L) (chQ (famD F.k) F.L) R
def InG(F:Fr4)(x:Dd):Prop:=∃R∈pgL F.k,∃ts:LI',ts.length=famD F.k/\x=canD (F.cj R) ts F.U
theorem Au{F:Fr4}(h:F.Ok){R:LM}(j:R∈pgL F.k):nS 140 (F.cj R):=by
 have M:=jZ h.k;have a:=kZ F.k;have c:=kE a h.ok;obtain⟨i,g⟩:=Ew a h.ok;have b:3000000^F.L.length<=3000000^3:=yC ∅ h.l3;have w:LeM 1 R:=M.wee R j;have k:=dA c.p (i.le b) w;have d:=dA (c.p.mul (B:=R)) k (g.le b);intro r hr z f;have:=d r hr z f;have e:famD F.k*(famD F.k*(3000000^3*1)*3000000^3)<=3*(3*(3000000^3*1)*3000000^3):=xZ ⋯ (wC _ (wC _ ⋯));have l:3*(3*(3000000^3*1)*3000000^3)<2^140:=∅
 omega
theorem Xn{d:Nat}{C:LM}{ts:LI'}{U:Int}(b:Sq d C)(e:nS 140 C)(hl:ts.length=d)(c:0<U)(f:U<2^100):mY d (canD C ts U):=by
 obtain⟨_,r2,g⟩:=cS (ts:=ts) c;refine⟨b,by show(nW _ (redT _ ts)).length=_;unfold nW redT;rw[zqe,zqe];exact hl,r2,λr hr z a=>zJ (e r hr z a) (yC ∅ ∅),λz a=>?_,?_⟩
 ·obtain⟨y,_,rfl⟩:=oE.mp a;have:=fms y _ r2;exact zJ (show _<2^100 by omega) (yC ∅ ∅)
 ·show redU U ts<_;exact Int.lt_of_lt_of_le (show redU U ts<2^100 by omega) ∅
theorem Xm{C:LM}{ts:LI'}{U:Int}:oV (canD C ts U)=canD C ts U:=by
 unfold canD oV nW;show(_,_,_)=(_,_,_);rw[xJ];congr 2;exact wE λy _=>Int.fmod_fmod _ _
theorem Ev{F:Fr4}(h:F.Ok):F.cj (idM (famD F.k))=idM (famD F.k):=by
 have c:=kE (kZ F.k) h.ok;unfold Fr4.cj cjM;rw[(jM (kZ F.k) c.p).2,c.r]
theorem Eu{F:Fr4}(h:F.Ok){a R2:LM}(c:a∈pgL F.k)(b:R2∈pgL F.k){ts ns:LI'}:oZ (famD F.k) (canD (F.cj a) ts F.U) (canD (F.cj R2) ns F.U)=canD (F.cj (mulM (famD F.k) R2 a)) (va (mv (F.cj R2) ts) ns) F.U:=by
 have M:=jZ h.k;rw[iQ h.u0 h.u0,Kh,cQ h.u0 h.u0];unfold Fr4.cj;rw[Dh (kZ F.k) (kE (kZ F.k) h.ok) (M.sq _ c) (M.sq _ b)]
theorem cT{F:Fr4}(h:F.Ok):Amb (famD F.k) (InG F):=by
 have M:=jZ h.k;have a:=kZ F.k;have c:=kE a h.ok;have d:∀R,Sq (famD F.k) (F.cj R):=λR=>fH c R;have g:canD (F.cj (idM (famD F.k))) (List.replicate (famD F.k) 0) F.U=nE (famD F.k):=by rw[Ev h,cR a h.u0];rfl
 refine⟨a,?_,?_,⟨_,M.one,List.replicate (famD F.k) 0,by simp,g.symm⟩,?_,?_⟩
 ·rintro x ⟨R,b,ts,hl,rfl⟩;exact⟨_,_,_,d R,hl,h.u0,rfl⟩
 ·rintro x ⟨R,b,ts,hl,rfl⟩;exact Xn (d R) (Au h b) hl h.u0 h.u1
 ·rintro x y ⟨m,j,ts,l1,rfl⟩ ⟨R2,i,ns,l2,rfl⟩;exact⟨_,M.mul _ i _ j,_,Ks (Di (d R2)) l2,Eu h j i⟩
 ·rintro x ⟨R,b,ts,hl,rfl⟩;obtain⟨B,e,e1,k⟩:=M.inv R b;have f:(mv (F.cj B) ts).length=famD F.k:=Di (d B);refine⟨canD (F.cj B) (smul (-1) (mv (F.cj B) ts)) F.U,⟨B,e,_,by rw[Kv];exact f,rfl⟩,?_,?_⟩
  ·rw[Eu h b e,k,(Ex f).1,g]
  ·have l:mv (F.cj R) (mv (F.cj B) ts)=ts:=by
    rw[←Wi a (d R) (d B) hl];show mv (mulM _ (cjM _ _ _ R) (cjM _ _ _ B)) ts=ts;rw[Dh a c (M.sq B e) (M.sq R b),e1];show mv (F.cj (idM _)) ts=ts;rw[Ev h,Kw a hl]
   rw[Eu h e b,e1,Wh a (d R) f,l,(Ex hl).2,g]
structure Fr5 where
 d:Nat
 L:List Stp
 U:Int
structure Fr5.Ok(F:Fr5):Prop where
 d:F.d=2\/F.d=3
 ok:∀s∈F.L,s.Ok F.d
 l3:F.L.length<=3
 u0:0<F.U
 u1:F.U<2^100
noncomputable def Fr5.cj(F:Fr5)(R:LM):LM:=cjM F.d (chP F.d F.L) (chQ F.d F.L) R
def Wr(d:Nat)(R:LM):Prop:=Sq d R/\LeM 27 R
theorem Xl{k:Nat}(a:k<4){R:LM}(h:R∈pgL k):Wr (famD k) R:=⟨(jZ a).sq R h,λr hr z b=>yG ((jZ a).wee R h r hr z b) ∅⟩
theorem ac5(A N:Nat):3*(3*(A*N)*A)=N*(3*(3*A*A)):=by
 rw[tZ N,qF 3 (3*A*A) N,qF (3*A) A N,qF 3 A (A*N),qF 3 (A*N) A,tZ (A*N) A]
theorem Lo{F:Fr5}(h:F.Ok){R:LM}{N:Nat}(i:LeM N R):LeM (N*2^140) (F.cj R):=by
 have a:=h.d;have c:=kE a h.ok;obtain⟨g,f⟩:=Ew a h.ok;have b:3000000^F.L.length<=3000000^3:=yC ∅ h.l3;have j:=dA c.p (g.le b) i;have d:=dA (c.p.mul (B:=R)) j (f.le b);refine LeM.le d ?_;have e:F.d*(F.d*(3000000^3*N)*3000000^3)<=3*(3*(3000000^3*N)*3000000^3):=xZ ⋯ (wC _ (wC _ ⋯));rw[ac5]at e;exact yG e (Nat.mul_le_mul_left N ∅)
theorem Ln{K:Frag}{H:Hp}{ns:LI'}{xs:List V}(h:Dts K H xs (ns.map PyData.int)):xs=ns.map V.int:=by
 induction ns generalizing xs with
 |nil=>cases h;rfl
 |cons n ns b=>cases h with|cons a h=>cases a;rw[b h];rfl
theorem Lm{K:Frag}{H:Hp}:∀{M:LM}{xs:List V},Dts K H xs (M.map λr=>PyData.tuple (r.map PyData.int))->∃ps:LA,xs=ps.map V.ref/\ps.length=M.length/\∀(i:Nat) p r,ps[i]?=some p->M[i]?=some r->SqT K H p (r.map V.int)
 |[],_,.nil=>⟨[],rfl,rfl,λi p r e=>by cases e⟩
 | r:: M,_,.cons (x:=x) f d=>by
  obtain⟨ps,e,l,h⟩:=Lm d;cases f with
  |tup a b =>
   rename_i q ys;rw[Ln b]at a;refine⟨q:: ps,by rw[e];rfl,by rw[zU,zU,l],λi p s e1 c=>?_⟩;cases i with
   |zero=>cases e1;cases c;exact a
   |succ i=>exact h i p s e1 c
theorem Ll{K:Frag}{H:Hp}{p:Addr}{x:Dd}(h:Dt K H (.ref p) (dat x)):DdS K H p x:=by
 obtain⟨M,ts,u⟩:=x;have h':Dt K H (.ref p) (.tuple [.tuple (M.map λr=>.tuple (r.map PyData.int)),.tuple (ts.map PyData.int),.int u]):=h;cases h' with
 | tup a b =>
  cases b with
  | cons b1 b =>
   cases b with
   | cons b2 b =>
    cases b with
    | cons g b =>
     cases b;cases g;cases b1 with
     | tup e c =>
      cases b2 with
      |tup e1 d =>
       rw[Ln d]at e1;obtain⟨ps,rfl,l,f⟩:=Lm c;exact⟨_,_,a,⟨ps,e,l,f⟩,e1⟩
structure Told(d:Nat)(ss:List Dd)(srt:Tb):Prop where
 p:srt.Perm (tab d ss 201)
 o:srt.Pairwise λp q=>lx (fl (dat q.1)) (fl (dat p.1))=false
 l:(tab d ss 201).length<=200
section
variable {d:Nat} {G:Dd->Prop} {ss ss':List Dd} {srt srt':Tb}
theorem Told.mem(h:Told d ss srt){x:Dd}:x∈srt.map (·.1)↔x∈(tab d ss 201).map (·.1):=(h.p.map _).mem_iff
theorem Told.nd(h:Told d ss srt):(srt.map (·.1)).Nodup:=(h.p.map _).nodup_iff.mpr Aw
theorem Told.len(h:Told d ss srt):srt.length<=200:=by rw[h.p.length_eq];exact h.l
theorem Told.good(A:Amb d G)(b:∀s∈ss,G s)(h:Told d ss srt):∀x∈srt.map (·.1),G x:=λx a=>by
 obtain⟨y,c,rfl⟩:=oE.mp (h.mem.mp a);exact Db A.one (λx a s h=>A.mul x s a (b s h)) y c
theorem Grp.perm{T c:List Dd}(g:Grp d T)(p:c.Perm T):Grp d c:=by
 have m:∀{x},x∈c↔x∈T:=p.mem_iff;exact⟨g.dim,p.nodup_iff.mpr g.nd,λx a=>g.rs x (m.mp a),m.mpr g.one,λx a y b=>m.mpr (g.mul x (m.mp a) y (m.mp b)),λx a=>let ⟨y,b,e⟩:=g.inv x (m.mp a);⟨y,m.mpr b,e⟩⟩
theorem Told.grp(A:Amb d G)(a:∀s∈ss,G s)(h:Told d ss srt):Grp d (srt.map (·.1)):=(Xo A a (yG h.l ∅)).perm (h.p.map _)
end
section
variable {d:Nat} {T L:List Dd}
noncomputable def cut(d:Nat)(L R:List Dd)(y:Dd)(n:Nat):List Dd:=R.filter λx=>decide (x∉(L.take n).map λl=>oZ d l y)
structure Cos(d:Nat)(T L R:List Dd)(c:Nat):Prop where
 nd:R.Nodup
 sub:∀x∈R,x∈T
 cl:∀x∈R,∀l∈L,oZ d l x∈R
 len:c*L.length+R.length=T.length
noncomputable def run(d:Nat)(L:List Dd):List Dd->List Dd×Nat->List Dd×Nat
 |[],s=>s
 |y:: ys,(R,c)=>if y∈R then run d L ys (cut d L R y L.length,c+1) else run d L ys (R,c)
end
structure Rw(H0 H:Hp)(a:Addr)(M:LM):Prop where
 s:Same H0 H
 n:H0 a=none
 m:MatD H0 H a M
theorem Rw.up{H0 H H':Hp}{a:Addr}{M:LM}(h:Rw H0 H a M)(s:Same H H'):Rw H0 H' a M:=⟨h.s.trans s,h.n,h.m.up s⟩
def sp_m:Sp:=λvs H Q _=>E1 λ(n:Nat)=>A3 (vs=[.int n]) (n<=4) (∀r H',Rw H H' r (idM n)->Q (.ref r) H')
def sp_k(K:Frag):Sp:=λvs H Q _=>E9 λ(b1 b2 b3 b4:Bool)(a b:Addr)(A B:LM)(d:Nat)=>A9 (vs=[.ref a,.ref b]) (MatB b1 b2 K H a A) (MatB b3 b4 K H b B) (Sq d A) (Sq d B) ((d=2\/d=3)) (nS 1500 A) (nS 1500 B) (∀r H',Rw H H' r (mulM d A B)->Q (.ref r) H')
def sp_11(K:Frag):Sp:=λvs H Q _=>E8 λ(b1 b2 b3:Bool)(a l:Addr)(M:LM)(ns:LI')(u:Int)=>A8 (vs=[.ref a,.ref l,.int u]) (MatB b1 b2 K H a M) (SqB b3 K H l (ns.map V.int)) (M.length<=100) (ns.length<=100) (0<u) (mO u) (∀r H',Same H H'->DdAt K H' r (canD M ns u)->Q (.ref r) H')
def sp_u(K:Frag):Sp:=λvs H Q _=>E8 λ(b1 b2 b3:Bool)(a l:Addr)(M:LM)(ns:LI')(u:Int)=>A8 (vs=[.ref a,.ref l,.int u]) (MatB b1 b2 K H a M) (SqB b3 K H l (ns.map V.int)) (M.length<=100) (ns.length<=100) (0<u) (mO u) (∀r H',Same H H'->DdAt K H' r (M,redT u ns,redU u ns)->Q (.ref r) H')
noncomputable def famK(so:Int)(d:Nat):Nat:=if d=2 then(if 0<so/\so<3 then 1 else 0) else if 0<so/\so<3 then 3 else 2
theorem At{so:Int}{d:Nat}(a:d=2\/d=3):famD (famK so d)=d/\famK so d<4:=by
 rcases a with rfl|rfl <;> by_cases h:0<so/\so<3 <;> simp[famK,famD,h]
def Mkr(k:Nat)(L:List Stp)(su:Int)(x:Dd):Prop:=∃R∈pgL k,∃(ts:LI')(u:Int),ts.length=famD k/\kX 250 ts/\0<u/\u<=200/\x=(cjM (famD k) (chP (famD k) L) (chQ (famD k) L) R,redT (u*su) ts,redU (u*su) ts)
structure MsOk(d:Nat)(G:Dd->Prop)(ms:List Dd):Prop where
 f:∀s∈ms,mY d s
 g:∀s∈ms,G (oV s)
 l:ms.length<=200
def sp_10(K:Frag)(t:Adr):Sp:=λvs H Q _=>E5 λ(d:Nat)(a:Addr)(ps:LA)(ms:List Dd)(G:Dd->Prop)=>A7 (vs=[.int d,.ref a]) (H a=some (.lst (ps.map V.ref))) (Paired (DdS K H) ps ms) (Amb d G) (MsOk d G ms) ((200<(tab d (ms.map oV) 201).length->∀H',Same H H'->Q .non H')) (∀g srt H',Same H H'->GrpF K t H' g d ms srt->Told d (ms.map oV) srt->Q (.ref g) H')
theorem dvs(x y:Int)(b:y≠0)(a:y.natAbs<1073741824):iY x y:=⟨b,zJ ((pU ⋯).mpr (show y.natAbs<2^30 from a)) ∅⟩
theorem dC{H H':Hp}{b:Addr}(s:Same H H')(h:H' b=none):H b=none:=by
 cases q:H b with
 |none=>rfl
 |some o=>rw[s _ _ q]at h;cases h
theorem MatD.app{H0 H c:Hp}{a l:Addr}{M:LM}{r:LI'}(h:MatD H0 H a M)(s:Same H c)(hl:H l=none)(y:H0 l=none)(e:c l=some (.lst (r.map V.int))):∃zs,c a=some (.lst zs)/\zs.length=M.length/\MatD H0 (upd c a (.lst (zs++[.ref l]))) a (M++[r]):=by
 obtain⟨ps,m,d,n,g⟩:=h;have f:l≠a:=λz=>by rw[z,m]at hl;cases hl
 refine⟨ps.map V.ref,s _ _ m,by rw[zqe,d],ps++[l],by rw[oP,xD];rfl,by simp[d],?_,λi p q e1 b=>?_⟩
 ·rw[qN];refine⟨n,by simp,λz v w x=>?_⟩;rw[pO.mp x];obtain⟨j,C,F⟩:=wO v;exact nY (g j z M[j] (by simp[C,F]) (by simp[show j<M.length by omega])).2.2 hl
 ·by_cases hi:i<ps.length
  ·rw[yD hi]at e1;rw[yD ⋯]at b;obtain⟨k,o,u⟩:=g i p q e1 b;exact⟨k,o,by rw[oT k];exact s _ _ u⟩
  ·have D:i=ps.length:=by have:=(zqa e1).1;simp at this;omega
   subst D;rw[zV (zE _)]at e1;rw[d,zV (zE _)]at b;simp at e1 b;subst e1 b;exact⟨f,y,by rw[oT f];exact e⟩
theorem MatD.nil{H0 H:Hp}{a:Addr}(e:H a=some (.lst [])):MatD H0 H a []:=⟨[],e,rfl,uX,λi p r e1=>by simp at e1⟩
theorem Xk{lo:Int}{n:Nat}{H:Hp}{a:Addr}{fr:List (Str×Nat)}{J:St}{te:TE}{Q:VK}(f:Nat->LI')(R:H a=none)(F:n<=1000)
  (Z:∀(i:Nat) b zs,i<n->Same H b->b a=some (.lst zs)->∀I:VK,(∀p d,Same b d->b p=none->d p=some (.lst ((f i).map V.int))->I (.ref p) d)->te (some (.int (lo+i)):: mI fr J) b I)
  (U:∀b,Same H b->MatD H b a ((List.range n).map f)->Q (.ref a) b):lO (Itr lo n) (nB 0) (tEl te) 1 fr J a H Q:=by
 refine Bu n (λi zs b=>∃ps:LA,zs=ps.map V.ref/\ps.length=i/\ps.Nodup/\∀(j:Nat)(p:Addr),ps[j]?=some p->p≠a/\H p=none/\b p=some (.lst ((f j).map V.int))) R F ⟨[],rfl,rfl,uX,λj p e=>by simp at e⟩
  (λi zs b⟨ps,e,l,_⟩=>by rw[e,zqe,l];exact zE _) (λi zs b d⟨ps,e,l,n,q⟩s=>⟨ps,e,l,n,λj p e1=>⟨(q j p e1).1,(q j p e1).2.1,s _ _ (q j p e1).1 (q j p e1).2.2⟩⟩)
  (λi b hi s=>hi) (λb s=>zE _) ?_ ?_
 ·rintro i b zs hi v L ⟨ps,rfl,k,y,m⟩ ys x a0 W X C T _;obtain⟨e1,u⟩:=X;subst e1 u
  match ys,W with
  | [o],_ =>
   refine⟨⟨[_],rfl,rfl⟩,Z i a0 _ hi v L _ λp d M D e=>T _ _ M ⟨ps++[p],by simp,by simp[k],?_,λj q c=>?_⟩⟩
   ·rw[qN];refine⟨y,by simp,λz F w O=>?_⟩;rw[pO.mp O];obtain⟨j,g,G⟩:=wO F;exact nY (m j z (by simp[g,G])).2.2 D
   ·by_cases g:j<ps.length
    ·rw[yD g]at c;obtain⟨S,Y,N⟩:=m j q c;exact⟨S,Y,M _ _ N⟩
    ·have G:j=ps.length:=by have:=(zqa c).1;simp at this;omega
     subst G;rw[zV (zE _)]at c;simp at c;subst c;rw[k];exact⟨yA (nY L D),dC v D,e⟩
 ·rintro b ys v e1 ⟨ps,rfl,k,y,m⟩;refine U b v ⟨ps,e1,by simp[k],y,λj p r u c=>?_⟩;have g:j<n:=by have:=(zqa u).1;omega
  rw[zI,yW g]at c;cases c;exact m j p u
theorem ok_m(T:Txt K mg t):FnOk P w K mg base CX0 1 t.a_m t.d_m ["_law_d"] sp_m:=by
 apply T.F_m.ok sc_m
 ·obtain⟨n,rfl,O,G⟩:=h;refine⟨_,(oO (oW (iJ (xs:=["_law_i"]) (fr:=[("_law_d",0)]) (g:=(nB 0)) (tt:=(tEl (mP (nU (nF (tVar 1) tNil)) (nB 0) (tEl (tCB (λxs H Q=>(∃i,xs=[.int i]/\Q (.int i) H)\/∃k,xs=[.bl k]/\Q (.int (if k then 1 else 0)) H) (nF (tOp (rI0 λi j=>.bl (decide (i=j))) (tVar 1) (tVar 0)) tNil))) 1 [("_law_i",0)]))) (kQ (sc:=oR aM) (N:=N_m) rfl rfl (nofun)) rfl (mF rfl T.z_range (oJ (pq 0) oK)) (λ_ _ _ a=>(fV (N:=["_law_i","_law_d"]) (i:=0) a rfl (nofun) rfl)) (λ_ _ _ a=>(jI (nT (N:=["_law_i","_law_d"]) (fr:=[("_law_i",0)]) (te:=(tCB (λxs H Q=>(∃i,xs=[.int i]/\Q (.int i) H)\/∃k,xs=[.bl k]/\Q (.int (if k then 1 else 0)) H) (nF (tOp (rI0 λi j=>.bl (decide (i=j))) (tVar 1) (tVar 0)) tNil))) a rfl (nofun) rfl (nofun) (mF rfl T.z_range (oJ (pv 1) oK)) (λ_ _ _ S=>(mB Fs rfl T.z_int (nofun) (oJ (jD lG (pv 1) (pv 0) (nD _)) oK))))))))),?_⟩;show tRet _ _ [some (.int n)] H;ext;refine nN λB eB=>?_;simp only[nU];ext;refine⟨⋯,⋯,λx b=>?_⟩;rw[zQ];refine Xk (λi=>(List.range n).map λk=>if i=k then(1:Int) else 0) b ⋯ ?_ λo L D=>G x o ⟨L,b,D⟩;intro i g zs hi W M l q;subst eB;show mP _ _ _ _ _ [some (.int (0+(i:Int))),some (.int n)] g l;refine nN λB eB=>?_;simp only[nU];ext;refine⟨⋯,⋯,λU d=>?_⟩;rw[zQ];refine kI (λk y _=>k<n/\y=.int (if i=k then 1 else 0)) d ⋯ (λ_ _ _ _ r _=>r) ?_ ?_
  ·intro k f R u c N J C;subst eB;show tCB _ _ [some (.int (0+(k:Int))),some (.int (0+(i:Int)))] f J;ext;refine .inr (C _ _ (Same.refl _) ⟨u,?_⟩)
   by_cases z:i=k
   ·rw[zF z,zP ⋯];rfl
   ·rw[zD z,zN ⋯];rfl
  ·intro f ys c m F v;have I:ys=((List.range n).map λk=>if i=k then(1:Int) else 0).map V.int:=by
    refine mK (by simpa using F) λj y e=>?_;obtain⟨p,rfl⟩:=v j y e;exact⟨_,by rw[zI,yW p];rfl,rfl⟩
   subst I;exact q _ _ c d m
theorem ok_k(T:Txt K mg t):FnOk P w K mg base CX0 1 t.a_k t.d_k po' (sp_k K):=by
 apply T.F_k.ok sc_k
 ·obtain⟨b1,b2,c7,c2,a,b,f,c,d,rfl,W,b0,z,M,c9,Z,a0,q⟩:=h;refine⟨_,(oM (oU (i:=2) sc_k.nd rfl (Or.inr rfl) (mL T.z_len (pq 0)))
   (oM (oU (i:=3) sc_k.nd rfl (Or.inl rfl) (nI oK))
   (oM (mQ yL rfl (mF rfl T.z_range (oJ (pq 2) oK)) (nX (i:=4) sc_k.nd rfl (Or.inr rfl))
   (oO (lU (jF yM yZ yY jG (pq 3) (oJ (iJ (xs:=["_law_k"]) (fr:=[("_law_one",0),("_law_other",1),("_law_d",2),("_law_i",4)]) (g:=(nB 0)) (tt:=(tEl (tCB (λxs H Q=>∃(p:Addr)(ns:LI'),xs=[.ref p]/\SqL K H p (ns.map V.int)/\Q (.int ns.sum) H) (nF (mP (nU (nF (tVar 3) tNil)) (nB 0) (tEl (tOp (rI (λi j=>IntMulOk i j) λi j=>.int (i*j)) (tOp (rIxB K) (tOp (rIxB K) (tVar 2) (tVar 4)) (tVar 0)) (tOp (rIxB K) (tOp (rIxB K) (tVar 3) (tVar 0)) (tVar 1)))) 1 [("_law_k",0),("_law_one",1),("_law_other",2),("_law_i",4)]) tNil)))) (kQ (sc:=oR aN) (N:=N_k) rfl rfl (nofun)) rfl (mF rfl T.z_range (oJ (pq 2) oK)) (λ_ _ _ L=>(fV (N:=["_law_k","_law_one","_law_other","_law_d","_law_i"]) (i:=0) L rfl (nofun) rfl)) (λ_ _ _ L=>(jI (lN (bP rfl) rfl T.z_sum (nofun) (oJ (nT (N:=["_law_k","_law_one","_law_other","_law_d","_law_i"]) (fr:=[("_law_k",0),("_law_one",1),("_law_other",2),("_law_i",4)]) (te:=(tOp (rI (λi j=>IntMulOk i j) λi j=>.int (i*j)) (tOp (rIxB K) (tOp (rIxB K) (tVar 2) (tVar 4)) (tVar 0)) (tOp (rIxB K) (tOp (rIxB K) (tVar 3) (tVar 0)) (tVar 1)))) L rfl (nofun) rfl (nofun) (mF rfl T.z_range (oJ (pv 3) oK)) (λ_ _ _ d1=>(oS nR (nQ ix_B (nQ ix_B (pv 2) (pv 4) (λ_ _=>rfl)) (pv 0) (λ_ _=>rfl)) (nQ ix_B (nQ ix_B (pv 3) (pv 0) (λ_ _=>rfl)) (pv 1) (λ_ _=>rfl))))) oK))))) oK)))))
   (oO (oW (pq 3)))))),?_⟩
  show tSeq _ _ _ [some (.ref a),some (.ref b),none,none,none] H;right;refine hX W ?_
  try ext
  rw[z.1];left;refine⟨yB _,λm O=>?_⟩;subst e1;refine st λN1 e1=>mT λG eB=>?_;simp only[nU];ext;have a8:Same H (upd H m (.lst [])):=Same.new O;refine⟨⋯,⋯,?_⟩;rw[zQ];refine iM (n:=d) (g:=nB 4) (tb:=G) (λi F g=>∃D,F=[some (.ref a),some (.ref b),some (.int d),some (.ref m),D]/\Same H g/\MatD H g m ((mulM d f c).take i)) ⟨_,rfl,a8,MatD.nil oP⟩ ?_ ?_
  ·rintro i F g hi ⟨D,rfl,l,n⟩;have C:f[i]?=some (f.getD i []):=by have:=z.1;simp[show i<f.length by omega]
   have c6:(f.getD i []).length=d:=z.2 _ (zqb C);have b9:=Qa (w:=d) (B:=c) C;subst eB;show Ea _ _ [some (.ref a),some (.ref b),some (.int d),some (.ref m),some (.int (0+(i:Int)))] g;ext;obtain⟨d3,Y⟩:∃zs,g m=some (.lst zs):=let ⟨ps,h,_⟩:=n;⟨_,h⟩
   refine⟨.inl ⟨rfl,_,SqL.of Y⟩,?_⟩;refine nN λG eB=>?_;simp only[nU];ext;refine⟨⋯,⋯,λd2 J=>?_⟩;rw[zQ];refine kI (len:=d) (λj y _=>j<d/\y=.int (dotI (f.getD i []) (colI j c))) J ⋯ (λ_ _ _ _ r _=>r) ?_ ?_
   ·intro j S zs I o c4 a1 a5;subst eB;show tCB _ _ [some (.int (0+(j:Int))),some (.ref a),some (.ref b),some (.int d),some (.int (0+(i:Int)))] S a1;ext;refine nN λG eB=>?_;simp only[nU];ext;refine⟨⋯,⋯,λb5 a6=>?_⟩;rw[zQ];refine kI (len:=d) (λk y _=>∃x,(List.zipWith (·*·) (f.getD i []) (colI j c))[k]?=some x/\y=.int x) a6 ⋯ (λ_ _ _ _ r _=>r) ?_ ?_
    ·intro k X d0 c3 u c5 c0 b3;have v:c[k]?=some (c.getD k []):=by have:=M.1;simp[show k<c.length by omega]
     have c8:(c.getD k []).length=d:=M.2 _ (zqb v);have N:k<(f.getD i []).length:=⋯
     subst eB;show tOp _ _ _ [some (.int (0+(k:Int))),some (.int (0+(j:Int))),some (.ref a),some (.ref b),some (.int (0+(i:Int)))] X c0;ext;refine gW (((W.up l).up o).up u) C (L2.getD_at N) ⋯ ⋯ ?_;refine gW (((b0.up l).up o).up u) v (getD_at (k:=j) ⋯) ⋯ ⋯ ?_;ext;refine⟨yQ (nL (Z _ (zqb C) _ (L2.getD_mem N))) (nL (a0 _ (zqb v) _ (L2.getD_mem ⋯))) ∅,b3 _ _ (Same.refl _) ⟨_,?_,rfl⟩⟩;have a4:(colI j c)[k]?=some ((c.getD k []).getD j 0):=by unfold colI;rw[zI,v];rfl
     rw[wA,L2.getD_at N,a4]
    ·intro X ys u a2 U a7;have R:ys=(List.zipWith (·*·) (f.getD i []) (colI j c)).map V.int:=by
      refine mK (by have:=M.1;simp only[zqe,List.length_zipWith,colI];omega) λk y e=>?_;obtain⟨x,c1,rfl⟩:=a7 k y e;exact⟨x,c1,rfl⟩
     subst R;exact⟨b5,rfl,_,SqL.of a2,a5 _ _ u ⟨I,rfl⟩⟩
   ·intro S ys o b6 U a9;have R:ys=((List.range d).map λk=>dotI (f.getD i []) (colI k c)).map V.int:=by
     refine mK (by simpa using U) λj y e=>?_;obtain⟨I,rfl⟩:=a9 j y e;exact⟨_,by rw[zI,yW I];rfl,rfl⟩
    subst R;obtain⟨zs,b8,b4,a3⟩:=MatD.app n o J (dC l J) b6;refine⟨m,zs,_,rfl,rfl,b8,iH (by rw[b4,yJ];omega),?_⟩;have b7:(mulM d f c).take (i+1)=(mulM d f c).take i++[(List.range d).map λk=>dotI (f.getD i []) (colI k c)]:=by rw[wD,b9];rfl
    refine⟨Same.over O (l.trans o),?_⟩;rw[b7];exact a3
  ·rintro F g ⟨D,rfl,l,n⟩;symm;rw[yT (by simp[mulM,z.1])]at n;exact q m g ⟨l,O,n⟩
theorem dvL(x y:Int)(b:y≠0)(a:y.natAbs<100000000000000000000000000000000000000000000000000000000000000000000000000000000000000000000000):iY x y:=⟨b,zJ ((pU ⋯).mpr (Nat.lt_trans a (show 100000000000000000000000000000000000000000000000000000000000000000000000000000000000000000000000<2^400 by decide +kernel))) ∅⟩
abbrev Box:=Int×Int×Int
noncomputable def bxO(b:Box):HO:=.lst [.int b.1,.int b.2.1,.int b.2.2]
structure BxOk(B:Nat)(b:Box):Prop where
 x0:0<=b.1
 y0:0<=b.2.1
 y1:b.2.1<2147483647
 z0:0<=b.2.2
 z1:b.2.2<=B
theorem BxOk.le{b:Box}{B a:Nat}(h:BxOk B b)(l:B<=a):BxOk a b:=⟨h.x0,h.y0,h.y1,h.z0,by have:=h.z1;omega⟩
noncomputable def tkN(b:Box):Int:=(b.2.1*48271+12347+(b.2.2+1)*7919+(b.2.2+1)*(b.2.2+1)*39373).fmod 2147483563
noncomputable def tkV(b:Box)(many:Int):Int:=if 0<b.1 then b.1.fmod many else(((tkN b*tkN b).fmod 2147483549).fdiv 7).fmod many
noncomputable def tkB(b:Box)(many:Int):Box:=if 0<b.1 then(b.1.fdiv many,b.2) else(b.1,b.2.1,b.2.2+1)
noncomputable def bxF(ns:LI')(k:Nat):Box:=(if 1000000000000000000<=ns.getD k 0 then ns.getD k 0 else 0,(ns.getD k 0).fmod 2147483647,100*(k:Int))
def sp_v(K:Frag):Sp:=λvs H Q _=>E3 λ(p:Addr)(ns:LI')(k:Nat)=>A4 (vs=[.ref p,.int k]) (SqL K H p (ns.map V.int)) (k<=1000) (∀r H',Same H H'->H r=none->H' r=some (bxO (bxF ns k))->Q (.ref r) H')
def sp_1:Sp:=λvs H Q _=>E4 λ(a:Addr)(many:Int)(b:Box)(B:Nat)=>A7 (vs=[.ref a,.int many]) (H a=some (bxO b)) (BxOk B b) (B<=1000000) (1<=many) (many<100000000000000000000000000000000000000000000000000000000000000000000000000000000000000000000000) (∀H',(∀c,c≠a->H' c=H c)->H' a=some (bxO (tkB b many))->Q (.int (tkV b many)) H')
theorem Xj{x y:Int}(a:0<=x)(b:0<y):0<=x.fdiv y:=by
 rw[Int.fdiv_eq_ediv_of_nonneg _ ⋯];exact Int.ediv_nonneg a ⋯
theorem fms1(x y:Int)(h:0<y):0<=x.fmod y/\x.fmod y<y:=⟨uL x h,sD x h⟩
theorem m40{x y:Int}(b:x.natAbs<1099511627776)(a:y.natAbs<1099511627776):IntMulOk x y:=yQ (nL (B:=40) b) (nL (B:=40) a) ∅
theorem nM{b:Box}{B:Nat}{many:Int}(h:BxOk B b)(g:1<=many):(0<=tkV b many/\tkV b many<many)/\BxOk (B+1) (tkB b many):=by
 obtain⟨d,c,a,e,f⟩:=h;unfold tkV tkB;split
 ·exact⟨fms1 _ _ ⋯,⟨Xj d ⋯,c,a,e,by show b.2.2<=_;omega⟩⟩
 ·exact⟨fms1 _ _ ⋯,⟨d,c,a,by show 0<=b.2.2+1;omega,by show b.2.2+1<=_;omega⟩⟩
theorem jA{ns:LI'}{k:Nat}:BxOk (100*k) (bxF ns k):=by
 have f:=fms1 (ns.getD k 0) 2147483647 ∅;refine⟨?_,f.1,f.2,?_,?_⟩
 ·show 0<=(if 1000000000000000000<=ns.getD k 0 then ns.getD k 0 else 0);split <;> omega
 ·show 0<=100*(k:Int);omega
 ·show 100*(k:Int)<=_;omega
theorem ok_1(T:Txt K mg t):FnOk P w K mg base CX0 1 t.a_1 t.d_1 pk' sp_1:=by
 apply T.F_1.ok sc_1
 ·obtain⟨a,many,⟨x,y,z⟩,B,rfl,d,⟨m,l,j,k,n⟩,F,r,v,f⟩:=h;replace d:H a=some (.lst [.int x,.int y,.int z]):=d;replace m:0<=x:=m;replace l:0<=y:=l;replace j:y<2147483647:=j;replace k:0<=z:=k;replace n:z<=B:=n;refine⟨_,(oM (nK (nH bB (oX (pq 0)) oN (nD _))
   (oM (oU (i:=2) sc_1.nd rfl (Or.inl rfl) (oS kG (oX (pq 0)) (pq 1)))
   (oM (iV (oS iZ (oX (pq 0)) (pq 1)) (fO (pq 0) oN bI))
   (oO (oW (pq 2)))))
   nJ)
   (oM (iV (oS mJ (oX (pq 0)) oN) (fO (pq 0) oN bI))
   (oM (oU (i:=3) sc_1.nd rfl (Or.inl rfl) (oS mJ (oS mJ (oS nR (oX (pq 0)) oN) oN) (oS nR (oX (pq 0)) oN)))
   (oM (oU (i:=3) sc_1.nd rfl (Or.inl rfl) (oS kG (oS mJ (pq 3) (oS nR (oS nR (oX (pq 0)) (oX (pq 0))) oN)) oN))
   (oO (oW (oS kG (oS iZ (oS kG (oS nR (pq 3) (pq 3)) oN) oN) (pq 1)))))))),?_⟩
  show tSeq _ _ _ [some (.ref a),some (.int many),none,none] H;right;refine⟨false,a,_,_,_,rfl,rfl,SqB.lst d,rfl,?_⟩
  try ext
  refine ite2 (λc=>?_) (λc=>?_)
  ·have c:=xQ c;have g:tkV (x,y,z) many=x.fmod many:=zF c;have eB:tkB (x,y,z) many=(x.fdiv many,y,z):=zF c;rw[g,eB]at f;refine⟨false,a,_,_,_,rfl,rfl,SqB.lst d,rfl,?_⟩
   try ext
   refine⟨⋯,false,a,_,_,_,rfl,rfl,SqB.lst d,rfl,?_⟩
   try ext
   refine⟨dvL _ _ ⋯ ⋯,?_⟩;simp only[gSub,dN];ext;refine⟨_,d,0,rfl,?_⟩;exact f _ (λb i=>oT i) oP
  ·have c:¬ 0<x:=by simpa using c
   have g:tkV (x,y,z) many=(((tkN (x,y,z)*tkN (x,y,z)).fmod 2147483549).fdiv 7).fmod many:=zD c;have eB:tkB (x,y,z) many=(x,y,z+1):=zD c;rw[g,eB]at f;subst e1;refine st λN1 e1=>?_;simp only[tAsg,gSub,dN];ext;refine⟨false,a,_,_,_,rfl,rfl,SqB.lst d,rfl,?_⟩
   try ext
   refine⟨_,d,2,rfl,?_⟩;have o:∀b,b≠a->(upd H a (.lst [V.int x,V.int y,V.int (z+1)])) b=H b:=λb i=>oT i;have e:(upd H a (.lst [V.int x,V.int y,V.int (z+1)])) a=some (.lst [V.int x,V.int y,V.int (z+1)]):=oP;show N1 _ (upd H a (.lst [V.int x,V.int y,V.int (z+1)]));generalize upd H a (.lst [V.int x,V.int y,V.int (z+1)])=q at*
   left;refine⟨false,a,_,_,_,rfl,rfl,SqB.lst e,rfl,?_⟩
   try ext
   refine⟨m40 ⋯ ∅,false,a,_,_,_,rfl,rfl,SqB.lst e,rfl,?_⟩
   try ext
   refine⟨m40 ⋯ ∅,?_⟩;left;refine⟨false,a,_,_,_,rfl,rfl,SqB.lst e,rfl,false,a,_,_,_,rfl,rfl,SqB.lst e,rfl,?_⟩
   try ext
   have C:((z+1)*(z+1)).natAbs<1099511627776*2:=by
    rw[xA];have:(z+1).natAbs*(z+1).natAbs<=1000001*1000001:=xZ ⋯ ⋯;omega
   refine⟨m40 ⋯ ⋯,yQ (nL (B:=42) (show _<2^42 by omega)) (nL (B:=40) ∅) ∅,∅,?_⟩;have D:=fms1 (y*48271+12347+(z+1)*7919+(z+1)*(z+1)*39373) 2147483563 ∅;have p:tkN (x,y,z)=(y*48271+12347+(z+1)*7919+(z+1)*(z+1)*39373).fmod 2147483563:=rfl;rw[p]at f;generalize (y*48271+12347+(z+1)*7919+(z+1)*(z+1)*39373).fmod 2147483563=u at*
   symm;refine⟨m40 ⋯ ⋯,∅,dvs _ _ ∅ ∅,⋯,?_⟩;exact f _ o e
theorem Xi{H H':Hp}{b:Addr}(s:Same H H')(h:H' b=none):H b=none:=by
 cases e:H b with
 |none=>rfl
 |some o=>rw[s _ _ e]at h;cases h
theorem ok_v(T:Txt K mg t):FnOk P w K mg base CX0 1 t.a_v t.d_v pp' (sp_v K):=by
 apply T.F_v.ok sc_v
 ·obtain⟨p,ns,k,rfl,O,Y,S⟩:=h;have N:SqB false K H p (ns.map V.int):=O;refine⟨_,(oM (oU (i:=2) sc_v.nd rfl (Or.inl rfl) (oS dO (bH sl_B (pq 0) (dM (pq 1)) (dM (oS mJ (pq 1) oN))) (nI (oJ oN oK))))
   (oM (nK (nH Nh (oX (pq 2)) (oS gP oN oN) (nD _))
   (oO (oW (nI (oJ (oX (pq 2)) (oJ (oS kG (oX (pq 2)) oN) (oJ (oS nR oN (pq 1)) oK))))))
   nJ)
   (oO (oW (nI (oJ oN (oJ (oS kG (oX (pq 2)) oN) (oJ (oS nR oN (pq 1)) oK)))))))),?_⟩
  show tSeq _ _ _ [some (.ref p),some (.int k),none] H;right;refine⟨false,p,_,rfl,N,(by intro z;cases z),λg C=>?_⟩;have X:=Same.new (o:=seqO false (cutV (ns.map V.int) (some (k:Int)) (some ((k:Int)+1)))) C;have M:(upd H g (seqO false (cutV (ns.map V.int) (some (k:Int)) (some ((k:Int)+1))))) g=some (.lst (cutV (ns.map V.int) (some (k:Int)) (some ((k:Int)+1)))):=oP;obtain⟨c,r,⟨D,L⟩,F⟩:∃(c:Int)(r:List V),(cutV (ns.map V.int) (some (k:Int)) (some ((k:Int)+1))++[V.int 0]=.int c:: r/\c=ns.getD k 0)/\(cutV (ns.map V.int) (some (k:Int)) (some ((k:Int)+1))).length<=1:=by
   rw[Bq,HT.sIx_nat,show(k:Int)+1=((k+1:Nat):Int) by omega,HT.sIx_nat];have l1:((ns.drop (min k ns.length)).take (min (k+1) ns.length-min k ns.length)).length<=1:=by
    rw[yJ];omega
   have l2:((ns.drop (min k ns.length)).take (min (k+1) ns.length-min k ns.length)).getD 0 0=ns.getD k 0:=by
    rw[zqc,zqc]
    by_cases h:k<ns.length
    ·rw[uA ⋯,vK,tQ ⋯];rfl
    ·rw[wG (show ns.length<=k by omega),wG (by rw[yJ];omega)]
   generalize (ns.drop (min k ns.length)).take (min (k+1) ns.length-min k ns.length)=l at l1 l2;cases l with
   |nil=>exact⟨0,[],⟨rfl,l2⟩,by simp⟩
   |cons c l=>exact⟨c,l.map V.int++[V.int 0],⟨rfl,l2⟩,by rw[zqe];exact l1⟩
  generalize cutV (ns.map V.int) (some (k:Int)) (some ((k:Int)+1))=U at*;generalize upd H g (seqO false U)=j at*
  refine⟨by show 1<=sizeLine;decide,λe I=>?_⟩;have o:=Same.new (o:=.lst [V.int 0]) I;have J:(upd j e (.lst [V.int 0])) e=some (.lst [V.int 0]):=oP;generalize upd j e (.lst [V.int 0])=i at*
  have R:2<=sizeLine:=∅
  refine⟨g,e,_,_,rfl,rfl,o _ _ M,J,yG (qP F) R,λa W=>?_⟩;rw[D];have G:=Same.new (o:=.lst (V.int c:: r)) W;have d:(upd i a (.lst (V.int c:: r))) a=some (.lst (V.int c:: r)):=oP;generalize upd i a (.lst (V.int c:: r))=n at*
  have m:=(X.trans o).trans G;left;have f:=fms1 c 2147483647 ∅;have a0:atI (V.int c:: r) 0=some (V.int c):=kC (k:=0) rfl rfl;refine⟨false,a,_,_,_,rfl,rfl,SqB.lst d,a0,⟨∅,∅,∅⟩,?_⟩
  try ext
  have ok:IntMulOk 100 (k:Int):=m40 ∅ ⋯;have u:∀(x:Int)(q:Addr),x=(if 1000000000000000000<=c then c else 0)->n q=none->Q (.ref q) (upd n q (.lst [V.int x,V.int (c.fmod 2147483647),V.int (100*(k:Int))])):=λx q y b=>S q _ (m.trans (Same.new b)) (Xi m b) (by
   rw[oP];unfold bxO bxF;rw[←L,←y])
  refine ite2 (λz=>?_) (λz=>?_)
  ·have z:=xQ z;have v:(10:Int)^Int.toNat 18=1000000000000000000:=nofun
   refine⟨false,a,_,_,_,rfl,rfl,SqB.lst d,a0,false,a,_,_,_,rfl,rfl,SqB.lst d,a0,?_⟩
   try ext
   exact⟨∅,ok,by show 3<=sizeLine;decide,λq b=>u c q (by rw[zF ⋯]) b⟩
  ·have z:¬ (10:Int)^Int.toNat 18<=c:=by simpa using z
   have v:(10:Int)^Int.toNat 18=1000000000000000000:=nofun
   symm;refine⟨false,a,_,_,_,rfl,rfl,SqB.lst d,a0,?_⟩
   try ext
   exact⟨∅,ok,by show 3<=sizeLine;decide,λq b=>u 0 q (by rw[zD ⋯]) b⟩
structure Rk(a:Addr)(H H':Hp)(r:Addr)(R:LM):Prop where
 k:KX a H H'
 n:H r=none
 m:MatD H H' r R
theorem fJ{a b:Addr}{H H':Hp}(k:KX a H H'){o:HO}(d:H' a=some o)(h:H' b=none):H b=none:=by
 cases e:H b with
 |none=>rfl
 |some c =>
  by_cases z:b=a
  ·rw[z,d]at h;cases h
  ·rw[k b c z e]at h;cases h
theorem KX.tk1{a:Addr}{H g f:Hp}(k:KX a H g)(o:∀c,c≠a->f c=g c):KX a H f:=λb x d e=>by rw[o b d];exact k b x d e
theorem Rk.of{a r:Addr}{H b c:Hp}{R:LM}{o:HO}(h:Rw b c r R)(k:KX a H b)(d:b a=some o):Rk a H c r R:=
 ⟨k.trans (KX.same h.s),fJ k d h.n,let ⟨ps,q,m,n,l⟩:=h.m;⟨ps,q,m,n,λi p r e1 e=>let ⟨g,f,j⟩:=l i p r e1 e;⟨g,fJ k d f,j⟩⟩⟩
theorem Rk.up{a r:Addr}{H c b:Hp}{R:LM}(h:Rk a H c r R)(s:Same c b):Rk a H b r R:=⟨h.k.trans (KX.same s),h.n,h.m.up s⟩
theorem Rk.tk{a r:Addr}{H f d:Hp}{R:LM}{o:HO}(h:Rk a H f r R)(u:H a=some o)(k:∀c,c≠a->d c=f c):Rk a H d r R:=by
 have e:∀{c},H c=none->c≠a:=λ{c}z q=>by rw[q,u]at z;cases z
 refine⟨h.k.tk1 k,h.n,?_⟩;obtain⟨ps,x,v,n,m⟩:=h.m;refine⟨ps,by rw[k _ (e h.n)];exact x,v,n,λi p r e1 g=>?_⟩;obtain⟨j,b,l⟩:=m i p r e1 g;exact⟨j,b,by rw[k _ (e b)];exact l⟩
def Drw(K:Frag)(H:Hp)(Q:VK)(a:Addr)(B:Nat)(P:LM->Prop):Prop:=∀r H' R b',Rk a H H' r R->H' a=some (bxO b')->BxOk (B+100) b'->P R->Q (.ref r) H'
def sp_y(K:Frag):Sp:=λvs H Q _=>∃(a:Addr)(d:Nat)(b:Box)(B:Nat),vs=[.ref a,.int d]/\H a=some (bxO b)/\BxOk B b/\B<=900000/\(d=2\/d=3)/\Drw K H Q a B λR=>R∈pgL (if d=2 then 1 else 3)
def sp_j(K:Frag):Sp:=λvs H Q _=>∃(a:Addr)(d:Nat)(b:Box)(B:Nat),vs=[.ref a,.int d]/\H a=some (bxO b)/\BxOk B b/\B<=900000/\(d=2\/d=3)/\Drw K H Q a B λR=>R∈pgL (if d=2 then 0 else 2)
def sp_17(K:Frag):Sp:=λvs H Q _=>∃(a:Addr)(so:Int)(d:Nat)(b:Box)(B:Nat),vs=[.int so,.ref a,.int d]/\H a=some (bxO b)/\BxOk B b/\B<=900000/\(d=2\/d=3)/\0<=so/\Drw K H Q a B λR=>R∈pgL (famK so d)
theorem Et{H d c j:Hp}{f e p:Addr}{r1 r2:LI'}(y:H f=none)(e1:d=upd H f (.lst (r1.map V.int)))(n:d e=none)(u:c=upd d e (.lst (r2.map V.int)))(g:c p=none)(x:j=upd c p (.lst [.ref f,.ref e])):Rw H j p [r1,r2]:=by
 have l:Same H d:=e1 ▸ Same.new y;have k:Same d c:=u ▸ Same.new n;have o:Same c j:=x ▸ Same.new g;have m:d f=some (.lst (r1.map V.int)):=by rw[e1,oP]
 have v:c e=some (.lst (r2.map V.int)):=by rw[u,oP]
 have z:j p=some (.lst [.ref f,.ref e]):=by rw[x,oP]
 refine⟨(l.trans k).trans o,dC (l.trans k) g,[f,e],z,rfl,?_,λi q r a b=>?_⟩
 ·simp only[List.nodup_cons,List.mem_singleton,List.not_mem_nil,not_false_eq_true,List.nodup_nil,and_true];exact nY m n
 ·match i,a,b with
  |0,a,b=>cases a;cases b;exact⟨nY (k _ _ m) g,y,o _ _ (k _ _ m)⟩
  |1,a,b=>cases a;cases b;exact⟨nY v g,dC l n,o _ _ v⟩
  |i+2,a,b=>simp at a
theorem As{k:Nat}(b:k<4){R:LM}(c:R∈pgL k):nS 1500 R:=λr hr z a=>wW ((jZ b).wee R c r hr z a) (Nat.one_lt_two_pow ∅)
noncomputable def Es(R:LM)(z:Int):LM:=[R.getD 0 []++[0],R.getD 1 []++[0],[0,0,z]]
theorem Xh:(pgL 1).all (λR=>(pgL 3).contains (Es R 1) && (pgL 3).contains (Es R (-1)))=true:=nofun
theorem Xg{R:LM}(h:R∈pgL 1){z:Int}(a:z=1\/z=-1):Es R z∈pgL 3:=by
 have:=vF.mp Xh R h;rw[zR,sW,sW]at this;rcases a with rfl|rfl
 ·exact this.1
 ·exact this.2
theorem rk3{a r f d e:Addr}{H g:Hp}{r1 r2 j:LI'}(k:KX a H g)(n:H r=none)(G:g r=some (.lst [.ref f,.ref d,.ref e]))(y:H f=none)(F:H d=none)(o:H e=none)(e1:g f=some (.lst (r1.map V.int)))(D:g d=some (.lst (r2.map V.int)))(m:g e=some (.lst (j.map V.int)))
  (l:f≠r)(v:d≠r)(x:e≠r)(u:f≠d)(C:f≠e)(z:d≠e):Rk a H g r [r1,r2,j]:=by
 refine⟨k,n,[f,d,e],G,rfl,by simp[u,C,z],λi p q b c=>?_⟩
 match i,b,c with
 |0,b,c=>cases b;cases c;exact⟨l,y,e1⟩
 |1,b,c=>cases b;cases c;exact⟨v,F,D⟩
 |2,b,c=>cases b;cases c;exact⟨x,o,m⟩
 |i+3,b,c=>simp at b
theorem ok_y(T:Txt K mg t):FnOk P w K mg base CX0 2 t.a_y t.d_y pn' (sp_y K):=by
 have c1:=@ok_1 P w K mg base t T;have c4:=@ok_k P w K mg base t T;apply T.F_y.ok sc_y
 ·obtain⟨c,d,b,B,rfl,b0,e0,h8,f9,d2⟩:=h;refine⟨_,(oM (oU (i:=2) sc_y.nd rfl (Or.inl rfl) (nI (oJ (nI (oJ oN (oJ oN oK))) (oJ (nI (oJ oN (oJ oN oK))) oK))))
   (oM (mQ yL rfl (mF rfl T.z_range (oJ (oQ c1 hr.mo T.F_1 (oJ (pq 0) (oJ oN oK))) oK)) (nX (i:=3) sc_y.nd rfl (Or.inl rfl))
   (oO (oU (i:=2) sc_y.nd rfl (Or.inl rfl) (oQ c4 hr.mo T.F_k (oJ (nI (oJ (nI (oJ oN (oJ (gO gQ oN) oK))) (oJ (nI (oJ oN (oJ oN oK))) oK))) (oJ (pq 2) oK))))))
   (oM (nK (nH lG (oQ c1 hr.mo T.F_1 (oJ (pq 0) (oJ oN oK))) oN (nD _))
   (oO (oU (i:=2) sc_y.nd rfl (Or.inl rfl) (oQ c4 hr.mo T.F_k (oJ (nI (oJ (nI (oJ oN (oJ oN oK))) (oJ (nI (oJ oN (oJ oN oK))) oK))) (oJ (pq 2) oK)))))
   nJ)
   (oM (nK (nH lG (pq 1) oN (nD _))
   (oO (oW (pq 2)))
   nJ)
   (oO (oW (nI (oJ (oS dO (oX (pq 2)) (nI (oJ oN oK))) (oJ (oS dO (oX (pq 2)) (nI (oJ oN oK))) (oJ (nI (oJ oN (oJ oN (oJ (oS kO oN (oS nR oN (oQ c1 hr.mo T.F_1 (oJ (pq 0) (oJ oN oK))))) oK)))) oK)))))))))),?_⟩
  show tSeq _ _ _ [some (.ref c),some (.int d),none,none] H;have l:=jZ (show 1<4 by decide);right;refine⟨by show 2<=sizeLine;decide,λe8 S=>⟨by show 2<=sizeLine;decide,λd0 O=>⟨by show 2<=sizeLine;decide,λp M=>?_⟩⟩⟩;have d4:=Et (r1:=[1,0]) (r2:=[0,1]) S rfl O rfl M rfl;generalize hH1:upd (upd (upd H e8 (.lst [.int 1,.int 0])) d0 (.lst [.int 0,.int 1])) p (.lst [.ref e8,.ref d0])=e7;have b7:Rw H e7 p [[1,0],[0,1]]:=hH1 ▸ d4;have f4:=b7.s _ _ b0;have h5:Rk c H e7 p [[1,0],[0,1]]:=Rk.of b7 (λ_ _ _ e=>e) b0;clear b7;have h2:[[1,0],[0,1]]∈pgL 1:=by rw[←id2];exact l.one
  clear d4 S O M hH1;subst e1;refine st λN1 e1=>mT λg0 eB=>?_;simp only[nU];ext;refine⟨c,6,b,B,rfl,f4,e0,⋯,∅,∅,λi1 g1 g6=>?_⟩;obtain⟨i0,d9⟩:=nM (many:=6) e0 ∅;have f6:=h5.tk b0 g1;generalize tkB b 6=b1 at*
  generalize tkV b 6=h7 at*
  try ext
  refine⟨⋯,⋯,?_⟩;refine iM (g:=nB 3) (tb:=g0) (λ_ c0 z=>∃(r:Addr)(R:LM)(v:Option V),c0=[some (.ref c),some (.int d),some (.ref r),v]/\Rk c H z r R/\R∈pgL 1/\z c=some (bxO b1)) ⟨p,_,none,rfl,f6,h2,g6⟩ ?_ ?_
  ·rintro k c0 z h9 ⟨r,R,v,rfl,a3,y,b3⟩;subst eB;show tAsg _ _ _ [some (.ref c),some (.int d),some (.ref r),some (.int (0+(k:Int)))] z;ext;refine⟨by show 2<=sizeLine;decide,λf S=>⟨by show 2<=sizeLine;decide,λW O=>⟨by show 2<=sizeLine;decide,λq M=>?_⟩⟩⟩;have c2:=Et (r1:=[1,-1]) (r2:=[1,0]) S rfl O rfl M rfl;generalize hH3:upd (upd (upd z f (.lst [.int 1,.int (-1)])) W (.lst [.int 1,.int 0])) q (.lst [.ref f,.ref W])=g;have l1:Rw z g q [[1,-1],[1,0]]:=hH3 ▸ c2;have mg:[[1,-1],[1,0]]∈pgL 1:=l.gen _ ∅;have m:=a3.up l1.s;refine⟨false,false,false,false,q,r,_,_,2,rfl,l1.m.l.b,m.m.l.b,l.sq _ mg,l.sq _ y,.inl rfl,As ∅ mg,As ∅ y,λd7 a4 X=>?_⟩;have i:=l1.s _ _ b3;exact⟨d7,rfl,_,Rk.of X m.k i,l.mul _ mg _ y,X.s _ _ i⟩
  ·rintro c0 z ⟨r,R,v,rfl,a3,y,b3⟩;subst e1;refine st λd5 b9=>?_;have nx:∀g m a7 C,Rk c H g m a7->a7∈pgL 1->g c=some (bxO C)->BxOk (B+2) C->d5 [some (.ref c),some (.int d),some (.ref m),v] g:=by
    intro g m a7 C U b8 i b6;subst b9;refine st λd5 b9=>?_;ext;rcases f9 with rfl|rfl
    ·rw[zP ∅];refine iteT ?_;exact d2 m g a7 C U i (b6.le ⋯) b8
    ·rw[zN ∅];refine iteF ?_;subst b9;ext;obtain⟨ps,k1,k2,k3,d8⟩:=U.m;obtain⟨a,b,J,D,rfl⟩:=sq2 (l.sq _ b8);obtain⟨F,f,rfl⟩:∃F f,ps=[F,f]:=by
      match ps,k2 with
      |[F,f],_=>exact⟨F,f,rfl⟩
     have f5:g F=some (.lst [.int a,.int b]):=(d8 0 F _ rfl rfl).2.2;have f0:g f=some (.lst [.int J,.int D]):=(d8 1 f _ rfl rfl).2.2;refine jL (i:=0) k1 rfl rfl ⟨by show 1<=sizeLine;decide,λb4 g8=>?_⟩;have j:=Same.new (o:=.lst [V.int 0]) g8;have c5:(upd g b4 (.lst [.int 0])) b4=some (.lst [V.int 0]):=oP;generalize upd g b4 (.lst [.int 0])=a4 at j c5;refine⟨F,b4,_,_,rfl,rfl,j _ _ f5,c5,by show 3<=sizeLine;decide,λo a9=>?_⟩;have I:=Same.new (o:=.lst ([V.int a,.int b]++[.int 0])) a9;have a1:(upd a4 o (.lst ([V.int a,.int b]++[.int 0]))) o=some (.lst ([a,b,0].map V.int)):=oP;generalize upd a4 o (.lst ([V.int a,.int b]++[.int 0]))=d6 at I a1;refine jL (i:=1) (I _ _ (j _ _ k1)) rfl rfl ⟨by show 1<=sizeLine;decide,λa2 g4=>?_⟩;have x:=Same.new (o:=.lst [V.int 0]) g4;have e6:(upd d6 a2 (.lst [.int 0])) a2=some (.lst [V.int 0]):=oP;generalize upd d6 a2 (.lst [.int 0])=e4 at x e6;refine⟨f,a2,_,_,rfl,rfl,x _ _ (I _ _ (j _ _ f0)),e6,by show 3<=sizeLine;decide,λu N=>?_⟩;have b5:=Same.new (o:=.lst ([V.int J,.int D]++[.int 0])) N;have e9:(upd e4 u (.lst ([V.int J,.int D]++[.int 0]))) u=some (.lst ([J,D,0].map V.int)):=oP;generalize upd e4 u (.lst ([V.int J,.int D]++[.int 0]))=g7 at b5 e9;have e5:=((j.trans I).trans x).trans b5;have h1:=e5 _ _ i;refine⟨c,2,C,B+2,rfl,h1,b6,⋯,∅,∅,λa8 ok e2=>?_⟩;obtain⟨i2,f3⟩:=nM (many:=2) b6 ∅;generalize tkB C 2=f1 at*
     generalize tkV C 2=v2 at*
     try ext
     have g9:KX c H g7:=U.k.trans (KX.same e5);have c3:=g9.tk1 ok;have f8:o≠c:=λq=>by rw[q,j _ _ i]at a9;cases a9
     have g3:u≠c:=λq=>by rw[q,x _ _ (I _ _ (j _ _ i))]at N;cases N
     have f7:H o=none:=fJ (U.k.trans (KX.same j)) (j _ _ i) a9;have g2:H u=none:=fJ (U.k.trans (KX.same ((j.trans I).trans x))) (x _ _ (I _ _ (j _ _ i))) N;have a0:a8 o=some (.lst ([a,b,0].map V.int)):=by rw[ok _ f8];exact b5 _ _ (x _ _ a1)
     have Z:a8 u=some (.lst ([J,D,0].map V.int)):=by rw[ok _ g3];exact e9
     have h4:o≠u:=λq=>by rw[q]at a1;rw[x _ _ a1]at N;cases N
     refine⟨tF ∅,by show 3<=sizeLine;decide,λG a5=>⟨by show 3<=sizeLine;decide,λr n=>?_⟩⟩;have L:=Same.new (o:=.lst [V.int 0,.int 0,.int (1-2*v2)]) a5;have a6:(upd a8 G (.lst [.int 0,.int 0,.int (1-2*v2)])) G=some (.lst ([0,0,1-2*v2].map V.int)):=oP;have h3:o≠G:=λq=>by rw[q,a5]at a0;cases a0
     have h0:u≠G:=λq=>by rw[q,a5]at Z;cases Z
     have f2:H G=none:=fJ c3 e2 a5;generalize upd a8 G (.lst [.int 0,.int 0,.int (1-2*v2)])=h6 at L a6 n ⊢;have Y:=Same.new (o:=.lst [V.ref o,.ref u,.ref G]) n;have e3:=c3.trans (KX.same L);have c6:=L _ _ e2;have g5:Rk c H _ r [[a,b,0],[J,D,0],[0,0,1-2*v2]]:=rk3 (e3.trans (KX.same Y)) (fJ e3 c6 n) oP f7 g2 f2 (Y _ _ (L _ _ a0)) (Y _ _ (L _ _ Z)) (Y _ _ a6)
      (λq=>by rw[q]at a0;rw[L _ _ a0]at n;cases n) (λq=>by rw[q]at Z;rw[L _ _ Z]at n;cases n) (λq=>by rw[q]at a6;rw[a6]at n;cases n) h4 h3 h0
     exact d2 r _ _ f1 g5 (Y _ _ c6) (f3.le ⋯) (Xg b8 (z:=1-2*v2) ⋯)
   ext;refine⟨c,2,b1,B+1,rfl,b3,d9,⋯,∅,∅,λd3 c8 d1=>?_⟩;obtain⟨_,c7⟩:=nM (many:=2) d9 ∅;have c9:=a3.tk b0 c8;generalize tkB b1 2=b2 at*
   generalize tkV b1 2=v2 at*;clear a3 b3 c8
   try ext
   refine ite2 (λ_=>?_) (λ_=>nx _ _ _ _ c9 y d1 c7);refine⟨by show 2<=sizeLine;decide,λf S=>⟨by show 2<=sizeLine;decide,λW O=>⟨by show 2<=sizeLine;decide,λq M=>?_⟩⟩⟩;have c2:=Et (r1:=[0,1]) (r2:=[1,0]) S rfl O rfl M rfl;generalize hH3:upd (upd (upd d3 f (.lst [.int 0,.int 1])) W (.lst [.int 1,.int 0])) q (.lst [.ref f,.ref W])=g;have l1:Rw d3 g q [[0,1],[1,0]]:=hH3 ▸ c2;have mg:[[0,1],[1,0]]∈pgL 1:=l.gen _ ∅;have m:=c9.up l1.s;have i:=l1.s _ _ d1;exact⟨false,false,false,false,q,r,_,_,2,rfl,l1.m.l.b,m.m.l.b,l.sq _ mg,l.sq _ y,.inl rfl,As ∅ mg,As ∅ y,λd7 a4 X=>nx _ _ _ _ (Rk.of X m.k i) (l.mul _ mg _ y) (X.s _ _ i) c7⟩
noncomputable def cU(d x:Nat)(s:Int):LI':=(List.range d).map λj=>s*(if j=x then 1 else 0)
noncomputable def sgR(d:Nat):List (Nat×Int)->List Nat->LM
 |[],_=>[]
 |(c,s):: r,l=>cU d (l.getD c 0) s:: sgR d r (l.eraseIdx c)
noncomputable def sgL:List (Nat×Int)->List Nat->List Nat
 |[],l=>l
 |(c,_):: r,l=>sgL r (l.eraseIdx c)
theorem Lk{d:Nat}{x:Nat×Int}:∀{r:List (Nat×Int)}{l:List Nat},sgR d (r++[x]) l=sgR d r l++[cU d ((sgL r l).getD x.1 0) x.2]/\sgL (r++[x]) l=(sgL r l).eraseIdx x.1
 |[],_=>⟨rfl,rfl⟩
 |(c,s):: r,l=>by
  obtain⟨b,a⟩:=Lk (d:=d) (x:=x) (r:=r) (l:=l.eraseIdx c);exact⟨by show _:: sgR d (r++[x]) _=_;rw[b];rfl,a⟩
theorem Lj{d:Nat}:∀{r:List (Nat×Int)}{l:List Nat},(sgR d r l).length=r.length
 |[],_=>rfl
 |(c,s):: r,l=>by show(sgR d r _).length+1=_;rw[Lj];rfl
def Chs:Nat->List (Nat×Int)->Prop
 |_,[]=>True
 |m,(c,s):: r=>c<m/\(s=1\/s=-1)/\Chs (m-1) r
theorem Li{x:Nat×Int}:∀{r:List (Nat×Int)}{m:Nat},Chs m r->x.1<m-r.length->(x.2=1\/x.2=-1)->Chs m (r++[x])
 |[],m,_,e,d=>⟨by simpa using e,d,trivial⟩
 |(c,s):: r,m,⟨a,b,k⟩,e,d=>⟨a,b,Li k (by rw[zU]at e;omega) d⟩
theorem Lh:∀{r:List (Nat×Int)}{l:List Nat},Chs l.length r->r.length<=l.length->(sgL r l).length=l.length-r.length
 |[],_,_,_=>rfl
 |(c,s):: r,l,⟨a,_,k⟩,h=>by
  have e:(l.eraseIdx c).length=l.length-1:=List.length_eraseIdx_of_lt a;rw[zU]at h ⊢;show(sgL r (l.eraseIdx c)).length=_;rw[Lh (by rw[e];exact k) (by rw[e];omega),e];omega
noncomputable def allC:Nat->Nat->List (List (Nat×Int))
 |0,_=>[[]]
 |n+1,m=>(List.range m).flatMap λc=>[1,-1].flatMap λs=>(allC n (m-1)).map λr=>(c,s):: r
theorem Er:∀{n m:Nat}{r:List (Nat×Int)},Chs m r->r.length=n->r∈allC n m
 |0,_,[],_,_=>.head _
 |n+1,m,(c,s):: r,⟨a,b,k⟩,h=>List.mem_flatMap.mpr ⟨c,oB.mpr a,List.mem_flatMap.mpr ⟨s,by rcases b with rfl|rfl <;> decide,oE.mpr ⟨r,Er k (by simpa using h),rfl⟩⟩⟩
theorem Xf:(allC 2 2).all (λr=>(pgL 0).contains (sgR 2 r (List.range 2)))=true:=nofun
theorem Xe:(allC 3 3).all (λr=>(pgL 2).contains (sgR 3 r (List.range 3)))=true:=nofun
theorem Xd{d:Nat}(a:d=2\/d=3){r:List (Nat×Int)}(h:Chs d r)(hl:r.length=d):sgR d r (List.range d)∈pgL (if d=2 then 0 else 2):=by
 rcases a with rfl|rfl
 ·exact sW.mp (vF.mp Xf r (Er h hl))
 ·exact sW.mp (vF.mp Xe r (Er h hl))
theorem ok_j(T:Txt K mg t):FnOk P w K mg base CX0 2 t.a_j t.d_j pn' (sp_j K):=by
 have d0:=@ok_1 P w K mg base t T;apply T.F_j.ok sc_j
 ·obtain⟨f,d,b,b4,rfl,a8,f0,g6,e7,d7⟩:=h;refine⟨_,(oM (oU (i:=2) sc_j.nd rfl (Or.inl rfl) (Rn rfl rfl T.z_list rfl T.z_range (oJ (pq 1) oK)))
   (oM (oU (i:=3) sc_j.nd rfl (Or.inl rfl) (nI oK))
   (oM (mQ yL rfl (mF rfl T.z_range (oJ (pq 1) oK)) (nX (i:=4) sc_j.nd rfl (Or.inl rfl))
   (oM (oU (i:=5) sc_j.nd rfl (Or.inr rfl) (jF yM PySem.F.slot_list_pop PySem.F.type_list_pop Pq (pq 2) (oJ (oQ d0 hr.mo T.F_1 (oJ (pq 0) (oJ (mL T.z_len (pq 2)) oK))) oK)))
   (oM (oU (i:=6) sc_j.nd rfl (Or.inr rfl) (oS kO oN (oS nR oN (oQ d0 hr.mo T.F_1 (oJ (pq 0) (oJ oN oK))))))
   (oO (lU (jF yM yZ yY jG (pq 3) (oJ (nT (sc:=oR aO) (N:=N_j) (fr:=[("_law_at",5),("_law_sign",6)]) (te:=(tOp (rI (λi j=>IntMulOk i j) λi j=>.int (i*j)) (tVar 2) (tCB (λxs H Q=>(∃i,xs=[.int i]/\Q (.int i) H)\/∃k,xs=[.bl k]/\Q (.int (if k then 1 else 0)) H) (nF (tOp (rI0 λi j=>.bl (decide (i=j))) (tVar 0) (tVar 1)) tNil)))) rfl rfl (nofun) rfl (nofun) (mF rfl T.z_range (oJ (pq 1) oK)) (λ_ _ _ g2=>(oS nR (pv 2) (mB Fs rfl T.z_int (nofun) (oJ (jD lG (pv 0) (pv 1) (nD _)) oK))))) oK)))))))
   (oO (oW (pq 3)))))),?_⟩
  show tSeq _ _ _ [some (.ref f),some (.int d),none,none,none,none,none] H;right;refine⟨d,rfl,⋯,λl hl=>?_⟩;have S:Same H (upd H l (.lst ((List.range d).map λ(i:Nat)=>V.int (i:Int)))):=Same.new hl;have R:(upd H l (.lst ((List.range d).map λ(i:Nat)=>V.int (i:Int)))) l=some (.lst ((List.range d).map λ(i:Nat)=>V.int (i:Int))):=oP;have b2:l≠f:=λz=>by rw[z,a8]at hl;cases hl
  show N1 _ (upd H l (.lst ((List.range d).map λ(i:Nat)=>V.int (i:Int))));generalize upd H l (.lst ((List.range d).map λ(i:Nat)=>V.int (i:Int)))=v at S R ⊢;have Y:=S _ _ a8;left;refine⟨yB _,λm O=>?_⟩;have a4:Same v (upd v m (.lst [])):=Same.new O;have c1:(upd v m (.lst [])) m=some (.lst []):=oP;have d2:l≠m:=λz=>by rw[z,O]at R;cases R
  have b0:m≠f:=λz=>by rw[z,Y]at O;cases O
  generalize upd v m (.lst [])=g3 at a4 c1;subst e1;refine st λN1 e1=>mT λe8 eB=>?_;simp only[nU];ext;refine⟨⋯,⋯,?_⟩;rw[zQ];refine iM (g:=nB 4) (tb:=e8) (λi b5 C=>∃(r:List (Nat×Int))(b1 a6 a1:Option V)(x:Box),b5=[some (.ref f),some (.int d),some (.ref l),some (.ref m),b1,a6,a1]/\(∀b o,b≠l->b≠f->v b=some o->C b=some o)/\C l=some (.lst ((sgL r (List.range d)).map λ(i:Nat)=>V.int (i:Int)))/\MatD v C m (sgR d r (List.range d))/\Chs d r/\r.length=i/\C f=some (bxO x)/\BxOk (b4+2*i) x)
   ⟨[],none,none,none,b,rfl,λb o _ _ e=>a4 _ _ e,a4 _ _ R,MatD.nil c1,trivial,rfl,a4 _ _ Y,f0⟩ ?_ ?_
  ·rintro i b5 C hi ⟨r,b1,a6,a1,x,rfl,k3,U,Z,a3,rfl,a5,a2⟩;have f1:(sgL r (List.range d)).length=d-r.length:=by
    have:=Lh (r:=r) (l:=List.range d) (by rw[uT];exact a3) (by rw[uT];omega);rw[uT]at this;exact this
   generalize hL:sgL r (List.range d)=L at*;subst eB;show tSeq _ _ _ [some (.ref f),some (.int d),some (.ref l),some (.ref m),some (.int (0+(r.length:Int))),a6,a1] C;refine st λe5 b3=>?_;ext;refine⟨.inl ⟨rfl,_,SqL.of U⟩,?_⟩;refine⟨false,l,_,rfl,SqB.lst U,?_⟩
   try ext
   rw[zqe,f1];refine⟨f,((d-r.length:Nat):Int),x,b4+2*r.length,rfl,a5,a2,⋯,⋯,⋯,λM ok d4=>?_⟩;obtain⟨f4,b8⟩:=nM (many:=((d-r.length:Nat):Int)) a2 ⋯;generalize tkB x ((d-r.length:Nat):Int)=X at*
   generalize tkV x ((d-r.length:Nat):Int)=d9 at*;have b9:M l=some (.lst (L.map λ(i:Nat)=>V.int (i:Int))):=by rw[ok _ b2];exact U
   have d1:∀b o,b≠l->b≠f->v b=some o->M b=some o:=λb o u n e=>by rw[ok b n];exact k3 b o u n e
   have c7:MatD v M m (sgR d r (List.range d)):=by
    obtain⟨ps,u,n,F,J⟩:=Z;refine⟨ps,by rw[ok m b0];exact u,n,F,λj p q a b=>?_⟩;obtain⟨I,g,G⟩:=J j p q a b;exact⟨I,g,by rw[ok p (λz=>by rw[z,Y]at g;cases g)];exact G⟩
   clear Z k3 U ok a5;obtain⟨c,f8⟩:∃c:Nat,d9=c:=⟨_,(Int.toNat_of_nonneg f4.1).symm⟩;subst f8;have f3:c<L.length:=⋯
   refine⟨l,_,_,c,.int ((L.getD c 0:Nat):Int),rfl,rfl,b9,⋯,⋯,?_,?_,?_⟩
   ·rw[pG ⋯ (by rw[zqe];omega)];rfl
   ·rw[zI,zqc,zqd f3];rfl
   have f9:(L.map λ(i:Nat)=>V.int (i:Int)).eraseIdx c=(L.eraseIdx c).map λ(i:Nat)=>V.int (i:Int):=Jz _ _ _;rw[f9];have N:∀b,b≠l->upd M l (.lst ((L.eraseIdx c).map λ(i:Nat)=>V.int (i:Int))) b=M b:=λb a8=>oT a8;have b6:upd M l (.lst ((L.eraseIdx c).map λ(i:Nat)=>V.int (i:Int))) l=some (.lst ((L.eraseIdx c).map λ(i:Nat)=>V.int (i:Int))):=oP;generalize upd M l (.lst ((L.eraseIdx c).map λ(i:Nat)=>V.int (i:Int)))=c6 at N b6;have c9:MatD v c6 m (sgR d r (List.range d)):=by
    obtain⟨ps,u,n,F,J⟩:=c7;refine⟨ps,by rw[N m (yA d2)];exact u,n,F,λj p q a b=>?_⟩;obtain⟨I,g,G⟩:=J j p q a b;exact⟨I,g,by rw[N p (λz=>by rw[z,R]at g;cases g)];exact G⟩
   have c3:c6 f=some (bxO X):=by rw[N f (yA b2)];exact d4
   subst b3;refine st λe5 b3=>?_;ext;refine⟨f,2,X,b4+2*r.length+1,rfl,c3,b8,⋯,∅,∅,λa7 ok c4=>?_⟩;obtain⟨g7,g0⟩:=nM (many:=2) b8 ∅;generalize tkB X 2=e4 at*
   generalize tkV X 2=v2 at*
   try ext
   refine⟨tF ∅,?_⟩;have c2:a7 l=some (.lst ((L.eraseIdx c).map λ(i:Nat)=>V.int (i:Int))):=by rw[ok _ b2];exact b6
   have c8:∀b o,b≠l->b≠f->v b=some o->a7 b=some o:=λb o u n e=>by rw[ok b n,N b u];exact d1 b o u n e
   have c0:MatD v a7 m (sgR d r (List.range d)):=by
    obtain⟨ps,u,n,F,J⟩:=c9;refine⟨ps,by rw[ok m b0];exact u,n,F,λj p q a b=>?_⟩;obtain⟨I,g,G⟩:=J j p q a b;exact⟨I,g,by rw[ok p (λz=>by rw[z,Y]at g;cases g)];exact G⟩
   clear c9 c7 d1 N b6 ok c3 b9;have sg:1-2*v2=1\/1-2*v2=-1:=⋯
   generalize 1-2*v2=sn at*;subst b3;ext;obtain⟨g5,e9⟩:∃zs,a7 m=some (.lst zs):=let ⟨ps,h,_⟩:=c0;⟨_,h⟩
   refine⟨.inl ⟨rfl,_,SqL.of e9⟩,?_⟩;refine nN λB eB=>?_;simp only[nU];ext;refine⟨⋯,⋯,λa0 D=>?_⟩;rw[zQ];refine kI (λj y _=>j<d/\y=.int (sn*(if j=L.getD c 0 then 1 else 0))) D ⋯ (λ_ _ _ _ r _=>r) ?_ ?_
   ·intro j c5 zs b7 W g4 e2 e3;subst eB;show tOp _ _ _ [some (.int (0+(j:Int))),some (.int ((L.getD c 0:Nat):Int)),some (.int sn)] c5 e2;ext;refine .inr ⟨(show CMul _ _ from .inl ⟨⋯,⋯⟩).ok,e3 _ _ (Same.refl _) ⟨b7,?_⟩⟩
    by_cases z:j=L.getD c 0
    ·rw[zF z,zP ⋯];rfl
    ·rw[zD z,zN ⋯];rfl
   ·intro c5 ys W d3 d5 d8;have f5:ys=(cU d (L.getD c 0) sn).map V.int:=by
     refine mK (by simpa [cU]using d5) λj y e=>?_;obtain⟨b7,rfl⟩:=d8 j y e;exact⟨_,by unfold cU;rw[zI,yW b7];rfl,rfl⟩
    subst f5;obtain⟨zs,g1,d6,f6⟩:=MatD.app c0 W D (by
     cases q:v a0 with
     |none=>rfl
     | some o =>
      by_cases z:a0=l
      ·rw[z,c2]at D;cases D
      ·by_cases y:a0=f
       ·rw[y,c4]at D;cases D
       ·rw[c8 a0 o z y q]at D;cases D) d3
    refine⟨m,zs,_,rfl,rfl,g1,iH (by rw[d6,Lj];omega),?_⟩;have a9:=Lk (d:=d) (x:=(c,sn)) (r:=r) (l:=List.range d);rw[hL]at a9;refine⟨λb o f2 f7 e=>?_,r++[(c,sn)],?_,?_,Li a3 (by show c<d-r.length;omega) sg,by simp,e4,?_,?_⟩
    ·have bm:b≠m:=λz=>by rw[z,O]at e;cases e
     rw[oT bm];exact W _ _ (c8 b o f2 f7 e)
    ·rw[oT d2,a9.2];exact W _ _ c2
    ·rw[a9.1];exact f6
    ·rw[oT (yA b0)];exact W _ _ c4
    ·exact g0.le ⋯
  ·rintro b5 C ⟨r,b1,a6,a1,x,rfl,k3,U,Z,a3,e6,a5,a2⟩;symm;refine d7 m C _ x ⟨λb o e0 e=>k3 b o (λz=>by rw[z,hl]at e;cases e) e0 (S _ _ e),dC S O,?_⟩ a5 (a2.le ⋯) (Xd e7 a3 e6);obtain⟨ps,u,n,F,J⟩:=Z;exact⟨ps,u,n,F,λj p q a b=>let ⟨I,g,G⟩:=J j p q a b;⟨I,dC S g,G⟩⟩
theorem ok_17(T:Txt K mg t):FnOk P w K mg base CX0 3 t.a_17 t.d_17 ph' (sp_17 K):=by
 have p:=@ok_m P w K mg base t T;have o:=@ok_y P w K mg base t T;have u:=@ok_j P w K mg base t T;apply T.F_17.ok sc_17
 ·obtain⟨a,so,d,b,l,rfl,c,j,n,g,v,f⟩:=h;refine⟨_,(oM (nK (nH lG (pq 0) oN (nD _))
   (oO (oW (oQ p hr.mo T.F_m (oJ (pq 2) oK))))
   nJ)
   (oM (nK (nH bA (pq 0) oN (nD _))
   (oO (oW (oQ o hr.mo T.F_y (oJ (pq 1) (oJ (pq 2) oK)))))
   nJ)
   (oO (oW (oQ u hr.mo T.F_j (oJ (pq 1) (oJ (pq 2) oK))))))),?_⟩
  show tSeq _ _ _ [some (.int so),some (.ref a),some (.int d)] H;obtain⟨k1,k2⟩:=At (so:=so) g;ext;refine ite2 (λz=>?_) (λz=>ite2 (λy=>?_) (λy=>?_))
  ·refine⟨d,rfl,⋯,λr H' k=>f r H' _ b (Rk.of k (λ_ _ _ e=>e) c) (k.s _ _ c) (j.le ⋯) ?_⟩;have:=(jZ k2).one;rw[k1]at this;exact this
  ·have z:=vL (pZ.mpr z);have y:=xQ y;have e:famK so d=if d=2 then 1 else 3:=by
    unfold famK;have q:0<so/\so<3:=⟨⋯,y⟩;simp only[q,and_self,if_true]
   exact⟨a,d,b,l,rfl,c,j,n,g,λr H' R i k1 k2 k3 m=>f r H' R i k1 k2 k3 (by rw[e];exact m)⟩
  ·have y:=vL (pZ.mpr y);have e:famK so d=if d=2 then 0 else 2:=by
    unfold famK;have q:¬ (0<so/\so<3):=λq=>y q.2;simp only[q,if_false]
   exact⟨a,d,b,l,rfl,c,j,n,g,λr H' R i k1 k2 k3 m=>f r H' R i k1 k2 k3 (by rw[e];exact m)⟩
theorem Lg{n k:Nat}(h:k<n):ixN n (k:Int)=some k:=by
 unfold ixN;rw[zF ⋯,zF ⋯];simp
theorem Xc{c:Int}{d:Nat}(h:0<d):∃n:Nat,c.fmod d=n/\n<d:=by
 have:=fms c d ⋯;exact⟨(c.fmod d).toNat,⋯,⋯⟩
noncomputable def colU(d i j:Nat)(m:Int)(R:LM)(u:Nat):LM:=(R.take u).map (colR d i j m)++R.drop u
theorem Xb{d i j:Nat}{m:Int}{r:LI'}(hl:r.length=d)(b:j<d):r.set j (r.getD j 0-m*r.getD i 0)=colR d i j m r:=by
 unfold colR
 conv=>lhs;rw[eY (z:=(0:Int)) hl]
 rw[Dg];refine kY λk a=>?_
 by_cases h:k=j
 ·subst h;rw[zF rfl,zF rfl,cP a,pI]
  by_cases hi:i<d
  ·rw[cP hi]
  ·congr 1;rw[zqc,wG (by simp;omega),zqc,wG ⋯]
 ·rw[zD h,zD h,uE,uE,Int.sub_zero]
theorem Xa{d i j u:Nat}{m:Int}{R:LM}{r:LI'}(e:R[u]?=some r):(colU d i j m R u)[u]?=some r/\(colU d i j m R u).set u (colR d i j m r)=colU d i j m R (u+1):=by
 have b:=(zqa e).1;have a:((R.take u).map (colR d i j m)).length=u:=by rw[zqe,yJ];omega
 unfold colU;refine⟨?_,?_⟩
 ·rw[zV ⋯,a,vJ,vK,sG];exact e
 ·rw[List.set_append,zD ⋯,a,vJ,wD,e,xD,yI,vU b];rfl
theorem Yz{d i:Nat}{A:LM}{r:LI'}(a:Sq d A)(hr:r.length=d):Sq d (A.set i r):=⟨by rw[List.length_set];exact a.1,λz b=>by
 rcases tR b with h|h
 ·exact a.2 z h
 ·rw[h];exact hr⟩
theorem Lf{x:Addr}:∀{l:LA}{i:Nat},l.Nodup->x∉l->(l.set i x).Nodup
 |[],_,_,_=>by simp
 |a:: l,0,nd,h=>tV.mpr ⟨λq=>h (.tail _ q),(tV.mp nd).2⟩
 |a:: l,i+1,nd,h=>by
  have b:=tV.mp nd;refine tV.mpr ⟨λq=>?_,Lf b.2 λq=>h (.tail _ q)⟩;rcases tR q with q|q
  ·exact b.1 q
  ·exact h (q ▸ .head _)
theorem MatD.put{H0 H c:Hp}{a l:Addr}{M:LM}{r:LI'}{i:Nat}(h:MatD H0 H a M)(s:Same H c)(hl:H l=none)(D:H0 l=none)(e:c l=some (.lst (r.map V.int))):∃zs,c a=some (.lst zs)/\zs.length=M.length/\MatD H0 (upd c a (.lst (zs.set i (.ref l)))) a (M.set i r):=by
 obtain⟨ps,n,m,o,g⟩:=h;have f:l≠a:=λz=>by rw[z,n]at hl;cases hl
 have v:l∉ps:=λy=>by
  obtain⟨j,d,F⟩:=wO y;rw[(g j l M[j] (by simp[d,F]) (by simp[show j<M.length by omega])).2.2]at hl;cases hl
 refine⟨ps.map V.ref,s _ _ n,by rw[zqe,m],ps.set i l,by rw[oP,List.map_set],by simp[m],?_,λj p q e1 b=>?_⟩
 ·exact Lf o v
 ·by_cases d:j=i
  ·subst d;have x:j<ps.length:=by have:=(zqa e1).1;simpa using this
   rw[wR x]at e1;rw[wR ⋯]at b;cases e1;cases b;exact⟨f,D,by rw[oT f];exact e⟩
  ·rw[tI (yA d)]at e1 b;obtain⟨k,u,C⟩:=g j p q e1 b;exact⟨k,u,by rw[oT k];exact s _ _ C⟩
noncomputable def sxI(d:Nat)(b:Box):Int:=tkV b d
noncomputable def sxJ(d:Nat)(b:Box):Int:=(tkV b d+1+tkV (tkB b d) ((d:Int)-1)).fmod d
noncomputable def b3B(d:Nat)(b:Box):Box:=tkB (tkB b d) ((d:Int)-1)
noncomputable def b5B(d:Nat)(b:Box):Box:=tkB (tkB (b3B d b) 5) 4
noncomputable def sxM(d:Nat)(b:Box):Int:=if tkV (tkB (b3B d b) 5) 4=1 then tkV (b5B d b) 2000001-1000000 else tkV (b3B d b) 5-2
noncomputable def nxB(d:Nat)(b:Box):Box:=if tkV (tkB (b3B d b) 5) 4=1 then tkB (b5B d b) 2000001 else b5B d b
noncomputable def sxS(d:Nat)(b:Box):Stp:=⟨(sxI d b).toNat,(sxJ d b).toNat,sxM d b⟩
noncomputable def bxS(d:Nat):Nat->Box->Box
 |0,b=>b
 |n+1,b=>nxB d (bxS d n b)
noncomputable def stB(d:Nat):Nat->Box->List Stp
 |0,_=>[]
 |n+1,b=>sxS d (bxS d n b):: stB d n b
noncomputable def stL(d:Nat)(b:Box):List Stp:=stB d (tkV b 4).toNat (tkB b 4)
theorem Le{d:Nat}{b:Box}{B:Nat}(l:d=2\/d=3)(h:BxOk B b):(0<=sxI d b/\sxI d b<d)/\(0<=sxJ d b/\sxJ d b<d)/\(sxS d b).Ok d/\BxOk (B+5) (nxB d b):=by
 obtain⟨f,r⟩:=nM (many:=(d:Int)) h ⋯;obtain⟨z,m⟩:=nM (many:=(d:Int)-1) r ⋯;obtain⟨n,j⟩:=nM (many:=5) m ∅;obtain⟨u,a⟩:=nM (many:=4) j ∅;obtain⟨o,q⟩:=nM (many:=2000001) a ∅;have c:=fms1 (tkV b d+1+tkV (tkB b d) ((d:Int)-1)) d ⋯;have g:sxJ d b=(tkV b d+1+tkV (tkB b d) ((d:Int)-1)).fmod d:=rfl;have e:sxI d b=tkV b d:=rfl;have v:sxI d b≠sxJ d b:=by
  rw[g,e,xS _ ⋯];rcases l with rfl|rfl <;> omega
 have p:(sxM d b).natAbs<=1000000:=by
  have y:0<=tkV (b3B d b) 5/\tkV (b3B d b) 5<5:=n;have x:0<=tkV (b5B d b) 2000001/\tkV (b5B d b) 2000001<2000001:=o;unfold sxM;split <;> omega
 rw[←g]at c;rw[←e]at f;refine⟨f,c,⟨?_,?_,?_,p⟩,?_⟩
 ·show(sxI d b).toNat<d;omega
 ·show(sxJ d b).toNat<d;omega
 ·show(sxI d b).toNat≠(sxJ d b).toNat;omega
 ·have k:BxOk (B+4) (b5B d b):=a;have i:BxOk (B+5) (tkB (b5B d b) 2000001):=q;unfold nxB;split
  ·exact i
  ·exact k.le ⋯
theorem Ep{d:Nat}{b:Box}{B:Nat}(c:d=2\/d=3)(h:BxOk B b):∀n,(∀s∈stB d n b,s.Ok d)/\(stB d n b).length=n/\BxOk (B+5*n) (bxS d n b)
 |0=>⟨λ_ h=>(by cases h),rfl,h⟩
 |n+1=>by
  obtain⟨g,f,e⟩:=Ep c h n;obtain⟨_,_,i,j⟩:=Le c e;refine⟨λs a=>?_,by show(stB d n b).length+1=_;rw[f],j.le ⋯⟩;rcases xH.mp a with rfl|a
  ·exact i
  ·exact g s a
theorem Eo{d:Nat}{b:Box}{B:Nat}(a:d=2\/d=3)(h:BxOk B b):(∀s∈stL d b,s.Ok d)/\(stL d b).length<=3:=by
 obtain⟨g,c⟩:=nM (many:=4) h ∅;obtain⟨e,f,_⟩:=Ep a c (tkV b 4).toNat;exact⟨e,by show(stB _ _ _).length<=3;rw[f];omega⟩
theorem KX.over{a r:Addr}{D H:Hp}{o:HO}(k:KX a D H)(n:D r=none):KX a D (upd H r o):=λb x c e=>by
 rw[oT (λz=>by rw[z,n]at e;cases e)];exact k b x c e
def sp_n:Sp:=λvs H Q _=>E8 λ(a bx:Addr)(b:Box)(Z d:Nat)(R:LM)(D:Hp)(o:HO)=>A9 (vs=[.ref a,.ref bx]) ((d=2\/d=3)) (Wr d R) (Rk bx D H a R) (D bx=some o) (H bx=some (bxO b)) (BxOk Z b) (Z<=900000) (∀H' b',Rk bx D H' a (cjM d (chP d (stL d b)) (chQ d (stL d b)) R)->H' bx=some (bxO b')->Q (.ref a) H')
theorem ok_n(T:Txt K mg t):FnOk P w K mg base CX0 2 t.a_n t.d_n pj' sp_n:=by
 have Z:=@ok_1 P w K mg base t T;apply T.F_n.ok sc_n
 ·obtain⟨a,m,b,W,d,R,D,o,rfl,U,e0,c7,M,f3,e4,j9,d7⟩:=h;refine⟨_,(oM (oU (i:=2) sc_n.nd rfl (Or.inl rfl) (mL T.z_len (pq 0)))
   (oM (mQ yL rfl (mF rfl T.z_range (oJ (oQ Z hr.mo T.F_1 (oJ (pq 1) (oJ oN oK))) oK)) (nX (i:=3) sc_n.nd rfl (Or.inl rfl))
   (oM (oU (i:=4) sc_n.nd rfl (Or.inr rfl) (oQ Z hr.mo T.F_1 (oJ (pq 1) (oJ (pq 2) oK))))
   (oM (oU (i:=5) sc_n.nd rfl (Or.inr rfl) (oS kG (oS mJ (oS mJ (pq 4) oN) (oQ Z hr.mo T.F_1 (oJ (pq 1) (oJ (oS kO (pq 2) oN) oK)))) (pq 2)))
   (oM (oU (i:=6) sc_n.nd rfl (Or.inr rfl) (oS kO (oQ Z hr.mo T.F_1 (oJ (pq 1) (oJ oN oK))) oN))
   (oM (nK (nH lG (oQ Z hr.mo T.F_1 (oJ (pq 1) (oJ oN oK))) oN (nD _))
   (oO (oU (i:=6) sc_n.nd rfl (Or.inr rfl) (oS kO (oQ Z hr.mo T.F_1 (oJ (pq 1) (oJ (oS mJ (oS nR oN (oS gP oN oN)) oN) oK))) (oS gP oN oN))))
   nJ)
   (oM (iV (nT (sc:=oR aP) (N:=N_n) (fr:=[("_law_rows_here",0),("_law_i",4),("_law_j",5),("_law_by",6)]) (te:=(tOp (rI0 λi j=>.int (i+j)) (tOp (rIxB K) (tOp (rIxB K) (tVar 1) (tVar 2)) (tVar 0)) (tOp (rI (λi j=>IntMulOk i j) λi j=>.int (i*j)) (tVar 4) (tOp (rIxB K) (tOp (rIxB K) (tVar 1) (tVar 3)) (tVar 0))))) rfl rfl (nofun) rfl (nofun) (mF rfl T.z_range (oJ (pq 2) oK)) (λ_ _ _ i8=>(oS mJ (nQ ix_B (nQ ix_B (pv 1) (pv 2) (λ_ _=>rfl)) (pv 0) (λ_ _=>rfl)) (oS nR (pv 4) (nQ ix_B (nQ ix_B (pv 1) (pv 3) (λ_ _=>rfl)) (pv 0) (λ_ _=>rfl)))))) (fO (pq 0) (pq 4) bI))
   (oO (mQ yL rfl (nV (pq 0)) (nX (i:=7) sc_n.nd rfl (Or.inl rfl))
   (oO (iV (oS kO (nQ ix_B (pq 7) (pq 5) (λ_ _=>rfl)) (oS nR (pq 6) (nQ ix_B (pq 7) (pq 4) (λ_ _=>rfl)))) (fO (pq 7) (pq 5) bI)))))))))))
   (oO (oW (pq 0))))),?_⟩
  show tSeq _ _ _ [some (.ref a),some (.ref m),none,none,none,none,none,none] H;have c1:=e0.1;right;refine hX (b1:=false) (b2:=false) c7.m.l.b ?_
  try ext
  rw[c1.1];subst e1;refine st λN1 e1=>mT λB eB=>?_;simp only[nU];ext;refine⟨m,4,b,W,rfl,f3,e4,⋯,∅,∅,λk0 d9 f6=>?_⟩;obtain⟨i9,h1⟩:=nM (many:=4) e4 ∅;have i1:=c7.tk M d9;have f2:stL d b=stB d (tkV b 4).toNat (tkB b 4):=rfl;rw[f2]at d7;clear f2 c7 f3 d9;generalize tkB b 4=v at*
  generalize tkV b 4=c at*
  try ext
  refine⟨⋯,⋯,?_⟩;have f0:∀{q},D q=none->q≠m:=λ{q}z y=>by rw[y,M]at z;cases z
  refine iM (g:=nB 3) (tb:=B) (λn L C=>∃v3 b4 b8 b3 G,L=[some (.ref a),some (.ref m),some (.int (d)),v3,b4,b8,b3,G]/\Rk m D C a (cjM (d) (chP (d) (stB (d) n v)) (chQ (d) (stB (d) n v)) R)/\C m=some (bxO (bxS d n v))) ⟨none,none,none,none,none,rfl,by rw[show stB (d) 0 v=[] from rfl,(Wc U c1 (v:=List.replicate (d) 0) (by simp)).1];exact i1,f6⟩ ?_ ?_
  ·rintro n L C k3 ⟨v3,b4,b8,b3,G,rfl,g,N⟩;obtain⟨ok,k2,b0⟩:=Ep U h1 n;have es:stB (d) (n+1) v=sxS (d) (bxS d n v):: stB (d) n v:=rfl;have a1:bxS d (n+1) v=nxB d (bxS d n v):=rfl;rw[es,a1];generalize bxS d n v=x at*
   obtain⟨h2,g7,so,f9⟩:=Le U b0;have i7:n<=3:=⋯
   have S:=fH (kE U ok) R;have a7:nS 145 (cjM (d) (chP (d) (stB (d) n v)) (chQ (d) (stB (d) n v)) R):=λr hr z a5=>wW (Lo (F:=⟨d,stB d n v,1⟩) ⟨U,ok,by show(stB _ n v).length<=3;omega,by show(0:Int)<1;decide,by show(1:Int)<2^100;decide⟩ e0.2 r hr z a5) ∅;have nx:=Wd U ok so c1;rw[←nx];generalize cjM (d) (chP (d) (stB (d) n v)) (chQ (d) (stB (d) n v)) R=f at*
   subst eB;show tSeq _ _ _ [some (.ref a),some (.ref m),some (.int d),some (.int (0+(n:Int))),b4,b8,b3,G] C;obtain⟨hi,k1,j0,j7⟩:=so;have d5:tkV x d=((sxS d x).i:Int):=by
    show _=(((sxI d x).toNat:Nat):Int);have:sxI d x=tkV x d:=rfl;omega
   have c4:(tkV x d+1+tkV (tkB x d) ((d:Int)-1)).fmod d=((sxS d x).j:Int):=by
    show _=(((sxJ d x).toNat:Nat):Int);have:sxJ d x=(tkV x d+1+tkV (tkB x d) ((d:Int)-1)).fmod d:=rfl;omega
   have a9:(sxS d x).m=if tkV (tkB (b3B d x) 5) 4=1 then tkV (b5B d x) 2000001-1000000 else tkV (b3B d x) 5-2:=rfl
   have b9:b3B d x=tkB (tkB x d) ((d:Int)-1):=rfl;have h4:b5B d x=tkB (tkB (b3B d x) 5) 4:=rfl;have a6:nxB d x=if tkV (tkB (b3B d x) 5) 4=1 then tkB (b5B d x) 2000001 else b5B d x:=rfl
   clear h2 g7 f9;generalize nxB d x=c9 at*
   generalize b5B d x=g8 at*;generalize b3B d x=g6 at*
   generalize (sxS d x).i=i at*;generalize (sxS d x).j=j at*
   generalize (sxS d x).m=l at*;refine st λa3 F=>?_;ext;refine⟨m,d,x,W+1+5*n,rfl,N,b0,⋯,⋯,⋯,λa0 e8 e5=>?_⟩;obtain⟨_,c5⟩:=nM (many:=(d:Int)) b0 ⋯;replace g:=g.tk M e8;rw[d5]at c4 ⊢;clear N e8 b0 d5;generalize tkB x d=f5 at*
   subst F;refine st λa3 F=>?_;ext;refine⟨m,(d:Int)-1,f5,W+1+5*n+1,rfl,e5,c5,⋯,⋯,⋯,λd8 e9 O=>?_⟩;obtain⟨_,a8⟩:=nM (many:=(d:Int)-1) c5 ⋯;replace g:=g.tk M e9
   try ext
   refine⟨⋯,?_⟩;rw[c4];rw[←b9]at O a8;clear e5 e9 c5 c4 b9;subst F;refine st λa3 F=>?_;ext;refine⟨m,5,g6,W+1+5*n+2,rfl,O,a8,⋯,∅,∅,λJ e6 a4=>?_⟩;obtain⟨_,f4⟩:=nM (many:=5) a8 ∅;replace g:=g.tk M e6
   try ext
   clear O e6 a8;subst F;refine st λa3 F=>?_;have e3:∀C,Rk m D C a f->C m=some (bxO c9)->a3 [some (.ref a),some (.ref m),some (.int d),some (.int (0+(n:Int))),some (.int i),some (.int j),some (.int l),G] C:=λC g N=>by
    subst F;refine st λa3 F=>?_;simp only[tAsg,gSub,dN];refine nN λB eB=>?_;simp only[nU];ext;refine⟨⋯,⋯,λc3 d2=>?_⟩;rw[zQ];have c2:f[i]?=some (f.getD i []):=by have:=S.1;simp[show i<f.length by omega]
    have b6:f[j]?=some (f.getD j []):=by have:=S.1;simp[show j<f.length by omega]
    have j2:=S.2 _ (zqb c2);have j4:=S.2 _ (zqb b6);have c6:l.natAbs<2^20:=by
     have:(2:Nat)^20=1048576:=∅
     omega
    refine kI (λu y _=>u<d/\y=.int ((f.getD i []).getD u 0+l*(f.getD j []).getD u 0)) d2 ⋯ (λ_ _ _ _ r _=>r) ?_ ?_
    ·intro u a0 zs I Y j6 g2 g5;subst eB;show tOp _ _ _ [some (.int (0+(u:Int))),some (.ref a),some (.int i),some (.int j),some (.int l)] a0 g2;ext;refine gW (b1:=false) (b2:=false) (g.up Y).m.l.b c2 (L2.getD_at (k:=u) ⋯) rfl ⋯ ?_;refine gW (b1:=false) (b2:=false) (g.up Y).m.l.b b6 (L2.getD_at (k:=u) ⋯) rfl ⋯ ?_;ext;exact⟨yQ (nL c6) (nL (a7 _ (zqb b6) _ (L2.getD_mem ⋯))) ∅,g5 _ _ (Same.refl _) ⟨I,rfl⟩⟩
    ·intro a0 ys Y b9 g0 h3;have b7:ys=(mixR d (f.getD i []) (f.getD j []) l).map V.int:=by
      refine mK (by simpa [mixR]using g0) λu y e=>?_;obtain⟨I,rfl⟩:=h3 u y e;exact⟨_,by unfold mixR;rw[zI,yW I];rfl,rfl⟩
     subst b7;obtain⟨zs,i4,g1,i0⟩:=MatD.put (i:=i) g.m Y d2 (fJ g.k N d2) b9
     try ext
     refine⟨_,i4,i,Lg (by rw[g1,S.1];omega),?_⟩;have d0:Rk m D (upd a0 a (.lst (zs.set i (.ref c3)))) a (f.set i (mixR d (f.getD i []) (f.getD j []) l)):=⟨KX.over (g.k.trans (KX.same Y)) g.n,g.n,i0⟩;have O:(upd a0 a (.lst (zs.set i (.ref c3)))) m=some (bxO c9):=by rw[oT (yA (f0 g.n))];exact Y _ _ N
     generalize upd a0 a (.lst (zs.set i (.ref c3)))=d8 at d0 O;have g9:(mixR d (f.getD i []) (f.getD j []) l).length=d:=by simp[mixR]
     have a2:=Yz (i:=i) S g9;have i3:nS 170 (f.set i (mixR d (f.getD i []) (f.getD j []) l)):=λr hr z a5=>by
      rcases tR hr with h|h
      ·exact zJ (a7 r h z a5) (yC ∅ ∅)
      ·rw[h]at a5;obtain⟨u,I,rfl⟩:=oE.mp a5;have I:=oB.mp I;have b1:=a7 _ (zqb c2) _ (L2.getD_mem (k:=u) ⋯);have b2:=a7 _ (zqb b6) _ (L2.getD_mem (k:=u) ⋯);have j3:(l*(f.getD j []).getD u 0).natAbs<2^20*2^145:=by rw[xA];exact tH c6 b2
       have i6:=uO ((f.getD i []).getD u 0) (l*(f.getD j []).getD u 0);have j1:(2:Nat)^140+2^20*2^145<=2^170:=∅
       omega
     have h0:Az d i j l f=(f.set i (mixR d (f.getD i []) (f.getD j []) l)).map (colR d i j l):=rfl;generalize f.set i (mixR d (f.getD i []) (f.getD j []) l)=b5 at*
     obtain⟨zs,d4,g3⟩:∃zs,d8 a=some (.lst zs)/\zs.length=d:=by
      obtain⟨ps,h,hl,_⟩:=d0.m;exact⟨_,h,by rw[zqe,hl,a2.1]⟩
     subst F;refine mT λB eB=>?_;simp only[iSeq];ext;refine⟨false,⟨_,SqB.lst d4⟩,?_⟩;refine gU (g:=nB 7) (tb:=B) (λu L J=>∃G,L=[some (.ref a),some (.ref m),some (.int d),some (.int (0+(n:Int))),some (.int i),some (.int j),some (.int l),G]/\Rk m D J a (colU d i j l b5 u)/\J a=some (.lst zs)/\J m=some (bxO c9)) ⟨_,rfl,by unfold colU;rw[pJ];exact d0,d4,O⟩ (λ_ _ _ _⟨_,_,_,h,_⟩=>SqB.lst h) ?_ ?_
     ·rintro u y L J b7 ⟨G,rfl,X,a1,a4⟩;have I:u<d:=by have:=(zqa b7).1;omega
      obtain⟨rt,c0⟩:∃rt,b5[u]?=some rt:=⟨_,zqd (by rw[a2.1];exact I)⟩;obtain⟨h7,h8⟩:=Xa (d:=d) (i:=i) (j:=j) (m:=l) c0;have f8:=a2.2 _ (zqb c0);obtain⟨j5,p,d3,d6,j8,i5,f1,c8,h5⟩:=X.m.row h7;rw[a1]at d3;cases d3;rw[b7]at d6;cases d6;subst eB;show tAsg _ _ _ [some (.ref a),some (.ref m),some (.int d),some (.int (0+(n:Int))),some (.int i),some (.int j),some (.int l),some (.ref p)] J;simp only[tAsg,gSub,dN];ext;refine⟨false,p,_,_,_,rfl,rfl,SqB.lst c8,kC (iL (getD_at (k:=j) ⋯)) rfl,false,p,_,_,_,rfl,rfl,SqB.lst c8,kC (iL (getD_at (k:=i) ⋯)) rfl,?_⟩;ext;refine⟨yQ (nL c6) (nL (i3 rt (zqb c0) _ (L2.getD_mem ⋯))) ∅,?_⟩;refine⟨_,c8,j,Lg (by rw[zqe];omega),?_⟩;have e2:=h5 (colR d i j l rt);rw[h8]at e2;have e:(rt.map V.int).set j (.int (rt.getD j 0-l*rt.getD i 0))=(colR d i j l rt).map V.int:=by rw[←Xb f8 ⋯,List.map_set]
      rw[e];refine⟨⟨KX.over X.k f1,X.n,e2⟩,?_,?_⟩
      ·rw[oT (yA i5)];exact a1
      ·rw[oT (yA (f0 f1))];exact a4
     ·rintro L J ⟨G,rfl,X,a1,a4⟩;rw[g3]at X;have e:colU d i j l b5 d=b5.map (colR d i j l):=by
       unfold colU;rw[yT (by rw[a2.1];exact zE _),List.drop_of_length_le (by rw[a2.1];exact zE _),wN]
      rw[h0,←e];exact⟨_,_,_,_,_,rfl,X,a4⟩
   ext;refine⟨m,4,_,W+1+5*n+3,rfl,a4,f4,⋯,∅,∅,λh9 g4 d1=>?_⟩;obtain⟨_,e7⟩:=nM (many:=4) f4 ∅;replace g:=g.tk M g4;rw[←h4]at d1 e7
   try ext
   refine ite2 (λz=>?_) (λz=>?_)
   ·rw[zF (xQ z)]at a9 a6;refine⟨⟨∅,∅,∅⟩,tF ∅,?_⟩;refine⟨m,2000001,g8,W+1+5*n+4,rfl,d1,e7,⋯,∅,∅,λh6 f7 i2=>?_⟩;replace g:=g.tk M f7
    try ext
    refine⟨⟨∅,∅,∅⟩,?_⟩;have k:=e3 h6 g (by rw[i2,a6]);rw[a9]at k;exact k
   ·rw[zD (by simpa using z)]at a9 a6;have k:=e3 h9 g (by rw[d1,a6]);rw[a9]at k;exact k
  ·rintro L C ⟨v3,b4,b8,b3,G,rfl,g,N⟩;symm;exact d7 C _ g N
theorem ok_i(T:Txt K mg t):FnOk P w K mg base CX0 1 t.a_i t.d_i po' sp_i:=by
 apply T.F_i.ok sc_i
 ·obtain⟨a,b,rfl,k⟩:=h;refine⟨_,(oM (oU (i:=0) sc_i.nd rfl (Or.inl rfl) (lN dI rfl T.z_abs (nofun) (oJ (pq 0) oK)))
   (oM (oU (i:=1) sc_i.nd rfl (Or.inl rfl) (lN dI rfl T.z_abs (nofun) (oJ (pq 1) oK)))
   (oM (cY yL (nH bB (pq 1) oN (nD _))
   (oO (Nw (i:=0) (j:=1) rfl sc_i.nd rfl rfl ∅ rfl rfl (oJ (pq 1) (oJ (oS kG (pq 0) (pq 1)) oK)) rfl)))
   (oO (oW (pq 0)))))),?_⟩
  show tSeq _ _ _ [some (.int a),some (.int b)] H;ext;refine⟨λm f c=>∃g l,f=[some (.int g),some (.int l)]/\c=H/\0<=g/\0<=l/\Int.gcd g l=Int.gcd a b/\m=l.toNat,
   ⟨_,_,_,rfl,rfl,aX a,aX b,Ju a b,rfl⟩,?_⟩
  rintro m f c ⟨g,l,rfl,rfl,i,hl,e,rfl⟩;ext
  by_cases z:0<l
  ·rw[zP z];refine iteT ⟨λd H'=>d=[some (.int l),some (.int (g.fmod l))]/\H'=c,?_,⋯,rfl,rfl⟩;rintro d H' ⟨rfl,rfl⟩;have l1:=sD g z;have l2:=uL g z;exact⟨(g.fmod l).toNat,⋯,_,_,rfl,rfl,hl,l2,by rw[Jv];exact e,rfl⟩
  ·rw[zN z];refine iteF ?_;rw[Jt e i ⋯];exact k
theorem Ld{u:Int}{ns:LI'}{i:Nat}{x:Int}(e:ns[i]?=some x):gcdI (gl u (ns.take i)) x=gl u (ns.take (i+1)):=by
 unfold gl;rw[wD,e,uS];rfl
theorem Lc{u:Int}{ns:LI'}(a:0<u):gl u ns=cs u ns:=by
 unfold cs;rw[zD ⋯]
theorem Lb{u:Int}{ns:LI'}(b:0<u)(a:mO u)(x:Int):iY x (cs u ns):=by
 have h:=eP ns (show u≠0 by omega);exact⟨h,Js (Jr a ⋯ (jX (gl_u u ns))) h⟩
theorem ok_u(T:Txt K mg t):FnOk P w K mg base CX0 2 t.a_u t.d_u pi' (sp_u K):=by
 have a0:=@ok_i P w K mg base t T;apply T.F_u.ok sc_u
 ·obtain⟨b1,b2,q,a,l,M,ns,u,rfl,C,c,b3,b0,G,S,a3⟩:=h;refine⟨_,(oM (oU (i:=3) sc_u.nd rfl (Or.inr rfl) (pq 2))
   (oM (mQ yL rfl (nV (pq 1)) (nX (i:=4) sc_u.nd rfl (Or.inl rfl))
   (oO (oU (i:=3) sc_u.nd rfl (Or.inr rfl) (oQ a0 hr.mo T.F_i (oJ (pq 3) (oJ (pq 4) oK))))))
   (oO (oW (lV (oJ (mB jJ rfl T.z_tuple (nofun) (oJ (nT (sc:=oR cJ) (N:=N_u) (fr:=[]) (te:=(tCB (fW K) (nF (tVar 0) tNil))) rfl rfl (nofun) rfl (nofun) (nV (pq 0)) (λ_ _ _ R=>(mB jJ rfl T.z_tuple (nofun) (oJ (pv 0) oK)))) oK)) (oJ (mB jJ rfl T.z_tuple (nofun) (oJ (nT (sc:=oR cJ) (N:=N_u) (fr:=[("_law_by",3)]) (te:=(tOp (rI iY λi j=>.int (i.fdiv j)) (tVar 0) (tVar 1))) rfl rfl (nofun) rfl (nofun) (nV (pq 1)) (λ_ _ _ R=>(oS iZ (pv 0) (pv 1)))) oK)) (oJ (oS iZ (pq 2) (pq 3)) oK)))))))),?_⟩
  show tSeq _ _ _ [some (.ref a),some (.ref l),some (.int u),none,none] H;right;subst e1;refine st λN1 e1=>mT λB eB=>?_;simp only[iSeq];ext;refine⟨q,⟨_,c⟩,?_⟩;refine gU (g:=nB 4) (tb:=B) (λi g b=>∃v,g=[some (.ref a),some (.ref l),some (.int u),some (.int (gl u (ns.take i))),v]/\b=H) ⟨none,by rw[pJ];show _=[_,_,_,some (V.int (absI u)),_];unfold absI;rw[zD ⋯],rfl⟩ (λ_ _ _ _⟨_,_,e⟩=>e ▸ c) ?_ ?_
  ·rintro i y g b m ⟨v,rfl,rfl⟩;obtain⟨x,a8,rfl⟩:=kU m;subst eB;show tAsg _ _ _ [some (.ref a),some (.ref l),some (.int u),some (.int (gl u (ns.take i))),some (.int x)] b;ext;refine⟨_,_,rfl,?_⟩;rw[Ld a8];exact⟨rfl,rfl⟩
  ·rintro g b ⟨v,rfl,rfl⟩;rw[zqe,yT (zE _),Lc G];have p:=Lb (ns:=ns) G S;symm;exfalso;obtain⟨xs,I,_⟩:=C.walk;refine⟨b1,⟨_,I⟩,λa6 a7=>?_⟩;subst eB;refine Dv C ⋯ a7 λF zs L Y f=>?_;refine⟨a6,_,rfl,.inl ⟨SqL.of Y,λl1 D=>?_⟩⟩;have d:Same b (upd F l1 (.tup zs)):=L.trans (Same.new D);replace f:=f l1 D;generalize upd F l1 (.tup zs)=b4 at d f;exfalso;refine⟨q,⟨_,c.up d⟩,λZ O=>?_⟩;refine mU (λj y _=>∃n,ns[j]?=some n/\y=.int (n.fdiv (cs u ns))) O (c.up d) (by rw[zqe];omega) (λ_ _ _ _ r _=>r) ?_ ?_
   ·intro j y o a9 a2 _ _ J N;obtain⟨n,U,rfl⟩:=kU a2;subst eB;show tOp _ _ _ [some (.int n),some (.int (cs u ns))] o J;ext;exact⟨p n,N _ _ (Same.refl _) ⟨n,U,rfl⟩⟩
   ·intro o ys a4 W X a5;have m:ys=(redT u ns).map V.int:=by
     unfold redT;rw[xJ];exact mK (by simpa using X) a5
    subst m;refine⟨Z,_,rfl,.inl ⟨SqL.of W,λl2 a1=>?_⟩⟩;refine⟨p u,by show 3<=sizeLine;decide,λr k=>?_⟩;have z:=a4.trans (Same.new (o:=.tup ((redT u ns).map V.int)) a1);exact a3 r _ ((d.trans z).trans (Same.new k)) ⟨l1,l2,oP,(f.up z).up (Same.new k),Same.new k _ _ oP⟩
theorem ok_11(T:Txt K mg t):FnOk P w K mg base CX0 2 t.a_11 t.d_11 pi' (sp_11 K):=by
 have a1:=@ok_i P w K mg base t T;apply T.F_11.ok sc_11
 ·obtain⟨b1,b2,q,a,l,M,ns,u,rfl,C,c,b5,b4,G,S,a5⟩:=h;refine⟨_,(oM (oU (i:=3) sc_11.nd rfl (Or.inr rfl) (pq 2))
   (oM (mQ yL rfl (nV (pq 1)) (nX (i:=4) sc_11.nd rfl (Or.inl rfl))
   (oO (oU (i:=3) sc_11.nd rfl (Or.inr rfl) (oQ a1 hr.mo T.F_i (oJ (pq 3) (oJ (pq 4) oK))))))
   (oM (oU (i:=2) sc_11.nd rfl (Or.inr rfl) (oS iZ (pq 2) (pq 3)))
   (oO (oW (lV (oJ (mB jJ rfl T.z_tuple (nofun) (oJ (nT (sc:=oR s_11) (N:=N_11) (fr:=[]) (te:=(tCB (fW K) (nF (tVar 0) tNil))) rfl rfl (nofun) rfl (nofun) (nV (pq 0)) (λ_ _ _ R=>(mB jJ rfl T.z_tuple (nofun) (oJ (pv 0) oK)))) oK)) (oJ (mB jJ rfl T.z_tuple (nofun) (oJ (nT (sc:=oR s_11) (N:=N_11) (fr:=[("_law_under",2),("_law_by",3)]) (te:=(tOp (rI (λ_ j=>j≠0) λi j=>.int (i.fmod j)) (tOp (rI iY λi j=>.int (i.fdiv j)) (tVar 0) (tVar 2)) (tVar 1))) rfl rfl (nofun) rfl (nofun) (nV (pq 1)) (λ_ _ _ R=>(oS kG (oS iZ (pv 0) (pv 2)) (pv 1)))) oK)) (oJ (pq 2) oK))))))))),?_⟩
  show tSeq _ _ _ [some (.ref a),some (.ref l),some (.int u),none,none] H;right;subst e1;refine st λN1 e1=>mT λB eB=>?_;simp only[iSeq];ext;refine⟨q,⟨_,c⟩,?_⟩;refine gU (g:=nB 4) (tb:=B) (λi g b=>∃v,g=[some (.ref a),some (.ref l),some (.int u),some (.int (gl u (ns.take i))),v]/\b=H) ⟨none,by rw[pJ];show _=[_,_,_,some (V.int (absI u)),_];unfold absI;rw[zD ⋯],rfl⟩ (λ_ _ _ _⟨_,_,e⟩=>e ▸ c) ?_ ?_
  ·rintro i y g b m ⟨v,rfl,rfl⟩;obtain⟨x,b0,rfl⟩:=kU m;subst eB;show tAsg _ _ _ [some (.ref a),some (.ref l),some (.int u),some (.int (gl u (ns.take i))),some (.int x)] b;ext;refine⟨_,_,rfl,?_⟩;rw[Ld b0];exact⟨rfl,rfl⟩
  ·rintro g b ⟨v,rfl,rfl⟩;rw[zqe,yT (zE _),Lc G];have p:=Lb (ns:=ns) G S;have up:0<redU u ns:=gH ns ⋯;subst e1;refine st λU a3=>?_;ext;refine⟨p u,?_⟩;show U [some (.ref a),some (.ref l),some (.int (redU u ns)),some (.int (cs u ns)),v] b;subst a3;ext;exfalso;obtain⟨xs,I,_⟩:=C.walk;refine⟨b1,⟨_,I⟩,λa8 a9=>?_⟩;subst eB;refine Dv C ⋯ a9 λF zs L Z f=>?_;refine⟨a8,_,rfl,.inl ⟨SqL.of Z,λl1 D=>?_⟩⟩;have d:Same b (upd F l1 (.tup zs)):=L.trans (Same.new D);replace f:=f l1 D;generalize upd F l1 (.tup zs)=b6 at d f;exfalso;refine⟨q,⟨_,c.up d⟩,λa0 O=>?_⟩;refine mU (λj y _=>∃n,ns[j]?=some n/\y=.int ((n.fdiv (cs u ns)).fmod (redU u ns))) O (c.up d) (by rw[zqe];omega) (λ_ _ _ _ r _=>r) ?_ ?_
   ·intro j y o b3 a4 _ _ J N;obtain⟨n,W,rfl⟩:=kU a4;subst eB;show tOp _ _ _ [some (.int n),some (.int (redU u ns)),some (.int (cs u ns))] o J;ext;exact⟨p n,⋯,N _ _ (Same.refl _) ⟨n,W,rfl⟩⟩
   ·intro o ys a6 X Y a7;have m:ys=(nW (redU u ns) (redT u ns)).map V.int:=by
     unfold nW redT;rw[xJ,xJ];exact mK (by simpa using Y) a7
    subst m;refine⟨a0,_,rfl,.inl ⟨SqL.of X,λl2 a2=>?_⟩⟩;refine⟨by show 3<=sizeLine;decide,λr k=>?_⟩;have z:=a6.trans (Same.new (o:=.tup ((nW (redU u ns) (redT u ns)).map V.int)) a2);exact a5 r _ ((d.trans z).trans (Same.new k)) ⟨l1,l2,oP,(f.up z).up (Same.new k),Same.new k _ _ oP⟩
theorem Yy{lo:Int}{len:Nat}{H:Hp}{a:Addr}{fr:List (Str×Nat)}{j:St}{te:TE}{Q:VK}(P:Nat->List V->Hp->Prop)(D:len<=1000)(C:P 0 [] (upd H a (.lst [])))(hl:∀i zs b,P i zs b->zs.length<=i)
  (r:∀(i:Nat) b zs,i<len->P i zs b->∀f:VK,(∀y c,c a=some (.lst zs)->P (i+1) (zs++[y]) (upd c a (.lst (zs++[y])))->f y c)->te (some (.int (lo+i)):: mI fr j) b f)
  (n:∀b ys,P len ys b->Q (.ref a) b):lO (Itr lo len) (nB 0) (tEl te) 1 fr j a H Q:=by
 refine⟨λi m b=>m=len-i/\i<=len/\∃zs,P i zs b,⟨len,by simp,Nat.zero_le _,[],C⟩,?_⟩;rintro i m b ⟨rfl,hi,zs,p⟩
 by_cases d:i<len
 ·refine .inr ⟨d,λH'=>i+1<=len/\∃zs,P (i+1) zs H',λH' q=>⟨len-(i+1),⋯,rfl,q⟩,λys x g u l=>?_⟩;obtain⟨e1,k⟩:=l;subst e1 k
  match ys,u with
  |[o],_=>exact⟨⟨[_],rfl,rfl⟩,r i g zs d p _ λy c v z=>⟨zs,v,iH (by have:=hl i zs g p;omega),d,_,z⟩⟩
 ·have e:i=len:=⋯
  subst e;exact .inl ⟨zE _,n b zs p⟩
theorem iA{d:Addr}{H c a:Hp}(s:Same H c)(n:H d=none)(k:KX d c a):Same H a:=λb o e=>k b o (λz=>by rw[z,n]at e;cases e) (s b o e)
theorem Rk.kx{a r:Addr}{H f d:Hp}{R:LM}{o:HO}(h:Rk a H f r R)(u:H a=some o)(k:KX a f d):Rk a H d r R:=by
 have e:∀{c},H c=none->c≠a:=λ{c}z q=>by rw[q,u]at z;cases z
 refine⟨h.k.trans k,h.n,?_⟩;obtain⟨ps,x,v,n,m⟩:=h.m;refine⟨ps,k _ _ (e h.n) x,v,n,λi p r e1 g=>?_⟩;obtain⟨j,b,l⟩:=m i p r e1 g;exact⟨j,b,k _ _ (e b) l⟩
theorem Yx{m d a:Addr}{g k f:Hp}{R:LM}{o J S:HO}(h:Rk m g k a R)(L:g m=some o)(V:k m=some J)(s:Same k f)(X:k d=none)(O:f d=some S):∃D:Hp,Rk d D f a R/\D d=some S/\∀v M,Rk d D v a M->Rk m g v a M/\v m=some J:=by
 have N:∀{c o},k c=some o->c≠d:=λ{c o}e z=>by rw[z,X]at e;cases e
 have up:∀{c o},g c=some o->∃l,k c=some l:=λ{c o}e=>by
  by_cases z:c=m
  ·exact⟨J,by rw[z];exact V⟩
  ·exact⟨o,h.k _ _ z e⟩
 refine⟨λc=>match g c with|none=>if c=d then f d else none|some _=>f c,⟨?_,?_,?_⟩,?_,?_⟩
 ·intro b x _ e;replace e:(match g b with|none=>if b=d then f d else none|some _=>f b)=_:=e;split at e
  ·split at e
   ·rename_i q;rw[q];exact e
   ·cases e
  ·exact e
 ·show(match g a with|none=>if a=d then f d else none|some _=>f a)=none;rw[h.n];obtain⟨ps,y,_⟩:=h.m;exact zD (N y)
 ·obtain⟨ps,y,I,n,G⟩:=h.m;refine⟨ps,s _ _ y,I,n,λi p r e1 u=>?_⟩;obtain⟨F,j,C⟩:=G i p r e1 u;refine⟨F,?_,s _ _ C⟩;show(match g p with|none=>if p=d then f d else none|some _=>f p)=none;rw[j];exact zD (N C)
 ·show(match g d with|none=>if d=d then f d else none|some _=>f d)=_;split
  ·exact(zF rfl).trans O
  ·exact O
 ·intro v M T;have U:∀{c o l},g c=some o->k c=some l->v c=some l:=λ{c o l}e u=>by
   refine T.k _ _ (N u) ?_;show(match g c with|none=>if c=d then f d else none|some _=>f c)=_;rw[e];exact s _ _ u
  refine⟨⟨λb x L e=>U e (h.k _ _ L e),h.n,?_⟩,U L V⟩;obtain⟨ps,y,I,n,G⟩:=T.m;refine⟨ps,y,I,n,λi p r e1 u=>?_⟩;obtain⟨F,j,C⟩:=G i p r e1 u;refine⟨F,?_,C⟩;replace j:(match g p with|none=>if p=d then f d else none|some _=>f p)=none:=j;cases q:g p with
  |none=>rfl
  |some o =>
   obtain⟨l,W⟩:=up q;rw[q]at j;replace j:f p=none:=j;rw[s _ _ W]at j;cases j
def sp_z(K:Frag):Sp:=λvs H Q _=>E3 λ(p:Addr)(ns:LI')(d:Nat)=>A4 (vs=[.ref p,.int d]) (SqL K H p (ns.map V.int)) ((d=2\/d=3)) (∀q l(S:LI') su H',Same H H'->H' q=some (.tup [.ref l,.int su])->H' l=some (.lst (S.map V.int))->S.length=d->(∀z∈S,0<=z/\z<1000)->0<su->su<=1000->Q (.ref q) H')
def sp_g(K:Frag):Sp:=λvs H Q _=>E9 λ(p q l:Addr)(ns S:LI')(at':Nat)(d:Nat)(su so:Int)=>A12 (vs=[.ref p,.int at',.int d,.ref q,.int so]) (SqL K H p (ns.map V.int)) (at'<=10) ((d=2\/d=3)) (H q=some (.tup [.ref l,.int su])) (H l=some (.lst (S.map V.int))) (S.length=d) ((∀z∈S,0<=z/\z<1000)) (0<su) (su<=1000) (0<=so) (∀r H' x,Same H H'->DdAt K H' r x->Mkr (famK so d) (stL d (bxF ns 2)) su x->Q (.ref r) H')
noncomputable def dmF(ns:LI'):Nat:=(2+tkV (bxF ns 0) 2).toNat
noncomputable def mnF(ns:LI'):Nat:=(3-tkV (tkB (bxF ns 0) 2) 4).toNat
noncomputable def soF(ns:LI'):Int:=tkV (tkB (tkB (bxF ns 0) 2) 4) 5
theorem La(ns:LI'):dmF ns=2\/dmF ns=3:=by
 obtain⟨f,_⟩:=nM (many:=2) (jA (ns:=ns) (k:=0)) ∅;unfold dmF;omega
theorem Yw(ns:LI'):mnF ns<=3:=by
 obtain⟨_,o⟩:=nM (many:=2) (jA (ns:=ns) (k:=0)) ∅;obtain⟨f,_⟩:=nM (many:=4) o ∅;unfold mnF;omega
theorem Mz(ns:LI'):0<=soF ns:=by
 obtain⟨_,o⟩:=nM (many:=2) (jA (ns:=ns) (k:=0)) ∅;obtain⟨_,a⟩:=nM (many:=4) o ∅;exact(nM (many:=5) a ∅).1.1
def sp_12(K:Frag):Sp:=λvs H Q _=>E2 λ(p:Addr)(ns:LI')=>A3 (vs=[.ref p]) (SqL K H p (ns.map V.int)) (∀r H',Same H H'->H' r=some (.lst [.int (dmF ns:Nat),.int (mnF ns:Nat),.int (soF ns)])->Q (.ref r) H')
def sp_l(K:Frag):Sp:=λvs H Q _=>E2 λ(p:Addr)(ns:LI')=>A3 (vs=[.ref p]) (SqL K H p (ns.map V.int)) (∀r l qs ms su H',Same H H'->H' r=some (.lst [.int (dmF ns:Nat),.ref l])->H' l=some (.lst (qs.map V.ref))->Paired (DdAt K H') qs ms->0<su->su<=1000->ms.length<=3->(∀m∈ms,Mkr (famK (soF ns) (dmF ns)) (stL (dmF ns) (bxF ns 2)) su m)->Q (.ref r) H')
theorem jB{K:Frag}{H H':Hp}{p:Addr}{xs:List V}(h:SqL K H p xs)(s:Same H H'):SqL K H' p xs:=SqB.up (b:=false) h s
theorem My{P:Int->Prop}:∀{ys:List V}{H:Hp},(∀(j:Nat) y,ys[j]?=some y->∃v:Int,y=.int v/\P v)->∃S:LI',ys=S.map V.int/\∀z∈S,P z
 |[],_,_=>⟨[],rfl,λ_ h=>(by cases h)⟩
 |y:: ys,H,h=>by
  obtain⟨v,rfl,p⟩:=h 0 y rfl;obtain⟨S,rfl,k⟩:=My (P:=P) (ys:=ys) (H:=H) λj y e=>h (j+1) y (by simpa using e);exact⟨v:: S,rfl,λz a=>by rcases xH.mp a with rfl|a;exact p;exact k z a⟩
theorem Mx{a:Addr}{H:Hp}{F:Dd->Prop}:∀{ys:List V},(∀(j:Nat) y,ys[j]?=some y->∃q m,y=.ref q/\DdAt K (offH a H) q m/\F m)->∃(b:LA)(ms:List Dd),ys=b.map V.ref/\Paired (DdAt K H) b ms/\∀m∈ms,F m
 |[],_=>⟨[],[],rfl,.nil,λ_ h=>(by cases h)⟩
 |y:: ys,h=>by
  obtain⟨q,m,rfl,k,f⟩:=h 0 y rfl;obtain⟨b,ms,rfl,g,d⟩:=Mx (ys:=ys) λj y e=>h (j+1) y (by simpa using e);exact⟨q:: b,m:: ms,rfl,.cons (k.up Jj) g,λz c=>by rcases xH.mp c with rfl|c;exact f;exact d z c⟩
theorem ok_z(T:Txt K mg t):FnOk P w K mg base CX0 2 t.a_z t.d_z pq' (sp_z K):=by
 have a5:=@ok_v P w K mg base t T;have D:=@ok_1 P w K mg base t T;apply T.F_z.ok sc_z
 ·obtain⟨p,ns,d,rfl,a6,c4,b4⟩:=h;refine⟨_,(oM (oU (i:=2) sc_z.nd rfl (Or.inr rfl) (oQ a5 hr.mo T.F_v (oJ (pq 0) (oJ oN oK))))
   (oM (oU (i:=3) sc_z.nd rfl (Or.inr rfl) (oS mJ oN (oQ D hr.mo T.F_1 (oJ (pq 2) (oJ oN oK)))))
   (oM (nK (nH lG (oQ D hr.mo T.F_1 (oJ (pq 2) (oJ oN oK))) oN (nD _))
   (oO (oU (i:=3) sc_z.nd rfl (Or.inr rfl) (oS mJ oN (oQ D hr.mo T.F_1 (oJ (pq 2) (oJ oN oK))))))
   nJ)
   (oO (oW (lV (oJ (nT (sc:=oR aR) (N:=N_z) (fr:=[("_law_box_here",2),("_law_under",3)]) (te:=(mS (sp_1) [] E0 (nF (tVar 1) (nF (tVar 2) tNil)))) rfl rfl (nofun) rfl (nofun) (mF rfl T.z_range (oJ (pq 1) oK)) (λ_ _ _ c1=>(oQ D hr.mo T.F_1 (oJ (pv 1) (oJ (pv 2) oK))))) (oJ (pq 3) oK)))))))),?_⟩
  show tSeq _ _ _ [some (.ref p),some (.int d),none,none] H;right;refine⟨p,ns,3,rfl,a6,∅,λa F b9 a2 a0=>?_⟩;have U:BxOk 300 (bxF ns 3):=jA (k:=3);generalize bxF ns 3=b1 at*
  left;refine⟨a,12,b1,300,rfl,a0,U,∅,∅,∅,λX a3 b7=>?_⟩;obtain⟨c5,N⟩:=nM (many:=12) U ∅;have k2:KX a F X:=λb x f e=>by rw[a3 b f];exact e
  generalize tkB b1 12=b2 at*;generalize tkV b1 12=c6 at*
  try ext
  subst e1;refine st λN1 e1=>?_;have M:∀(u:Int)(b:Box) g,0<u->u<=1000->KX a F g->g a=some (bxO b)->BxOk 310 b->N1 [some (.ref p),some (.int d),some (.ref a),some (.int u)] g:=by
   intro u b g b3 c0 k3 o m;symm;refine nN λB eB=>?_;simp only[nU];ext;refine⟨⋯,⋯,λl hl=>?_⟩;rw[zQ];have G:l≠a:=λz=>by rw[z,o]at hl;cases hl
   refine Yy (len:=d) (λi zs c=>KX a g c/\c l=some (.lst zs)/\(∃k,c a=some (bxO k)/\BxOk (310+i) k)/\zs.length=i/\∀(j:Nat) y,zs[j]?=some y->∃v:Int,y=.int v/\0<=v/\v<u) ⋯ ⟨KX.same (Same.new hl),oP,⟨b,by rw[oT (yA G)];exact o,m⟩,rfl,λj y e=>by simp at e⟩ (λi zs c p=>tX p.2.2.2.1) ?_ ?_
   ·rintro i c zs hi ⟨J,I,⟨k,C,n⟩,r,L⟩ Y Z;subst eB;show mS _ _ _ _ [some (.int (0+(i:Int))),some (.ref a),some (.int u)] c Y;ext;refine⟨a,u,k,310+i,rfl,C,n,⋯,⋯,⋯,λc3 O a7=>?_⟩;obtain⟨b0,b6⟩:=nM (many:=u) n ⋯;refine Z _ _ (by rw[O _ G];exact I) ⟨?_,oP,⟨_,by rw[oT (yA G)];exact a7,b6.le ⋯⟩,by simp[r],λj y e=>?_⟩
    ·exact KX.over (λb x f e=>by rw[O b f];exact J b x f e) hl
    ·rcases vW j zs.length with h|h
     ·rw[yD h]at e;exact L j y e
     ·rw[zV h]at e;have:j-zs.length=0:=by
       have:=(zqa e).1;simp at this;omega
      rw[this]at e;cases e;exact⟨_,rfl,b0⟩
   ·rintro c ys ⟨J,I,⟨k,C,n⟩,r,L⟩;obtain⟨S,a8,a9⟩:∃S:LI',ys=S.map V.int/\∀z∈S,0<=z/\z<u:=My (H:=H) L;subst a8;have b8:S.length=d:=by simpa using r
    refine⟨by show 2<=sizeLine;decide,λq a1=>?_⟩;have R:=Same.new (o:=.tup [V.ref l,.int u]) a1;refine b4 q l S u _ ((iA b9 a2 (k3.trans J)).trans R) oP (R _ _ I) b8 (λz r=>?_) b3 c0;have:=a9 z r;omega
  ext;refine⟨a,4,b2,301,rfl,b7,N,∅,∅,∅,λg b5 o=>?_⟩;obtain⟨_,m⟩:=nM (many:=4) N ∅;have k3:KX a F g:=k2.trans λb x f e=>by rw[b5 b f];exact e
  generalize tkB b2 4=a4 at*;generalize tkV b2 4=v2 at*
  try ext
  refine ite2 (λ_=>?_) (λ_=>?_)
  ·refine⟨a,1000,a4,302,rfl,o,m,∅,∅,∅,λc W C=>?_⟩;obtain⟨c2,n⟩:=nM (many:=1000) m ∅
   try ext
   exact M _ _ c ⋯ ⋯ (k3.trans λb x f e=>by rw[W b f];exact e) C (n.le ∅)
  ·exact M _ _ g ⋯ ⋯ k3 o (m.le ∅)
theorem ok_g(T:Txt K mg t):FnOk P w K mg base CX0 5 t.a_g t.d_g pd' (sp_g K):=by
 have f0:=@ok_v P w K mg base t T;have b7:=@ok_1 P w K mg base t T;have j0:=@ok_17 P w K mg base t T;have k1:=@ok_n P w K mg base t T;have j2:=@ok_u P w K mg base t T;apply T.F_g.ok sc_g
 ·obtain⟨p,q,l,ns,S,x,d,X,so,rfl,f1,k8,a3,a7,f9,i7,e4,h1,i6,j1,h7⟩:=h;refine⟨_,(oM (oU (i:=5) sc_g.nd rfl (Or.inl rfl) (oQ f0 hr.mo T.F_v (oJ (pq 0) (oJ (pq 1) oK))))
   (oM (oU (i:=6) sc_g.nd rfl (Or.inr rfl) (oQ k1 hr.mo T.F_n (oJ (oQ j0 hr.mo T.F_17 (oJ (pq 4) (oJ (pq 5) (oJ (pq 2) oK)))) (oJ (oQ f0 hr.mo T.F_v (oJ (pq 0) (oJ oN oK))) oK))))
   (oM (oU (i:=7) sc_g.nd rfl (Or.inl rfl) (nQ ix_B (nI (oJ oN (oJ oN (oJ oN (oJ oN (oJ oN (oJ oN oK))))))) (oQ b7 hr.mo T.F_1 (oJ (pq 5) (oJ oN oK))) (λ_ _=>rfl)))
   (oM (nK (PW.pt (kN (nH lG (pq 4) oN (nD _)) (jP (nH lG (oQ b7 hr.mo T.F_1 (oJ (pq 5) (oJ oN oK))) oN (nD _)))))
   (oO (oU (i:=7) sc_g.nd rfl (Or.inl rfl) (oS mJ oN (oQ b7 hr.mo T.F_1 (oJ (pq 5) (oJ oN oK))))))
   nJ)
   (oM (oU (i:=8) sc_g.nd rfl (Or.inl rfl) (nI oK))
   (oM (mQ yL rfl (mF rfl T.z_range (oJ (pq 2) oK)) (nX (i:=9) sc_g.nd rfl (Or.inr rfl))
   (oM (oU (i:=10) sc_g.nd rfl (Or.inl rfl) (oS kO (nQ ix_B (oX (pq 3)) (pq 9) (λ_ _=>rfl)) (lN (bP rfl) rfl T.z_sum (nofun) (oJ (nT (sc:=oR aQ) (N:=N_g) (fr:=[("_law_spot_here",3),("_law_rows_here",6),("_law_i",9)]) (te:=(tOp (rI (λi j=>IntMulOk i j) λi j=>.int (i*j)) (tOp (rIxB K) (tOp (rIxB K) (tVar 2) (tVar 3)) (tVar 0)) (tOp (rIxB K) (tOp (rIxB K) (tVar 1) (tC (.int 0))) (tVar 0)))) rfl rfl (nofun) rfl (nofun) (mF rfl T.z_range (oJ (pq 2) oK)) (λ_ _ _ k5=>(oS nR (nQ ix_B (nQ ix_B (pv 2) (pv 3) (λ_ _=>rfl)) (pv 0) (λ_ _=>rfl)) (nQ ix_B (oX (pv 1)) (pv 0) (λ_ _=>rfl))))) oK))))
   (oO (lU (jF yM yZ yY jG (pq 8) (oJ (oS mJ (oS nR (oQ b7 hr.mo T.F_1 (oJ (pq 5) (oJ (pq 7) oK))) (oX (pq 3))) (oS nR (pq 10) (pq 7))) oK))))))
   (oO (oW (oQ j2 hr.mo T.F_u (oJ (pq 6) (oJ (pq 8) (oJ (oS nR (pq 7) (oX (pq 3))) oK)))))))))))),?_⟩
  show tSeq _ _ _ [some (.ref p),some (.int x),some (.int d),some (.ref q),some (.int so),none,none,none,none,none,none] H;have f5:BxOk (100*x) (bxF ns x):=jA;obtain⟨f6,i4⟩:=Eo a3 (jA (ns:=ns) (k:=2));right;refine⟨p,ns,x,rfl,f1,⋯,λm j5 a8 d7 O=>?_⟩;generalize bxF ns x=b1 at*
  have b9:∀{c o},H c=some o->c≠m:=λ{c o}e z=>by rw[z,d7]at e;cases e
  left;refine⟨m,so,d,b1,100*x,rfl,O,f5,⋯,a3,j1,λa l0 R b2 c8 g7 c5 g4=>?_⟩;obtain⟨e0,k0⟩:=At (so:=so) a3;have f3:Wr d R:=by have:=Xl k0 g4;rwa[e0]at this
  refine⟨p,ns,2,rfl,jB f1 (iA a8 d7 c8.k),∅,λi2 J Z e5 d6=>?_⟩;obtain⟨D,rk3,g6,e9⟩:=Yx c8 O g7 Z e5 d6
  try ext
  refine⟨a,i2,_,200,d,R,D,_,rfl,a3,f3,rk3,g6,d6,jA (k:=2),∅,λb6 g9 e6 _=>?_⟩;obtain⟨e8,c9⟩:=e9 b6 _ e6;clear e6 e9 rk3 g6 d6 e5 Z g7 c8;generalize hLL:stL d (bxF ns 2)=L at*
  have d1:Sq d (cjM d (chP d L) (chQ d L) R):=fH (kE a3 f6) R;have h0:nS 145 (cjM d (chP d L) (chQ d L) R):=λr hr z M=>wW (Lo (F:=⟨d,L,1⟩) ⟨a3,f6,i4,by show(0:Int)<1;decide,by show(1:Int)<2^100;decide⟩ f3.2 r hr z M) ∅;have h2:∀(ts:LI')(u:Int),ts.length=d->kX 250 ts->0<u->u<=200->Mkr (famK so d) L X (cjM d (chP d L) (chQ d L) R,redT (u*X) ts,redU (u*X) ts):=λts u a b c e=>⟨R,g4,ts,u,by rw[e0];exact a,b,c,e,by rw[e0]⟩;generalize cjM d (chP d L) (chQ d L) R=C at*
  left;refine⟨by show 6<=sizeLine;decide,λz M=>?_⟩;have Z:=Same.new (o:=.lst [V.int 1,.int 2,.int 2,.int 3,.int 4,.int 6]) M;have c1:(upd b6 z (.lst [V.int 1,.int 2,.int 2,.int 3,.int 4,.int 6])) z=some (.lst [V.int 1,.int 2,.int 2,.int 3,.int 4,.int 6]):=oP;generalize upd b6 z (.lst [V.int 1,.int 2,.int 2,.int 3,.int 4,.int 6])=J at Z c1;have j9:z≠m:=λy=>by rw[y,c9]at M;cases M
  refine⟨m,6,b2,100*x+100,rfl,Z _ _ c9,c5,⋯,∅,∅,λU d8 a2=>?_⟩;obtain⟨l7,N⟩:=nM (many:=6) c5 ∅;have a1:=(e8.up Z).tk O d8;rw[←d8 z j9]at c1;clear e8 Z d8 c5 c9 M f5;generalize tkB b2 6=F at*
  generalize tkV b2 6=a0 at*
  try ext
  obtain⟨b8,c0,j6,h8,j8,i8⟩:∃(b8:Nat)(c0:Int),a0=b8/\[V.int 1,.int 2,.int 2,.int 3,.int 4,.int 6][b8]?=some (.int c0)/\0<c0/\c0<=200:=by
   rcases(show a0=0\/a0=1\/a0=2\/a0=3\/a0=4\/a0=5 by omega) with e|e|e|e|e|e <;> rw[e]
   ·exact⟨0,1,rfl,rfl,∅,∅⟩
   ·exact⟨1,2,rfl,rfl,∅,∅⟩
   ·exact⟨2,2,rfl,rfl,∅,∅⟩
   ·exact⟨3,3,rfl,rfl,∅,∅⟩
   ·exact⟨4,4,rfl,rfl,∅,∅⟩
   ·exact⟨5,6,rfl,rfl,∅,∅⟩
  refine jL (i:=b8) c1 h8 j6 ?_;subst e1;refine st λN1 e1=>?_;have d4:∀(u:Int)(a5:Box) J,0<u->u<=200->Rk m j5 J a C->J m=some (bxO a5)->BxOk (100*x+150) a5->N1 [some (.ref p),some (.int x),some (.int d),some (.ref q),some (.int so),some (.ref m),some (.ref a),some (.int u),none,none,none] J:=by
   clear c1 a1 a2 N;intro u a5 J f4 e7 a1 f7 h9;left;refine⟨yB _,λG b4=>?_⟩;have d9:Same J (upd J G (.lst [])):=Same.new b4;have g0:(upd J G (.lst [])) G=some (.lst (([]:LI').map V.int)):=oP;have tb:G≠m:=λy=>by rw[y,f7]at b4;cases b4
   generalize upd J G (.lst [])=b6 at d9 g0;subst e1;refine st λN1 e1=>mT λB eB=>?_;simp only[nU];ext;refine⟨⋯,⋯,?_⟩;rw[zQ];refine iM (g:=nB 9) (tb:=B) (λi d5 U=>∃(ts:LI')(c7 a9:Option V),d5=[some (.ref p),some (.int x),some (.int d),some (.ref q),some (.int so),some (.ref m),some (.ref a),some (.int u),some (.ref G),c7,a9]/\KX m J U/\U G=some (.lst (ts.map V.int))/\ts.length=i/\kX 250 ts/\∃F,U m=some (bxO F)/\BxOk (100*x+150+i) F) ⟨[],none,none,rfl,KX.same d9,g0,rfl,λ_ h=>(by cases h),a5,d9 _ _ f7,h9⟩ ?_ ?_
   ·rintro i d5 U hi ⟨ts,c7,a9,rfl,c3,b0,lt,c4,F,a2,N⟩;have Y:=a1.kx O c3;have b3:=Y.k _ _ (b9 a7) (a8 _ _ a7);have g2:=Y.k _ _ (b9 f9) (a8 _ _ f9);obtain⟨r,d3⟩:∃r,C[i]?=some r:=⟨_,zqd (by rw[d1.1];exact hi)⟩;obtain⟨n,g3⟩:∃n,S[i]?=some n:=⟨_,zqd (by rw[i7];exact hi)⟩;have h4:=d1.2 _ (zqb d3);have k4:=e4 n (zqb g3);subst eB;show tSeq _ _ _ [some (.ref p),some (.int x),some (.int d),some (.ref q),some (.int so),some (.ref m),some (.ref a),some (.int u),some (.ref G),some (.int (0+(i:Int))),a9] U;refine st λl2 i5=>?_;ext;have f8:∀{H':Hp}{b5:VK},Same U H'->b5 (.ref l) H'->rIxB K (.ref q) (.int 0) H' b5:=λs h=>⟨true,q,_,_,_,rfl,rfl,SqB.tup (s _ _ b3),rfl,h⟩;refine f8 (Same.refl _) ?_;refine⟨false,l,_,_,_,rfl,rfl,SqB.lst g2,kC (iL g3) ⋯,?_⟩;refine nN λB eB=>?_;simp only[nU];ext;refine⟨⋯,⋯,λh5 i9=>?_⟩;rw[zQ];refine kI (len:=d) (λk z _=>∃v,(List.zipWith (·*·) r S)[k]?=some v/\z=.int v) i9 ⋯ (λ_ _ _ _ r _=>r) ?_ ?_
    ·intro k W zs l4 I l5 b5 i0;obtain⟨g,f2⟩:∃g,r[k]?=some g:=⟨_,zqd ⋯⟩;obtain⟨f,d2⟩:∃f,S[k]?=some f:=⟨_,zqd ⋯⟩;have l3:=e4 f (zqb d2);subst eB;show tOp _ _ _ [some (.int (0+(k:Int))),some (.ref q),some (.ref a),some (.int (0+(i:Int)))] W b5;ext;refine gW (b1:=false) (b2:=false) (Y.up I).m.l.b d3 f2 ⋯ ⋯ ?_;refine f8 I ⟨false,l,_,_,_,rfl,rfl,SqB.lst (I _ _ g2),kC (iL d2) ⋯,?_⟩;ext;refine⟨(show CMul _ _ from .inr ⟨⋯,⋯⟩).ok,i0 _ _ (Same.refl _) ⟨_,?_,rfl⟩⟩;rw[wA,f2,d2]
    ·intro W ys I g8 k7 j4;have j3:ys=(List.zipWith (·*·) r S).map V.int:=by
      refine mK (by simp only[zqe,List.length_zipWith];omega) λk z e=>?_;obtain⟨v,k2,rfl⟩:=j4 k z e;exact⟨v,k2,rfl⟩
     subst j3;refine⟨h5,rfl,_,SqL.of g8,?_⟩
     try ext
     have l9:(dotI r S).natAbs<2^160:=by
      have:=cK r S (h0 r (zqb d3)) (C:=10) λz M=>by have:=e4 z M;show z.natAbs<1024;omega
      rw[h4]at this;have e:(2:Nat)^160=32*2^(145+10):=∅
      omega
     have j7:(List.zipWith (·*·) r S).sum=dotI r S:=rfl;rw[j7];generalize dotI r S=dd at*
     subst i5;ext;refine⟨.inl ⟨rfl,_,SqL.of (I _ _ b0)⟩,m,u,F,100*x+150+i,rfl,I _ _ a2,N,⋯,⋯,⋯,λg1 a4 e2=>?_⟩;obtain⟨l6,c6⟩:=nM (many:=u) N ⋯;generalize tkV F u=e3 at*
     generalize tkB F u=k3 at*;have h3:q≠m:=b9 a7
     try ext
     refine⟨true,q,_,_,_,rfl,rfl,SqB.tup (by rw[a4 q h3];exact I _ _ b3),rfl,?_⟩;ext;refine⟨(show CMul _ _ from .inl ⟨⋯,⋯⟩).ok,(show CMul _ _ from .inr ⟨⋯,⋯⟩).ok,?_⟩;refine⟨G,_,_,rfl,rfl,by rw[a4 G tb];exact I _ _ b0,iH (by rw[zqe,lt];omega),KX.over ((c3.trans (KX.same I)).tk1 a4) b4,ts++[e3*X+(n-dd)*u],by rw[oP,xD];rfl,by rw[yE,lt];rfl,λz M=>?_,k3,by rw[oT (yA tb)];exact e2,c6.le ⋯⟩;rcases oF.mp M with h|h
     ·exact c4 z h
     ·rw[pO.mp h];have b1:(e3*X).natAbs<=200*1000:=by rw[xA];exact xZ ⋯ ⋯
      have b2:((n-dd)*u).natAbs<=(1000+2^160)*200:=by rw[xA];exact xZ ⋯ ⋯
      have a5:=uO (e3*X) ((n-dd)*u);have g9:200*1000+(1000+2^160)*200<2^250:=∅
      omega
   ·rintro d5 U ⟨ts,c7,a9,rfl,c3,b0,lt,c4,F,a2,N⟩;have Y:=a1.kx O c3;have b3:=Y.k _ _ (b9 a7) (a8 _ _ a7);symm;refine⟨true,q,_,_,_,rfl,rfl,SqB.tup b3,rfl,?_⟩;ext;refine⟨(show CMul _ _ from .inl ⟨⋯,⋯⟩).ok,?_⟩;have h6:0<u*X:=xE f4 h1;have k6:u*X<=200*1000:=sH e7 i6 ⋯ ⋯;refine⟨false,false,false,a,G,_,ts,_,rfl,Y.m.l.b,SqB.lst b0,by rw[d1.1];omega,⋯,h6,iP (B:=20) (by show _<1048576;omega) ∅,λr W I i3=>?_⟩;exact h7 r W _ ((iA a8 d7 Y.k).trans I) i3 (h2 ts u lt c4 f4 e7)
  ext;refine ite2 (λ_=>?_) (λ_=>?_)
  ·refine⟨m,200,F,100*x+101,rfl,a2,N,⋯,∅,∅,λW d0 c2=>?_⟩;obtain⟨l8,a6⟩:=nM (many:=200) N ∅
   try ext
   exact d4 _ _ W ⋯ ⋯ (a1.tk O d0) c2 (a6.le ⋯)
  ·refine⟨m,4,F,100*x+101,rfl,a2,N,⋯,∅,∅,λW d0 c2=>?_⟩;obtain⟨_,a6⟩:=nM (many:=4) N ∅;generalize tkB F 4=i1 at*
   generalize tkV F 4=k9 at*;have g5:=a1.tk O d0
   try ext
   refine ite2 (λ_=>?_) (λ_=>?_)
   ·refine⟨m,200,i1,100*x+102,rfl,c2,a6,⋯,∅,∅,λg1 a4 e2=>?_⟩;obtain⟨l1,c6⟩:=nM (many:=200) a6 ∅
    try ext
    exact d4 _ _ g1 ⋯ ⋯ (g5.tk O a4) e2 (c6.le ⋯)
   ·exact d4 _ _ W j8 i8 g5 c2 (a6.le ⋯)
theorem ok_12(T:Txt K mg t):FnOk P w K mg base CX0 2 t.a_12 t.d_12 pA' (sp_12 K):=by
 have D:=@ok_v P w K mg base t T;have i:=@ok_1 P w K mg base t T;apply T.F_12.ok sc_12
 ·obtain⟨p,ns,rfl,F,j⟩:=h;refine⟨_,(oM (oU (i:=1) sc_12.nd rfl (Or.inl rfl) (oQ D hr.mo T.F_v (oJ (pq 0) (oJ oN oK))))
   (oO (oW (nI (oJ (oS mJ oN (oQ i hr.mo T.F_1 (oJ (pq 1) (oJ oN oK)))) (oJ (oS kO oN (oQ i hr.mo T.F_1 (oJ (pq 1) (oJ oN oK)))) (oJ (oQ i hr.mo T.F_1 (oJ (pq 1) (oJ oN oK))) oK))))))),?_⟩
  show tSeq _ _ _ [some (.ref p),none] H;right;refine⟨p,ns,0,rfl,F,∅,λa g R y q=>?_⟩;have d:BxOk 0 (bxF ns 0):=jA (k:=0);have z:((dmF ns:Nat):Int)=2+tkV (bxF ns 0) 2:=by
   obtain⟨f,_⟩:=nM (many:=2) d ∅;unfold dmF;omega
  have v:((mnF ns:Nat):Int)=3-tkV (tkB (bxF ns 0) 2) 4:=by
   obtain⟨_,o⟩:=nM (many:=2) d ∅;obtain⟨f,_⟩:=nM (many:=4) o ∅;unfold mnF;omega
  rw[z,v]at j;unfold soF at j;generalize bxF ns 0=b1 at*
  symm;refine⟨a,2,b1,0,rfl,q,d,∅,∅,∅,λm C N=>?_⟩;obtain⟨V,k⟩:=nM (many:=2) d ∅;have k2:KX a g m:=λb x c e=>by rw[C b c];exact e
  try ext
  refine⟨a,4,_,1,rfl,N,k,∅,∅,∅,λO M u=>?_⟩;obtain⟨U,n⟩:=nM (many:=4) k ∅;have k3:KX a g O:=k2.trans λb x c e=>by rw[M b c];exact e
  try ext
  refine⟨a,5,_,2,rfl,u,n,∅,∅,∅,λI l S=>?_⟩;have G:KX a g I:=k3.trans λb x c e=>by rw[l b c];exact e
  have L:=iA R y G;refine⟨by show 3<=sizeLine;decide,λr J=>j r _ (L.trans (Same.new J)) oP⟩
theorem ok_l(T:Txt K mg t):FnOk P w K mg base CX0 6 t.a_l t.d_l pA' (sp_l K):=by
 have Y:=@ok_12 P w K mg base t T;have a1:=@ok_z P w K mg base t T;have a9:=@ok_g P w K mg base t T;apply T.F_l.ok sc_l
 ·obtain⟨p,ns,rfl,f,a6⟩:=h;refine⟨_,(oM (iV (oQ Y hr.mo T.F_12 (oJ (pq 0) oK)) (Hr rfl (lD (nX (i:=1) sc_l.nd rfl (Or.inr rfl)) (lD (nX (i:=2) sc_l.nd rfl (Or.inl rfl)) (lD (nX (i:=3) sc_l.nd rfl (Or.inr rfl)) iU)))))
   (oM (oU (i:=4) sc_l.nd rfl (Or.inr rfl) (oQ a1 hr.mo T.F_z (oJ (pq 0) (oJ (pq 1) oK))))
   (oO (oW (nI (oJ (pq 1) (oJ (nT (sc:=oR aS) (N:=N_l) (fr:=[("_law_script",0),("_law_d",1),("_law_sort_here",3),("_law_spot_here",4)]) (te:=(mS (sp_g K) [] E0 (nF (tVar 1) (nF (tOp (rI0 λi j=>.int (i+j)) (tC (.int 4)) (tVar 0)) (nF (tVar 2) (nF (tVar 4) (nF (tVar 3) tNil))))))) rfl rfl (nofun) rfl (nofun) (mF rfl T.z_range (oJ (pq 2) oK)) (λ_ _ _ b5=>(oQ a9 hr.mo T.F_g (oJ (pv 1) (oJ (oS mJ oN (pv 0)) (oJ (pv 2) (oJ (pv 4) (oJ (pv 3) oK)))))))) oK))))))),?_⟩
  show tSeq _ _ _ [some (.ref p),none,none,none,none] H;right;refine⟨p,ns,rfl,f,λr b3 G n=>?_⟩;refine⟨false,r,_,rfl,SqB.lst n,rfl,_,_,rfl,_,_,rfl,_,_,rfl,rfl,?_⟩;have C:=La ns;have b7:=Yw ns;have a5:=Mz ns;generalize dmF ns=d at*
  generalize mnF ns=many at*;generalize soF ns=so at*
  clear n;left;refine⟨p,ns,d,rfl,jB f G,C,λq l S u b2 a7 a3 b1 b0 a2 F o=>?_⟩;have D:=G.trans a7;symm;refine nN λB eB=>?_;simp only[nU];ext;refine⟨⋯,⋯,λg O=>?_⟩;rw[zQ];refine kI (len:=many) (λ_ y c=>∃q m,y=.ref q/\DdAt K (offH g c) q m/\Mkr (famK so d) (stL d (bxF ns 2)) u m) O ⋯ (λ_ _ _ _⟨q,m,e,h,k⟩X=>⟨q,m,e,h.up (Ji X),k⟩) ?_ ?_
  ·intro k c zs b4 b W M N;subst eB;show mS _ _ _ _ [some (.int (0+(k:Int))),some (.ref p),some (.int d),some (.int so),some (.ref q)] c M;ext;refine⟨p,q,l,ns,S,4+k,d,u,so,by rw[show((4+k:Nat):Int)=4+(0+(k:Int)) by omega],jB f (D.trans b),⋯,C,b _ _ a3,b _ _ b1,b0,a2,F,o,a5,λr b6 x a I a8=>N _ _ a ⟨r,x,rfl,DdAt.tk I (Dm (a _ _ W)),a8⟩⟩
  ·intro c ys b L Z U;obtain⟨J,ms,rfl,v,R⟩:=Mx U;refine⟨by show 2<=sizeLine;decide,λr a0=>?_⟩;have a:=Same.new (o:=.lst [V.int d,.ref g]) a0;have a4:ms.length<=3:=by
    have:=mE v;rw[zqe]at Z;omega
   refine a6 r g J ms u _ ((D.trans b).trans a) oP (a _ _ L) (Paired.mapP v λ_ _ z=>z.up a) F o a4 R
theorem det2(a b c e:Int):detM 2 [[a,b],[c,e]]=a*e-b*c:=by
 simp[detM,altS,sg,lY];grind
theorem det3(a b c d g j e f i:Int):detM 3 [[a,b,c],[d,g,j],[e,f,i]]=a*(g*i-j*f)-b*(d*i-j*e)+c*(d*f-g*e):=by
 simp[detM,altS,sg,lY];grind
theorem Yv{d:Nat}(i:d=2\/d=3){M N:LM}(g:Sq d M)(f:Sq d N):detM d (mulM d N M)=detM d N*detM d M:=by
 rcases i with rfl|rfl
 ·obtain⟨a,b,c,e,rfl⟩:=sq2 g;obtain⟨y,u,J,k,rfl⟩:=sq2 f;rw[mul2,det2,det2,det2];grind
 ·obtain⟨z,x,q,j,v,G,C,F,l,rfl⟩:=sq3 g;obtain⟨b1,b2,r,m,p,o,I,n,D,rfl⟩:=sq3 f;rw[mul3,det3,det3,det3];grind
theorem Yu{d:Nat}(a:d=2\/d=3):detM d (idM d)=1:=by
 rcases a with rfl|rfl
 ·rw[id2,det2];decide
 ·rw[id3,det3];decide
theorem inv2(a b c d:Int):invR 2 [[a,b],[c,d]]=[[(a*d-b*c)*d,-((a*d-b*c)*b)],[-((a*d-b*c)*c),(a*d-b*c)*a]]:=by
 simp[invR,cofM,detM,altS,lY,sg,List.range,List.range.loop];grind
theorem Yt{a b c d:Int}(h:a*d-b*c=1\/a*d-b*c=-1):mulM 2 (invR 2 [[a,b],[c,d]]) [[a,b],[c,d]]=idM 2/\mulM 2 [[a,b],[c,d]] (invR 2 [[a,b],[c,d]])=idM 2:=by
 have e:(a*d-b*c)*(a*d-b*c)=1:=by rcases h with h|h <;> rw[h] <;> decide
 rw[inv2,mul2,mul2,id2];simp only[List.cons.injEq,and_true];refine⟨⟨⟨?_,?_⟩,?_,?_⟩,⟨?_,?_⟩,?_,?_⟩ <;> grind
theorem inv3{a b c d e f g i j D:Int}(k:detM 3 [[a,b,c],[d,e,f],[g,i,j]]=D):invR 3 [[a,b,c],[d,e,f],[g,i,j]] =
  [[D*(e*j-f*i),D*-(b*j-c*i),D*(b*f-c*e)],[D*-(d*j-f*g),D*(a*j-c*g),D*-(a*f-c*d)],[D*(d*i-e*g),D*-(a*i-b*g),D*(a*e-b*d)]]:=by
 unfold invR;rw[k];simp[cofM,lY,sg,List.range,List.range.loop,det2]
theorem Ys{d:Nat}(g:d=2\/d=3){M:LM}(f:Sq d M)(h:detM d M=1\/detM d M=-1):mulM d (invR d M) M=idM d/\mulM d M (invR d M)=idM d:=by
 have e:detM d M*detM d M=1:=by rcases h with h|h <;> rw[h] <;> decide
 rcases g with rfl|rfl
 ·obtain⟨a,b,c,d,rfl⟩:=sq2 f;rw[det2]at h;exact Yt h
 ·obtain⟨a,b,c,p,q,r,u,v,w,rfl⟩:=sq3 f;have i:=det3 a b c p q r u v w;rw[inv3 rfl];generalize detM 3 [[a,b,c],[p,q,r],[u,v,w]]=D at i e;show mulM 3 [[D*(q*w-r*v),D*-(b*w-c*v),D*(b*r-c*q)],[D*-(p*w-r*u),D*(a*w-c*u),D*-(a*r-c*p)],[D*(p*v-q*u),D*-(a*v-b*u),D*(a*q-b*p)]] _=_/\mulM 3 _ _=_;rw[mul3,mul3,id3];simp only[List.cons.injEq,and_true];refine⟨⟨⟨?_,?_,?_⟩,⟨?_,?_,?_⟩,?_,?_,?_⟩,⟨?_,?_,?_⟩,⟨?_,?_,?_⟩,?_,?_,?_⟩ <;> grind
theorem Yr{M:LM}{ts:LI'}{U:Int}(f:0<U):canD (canD M ts U).1 (canD M ts U).2.1 (canD M ts U).2.2=canD M ts U:=by
 obtain⟨c,e,e1,d,a⟩:=dB (ts:=ts) f;have g:canD M (nW (redU U ts) (redT U ts)) (redU U ts)=canD M (redT U ts) (redU U ts):=(Dc a (Cong.rest a _)).symm;have b:canD M (smul c (redT U ts)) (c*redU U ts)=canD M (redT U ts) (redU U ts):=cQ a e;rw[←e1,←d]at b;exact g.trans b.symm
noncomputable def lowD(M:LM)(ts:LI')(U:Int):Dd:=(M,redT U ts,redU U ts)
theorem Yq{d:Nat}{M N:LM}{ts ns:LI'}{U V:Int}(g:0<U)(o:0<V):behD d (lowD M ts U) (lowD N ns V)=lowD (mulM d N M) (movT N ns V ts U) (V*U):=by
 obtain⟨c,f,e1,a,k⟩:=dB (ts:=ts) g;obtain⟨e,i,j,b,m⟩:=dB (ts:=ns) o;have n:movT N ns V ts U=smul (e*c) (movT N (redT V ns) (redU V ns) (redT U ts) (redU U ts)):=by
  rw[←Ki,←e1,←a,←j,←b]
 have l:V*U=(e*c)*(redU V ns*redU U ts):=by
  rw[show(e*c)*(redU V ns*redU U ts)=(e*redU V ns)*(c*redU U ts) by grind,←a,←b]
 obtain⟨r1,r2⟩:=Ax (ts:=movT N (redT V ns) (redU V ns) (redT U ts) (redU U ts)) (xE m k) (xE i f);unfold lowD behD;rw[n,l,r1,r2]
theorem Yp{d:Nat}{M N:LM}{ts ns:LI'}{U:Int}(a:0<U):behD d (lowD M ts U) (lowD N ns U)=lowD (mulM d N M) (va (mv N ts) ns) U:=by
 rw[Yq a a,Kh];obtain⟨r1,r2⟩:=Ax (ts:=va (mv N ts) ns) a a;unfold lowD;rw[r1,r2]
theorem En{M:LM}{ts:LI'}{U:Int}(e:0<U):canD (lowD M ts U).1 (lowD M ts U).2.1 (lowD M ts U).2.2=oV (lowD M ts U):=by
 obtain⟨c,d,e1,b,f⟩:=dB (ts:=ts) e;have a:canD M (smul c (redT U ts)) (c*redU U ts)=canD M (redT U ts) (redU U ts):=cQ f d;rw[←e1,←b]at a;exact a.symm
theorem Em{d:Nat}(a:d=2\/d=3){U:Int}(c:0<U):lowD (idM d) (List.replicate d 0) U=nE d:=by
 have h:=cR (M:=idM d) a c;have b:redU U (List.replicate d 0)=1:=wI (λx=>x.2.2) h;unfold lowD nE;rw[b];unfold redT;rw[List.map_replicate,Int.zero_fdiv]
noncomputable def jC(d:Nat)(x:Dd):Dd:=(invR d x.1,redT x.2.2 (lT d x.1 x.2.1),redU x.2.2 (lT d x.1 x.2.1))
theorem Mw{ts:LI'}{u:Int}:∀(N:LM),movT N (N.map λr=>-(dotI r ts)) u ts u=List.replicate N.length 0
 |[]=>rfl
 |r:: N=>by
  have:=Mw (ts:=ts) (u:=u) N;unfold movT at this ⊢;rw[zK,yX,this,zU,wP,show dotI r ts*u+-(dotI r ts)*u=0 by grind]
theorem Yo{d:Nat}(b:d=2\/d=3){x:Dd}(g:Sq d x.1)(a:0<x.2.2)(f:canD x.1 x.2.1 x.2.2=x)(dt:detM d x.1=1\/detM d x.1=-1):oZ d x (oV (jC d x))=nE d:=by
 have e:oV (jC d x)=canD (invR d x.1) (lT d x.1 x.2.1) x.2.2:=rfl;rw[e];have h:=iQ (d:=d) (M:=x.1) (ts:=x.2.1) (N:=invR d x.1) (ns:=lT d x.1 x.2.1) a a;rw[f]at h;rw[h,(Ys b g dt).1];have c:movT (invR d x.1) (lT d x.1 x.2.1) x.2.2 x.2.1 x.2.2=List.replicate d 0:=by
  have:=Mw (ts:=x.2.1) (u:=x.2.2) (invR d x.1);rw[eW.1]at this;exact this
 rw[c,cR b (xE a a)];rfl
theorem Rs.can{d:Nat}{x:Dd}(h:Rs d x):canD x.1 x.2.1 x.2.2=x/\oV x=x/\Sq d x.1/\0<x.2.2:=by
 obtain⟨M,ts,U,a,lt,b,rfl⟩:=h;exact⟨Yr b,Xm,a,gH ts ⋯⟩
theorem Yn{d:Nat}{T:List Dd}(g:Grp d T){x:Dd}(b:x∈T):oV (jC d x)∈T/\oZ d x (oV (jC d x))=nE d/\oZ d (oV (jC d x)) x=nE d:=by
 obtain⟨z,a,e1,e⟩:=g.inv x b;obtain⟨p,_,k,c⟩:=(g.rs x b).can;obtain⟨_,_,sz,_⟩:=(g.rs z a).can;have m:mulM d z.1 x.1=idM d:=wI Prod.fst e1;have dt:detM d x.1=1\/detM d x.1=-1:=by
  have:=Yv g.dim k sz;rw[m,Yu g.dim]at this;have o:detM d x.1*detM d z.1=1:=by rw[wQ];exact this.symm
  have f:=wI Int.natAbs o;rw[xA]at f;have q:(detM d x.1).natAbs=1:=Nat.dvd_one.mp ⟨_,f.symm⟩;omega
 have l:=Yo g.dim k c p dt;have j:Rs d (oV (jC d x)):=⟨invR d x.1,lT d x.1 x.2.1,x.2.2,eW,by unfold lT;rw[zqe];exact eW.1,c,rfl⟩;have n:oV (jC d x)=z:=by
  have i:=Ey g.dim (g.rs z a) (g.rs x b) j;rw[e,l,(gK g.dim j).1,(gK g.dim (g.rs z a)).2]at i;exact i
 rw[n];exact⟨a,e1,e⟩
theorem dD{y:Dd×List Nat}:∀{srt:Tb}{i n:Nat},(srt.map (·.1)).Nodup->srt[i]?=some y->vT (numT srt n) (dat y.1)=some (.int ((n+i:Nat):Int))
 |[],_,_,_,e=>by cases e
 |z:: srt,0,n,_,e=>by
  cases e;show vT ((dat y.1,V.int ((n:Nat):Int)):: numT srt (n+1)) (dat y.1)=_;rw[dZ rfl];rfl
 |z:: srt,i+1,n,nd,e=>by
  have b:=tV.mp nd;have a:srt[i]?=some y:=by simpa using e
  show vT ((dat z.1,V.int ((n:Nat):Int)):: numT srt (n+1)) (dat y.1)=_;have c:z.1≠y.1:=λq=>b.1 (by show z.1∈_;rw[q];exact oE.mpr ⟨y,zqb a,rfl⟩);rw[gZ (λq=>c (eT.mp q)),dD b.2 a,show n+1+i=n+(i+1) by omega]
theorem Ar{x:Dd}:∀{srt:Tb}{n:Nat},x∉srt.map (·.1)->vT (numT srt n) (dat x)=none
 |[],_,_=>rfl
 |z:: srt,n,h=>by
  show vT ((dat z.1,V.int ((n:Nat):Int)):: numT srt (n+1)) (dat x)=_;rw[gZ (λq=>h (by rw[←eT.mp q];exact .head _)),Ar (λq=>h (.tail _ q))]
theorem Ym{srt:Tb}{k:Nat}{y:Dd×List Nat}(e:srt[k]?=some y):numT (srt.take (k+1)) 0=numT (srt.take k) 0++[(dat y.1,V.int ((k:Nat):Int))]:=by
 have a:k<srt.length:=(zqa e).1;unfold numT;rw[wD,e,Option.toList_some,List.zipIdx_append,xD,yJ,tQ ⋯];simp
theorem El{x:Dd}{srt:Tb}(h:x∈srt.map (·.1)):∃(i:Nat)(y:Dd×List Nat),srt[i]?=some y/\y.1=x:=by
 obtain⟨y,a,e⟩:=oE.mp h;obtain⟨i,hi⟩:=xT a;exact⟨i,y,hi,e⟩
def LowU(F:Fr4)(B:Nat)(x:Dd):Prop:=∃R∈pgL F.k,∃ns:LI',ns.length=famD F.k/\kX B ns/\x=lowD (F.cj R) ns F.U
structure Pr(d B:Nat)(x:Dd):Prop where
 sq:Sq d x.1
 len:x.2.1.length=d
 pos:0<x.2.2
 bm:nS 140 x.1
 bt:kX B x.2.1
 bu:x.2.2<2^100
theorem fK{F:Fr4}(h:F.Ok){B:Nat}{x:Dd}(c:LowU F B x):Pr (famD F.k) B x/\canD x.1 x.2.1 x.2.2=oV x/\InG F (oV x):=by
 obtain⟨R,a,ns,b,d,rfl⟩:=c;obtain⟨r1,r2,i⟩:=cS (ts:=ns) h.u0;refine⟨⟨fH (kE (kZ F.k) h.ok) R,by show(redT _ ns).length=_;unfold redT;rw[zqe];exact b,r2,Au h a,λz f=>?_,?_⟩,En h.u0,⟨R,a,ns,b,rfl⟩⟩
 ·obtain⟨t,g,e⟩:=r1 z f;exact wW e (d t g)
 ·have:=h.u1;show redU F.U ns<_;omega
theorem Yl{F:Fr4}(h:F.Ok){B:Nat}:LowU F B (nE (famD F.k)):=by
 refine⟨_,(jZ h.k).one,List.replicate (famD F.k) 0,by simp,λz a=>?_,?_⟩
 ·rw[List.eq_of_mem_replicate a];exact tS B
 ·rw[Ev h,Em (kZ F.k) h.u0]
theorem Yk{F:Fr4}(h:F.Ok){B:Nat}(C:300<=B){x m:Dd}(f:LowU F B x)(g:LowU F 300 m):LowU F (B+150) (behD (famD F.k) x m):=by
 obtain⟨D,e,ts,l1,b1,rfl⟩:=f;obtain⟨R2,a,ns,l2,b2,rfl⟩:=g;have M:=jZ h.k;have c:=kE (kZ F.k) h.ok;have j:=kZ F.k;have b:Sq (famD F.k) (F.cj R2):=fH c R2;refine⟨_,M.mul _ a _ e,va (mv (F.cj R2) ts) ns,Ks (Di b) l2,λz d=>?_,?_⟩
 ·unfold va mv at d;obtain⟨i,hi⟩:=xT d;rw[wA,zI]at hi;cases e1:(F.cj R2)[i]? with
  |none=>rw[e1]at hi;simp at hi
  | some r =>
   cases e2:ns[i]? with
   |none=>rw[e1,e2]at hi;simp at hi
   |some n =>
    rw[e1,e2]at hi;have q:dotI r ts+n=z:=by simpa using hi
    have l:=cK r ts (Au h a r (zqb e1)) b1;rw[b.2 r (zqb e1)]at l;have y:=b2 n (zqb e2);have u:(2:Nat)^300<=2^(140+B):=yC ∅ ⋯;have k:(2:Nat)^(B+150)=1024*2^(140+B):=by rw[show B+150=140+B+10 by omega,vG _ (140+B) 10,tZ]
    have v:=tS (140+B);have o:famD F.k*2^(140+B)<=3*2^(140+B):=wC _ ⋯;generalize (2:Nat)^(140+B)=p at*
    rw[k];omega
 ·rw[Yp h.u0];unfold Fr4.cj;rw[Dh j c (M.sq _ e) (M.sq _ a)]
theorem Mv{k:Nat}{L:List Stp}{g:Int}:∀{ms:List Dd},(∀m∈ms,Mkr k L g m)->∃V:Int,0<V/\V<=((200^ms.length:Nat):Int)/\∀m∈ms,∃R∈pgL k,∃(ts:LI')(u:Int),ts.length=famD k/\kX 250 ts/\0<u/\u<=200/\u∣V/\m=(cjM (famD k) (chP (famD k) L) (chQ (famD k) L) R,redT (u*g) ts,redU (u*g) ts)
 |[],_=>⟨1,∅,∅,λ_ h=>(by cases h)⟩
 | m:: ms,h=>by
  obtain⟨V,o,n,p⟩:=Mv (ms:=ms) λx c=>h x (.tail _ c);obtain⟨R,d,ts,u,lt,f,i,j,e⟩:=h m (.head _);refine⟨u*V,xE i o,?_,λx c=>?_⟩
  ·rw[zU,qU,Int.natCast_mul,wQ];exact sH n j ⋯ ⋯
  ·rcases xH.mp c with rfl|c
   ·exact⟨R,d,ts,u,lt,f,i,j,⟨V,rfl⟩,e⟩
   ·obtain⟨R,d,ts,l,lt,f,a,b,q,e⟩:=p x c;exact⟨R,d,ts,l,lt,f,a,b,Int.dvd_trans q ⟨u,wQ _ _⟩,e⟩
theorem Yj{k:Nat}{L:List Stp}{a:Int}{ms:List Dd}(o:k<4)(j:∀s∈L,s.Ok (famD k))(n:L.length<=3)(d:0<a)(I:a<=1000)(hl:ms.length<=3)(h:∀m∈ms,Mkr k L a m):∃F:Fr4,F.k=k/\F.Ok/\∀m∈ms,LowU F 300 m:=by
 obtain⟨V,i,G,l⟩:=Mv (ms:=ms) h;have v2:V<=8000000:=Int.le_trans G (Int.ofNat_le.mpr (yG (yC ∅ hl) ∅));have r:0<V*a:=xE i d;have M:V*a<=8000000*1000:=sH v2 I ⋯ ∅;have y:V*a<2^100:=Int.lt_of_le_of_lt M ∅;refine⟨⟨k,L,V*a⟩,rfl,⟨o,j,n,r,y⟩,λm D=>?_⟩;obtain⟨R,C,ts,u,lt,p,f,O,⟨b,c⟩,rfl⟩:=l m D;have g:0<b:=Classical.byContradiction λq=>absurd (c ▸ i:0<u*b) (Int.not_lt.mpr (Int.mul_nonpos_of_nonneg_of_nonpos (wZ f) (Int.not_lt.mp q)));have N:b<=V:=by
  rw[c];have:=Int.mul_le_mul_of_nonneg_right (show 1<=u by omega) (wZ g);omega
 refine⟨R,C,smul b ts,by rw[Kv];exact lt,λz e=>?_,?_⟩
 ·unfold smul at e;obtain⟨t,v,rfl⟩:=oE.mp e;rw[xA];have J:=p t v;have x:b.natAbs<2^50:=⋯
  rw[show(300:Nat)=50+250 from rfl,vG];exact tH x J
 ·obtain⟨r1,r2⟩:=Ax (ts:=ts) (xE f d) g;unfold lowD;show _=(_,redT (V*a) _,redU (V*a) _);rw[c,show u*b*a=b*(u*a) by grind,r1,r2];rfl
structure GC(K:Frag)(t:Adr)(F:Fr4)(H:Hp)(g:Addr)(ms:List Dd)(srt:Tb):Prop where
 f:GrpF K t H g (famD F.k) ms srt
 ok:F.Ok
 to:Told (famD F.k) (ms.map oV) srt
 mq:∀m∈ms,LowU F 300 m
section
variable {F:Fr4} {H H':Hp} {g:Addr} {ms:List Dd} {srt:Tb}
theorem GC.up(h:GC K t F H g ms srt)(s:Same H H'):GC K t F H' g ms srt:=⟨h.f.up s,h.ok,h.to,h.mq⟩
theorem GC.dim(h:GC K t F H g ms srt):famD F.k=2\/famD F.k=3:=kZ F.k
theorem GC.sub(h:GC K t F H g ms srt):∀s∈ms.map oV,InG F s:=λs a=>by
 obtain⟨m,b,rfl⟩:=oE.mp a;exact(fK h.ok (h.mq m b)).2.2
theorem GC.grp(h:GC K t F H g ms srt):Grp (famD F.k) (srt.map (·.1)):=h.to.grp (cT h.ok) h.sub
theorem GC.inG(h:GC K t F H g ms srt):∀x∈srt.map (·.1),InG F x:=h.to.good (cT h.ok) h.sub
theorem GC.fine(h:GC K t F H g ms srt):∀x∈srt.map (·.1),mY (famD F.k) x:=λx a=>(cT h.ok).fine x (h.inG x a)
theorem GC.pr(h:GC K t F H g ms srt):∀x∈srt.map (·.1),Pr (famD F.k) 100 x:=λx a=>by
 obtain⟨R,b,ts,lt,rfl⟩:=h.inG x a;obtain⟨_,r2,d⟩:=cS (ts:=ts) h.ok.u0;have e:=h.ok.u1;have f:=h.fine _ a;refine⟨f.sq,f.len,f.pos,Au h.ok b,λz c=>?_,?_⟩
 ·obtain⟨y,_,rfl⟩:=oE.mp c;have:=fms y _ r2;show _<2^100;omega
 ·show redU F.U ts<_;omega
theorem GC.nd(h:GC K t F H g ms srt):(srt.map (·.1)).Nodup:=h.to.nd
theorem GC.mak(h:GC K t F H g ms srt){x m:Dd}(b:x∈srt.map (·.1))(c:m∈ms):oZ (famD F.k) x (oV m)∈srt.map (·.1):=by
 obtain⟨y,a,rfl⟩:=oE.mp (h.to.mem.mp b);exact h.to.mem.mpr (Lz (yG h.to.l ∅) y a _ (oE.mpr ⟨m,c,rfl⟩))
theorem GC.own(h:GC K t F H g ms srt){m:Dd}(a:m∈ms):oV m∈srt.map (·.1):=by
 have:=h.mak h.grp.one a
 rwa[(gK h.dim ((cT h.ok).rs _ (h.sub _ (oE.mpr ⟨m,a,rfl⟩)))).1]at this
end
def sp_a(K:Frag)(t:Adr):Sp:=λvs H Q _=>E6 λ(g p:Addr)(d:Nat)(ms:List Dd)(srt:Tb)(x:Dd)=>A7 (vs=[.ref g,.ref p]) (GrpF K t H g d ms srt) (DdS K H p x) (x.1.length<=100) (x.2.1.length<=100) (0<x.2.2) (∀H',Same H H'->Q ((vT (numT srt 0) (dat (oV x))).getD .non) H')
theorem ok_a(T:Txt K mg t):FnOk P w K mg base CX0 3 t.a_a t.d_a pB' (sp_a K t):=by
 have j:=@ok_1j P w K mg base t T;apply T.F_a.ok sc_a
 ·have o:=hr.units;obtain⟨g,p,d,ms,srt,x,rfl,⟨z,y,lo,v,e,n,_,_,_,a⟩,i,u,f,m,k⟩:=h;refine⟨_,(oO (oW (bY (T:= "") uG vM uU (bZ o) (iE (pv 0) rfl) (oJ (oQ j hr.mo T.F_1j (oJ (pv 1) oK)) oK)))),?_⟩;show tRet _ _ [some (.ref g),some (.ref p)] H;simp only[tRet,tBMR];refine fG rfl n T.cl_4 T.h_9 rfl ?_;refine⟨⟨e,_,rfl,a⟩,?_⟩;ext;refine⟨p,x.1,x.2.1,x.2.2,rfl,i,u,f,m,λr b c l=>?_⟩;have q:DdAt K b r (oV x):=l;exact⟨e,_,r,dat (oV x),rfl,rfl,a.up c,kL _,q.dt,k b c⟩
theorem Aq{H:Hp}{g p:Addr}{d:Nat}{ms:List Dd}{srt:Tb}{x:Dd}{Q:VK}(h:GrpF K t H g d ms srt)(c:DdS K H p x)(l1:x.1.length<=100)(l2:x.2.1.length<=100)(b:0<x.2.2)(k:∀H',Same H H'->Q ((vT (numT srt 0) (dat (oV x))).getD .non) H'):∃a fs,H g=some (.ins t.a_4 a fs)/\fs.lookup (Str.ofString "at")=none/\sp_a K t [.ref g,.ref p] H Q E0:=by
 obtain⟨a,i,lo,f,j,e,_⟩:=id h.ex;exact⟨a,_,e,rfl,g,p,d,ms,srt,x,rfl,h,c,l1,l2,b,k⟩
def sp_9(K:Frag)(t:Adr):Sp:=λvs H Q _=>E8 λ(g:Addr)(d:Nat)(ms:List Dd)(srt:Tb)(i j:Nat)(a b:Dd×List Nat)=>A8 (vs=[.ref g,.int i,.int j]) (GrpF K t H g d ms srt) (srt[i]?=some a) (srt[j]?=some b) (mY d a.1) (mY d b.1) ((d=2\/d=3)) (∀H',Same H H'->Q ((vT (numT srt 0) (dat (oZ d a.1 b.1))).getD .non) H')
theorem Ek{H:Hp}{g:Addr}{d i:Nat}{ms:List Dd}{srt:Tb}{a:Dd×List Nat}{f:St}{n:Nat}{Q:VK}(T:Txt K mg t)(h:GrpF K t H g d ms srt)(j:f[n]?=some (some (.ref g)))(e:srt[i]?=some a)(q:∀p,DdS K H p a.1->Q (.ref p) H):tFld K (tVar n) (Str.ofString "ordered") f H (λx o=>rIxB K x (.int i) o Q):=by
 obtain⟨z,v,lo,u,C,k,_,⟨m,l,c⟩,_⟩:=id h.ex;refine fG j k T.cl_4 T.h_8 rfl ?_;obtain⟨p,ep⟩:∃p,m[i]?=some p:=⟨_,zqd (by rw[mE c];exact(zqa e).1)⟩;obtain⟨y,b,r⟩:=kM c ep;rw[e]at b;cases b;exact jL (i:=i) l (by rw[zI,ep];rfl) rfl (q p (Ll r))
theorem ok_9(T:Txt K mg t):FnOk P w K mg base CX0 5 t.a_9 t.d_9 px' (sp_9 K t):=by
 have u:=@ok_1b P w K mg base t T;have m:=@ok_a P w K mg base t T;apply T.F_9.ok sc_9
 ·obtain⟨g,d,ms,srt,i,j,a,b,rfl,e,v,I,f,c,N,D⟩:=h;refine⟨_,(oO (oW (iG (C:=t.a_4) (pv 0) T.cl_4 T.me_a m hr.mo T.b_a .nil mC (oJ (oQ u hr.mo T.F_1b (oJ (nQ ix_B (iE (pv 0) rfl) (pv 1) (λ_ _=>rfl)) (oJ (nQ ix_B (iE (pv 0) rfl) (pv 2) (λ_ _=>rfl)) oK))) oK)))),?_⟩;show tRet _ _ [some (.ref g),some (.int i),some (.int j)] H;simp only[tRet,lF];ext;obtain⟨C,J,lo,M,L,G,_⟩:=id e.ex;refine⟨C,_,G,rfl,?_⟩;refine Ek T e rfl v λp x=>Ek T e rfl I λq o=>?_;refine⟨p,q,_,_,_,_,_,_,d,rfl,x,o,f,c,⋯,⋯,λr l k y=>?_⟩;have z:DdAt K l r (behD d a.1 b.1):=y;have l1:(behD d a.1 b.1).1.length<=100:=by have:=(c.sq.mul (B:=a.1.1)).1;show(mulM d b.1.1 a.1.1).length<=100;omega
  have l2:(behD d a.1 b.1).2.1.length<=100:=by
   show(redT _ (movT _ _ _ _ _)).length<=100;unfold redT;rw[zqe,Ez c.sq c.len];omega
  exact⟨g,r,d,ms,srt,behD d a.1 b.1,rfl,e.up k,z.s,l1,l2,gH _ (by have:=xE c.pos f.pos;omega),λF n=>D F (k.trans n)⟩
def sp_8(K:Frag)(t:Adr):Sp:=λvs H Q _=>E6 λ(g:Addr)(d:Nat)(ms:List Dd)(srt:Tb)(i:Nat)(a:Dd×List Nat)=>A6 (vs=[.ref g,.int i]) (GrpF K t H g d ms srt) (srt[i]?=some a) (Pr d 100 a.1) ((d=2\/d=3)) (∀H',Same H H'->Q ((vT (numT srt 0) (dat (oV (jC d a.1)))).getD .non) H')
theorem ok_8(T:Txt K mg t):FnOk P w K mg base CX0 9 t.a_8 t.d_8 pD' (sp_8 K t):=by
 have n:=@ok_1l P w K mg base t T;have l:=@ok_a P w K mg base t T;apply T.F_8.ok sc_8
 ·obtain⟨g,d,ms,srt,i,a,rfl,c,o,b,M,D⟩:=h;refine⟨_,(oO (oW (iG (C:=t.a_4) (pv 0) T.cl_4 T.me_a l hr.mo T.b_a .nil mC (oJ (oQ n hr.mo T.F_1l (oJ (nQ ix_B (iE (pv 0) rfl) (pv 1) (λ_ _=>rfl)) oK)) oK)))),?_⟩;show tRet _ _ [some (.ref g),some (.int i)] H;simp only[tRet,lF];ext;obtain⟨C,I,lo,L,J,G,_⟩:=id c.ex;refine⟨C,_,G,rfl,?_⟩;refine Ek T c rfl o λp q=>?_;have sm:mO a.1.2.2:=by
   have:=b.bu;have:=b.pos;have j:a.1.2.2.natAbs<2^100:=⋯
   exact iP j ∅
  have le:∀{x:Nat},x<2^140->x<2^1000:=λh=>zJ h (yC ∅ ∅);have v:∀{x:Nat},x<2^100->x<2^1000:=λh=>zJ h (yC ∅ ∅);refine⟨p,_,_,_,d,rfl,q,b.sq,b.len,b.pos,sm,λr hr z e=>le (b.bm r hr z e),λz e=>v (b.bt z e),⋯,⋯,λr k f u=>?_⟩;have y:DdAt K k r (jC d a.1):=u;have l1:(jC d a.1).1.length<=100:=by show(invR d a.1.1).length<=100;rw[eW.1];omega
  have l2:(jC d a.1).2.1.length<=100:=by
   show(redT _ (lT _ _ _)).length<=100;unfold redT lT;rw[zqe,zqe,eW.1];omega
  exact⟨g,r,d,ms,srt,jC d a.1,rfl,c.up f,y.s,l1,l2,gH _ (by have:=b.pos;omega),λF m=>D F (f.trans m)⟩
def sp_b(K:Frag):Sp:=λvs H Q _=>E6 λ(p q:Addr)(x y:Dd)(d B:Nat)=>A8 (vs=[.ref p,.ref q]) (DdS K H p x) (DdS K H q y) ((d=2\/d=3)) (Pr d B x) (Pr d 300 y) (B<=20000) (∀r H',Same H H'->DdAt K H' r (behD d x y)->Q (.ref r) H')
theorem Yi{N:LM}{ns ts:LI'}{u v:Int}{i:Nat}{r:LI'}{n:Int}(e1:N[i]?=some r)(a:ns[i]?=some n):(movT N ns v ts u)[i]?=some (dotI r ts*v+n*u):=by
 unfold movT;rw[wA,e1,a]
theorem ok_b(T:Txt K mg t):FnOk P w K mg base CX0 4 t.a_b t.d_b po' (sp_b K):=by
 have b7:=@ok_k P w K mg base t T;have c6:=@ok_u P w K mg base t T;apply T.F_b.ok sc_b
 ·obtain⟨p,q,x,y,d,B,rfl,O,J,c4,D,C,c5,d3⟩:=h;have b8:=D.sq;have I:=C.sq;have e4:=D.len;have a6:=C.len;have d5:=D.pos;have d2:=C.pos;have c8:nS 1500 x.1:=λr hr z c=>zJ (D.bm r hr z c) (yC ∅ ∅);have a0:nS 1500 y.1:=λr hr z c=>zJ (C.bm r hr z c) (yC ∅ ∅);have a5:kX 20000 x.2.1:=λz c=>zJ (D.bt z c) (yC ∅ c5);have ty:kX 1000 y.2.1:=λz c=>zJ (C.bt z c) (yC ∅ ∅);have e3:=D.bu;have e7:=C.bu;refine⟨_,(oM (oU (i:=2) sc_b.nd rfl (Or.inl rfl) (oQ b7 hr.mo T.F_k (oJ (oX (pq 1)) (oJ (oX (pq 0)) oK))))
   (oM (oU (i:=3) sc_b.nd rfl (Or.inl rfl) (nI oK))
   (oM (mQ yL rfl (mF rfl T.z_range (oJ (mL T.z_len (pq 2)) oK)) (nX (i:=4) sc_b.nd rfl (Or.inr rfl))
   (oM (oU (i:=5) sc_b.nd rfl (Or.inl rfl) (lN (bP rfl) rfl T.z_sum (nofun) (oJ (nT (sc:=oR aT) (N:=N_b) (fr:=[("_law_one",0),("_law_other",1),("_law_i",4)]) (te:=(tOp (rI (λi j=>IntMulOk i j) λi j=>.int (i*j)) (tOp (rIxB K) (tOp (rIxB K) (tOp (rIxB K) (tVar 2) (tC (.int 0))) (tVar 3)) (tVar 0)) (tOp (rIxB K) (tOp (rIxB K) (tVar 1) (tC (.int 1))) (tVar 0)))) rfl rfl (nofun) rfl (nofun) (mF rfl T.z_range (oJ (mL T.z_len (pq 2)) oK)) (λ_ _ _ e0=>(oS nR (nQ ix_B (nQ ix_B (oX (pv 2)) (pv 3) (λ_ _=>rfl)) (pv 0) (λ_ _=>rfl)) (nQ ix_B (oX (pv 1)) (pv 0) (λ_ _=>rfl))))) oK)))
   (oO (lU (jF yM yZ yY jG (pq 3) (oJ (oS mJ (oS nR (pq 5) (oX (pq 1))) (oS nR (nQ ix_B (oX (pq 1)) (pq 4) (λ_ _=>rfl)) (oX (pq 0)))) oK))))))
   (oO (oW (oQ c6 hr.mo T.F_u (oJ (pq 2) (oJ (pq 3) (oJ (oS nR (oX (pq 0)) (oX (pq 1))) oK))))))))),?_⟩
  show tSeq _ _ _ [some (.ref p),some (.ref q),none,none,none,none] H;right;refine jK J λr1 d7=>jK O λr2 c7=>?_;refine⟨true,true,true,true,r1,r2,_,_,d,rfl,d7,c7,I,b8,c4,a0,c8,λm G a7=>?_⟩;have b1:=a7.s;have Y:=a7.m;have a3:Sq d (mulM d y.1 x.1):=I.mul;left;refine⟨yB _,λl hl=>?_⟩;have a2:Same G (upd G l (.lst [])):=Same.new hl;have a8:(upd G l (.lst [])) l=some (.lst (([]:LI').map V.int)):=oP;generalize upd G l (.lst [])=d8 at a2 a8;have a4:x.2.2.natAbs<2^100:=⋯
  have W:y.2.2.natAbs<2^100:=⋯
  subst e1;refine st λN1 e1=>mT λB eB=>?_;simp only[nU];ext;refine hX (b1:=false) (b2:=false) (Y.up a2).l.b ?_
  try ext
  rw[a3.1];refine⟨⋯,⋯,?_⟩;rw[zQ];have c3:(movT y.1 y.2.1 y.2.2 x.2.1 x.2.2).length=d:=by unfold movT;rw[xX,I.1,a6,pR]
  refine iM (g:=nB 4) (tb:=B) (λi U L=>∃S N,U=[some (.ref p),some (.ref q),some (.ref m),some (.ref l),S,N]/\Same G L/\L l=some (.lst (((movT y.1 y.2.1 y.2.2 x.2.1 x.2.2).take i).map V.int))) ⟨none,none,rfl,a2,a8⟩ ?_ ?_
  ·rintro i U L hi ⟨S,N,rfl,u,F⟩;obtain⟨r,M⟩:∃r,y.1[i]?=some r:=⟨_,zqd (by rw[I.1];exact hi)⟩;obtain⟨n,a1⟩:∃n,y.2.1[i]?=some n:=⟨_,zqd (by rw[a6];exact hi)⟩;have c0:=I.2 _ (zqb M);have b:=b1.trans u;subst eB;show tSeq _ _ _ [some (.ref p),some (.ref q),some (.ref m),some (.ref l),some (.int (0+(i:Int))),N] L;refine st λb9 d1=>?_;ext;refine nN λB eB=>?_;simp only[nU];ext;refine hX (b1:=false) (b2:=false) (Y.up u).l.b ?_
   try ext
   rw[a3.1];refine⟨⋯,⋯,λc9 b6=>?_⟩;rw[zQ];refine kI (len:=d) (λk z _=>∃v,(List.zipWith (·*·) r x.2.1)[k]?=some v/\z=.int v) b6 ⋯ (λ_ _ _ _ r _=>r) ?_ ?_
   ·intro k o zs d9 a e2 b3 b5;obtain⟨g,Z⟩:∃g,r[k]?=some g:=⟨_,zqd ⋯⟩;obtain⟨f,X⟩:∃f,x.2.1[k]?=some f:=⟨_,zqd ⋯⟩;subst eB;show tOp _ _ _ [some (.int (0+(k:Int))),some (.ref p),some (.ref q),some (.int (0+(i:Int)))] o b3;ext;refine jK (J.up (b.trans a)) λe6 b2=>gW b2 M Z ⋯ ⋯ ?_;refine gI (O.up (b.trans a)) λb0 b4=>⟨true,b0,_,_,_,rfl,rfl,(b4:SqB true K o b0 _),kC (iL X) ⋯,?_⟩;ext;refine⟨yQ (nL (a0 _ (zqb M) _ (zqb Z))) (nL (a5 _ (zqb X))) ∅,b5 _ _ (Same.refl _) ⟨_,?_,rfl⟩⟩;rw[wA,Z,X]
   ·intro o ys a c1 e5 R;have d4:ys=(List.zipWith (·*·) r x.2.1).map V.int:=by
     refine mK (by simp only[zqe,List.length_zipWith];omega) λk z e=>?_;obtain⟨v,d0,rfl⟩:=R k z e;exact⟨v,d0,rfl⟩
    subst d4;refine⟨c9,rfl,_,SqL.of c1,?_⟩;show b9 [some (.ref p),some (.ref q),some (.ref m),some (.ref l),some (.int (0+(i:Int))),some (.int (dotI r x.2.1))] o;have c2:(dotI r x.2.1).natAbs<2^21502:=by
     have:=cK r x.2.1 (a0 r (zqb M)) a5;rw[c0]at this;have e:(2:Nat)^21502=4*2^(1500+20000):=by rw[show 21502=1500+20000+2 by rfl,vG _ (1500+20000) 2,tZ]
     have:=tS (1500+20000);omega
    subst d1;ext;refine⟨.inl ⟨rfl,_,SqL.of (a _ _ F)⟩,?_⟩;refine kW (J.up (b.trans a)) ?_;ext;refine⟨yQ (nL c2) (nL W) ∅,?_⟩;refine gI (J.up (b.trans a)) λa9 d6=>⟨true,a9,_,_,_,rfl,rfl,(d6:SqB true K o a9 _),kC (iL a1) ⋯,?_⟩;refine kW (O.up (b.trans a)) ?_;ext;refine⟨yQ (nL (ty _ (zqb a1))) (nL a4) ∅,?_⟩;refine⟨l,_,_,rfl,rfl,a _ _ F,iH (by rw[zqe,yJ];omega),?_⟩;refine⟨Same.over hl (u.trans a),?_⟩;rw[oP,wD,Yi M a1,xD];rfl
  ·rintro U L ⟨S,N,rfl,u,F⟩;rw[yT ⋯]at F;subst e1;have b:=b1.trans u;ext;refine kW (O.up b) (kW (J.up b) ?_);ext;refine⟨yQ (nL a4) (nL W) ∅,?_⟩;refine⟨false,false,false,m,l,_,_,_,rfl,(Y.up u).l.b,SqB.lst F,by rw[a3.1];omega,by rw[c3];omega,xE d5 d2,?_,λr o a R=>?_⟩
   ·show(x.2.2*y.2.2).natAbs<2^8990;rw[xA];refine zJ (tH a4 W) ?_;rw[←vG];exact yC ∅ ∅
   ·refine d3 r o (b.trans a) ?_;rw[wQ]at R;exact R
def sp_o(K:Frag):Sp:=λvs H Q _=>E2 λ(p:Addr)(x:Dd)=>A7 (vs=[.ref p]) (DdS K H p x) (x.1.length<=100) (x.2.1.length<=100) (0<x.2.2) (mO x.2.2) (∀r H',Same H H'->DdAt K H' r (canD x.1 x.2.1 x.2.2)->Q (.ref r) H')
theorem ok_o(T:Txt K mg t):FnOk P w K mg base CX0 3 t.a_o t.d_o ["_law_one"] (sp_o K):=by
 have b:=@ok_11 P w K mg base t T;apply T.F_o.ok sc_o
 ·obtain⟨p,x,rfl,a,l1,l2,c,g,d⟩:=h;refine⟨_,(oO (oW (oQ b hr.mo T.F_11 (oJ (oX (pq 0)) (oJ (oX (pq 0)) (oJ (oX (pq 0)) oK)))))),?_⟩;show tRet _ _ [some (.ref p)] H;ext;refine jK a λr1 f=>gI a λr2 e=>kW a ?_;exact⟨true,true,true,r1,r2,_,_,_,rfl,f,(e:SqB true K H r2 _),l1,l2,c,g,d⟩
def sp_c(K:Frag):Sp:=λvs H Q _=>E3 λ(l:Addr)(os:LA)(srt:Tb)=>A6 (vs=[.ref l]) (H l=some (.lst (os.map V.ref))) (Paired (DdS K H) os (srt.map (·.1))) ((srt.map (·.1)).Nodup) (srt.length<=200) (∀r H',Same H H'->DTr K H' r (numT srt 0)->Q (.ref r) H')
theorem Yh{K:Frag}{H H':Hp}{a:Addr}{kvs:List (PyData×V)}(d:DTr K H a kvs)(k:KX a H H'):TK K H H':=by
 obtain⟨xs,e,_⟩:=d.ex;have b:∀c ys,H c=some (.tup ys)->H' c=some (.tup ys):=λc ys q=>k c _ (λw=>by rw[w,e]at q;cases q) q;refine⟨b,λc ys q=>?_⟩;rcases q with(q|⟨f,q⟩)|q
 ·exact .inl (.inl (b _ _ q))
 ·exact .inl (.inr ⟨f,k c _ (λw=>by rw[w,e]at q;cases q) q⟩)
 ·exact .inr q
theorem Yg{srt:Tb}{n:Nat}:(numT srt n).length=srt.length:=by
 unfold numT;rw[zqe,List.length_zipIdx]
theorem Mu{K:Frag}{H:Hp}{p:Addr}{x:Dd}(h:DdS K H p x):Dt K H (.ref p) (dat x):=by
 obtain⟨e,d,c,b,a⟩:=h;exact .tup c (.cons (Dt.matB b) (.cons (Dt.intsB (b:=true) a) (.cons (.int _) .nil)))
theorem ok_c(T:Txt K mg t):FnOk P w K mg base CX0 2 t.a_c t.d_c ["_law_members"] (sp_c K):=by
 apply T.F_c.ok sc_c
 ·have V:=hr.units;obtain⟨l,x,srt,rfl,hl,D,nd,W,S⟩:=h;refine⟨_,(oM (oU (i:=1) sc_c.nd rfl (Or.inl rfl) Rb)
   (oM (mQ yL rfl (mF rfl T.z_range (oJ (mL T.z_len (pq 0)) oK)) (nX (i:=2) sc_c.nd rfl (Or.inl rfl))
   (oO (iV (pq 2) (fO (pq 1) (nQ ix_B (pq 0) (pq 2) (λ_ _=>rfl)) (Hm V)))))
   (oO (oW (pq 1))))),?_⟩
  show tSeq _ _ _ [some (.ref l),none,none] H;have lo:x.length=srt.length:=by have:=mE D;rwa[zqe]at this
  refine st λN1 e1=>?_;simp only[Hj];ext;intro a v G;have n:Same H (upd H a (mH a [])):=Same.new v;generalize upd H a (mH a [])=L at*
  have O:∀{b o},H b=some o->b≠a:=λ{b o}e w=>by rw[w,v]at e;cases e
  subst e1;refine st λN1 e1=>mT λB eB=>?_;simp only[nU];ext;refine⟨false,l,_,rfl,SqB.lst (n _ _ hl),?_⟩
  try ext
  rw[zqe,lo];refine⟨⋯,⋯,?_⟩;rw[zQ];refine iM (g:=nB 2) (tb:=B) (λi r d=>∃p,r=[some (.ref l),some (.ref a),p]/\KX a L d/\DTr K d a (numT (srt.take i) 0)) ⟨none,rfl,λ_ _ _ e=>e,G⟩ ?_ ?_
  ·rintro k r d M ⟨p,rfl,f,m⟩;obtain⟨y,u⟩:∃y,srt[k]?=some y:=⟨_,zqd M⟩;obtain⟨q,I⟩:∃q,x[k]?=some q:=⟨_,zqd ⋯⟩;obtain⟨Z,F,J⟩:=kM D I;rw[zI,u]at F;cases F;have N:=DdS.tk (J.up n) (Yh G f);have hsz:1000<=sizeLine:=∅
   have nx:y.1∉(srt.take k).map (·.1):=λh=>by
    rw[List.map_take]at h;obtain⟨j,g⟩:=xT h;have R:j<k:=by have:=(zqa g).1;simp at this;omega
    rw[uA R]at g;have:=(List.getElem?_inj (zqa g).1 nd).mp (g.trans (show some y.1=(srt.map (·.1))[k]? by rw[zI,u];rfl));omega
   have X:(numT (srt.take k) 0).length<=k:=by rw[Yg,yJ];omega
   subst eB;show tAsg _ _ _ [some (.ref l),some (.ref a),some (.int (0+(k:Int)))] d;simp only[tAsg,gSub];ext;refine jL (i:=k) (f _ _ (O hl) (n _ _ hl)) (by rw[zI,I];rfl) ⋯ ?_;refine⟨a,_,q,dat y.1,rfl,rfl,m,kL _,Mu N,⋯,λY U _ C=>?_⟩;refine⟨λc o z e=>U c o z (f c o z e),?_⟩;have ep:pT (numT (srt.take k) 0) (dat y.1) (.int (0+(k:Int)))=numT (srt.take (k+1)) 0:=by
    unfold pT;rw[Ar nx,Ym u,sF];rfl
   rw[ep]at C;exact C
  ·rintro r d ⟨p,rfl,f,m⟩;rw[qV]at m;symm;exact S a d (iA n v f) m
theorem Yf{K:Frag}{H:Hp}{b:LA}{ms:List Dd}(h:Paired (DdS K H) b ms):Dts K H (b.map V.ref) (ms.map dat):=by
 induction h with
 |nil=>exact .nil
 |cons a _ c=>exact .cons (Mu a) c
theorem Ej{K:Frag}{H:Hp}{b:LA}{srt:Tb}(h:Paired (λp(x:Dd×List Nat)=>Dt K H (.ref p) (dat x.1)) b srt):Paired (DdS K H) b (srt.map (·.1)):=by
 induction h with
 |nil=>exact .nil
 |cons a _ c=>exact .cons (Ll a) c
noncomputable def dlD(l:List Dd):PyData:=.list (l.map dat)
theorem lI(l:List Dd):iT 5 (dlD l)=true:=by
 show(l.map dat).all (iT 4)=true;rw[vF];intro d a;obtain⟨x,_,rfl⟩:=oE.mp a;exact gX 4 _ (kL x)
theorem Ye{l c:List Dd}:dlD l=dlD c↔l=c:=by
 unfold dlD;rw[PyData.list.injEq];exact⟨λh=>by
  induction l generalizing c with
  |nil=>cases c with
   |nil=>rfl
   |cons=>simp at h
  | cons a l d=>cases c with
   |nil=>simp at h
   |cons b c =>
    rw[zK,zK,yR]at h;rw[eT.mp h.1,d h.2],λh=>by rw[h]⟩
theorem jN{K:Frag}{H:Hp}{a:Addr}{b:LA}{ms:List Dd}(e:H a=some (.lst (b.map V.ref)))(h:Paired (DdS K H) b ms):Dt K H (.ref a) (dlD ms):=.lst (SqL.of e) (Yf h)
theorem Mt{K:Frag}{H:Hp}{a b:Addr}{c f:LA}{ms d:List Dd}{Q:VK}(e:H a=some (.lst (c.map V.ref)))(h:Paired (DdS K H) c ms)(g:H b=some (.lst (f.map V.ref)))(h':Paired (DdS K H) f d)(i:ms=d)(q:Q (.bl false) H):rNeD K (.ref a) (.ref b) H Q:=
 fX 5 ∅ (jN e h) (jN g h') (lI _) (lI _) (b:=true) (by simp only[true_iff];rw[i]) q
theorem cV{H:Hp}{g:Addr}{d:Nat}{ms:List Dd}{srt:Tb}{Q:VK}(h:GrpF K t H g d ms srt)(k:∀l b H',Same H H'->H l=none->H' l=some (.lst (b.map V.ref))->Paired (λp(x:Dd×List Nat)=>Dt K H' (.ref p) (dat x.1)) b srt->Q (.ref l) H'):∃a fs,H g=some (.ins t.a_4 a fs)/\fs.lookup (Str.ofString "members")=none/\sp_2 K t [.ref g] H Q E0:=by
 obtain⟨a,f,lo,e,i,c,_⟩:=id h.ex;exact⟨a,_,c,rfl,g,d,ms,srt,rfl,h,k⟩
theorem Ap{H:Hp}{g:Addr}{d:Nat}{ms:List Dd}{srt:Tb}{Q:VK}(h:GrpF K t H g d ms srt)(k:∀l gs H',Same H H'->H l=none->H' l=some (.lst (gs.map V.ref))->Paired (DdS K H') gs ms->Q (.ref l) H'):∃a fs,H g=some (.ins t.a_4 a fs)/\fs.lookup (Str.ofString "makers")=none/\sp_5 K t [.ref g] H Q E0:=by
 obtain⟨a,c,lo,e,f,b,_⟩:=id h.ex;exact⟨a,_,b,rfl,g,d,ms,srt,rfl,h,k⟩
theorem Ei{H:Hp}{C x a:Addr}(nx:H x=none)(b:H a=none)(c:a≠x):Same H (upd (upd H a (.own x)) x (.ins C a []))/\(upd (upd H a (.own x)) x (.ins C a [])) x=some (.ins C a []):=
 ⟨(Same.new b).trans (Same.new (by rw[oT (yA c)];exact nx)),oP⟩
def sp_p(K:Frag)(t:Adr):Sp:=λvs H Q _=>E7 λ(g p nb:Addr)(F:Fr4)(ms:List Dd)(srt:Tb)(x:Dd)=>A10 (vs=[.ref g,.ref p,.ref nb]) (GC K t F H g ms srt) (DTr K H nb (numT srt 0)) (DdS K H p x) (x.1.length<=100) (x.2.1.length<=100) (0<x.2.2) (mO x.2.2) (canD x.1 x.2.1 x.2.2=oV x) (∀H',Same H H'->Q (.bl true) H')
theorem Yd{srt:Tb}(nd:(srt.map (·.1)).Nodup)(x:Dd):((vT (numT srt 0) (dat x)).getD .non=.non/\x∉srt.map (·.1))\/∃(i:Nat)(y:Dd×List Nat),srt[i]?=some y/\y.1=x/\(vT (numT srt 0) (dat x)).getD .non=.int i:=by
 by_cases h:x∈srt.map (·.1)
 ·obtain⟨i,y,e,rfl⟩:=El h;refine .inr ⟨i,y,e,rfl,?_⟩;rw[dD nd e,xO];rfl
 ·exact .inl ⟨by rw[Ar h];rfl,h⟩
theorem ok_p(T:Txt K mg t):FnOk P w K mg base CX0 5 t.a_p t.d_p pf' (sp_p K t):=by
 have G:=@ok_q P w K mg base t T;have J:=@ok_o P w K mg base t T;have u:=@ok_a P w K mg base t T;apply T.F_p.ok sc_p
 ·have M:=hr.units;obtain⟨g,p,c,F,ms,srt,x,rfl,m,D,f,l1,l2,n,C,I,o⟩:=h;refine⟨_,(oM (oU (i:=3) sc_p.nd rfl (Or.inl rfl) (iG (C:=t.a_4) (pq 0) T.cl_4 T.me_a u hr.mo T.b_a .nil mC (oJ (pq 1) oK)))
   (oM (nK (PW.pt (Mc (nH Ft (pq 3) iR (nD _)) (Md (kF (lJ (oQ G hr.mo T.F_q (oJ (pq 3) oK)))))))
   (oO (oW mZ))
   nJ)
   (oO (oW (jD Ni (pq 3) (bY (T:= "") uG vM uU (bZ M) (pq 2) (oJ (oQ J hr.mo T.F_o (oJ (pq 1) oK)) oK)) (nD _)))))),?_⟩
  show tSeq _ _ _ [some (.ref g),some (.ref p),some (.ref c),none] H;right;simp only[lF];ext;refine Aq m.f f l1 l2 n λk a=>?_;have b:∀v:V,(vT (numT srt 0) (dat (oV x))).getD .non=v->(v=.non\/∃i:Nat,v=.int i)->N1 [some (.ref g),some (.ref p),some (.ref c),some v] k:=by
   intro v L q;subst e1;refine st λN1 e1=>?_;have b:N1 [some (.ref g),some (.ref p),some (.ref c),some v] k:=by
    symm;simp only[tBMR];ext;refine⟨⟨_,D.up a⟩,?_⟩;refine⟨p,x,rfl,f.up a,l1,l2,n,C,λr j d l=>?_⟩;rw[I]at l;refine⟨c,_,r,_,rfl,rfl,(D.up a).up d,kL _,l.dt,?_⟩;rw[L];rcases q with rfl|⟨i,rfl⟩
    ·exact⟨rfl,by rw[zP rfl];exact o j (a.trans d)⟩
    ·exact⟨rfl,by rw[zP rfl];exact o j (a.trans d)⟩
   ext;rcases q with rfl|⟨i,rfl⟩
   ·rw[zP rfl];exact iteF b
   ·rw[zN (by intro z;cases z)];exact iteT ⟨i,rfl,_,rfl,iteF b⟩
  rcases Yd m.nd (oV x) with⟨e,_⟩|⟨i,y,_,_,e⟩
  ·exact b _ rfl (.inl e)
  ·exact b _ rfl (.inr ⟨i,e⟩)
def sp_s(K:Frag)(t:Adr):Sp:=λvs H Q _=>E10 λ(g:Addr)(F:Fr4)(ms:List Dd)(srt:Tb)(i j k:Nat)(a b c:Dd×List Nat)=>A7 (vs=[.ref g,.int i,.int j,.int k]) (GC K t F H g ms srt) (srt[i]?=some a) (srt[j]?=some b) (srt[k]?=some c) (oZ (famD F.k) a.1 b.1=c.1) (∀H',Same H H'->Q (.bl true) H')
theorem gL{srt:Tb}{i:Nat}{a:Dd×List Nat}(h:srt[i]?=some a):a.1∈srt.map (·.1):=oE.mpr ⟨a,zqb h,rfl⟩
theorem ok_s(T:Txt K mg t):FnOk P w K mg base CX0 7 t.a_s t.d_s pg' (sp_s K t):=by
 have o:=@ok_q P w K mg base t T;have q:=@ok_9 P w K mg base t T;apply T.F_s.ok sc_s
 ·obtain⟨g,F,ms,srt,i,j,k,a,b,c,rfl,d,l,e,u,es,n⟩:=h;refine⟨_,(oM (oU (i:=4) sc_s.nd rfl (Or.inl rfl) (iG (C:=t.a_4) (pq 0) T.cl_4 T.me_9 q hr.mo T.b_9 .nil mC (oJ (pq 1) (oJ (pq 2) oK))))
   (oO (oW (dG (oQ o hr.mo T.F_q (oJ (pq 4) oK)) (dF (jD lG (pq 4) (pq 3) (nD _))))))),?_⟩
  show tSeq _ _ _ [some (.ref g),some (.int i),some (.int j),some (.int k),none] H;right;simp only[lF];ext;obtain⟨m,x,lo,v,y,p,_⟩:=id d.f.ex;refine⟨m,_,p,rfl,g,famD F.k,ms,srt,i,j,a,b,rfl,d.f,l,e,d.fine _ (oE.mpr ⟨a,zqb l,rfl⟩),d.fine _ (oE.mpr ⟨b,zqb e,rfl⟩),d.dim,λf r=>?_⟩;rw[es,dD d.nd u,xO];symm;refine⟨k,rfl,?_⟩
  try ext
  refine⟨k,k,rfl,rfl,?_⟩;show Q (.bl (decide ((k:Int)=k))) f;rw[zP rfl];exact n f r
def sp_e(K:Frag)(t:Adr):Sp:=λvs H Q _=>E10 λ(g lm nb sc:Addr)(F:Fr4)(qs:LA)(ms:List Dd)(srt:Tb)(cs:LI')(d:Nat)=>A10 (vs=[.ref g,.ref lm,.ref nb,.ref sc,.int d]) (d=famD F.k) (GC K t F H g ms srt) (H lm=some (.lst (qs.map V.ref))) (Paired (DdS K H) qs ms) (ms.length<=3) (DTr K H nb (numT srt 0)) (SqL K H sc (cs.map V.int)) (cs.length<=63) (∀H',Same H H'->Q (.bl true) H')
theorem ok_e(T:Txt K mg t):FnOk P w K mg base CX0 11 t.a_e t.d_e pb' (sp_e K t):=by
 have j2:=@ok_m P w K mg base t T;have k7:=@ok_u P w K mg base t T;have i9:=@ok_q P w K mg base t T;have h0:=@ok_p P w K mg base t T;have b7:=@ok_s P w K mg base t T;have l2:=@ok_b P w K mg base t T;have e6:=@ok_a P w K mg base t T;have h2:=@ok_8 P w K mg base t T;apply T.F_e.ok sc_e
 ·have f6:=hr.units;obtain⟨g,Y,I,sc,F,i4,ms,srt,cs,d,rfl,L,l,c2,h9,n2,D,f2,m5,e3⟩:=h;refine⟨_,(oM (oU (i:=5) sc_e.nd rfl (Or.inl rfl) (oQ k7 hr.mo T.F_u (oJ (oQ j2 hr.mo T.F_m (oJ (pq 4) oK)) (oJ (oS Ab (nI (oJ oN oK)) (pq 4)) (oJ oN oK)))))
   (oM (oU (i:=6) sc_e.nd rfl (Or.inl rfl) (bY (T:= "") uG vM uU (bZ f6) (pq 2) (oJ (pq 5) oK)))
   (oM (oU (i:=7) sc_e.nd rfl (Or.inl rfl) (pq 6))
   (oM (nK (PW.pt (kN (nH bD (pq 6) iR (nD _)) (jP (kF (lJ (oQ h0 hr.mo T.F_p (oJ (pq 0) (oJ (pq 5) (oJ (pq 2) oK)))))))))
   (oO (oW mZ))
   nJ)
   (oM (nK (PW.pt (kN (kF (lJ (oQ b7 hr.mo T.F_s (oJ (pq 0) (oJ (pq 6) (oJ (pq 6) (oJ (pq 6) oK))))))) (jP (nH hJ (iG (C:=t.a_4) (pq 0) T.cl_4 T.me_8 h2 hr.mo T.b_8 .nil mC (oJ (pq 6) oK)) (pq 6) (nD _)))))
   (oO (oW mZ))
   nJ)
   (oM (mQ yL rfl (nV (pq 3)) (nX (i:=8) sc_e.nd rfl (Or.inl rfl))
   (oM (nK (nH (dP f6) (pq 1) (nI oK) (nD _))
   (oO (oW mZ))
   nJ)
   (oM (oU (i:=9) sc_e.nd rfl (Or.inl rfl) (nQ ix_B (pq 1) (oS kG (pq 8) (mL T.z_len (pq 1))) (λ_ _=>rfl)))
   (oM (oU (i:=5) sc_e.nd rfl (Or.inl rfl) (oQ l2 hr.mo T.F_b (oJ (pq 5) (oJ (pq 9) oK))))
   (oM (oU (i:=10) sc_e.nd rfl (Or.inl rfl) (iG (C:=t.a_4) (pq 0) T.cl_4 T.me_a e6 hr.mo T.b_a .nil mC (oJ (pq 5) oK)))
   (oM (nK (PW.pt (kN (nH bD (pq 10) iR (nD _)) (jP (kF (lJ (oQ h0 hr.mo T.F_p (oJ (pq 0) (oJ (pq 5) (oJ (pq 2) oK)))))))))
   (oO (oW mZ))
   nJ)
   (oM (nK (kF (lJ (oQ b7 hr.mo T.F_s (oJ (pq 0) (oJ (pq 7) (oJ (iG (C:=t.a_4) (pq 0) T.cl_4 T.me_a e6 hr.mo T.b_a .nil mC (oJ (pq 9) oK)) (oJ (pq 10) oK)))))))
   (oO (oW mZ))
   nJ)
   (oM (oU (i:=11) sc_e.nd rfl (Or.inl rfl) (iG (C:=t.a_4) (pq 0) T.cl_4 T.me_8 h2 hr.mo T.b_8 .nil mC (oJ (pq 10) oK)))
   (oM (nK (PW.pt (kN (kF (lJ (oQ i9 hr.mo T.F_q (oJ (pq 11) oK)))) (jP (kF (lJ (oQ b7 hr.mo T.F_s (oJ (pq 0) (oJ (pq 10) (oJ (pq 11) (oJ (pq 6) oK))))))))))
   (oO (oW mZ))
   nJ)
   (oM (nK (kF (lJ (oQ b7 hr.mo T.F_s (oJ (pq 0) (oJ (pq 11) (oJ (pq 10) (oJ (pq 6) oK)))))))
   (oO (oW mZ))
   nJ)
   (oO (oU (i:=7) sc_e.nd rfl (Or.inl rfl) (pq 10)))))))))))))
   (oO (oW mZ)))))))),?_⟩
  show tSeq _ _ _ [some (.ref g),some (.ref Y),some (.ref I),some (.ref sc),some (.int d),none,none,none,none,none,none,none] H;have R:=l.dim;have M:=l.grp;rw[←L]at R M;have b6:∀{x:Dd},x∈srt.map (·.1)->∃(i:Nat)(y:Dd×List Nat),srt[i]?=some y/\y.1=x/\vT (numT srt 0) (dat x)=some (.int i):=λa2=>by
   obtain⟨i,y,e,rfl⟩:=El a2;exact⟨i,y,e,rfl,by rw[dD l.nd e,xO]⟩
  have h6:∀{f:Hp}{i:Nat}{y:Dd×List Nat}{v:VK},Same H f->srt[i]?=some y->(∀(j:Nat)(z:Dd×List Nat) u,Same f u->srt[j]?=some z->oZ d y.1 z.1=nE d->oZ d z.1 y.1=nE d->v (.int j) u)->∃d4 fs,f g=some (.ins t.a_4 d4 fs)/\fs.lookup (Str.ofString "back_of")=none/\sp_8 K t [.ref g,.int i] f v E0:=by
   intro f i y v X a0 k;have i1:=l.up X;obtain⟨d4,m7,lo,m8,a7,b5,_⟩:=id i1.f.ex;obtain⟨i7,k0,k1⟩:=Yn M (gL a0);obtain⟨j,z,N,S,l7⟩:=b6 i7;refine⟨d4,_,b5,rfl,g,d,ms,srt,i,y,rfl,by rw[L];exact i1.f,a0,by rw[L];exact l.pr _ (gL a0),R,λu a5=>?_⟩;rw[l7];exact k j z u a5 N (by rw[S];exact k0) (by rw[S];exact k1)
  obtain⟨e7,l3,O,a6,i0⟩:=b6 M.one;right;refine⟨d,rfl,⋯,λa f d2=>?_⟩;refine⟨by show 1<=sizeLine;decide,λz f4=>?_⟩;have a5:Same f (upd f z (.lst [V.int 0])):=Same.new f4;have S:(upd f z (.lst [V.int 0])) z=some (.lst [V.int 0]):=oP;generalize upd f z (.lst [V.int 0])=u at*
  refine⟨z,d,[V.int 0],rfl,rfl,S,⋯,⋯,?_,λy e2=>?_⟩
  ·rw[zQ];have:1000<=sizeLine:=∅
   simp only[List.length_cons,List.length_nil];omega
  rw[zQ];have f9:(List.replicate d [V.int 0]).flatten=(List.replicate d (0:Int)).map V.int:=by rcases R with rfl|rfl <;> rfl
  rw[f9];have c6:Same u (upd u y (.lst ((List.replicate d (0:Int)).map V.int))):=Same.new e2;have h5:(upd u y (.lst ((List.replicate d (0:Int)).map V.int))) y=some (.lst ((List.replicate d (0:Int)).map V.int)):=oP;generalize upd u y (.lst ((List.replicate d (0:Int)).map V.int))=n6 at*
  try ext
  refine⟨false,false,false,a,y,idM d,List.replicate d 0,1,rfl,(d2.up (a5.trans c6)).m.l.b,SqB.lst h5,by rw[jY.1];omega,by rw[rC];omega,∅,iP (B:=20) ∅ ∅,λb1 f5 h4 g0=>?_⟩;have a3:=(d2.s.trans a5).trans (c6.trans h4);have b2:DdAt K f5 b1 (nE d):=by
   have:=Em R (U:=1) ∅;rw[←this];exact g0
  clear g0 h5 e2 f9 S f4 a5 c6 d2 h4;subst e1;refine st λN1 e1=>?_;simp only[tBMR];ext;refine⟨⟨I,_,rfl,D.up a3⟩,I,_,b1,_,rfl,rfl,D.up a3,kL _,b2.dt,?_⟩;rw[i0];show N1 [some (.ref g),some (.ref Y),some (.ref I),some (.ref sc),some (.int d),some (.ref b1),some (.int e7),none,none,none,none,none] f5;left;left;rw[zN (by intro z;cases z)];have d7:∀{f:Hp}{p:Addr}{B:Nat}{x:Dd}{v:VK},Same H f->DdS K f p x->LowU F B x->(∀u,Same f u->v (.bl true) u)->sp_p K t [.ref g,.ref p,.ref I] f v E0:=by
   intro f p B x v X a2 lx k;obtain⟨G,j7,_⟩:=fK l.ok lx;refine⟨g,p,I,F,ms,srt,x,rfl,l.up X,D.up X,a2,by have:=G.sq.1;omega,by have:=G.len;omega,G.pos,?_,j7,k⟩;have:=G.bu;have:=G.pos;have i6:x.2.2.natAbs<2^100:=⋯
   exact iP i6 ∅
  have g1:LowU F 300 (nE d):=by rw[L];exact Yl l.ok
  refine iteF (d7 a3 b2.s g1 λm2 d5=>⟨_,rfl,iteF ?_⟩);have d3:=a3.trans d5;have h8:=b2.up d5;left;have b3:∀{f:Hp}{i j k:Nat}{a b c:Dd×List Nat}{v:VK},Same H f->srt[i]?=some a->srt[j]?=some b->srt[k]?=some c->oZ d a.1 b.1=c.1->(∀u,Same f u->v (.bl true) u)->sp_s K t [.ref g,.int i,.int j,.int k] f v E0:=λ{f i j k a b c v}X a0 N b4 es q=>⟨g,F,ms,srt,i,j,k,a,b,c,rfl,l.up X,a0,N,b4,by rw[←L];exact es,q⟩;refine b3 d3 O O O (by rw[a6];exact(gK R (M.rs _ M.one)).1) λm9 c9=>⟨_,rfl,iteF ?_⟩;have c0:=d3.trans c9;simp only[lF];ext;refine h6 c0 O λj z k8 c1 N a8 c8=>?_;have S:j=e7:=by
   rw[a6,(gK R (M.rs _ (gL N))).1]at a8;have b5:vT (numT srt 0) (dat z.1)=some (.int j):=by rw[dD l.nd N,xO]
   rw[a8,i0]at b5;cases b5;rfl
  subst S;refine⟨_,_,rfl,rfl,false,by show V.bl (!decide ((j:Int)=j))=_;rw[zP rfl];rfl,iteF ?_⟩;have g8:=c0.trans c1;have i5:=(h8.up c9).up c1;clear h8 b2 c0 c1 c9 d3 d5 a3 a8 c8 N;subst e1;refine st λN1 e1=>mT λB eB=>?_;simp only[iSeq];ext;refine⟨false,⟨_,(jB f2 g8:SqB false K k8 sc _)⟩,?_⟩;have lq:=mE h9;refine gU (g:=nB 8) (tb:=B) (λi c4 J=>∃(r:Addr)(x:Dd)(k:Nat)(y:Dd×List Nat)(c3 b0 a9 Z:Option V),c4=[some (.ref g),some (.ref Y),some (.ref I),some (.ref sc),some (.int d),some (.ref r),some (.int j),some (.int k),c3,b0,a9,Z]/\Same H J/\DdAt K J r x/\LowU F (300+150*i) x/\srt[k]?=some y/\y.1=oV x) ⟨b1,_,j,l3,none,none,none,none,rfl,g8,i5,g1,O,by rw[a6];exact((M.rs _ M.one).can).2.1.symm⟩ (λ_ _ _ _⟨_,_,_,_,_,_,_,_,_,a1,_⟩=>(jB f2 a1:SqB false K _ sc _)) ?_ ?_
  ·rintro i n3 c4 J l0 ⟨r,x,k,y,c3,b0,a9,Z,rfl,a1,a2,lx,b4,l6⟩;obtain⟨d1,j5,rfl⟩:=gJ l0;have hi:i<63:=by have:=(zqa j5).1;omega
   subst eB;show tSeq _ _ _ [some (.ref g),some (.ref Y),some (.ref I),some (.ref sc),some (.int d),some (.ref r),some (.int j),some (.int k),some (.int d1),b0,a9,Z] J;refine st λC o=>?_;ext;refine⟨yB _,λc7 k5=>?_⟩;have e4:=Same.new (o:=.lst []) k5;have l8:(upd J c7 (.lst [])) c7=some (.lst (([]:LA).map V.ref)):=oP;generalize upd J c7 (.lst [])=j3 at*
   have U:=a1.trans e4;have h1:=Paired.mapP h9 λ_ _ z=>DdS.up z U;refine dX 5 ∅ (jN (U _ _ c2) h1) (jN l8 .nil) (lI _) (lI _) (b:=decide (ms=[])) (by rw[decide_eq_true_eq];exact Ye.symm) ?_;refine⟨_,rfl,ite2 (λz=>e3 j3 U) λz=>?_⟩;have j8:0<ms.length:=by
    cases ms with
    |nil=>exact absurd rfl z
    |cons=>exact Nat.succ_pos _
   subst o;refine st λC o=>?_;ext;refine⟨false,Y,_,rfl,SqB.lst (U _ _ c2),?_⟩
   try ext
   rw[zqe,lq];obtain⟨n,k9,l4⟩:=Xc (c:=d1) (d:=ms.length) j8;refine⟨⋯,?_⟩;rw[k9];obtain⟨m,e0⟩:∃m,ms[n]?=some m:=⟨_,zqd l4⟩;obtain⟨q,h3⟩:∃q,i4[n]?=some q:=⟨_,zqd ⋯⟩;obtain⟨m6,f0,g6⟩:=kM h1 h3;rw[e0]at f0;cases f0;have c5:=zqb e0;refine jL (i:=n) (U _ _ c2) (by rw[zI,h3];rfl) rfl ?_;have f1:=l.mq m c5;obtain⟨G,_,_⟩:=fK l.ok lx;obtain⟨W,_,_⟩:=fK l.ok f1;rw[←L]at G W;have a7:=Yk l.ok ⋯ lx f1;rw[show 300+150*i+150=300+150*(i+1) by omega,←L]at a7;have l5:=a2.up e4;subst o;refine st λC o=>?_;ext;refine⟨r,q,x,m,d,_,rfl,l5.s,g6,R,G,W,⋯,λr2 n4 d9 g2=>?_⟩;have e9:=U.trans d9;obtain⟨b9,_,_⟩:=fK l.ok a7;have f7:oV (behD d x m)=oZ d y.1 (oV m):=by
    rw[l6];exact Wj G.pos W.pos
   have j9:oV (behD d x m)∈srt.map (·.1):=by
    rw[f7,L];exact l.mak (gL b4) c5
   obtain⟨k2,j0,a4,g7,j1⟩:=b6 j9;obtain⟨k3,n0,l1,j6,j4⟩:=b6 (l.own c5);subst o;refine st λC o=>?_;ext;simp only[lF];ext;refine Aq (l.up e9).f g2.s (by have:=b9.sq.1;omega) (by have:=b9.len;omega) b9.pos λi8 d0=>?_;rw[j1];show C [some (.ref g),some (.ref Y),some (.ref I),some (.ref sc),some (.int d),some (.ref r2),some (.int j),some (.int k),some (.int d1),some (.ref q),some (.int k2),Z] i8;have d8:=e9.trans d0;have h7:=g2.up d0;subst o;refine st λC o=>?_;ext;rw[zN (by intro z;cases z)];refine iteF (d7 d8 h7.s a7 λm3 b8=>⟨_,rfl,iteF ?_⟩);have d6:=d8.trans b8;subst o;refine st λC o=>?_;ext;simp only[lF];ext;have k4:=(g6.up d9).up (d0.trans b8);refine Aq (l.up d6).f k4 (by have:=W.sq.1;omega) (by have:=W.len;omega) W.pos λn5 i3=>?_;rw[j4];have g5:=d6.trans i3
   try ext
   refine b3 g5 b4 l1 a4 (by rw[g7,j6,f7]) λm1 g9=>⟨_,rfl,iteF ?_⟩;have e8:=g5.trans g9;subst o;refine st λC o=>?_;ext;simp only[lF];ext;refine h6 e8 a4 λk6 n1 l9 f3 g3 a8 c8=>?_;have f8:=e8.trans f3;subst o;refine st λC o=>?_;ext;refine⟨k6,rfl,_,rfl,iteF ?_⟩;refine b3 f8 a4 g3 O (by rw[a6];exact a8) λm4 g4=>⟨_,rfl,iteF ?_⟩;have i2:=f8.trans g4;subst o;refine st λC o=>?_;ext;refine b3 i2 g3 a4 O (by rw[a6];exact c8) λm0 e5=>⟨_,rfl,iteF ?_⟩;subst o;ext;exact⟨_,k2,rfl,i2.trans e5,((h7.up (b8.trans i3)).up (g9.trans f3)).up (g4.trans e5),a7,j0,a4,g7⟩
  ·rintro c4 J ⟨r,x,k,y,c3,b0,a9,Z,rfl,a1,_⟩;symm;exact e3 J a1
def sp_h(K:Frag)(t:Adr):Sp:=λvs H Q _=>E11 λ(g l nb bx:Addr)(F:Fr4)(os:LA)(ms:List Dd)(srt:Tb)(b:Box)(Z:Nat)(H0:Hp)=>A11 (vs=[.ref g,.ref l,.ref nb,.ref bx]) (Same H0 H) (H0 bx=none) (GC K t F H0 g ms srt) (H0 l=some (.lst (os.map V.ref))) (Paired (DdS K H0) os (srt.map (·.1))) (DTr K H0 nb (numT srt 0)) (H bx=some (bxO b)) (BxOk Z b) (Z<=2000) (∀H',Same H0 H'->Q (.bl true) H')
theorem ok_h(T:Txt K mg t):FnOk P w K mg base CX0 9 t.a_h t.d_h pc' (sp_h K t):=by
 have X:=@ok_1 P w K mg base t T;have b4:=@ok_b P w K mg base t T;have c2:=@ok_o P w K mg base t T;have d5:=@ok_s P w K mg base t T;apply T.F_h.ok sc_h
 ·have d8:=hr.units;obtain⟨g,l,u,m,F,I,ms,srt,b,U,H0,rfl,O,Z,f,hl,a1,D,a5,L,e3,d3⟩:=h;refine⟨_,(oM (oU (i:=4) sc_h.nd rfl (Or.inl rfl) (oQ X hr.mo T.F_1 (oJ (pq 3) (oJ (mL T.z_len (pq 1)) oK))))
   (oM (oU (i:=5) sc_h.nd rfl (Or.inl rfl) (oQ X hr.mo T.F_1 (oJ (pq 3) (oJ (mL T.z_len (pq 1)) oK))))
   (oM (oU (i:=6) sc_h.nd rfl (Or.inl rfl) (bY (T:= "") uG vM uU (bZ d8) (pq 2) (oJ (oQ c2 hr.mo T.F_o (oJ (oQ b4 hr.mo T.F_b (oJ (nQ ix_B (pq 1) (pq 4) (λ_ _=>rfl)) (oJ (nQ ix_B (pq 1) (pq 5) (λ_ _=>rfl)) oK))) oK)) oK)))
   (oO (oW (dG (jD Ft (pq 6) iR (nD _)) (dF (oQ d5 hr.mo T.F_s (oJ (pq 0) (oJ (pq 4) (oJ (pq 5) (oJ (pq 6) oK)))))))))))),?_⟩
  show tSeq _ _ _ [some (.ref g),some (.ref l),some (.ref u),some (.ref m),none,none,none] H;have lo:I.length=srt.length:=by have:=mE a1;rwa[zqe]at this
  have e7:=f.to.len;have e2:0<srt.length:=by
   have:=List.length_pos_of_mem f.grp.one
   rwa[zqe]at this
  have b9:=f.grp;have mem:∀{i:Nat},i<srt.length->∃(y:Dd×List Nat)(q:Addr),srt[i]?=some y/\I[i]?=some q/\DdS K H0 q y.1:=λ{i}hi=>by
   obtain⟨y,n⟩:∃y,srt[i]?=some y:=⟨_,zqd hi⟩;obtain⟨q,v⟩:∃q,I[i]?=some q:=⟨_,zqd ⋯⟩;obtain⟨e4,a2,M⟩:=kM a1 v;rw[zI,n]at a2;cases a2;exact⟨y,q,n,v,M⟩
  right;refine⟨false,l,_,rfl,SqB.lst (O _ _ hl),?_⟩
  try ext
  rw[zqe,lo];refine⟨m,_,b,U,rfl,a5,L,⋯,⋯,⋯,λb3 a3 V=>?_⟩;obtain⟨c4,S⟩:=nM (many:=(srt.length:Int)) L ⋯;have k1:KX m H b3:=λc x N e=>by rw[a3 c N];exact e
  generalize tkB b (srt.length:Int)=b1 at*;generalize tkV b (srt.length:Int)=a6 at*
  obtain⟨i,c0,hi⟩:∃i:Nat,a6=(i:Int)/\i<srt.length:=⟨a6.toNat,⋯,⋯⟩;subst c0;have a7:=iA O Z k1;left;refine⟨false,l,_,rfl,SqB.lst (a7 _ _ hl),?_⟩
  try ext
  rw[zqe,lo];refine⟨m,_,b1,U+1,rfl,V,S,⋯,⋯,⋯,λa9 a0 d6=>?_⟩;obtain⟨d1,b8⟩:=nM (many:=(srt.length:Int)) S ⋯;have k2:KX m H a9:=k1.trans λc x N e=>by rw[a0 c N];exact e
  generalize tkB b1 (srt.length:Int)=b2 at*;generalize tkV b1 (srt.length:Int)=v2 at*
  obtain⟨j,e0,b6⟩:∃j:Nat,v2=(j:Int)/\j<srt.length:=⟨v2.toNat,⋯,⋯⟩;subst e0;have o:=iA O Z k2;obtain⟨y,q,n,v,M⟩:=mem hi;obtain⟨a,b7,G,c7,a8⟩:=mem b6;obtain⟨k,z,a4,Y⟩:=El (b9.mul _ (gL n) _ (gL G));have d0:vT (numT srt 0) (dat z.1)=some (.int k):=by rw[dD f.nd a4,xO]
  have p:=f.pr _ (gL n);have d:=f.pr _ (gL G);have d9:Pr (famD F.k) 300 a.1:=⟨d.sq,d.len,d.pos,d.bm,λz c3=>zJ (d.bt z c3) (yC ∅ ∅),d.bu⟩;clear k1 k2 a3 a0 c4 d1 S b8 V d6 a7 L a5;subst e1;refine st λN1 e1=>?_;simp only[tBMR];ext;refine⟨⟨u,_,rfl,D.up o⟩,?_⟩;ext;refine jL (i:=i) (o _ _ hl) (by rw[zI,v];rfl) rfl ?_;refine jL (i:=j) (o _ _ hl) (by rw[zI,c7];rfl) rfl ?_;refine⟨q,b7,y.1,a.1,famD F.k,100,rfl,M.up o,a8.up o,f.dim,p,d9,∅,λr e6 b5 C=>?_⟩;have W:=xE d.pos p.pos;have c9:Sq (famD F.k) (behD (famD F.k) y.1 a.1).1:=d.sq.mul;have e5:=f.dim;have l2:(behD (famD F.k) y.1 a.1).2.1.length<=100:=by
   show(redT _ (movT _ _ _ _ _)).length<=100;unfold redT;rw[zqe,Ez d.sq d.len];omega
  have up:0<(behD (famD F.k) y.1 a.1).2.2:=gH _ ⋯;have c8:mO (behD (famD F.k) y.1 a.1).2.2:=by
   obtain⟨_,_,c6⟩:=cS (ts:=movT a.1.1 a.1.2.1 a.1.2.2 y.1.2.1 y.1.2.2) W;have b1:=p.bu;have b2:=d.bu;have C:a.1.2.2*y.1.2.2<=2^100*2^100:=sH ⋯ ⋯ (wZ p.pos) ∅;have J:(behD (famD F.k) y.1 a.1).2.2<=2^100*2^100:=Int.le_trans c6 C;have d7:(behD (famD F.k) y.1 a.1).2.2.natAbs<2^201:=⋯
   exact iP d7 ∅
  refine⟨r,_,rfl,C.s,by have:=c9.1;omega,l2,up,c8,λr2 c5 d2 J=>?_⟩;have b0:canD (behD (famD F.k) y.1 a.1).1 (behD (famD F.k) y.1 a.1).2.1 (behD (famD F.k) y.1 a.1).2.2=oZ (famD F.k) y.1 a.1:=En W;rw[b0,←Y]at J;have R:=(o.trans b5).trans d2;refine⟨u,_,r2,_,rfl,rfl,D.up R,kL _,J.dt,?_⟩;rw[d0];show N1 [some (.ref g),some (.ref l),some (.ref u),some (.ref m),some (.int i),some (.int j),some (.int k)] c5;symm;rw[zN (by intro z;cases z)];exact iteT ⟨g,F,ms,srt,i,j,k,y,a,z,rfl,f.up R,n,G,a4,Y.symm,λc1 d4=>d3 c1 (R.trans d4)⟩
theorem Yc{d:Nat}{x:Dd}{w:List Nat}{tb:Tb}{ks:Dd×Nat}{y:Dd×List Nat}(h:y∈tb):y∈nxt d x w tb ks:=by
 unfold nxt;split
 ·exact h
 ·exact xU _ h
theorem Mr{d:Nat}{x:Dd}{w:List Nat}:∀(l:List (Dd×Nat))(tb:Tb),(x,w)∈tb->ND tb->ND (l.foldl (nxt d x w) tb)
 |[],_,_,h=>h
 |k:: l,tb,a,h=>Mr l _ (Yc a) (Dp h a)
theorem Mq{d:Nat}{ss:List Dd}:∀(n i:Nat)(tb:Tb),ND tb->ND (nP d ss n i tb)
 |0,_,_,h=>h
 | n+1,i,tb,h=>by
  unfold nP;split
  ·refine Mq n (i+1) _ ?_;unfold kA;cases e:tb[i]? with
   |none=>exact h
   |some a=>exact Mr _ _ (zqb e) h
  ·exact h
theorem Yb{d:Nat}{ss:List Dd}{N:Nat}:ND (tab d ss N):=Mq N 0 _ ⟨by simp,λy a=>by rw[List.mem_singleton.mp a];exact Nat.zero_lt_one⟩
theorem cW{H:Hp}{g:Addr}{d:Nat}{ms:List Dd}{srt:Tb}{Q:VK}(h:GrpF K t H g d ms srt)(l2:srt.length<=200)(k:∀l H',Same H H'->WlN H H' l (srt.map (·.2))->Q (.ref l) H'):∃a fs,H g=some (.ins t.a_4 a fs)/\fs.lookup (Str.ofString "words")=none/\sp_6 K t [.ref g] H Q E0:=by
 obtain⟨a,c,lo,e,f,b,_⟩:=id h.ex;exact⟨a,_,b,rfl,g,d,ms,srt,rfl,h,l2,k⟩
noncomputable def wdD(w:List Nat):PyData:=.list (w.map λn=>PyData.int (n:Nat))
noncomputable def wlD(W:List (List Nat)):PyData:=.list (W.map wdD)
theorem Ya{K:Frag}{H:Hp}{p:Addr}{w:List Nat}(e:H p=some (.lst (wV w))):Dt K H (.ref p) (wdD w):=by
 refine .lst (SqL.of e) ?_;clear e
 induction w with
 |nil=>exact .nil
 |cons n w a=>exact .cons (.int _) a
theorem fL{K:Frag}{H:Hp}{l:Addr}{ps:LA}{W:List (List Nat)}(e:H l=some (.lst (ps.map V.ref)))(h:Paired (λp(w:List Nat)=>H p=some (.lst (wV w))) ps W):Dt K H (.ref l) (wlD W):=by
 refine .lst (SqL.of e) ?_;clear e
 induction h with
 |nil=>exact .nil
 |cons a _ b=>exact .cons (Ya a) b
theorem jO(W:List (List Nat)):iT 5 (wlD W)=true:=by
 show(W.map wdD).all (iT 4)=true;rw[vF];intro x b;obtain⟨w,_,rfl⟩:=oE.mp b;show(w.map λn=>PyData.int (n:Nat)).all (iT 3)=true;rw[vF];intro y a;obtain⟨n,_,rfl⟩:=oE.mp a;rfl
noncomputable def tri(a b c:PyData):PyData:=.list [a,b,c]
noncomputable def two(a b:PyData):PyData:=.list [a,b]
theorem Ao{a b c:PyData}(f:iT 5 a=true)(e:iT 5 b=true)(d:iT 5 c=true):iT 6 (tri a b c)=true:=by
 show[a,b,c].all (iT 5)=true;simp[f,e,d]
theorem Zz{a b:PyData}(d:iT 5 a=true)(c:iT 5 b=true):iT 6 (two a b)=true:=by
 show[a,b].all (iT 5)=true;simp[d,c]
theorem fM{H c:Hp}{a:Addr}{o:HO}(s:Same H c)(n:H a=none):Same H (upd c a o):=λb d e=>by
 rw[oT (λz=>by rw[z,n]at e;cases e)];exact s b d e
mutual
theorem Dt.same{K:Frag}{H H':Hp}(s:Same H H'):∀{v:V}{d:PyData},Dt K H v d->Dt K H' v d
 |_,_,.non=>.non
 |_,_,.bl b=>.bl b
 |_,_,.int i=>.int i
 |_,_,.str x=>.str x
 |_,_,.lst a b=>.lst (jB a s) (Dts.same s b)
 |_,_,.tup a b=>.tup (lP s _ _ a) (Dts.same s b)
theorem Dts.same{K:Frag}{H H':Hp}(s:Same H H'):∀{vs:List V}{ds:List PyData},Dts K H vs ds->Dts K H' vs ds
 |_,_,.nil=>.nil
 |_,_,.cons a b=>.cons (Dt.same s a) (Dts.same s b)
end
noncomputable def offS(S:LA)(H:Hp):Hp:=λb=>if b∈S then none else H b
theorem cX{S:LA}{H:Hp}{b:Addr}(h:b∉S):offS S H b=H b:=zD h
theorem Zy{S:LA}{H:Hp}:Same (offS S H) H:=λb o e=>by
 unfold offS at e;split at e
 ·cases e
 ·exact e
theorem Zx{K:Frag}{S:LA}{H:Hp}(c:∀a∈S,∃xs,H a=some (.lst xs)):TK K H (offS S H):=by
 refine⟨λb xs e=>?_,λb xs q=>?_⟩
 ·rw[cX (λm=>by obtain⟨ys,z⟩:=c b m;rw[e]at z;cases z)];exact e
 ·rcases q with(q|⟨d,q⟩)|q
  ·exact .inl (.inl (by rw[cX (λm=>by obtain⟨ys,z⟩:=c b m;rw[q]at z;cases z)];exact q))
  ·exact .inl (.inr ⟨d,by rw[cX (λm=>by obtain⟨ys,z⟩:=c b m;rw[q]at z;cases z)];exact q⟩)
  ·exact .inr q
def sp_d(K:Frag)(t:Adr):Sp:=λvs H Q _=>E7 λ(g l lw lh:Addr)(F:Fr4)(ms:List Dd)(srt:Tb)=>A7 (vs=[.ref g,.ref l,.ref lw,.ref lh]) (GC K t F H g ms srt) (ms.length<=3) (Dt K H (.ref l) (dlD (srt.map (·.1)))) (Dt K H (.ref lw) (wlD (srt.map (·.2)))) (Dt K H (.ref lh) (two (dlD (srt.map (·.1))) (wlD (srt.map (·.2))))) (∀H',Same H H'->Q (.bl true) H')
theorem ok_d(T:Txt K mg t):FnOk P w K mg base CX0 4 t.a_d t.d_d pe' (sp_d K t):=by
 have m0:=@ok_5 P w K mg base t T;have g6:=@ok_2 P w K mg base t T;have j2:=@ok_6 P w K mg base t T;apply T.F_d.ok sc_d
 ·have c5:=hr.units;obtain⟨g,l,a2,e3,F,ms,srt,rfl,Y,q4,l3,l2,j1,n4⟩:=h;refine⟨_,(oM (oU (i:=4) sc_d.nd rfl (Or.inl rfl) (nI (oJ (kB (C:=t.a_4) (pq 0) T.cl_4 T.me_5 m0 hr.mo T.b_5 .nil mC) (oJ (kB (C:=t.a_4) (pq 0) T.cl_4 T.me_2 g6 hr.mo T.b_2 .nil mC) (oJ (kB (C:=t.a_4) (pq 0) T.cl_4 T.me_6 j2 hr.mo T.b_6 .nil mC) oK)))))
   (oM (oU (i:=5) sc_d.nd rfl (Or.inl rfl) (nI (oJ (kB (C:=t.a_4) (pq 0) T.cl_4 T.me_5 m0 hr.mo T.b_5 .nil mC) (oJ (kB (C:=t.a_4) (pq 0) T.cl_4 T.me_2 g6 hr.mo T.b_2 .nil mC) (oJ (kB (C:=t.a_4) (pq 0) T.cl_4 T.me_6 j2 hr.mo T.b_6 .nil mC) oK)))))
   (oM (oU (i:=6) sc_d.nd rfl (Or.inl rfl) (nI (oJ (mB kR rfl T.z_list (nofun) (oJ (oX (pq 5)) oK)) (oJ (mB kR rfl T.z_list (nofun) (oJ (oX (pq 5)) oK)) (oJ (nT (sc:=oR aU) (N:=N_d) (fr:=[]) (te:=(tCB (gT K) (nF (tVar 0) tNil))) rfl rfl (nofun) rfl (nofun) (nV (oX (pq 5))) (λ_ _ _ p7=>(mB kR rfl T.z_list (nofun) (oJ (pv 0) oK)))) oK)))))
   (oM (lU (jF yM yZ yY jG (oX (pq 4)) (oJ oN oK)))
   (oM (lU (Fa yM PySem.F.slot_list_pop PySem.F.type_list_pop Pt (oX (pq 4))))
   (oM (nK (PW.pt (kN (nH (gS c5) (pq 5) (pq 6) (nD _)) (jP (nH (gS c5) (nI (oJ (pq 1) (oJ (pq 2) oK))) (pq 3) (nD _)))))
   (oO (oW mZ))
   nJ)
   (oM (lU (Fa yM PySem.F.slot_list_clear PySem.F.type_list_clear Po (oX (pq 4))))
   (oM (lU (jF yM yZ yY jG (nQ ix_B (oX (pq 4)) (gO gQ oN) (λ_ _=>rfl)) (oJ oN oK)))
   (oM (lU (jF yM yZ yY jG (oX (pq 4)) (oJ (nI (oJ oN oK)) oK)))
   (oO (oW (dG (jD (dP c5) (pq 5) (pq 6) (nD _)) (dF (jD (dP c5) (nI (oJ (pq 1) (oJ (pq 2) oK))) (pq 3) (nD _))))))))))))))),?_⟩
  show tSeq _ _ _ [some (.ref g),some (.ref l),some (.ref a2),some (.ref e3),none,none,none] H;have l4:=Y.to.len;have p6:0<srt.length:=by
   have:=List.length_pos_of_mem Y.grp.one
   rwa[zqe]at this
  have hsz:1000<=sizeLine:=∅
  right;simp only[lF];ext;refine Ap Y.f λc gs d3 i i6 a5 h8=>?_;have q2:=mE h8;clear h8;refine cV (Y.up i).f λa C m7 n c3 b2 i5=>?_;refine cW ((Y.up i).up n).f l4 λd O sc n7=>?_;refine⟨by show 3<=sizeLine;decide,λr N=>?_⟩;have k:=Same.new (o:=.lst [V.ref c,.ref a,.ref d]) N;have k5:(upd O r (.lst [V.ref c,.ref a,.ref d])) r=some (.lst [V.ref c,.ref a,.ref d]):=oP;generalize upd O r (.lst [V.ref c,.ref a,.ref d])=x at*
  obtain⟨a4,I,a7,e7⟩:=n7;have f1:I.length=srt.length:=by have:=mE e7;rwa[zqe]at this
  obtain⟨f,d5⟩:∃f,I[srt.length-1]?=some f:=⟨_,zqd ⋯⟩;obtain⟨S,p3,a6,o6,e2⟩:=kM e7 d5;have q5:C.length=srt.length:=mE i5;have v:=i.trans n;have j9:=v.trans sc;have i0:=j9.trans k;have c0:x c=some (.lst (gs.map V.ref)):=k _ _ (sc _ _ (n _ _ a5));have c1:x a=some (.lst (C.map V.ref)):=k _ _ (sc _ _ b2);have c4:x d=some (.lst (I.map V.ref)):=k _ _ a7;have c9:x f=some (.lst (wV S)):=k _ _ e2;have m1:H c=none:=i6;have g5:H a=none:=lH i c3;have i4:H d=none:=lH v a4;have h2:H f=none:=lH v a6;have n8:a≠c:=λz=>by rw[z,a5]at c3;cases c3
  have o5:f≠c:=λz=>by rw[z,n _ _ a5]at a6;cases a6
  have h3:f≠a:=λz=>by rw[z,b2]at a6;cases a6
  have p5:d≠c:=λz=>by rw[z,n _ _ a5]at a4;cases a4
  have l9:d≠a:=λz=>by rw[z,b2]at a4;cases a4
  have o9:r≠c:=λz=>by rw[z,sc _ _ (n _ _ a5)]at N;cases N
  have l7:r≠a:=λz=>by rw[z,sc _ _ b2]at N;cases N
  have p9:r≠d:=λz=>by rw[z,a7]at N;cases N
  have o4:r≠f:=λz=>by rw[z,e2]at N;cases N
  clear e7 e2 a7 b2 a5 i6 c3 a4 a6 N i n sc k v j9 i5;left;simp only[lF];ext;have d1:=Y.up i0;refine Ap d1.f λk0 a8 d3 i j8 g3 m2=>?_;refine cV (d1.up i).f λk1 ok m7 n m3 j4 g4=>?_;refine cW ((d1.up i).up n).f l4 λk2 O sc m9=>?_;refine⟨by show 3<=sizeLine;decide,λR f9=>?_⟩;have k:=Same.new (o:=.lst [V.ref k0,.ref k1,.ref k2]) f9;have b3:(upd O R (.lst [V.ref k0,.ref k1,.ref k2])) R=some (.lst [V.ref k0,.ref k1,.ref k2]):=oP;generalize upd O R (.lst [V.ref k0,.ref k1,.ref k2])=U at*
  obtain⟨h1,j6,i9,l8⟩:=m9;have b5:=n.trans (sc.trans k);have d4:=sc.trans k;have f5:U k0=some (.lst (a8.map V.ref)):=b5 _ _ g3;have e4:U k1=some (.lst (ok.map V.ref)):=d4 _ _ j4;have b8:U k2=some (.lst (j6.map V.ref)):=k _ _ i9;have f7:Paired (DdS K U) a8 ms:=Paired.mapP m2 λ_ _ z=>DdS.up z b5;have e9:Paired (DdS K U) ok (srt.map (·.1)):=Paired.mapP (Ej g4) λ_ _ z=>DdS.up z d4;have d6:Paired (λp(w:List Nat)=>x p=none/\U p=some (.lst (wV w))) j6 (srt.map (·.2)):=Paired.mapP l8 λ_ _ z=>⟨lH (i.trans n) z.1,k _ _ z.2.2⟩;have j5:x k0=none:=j8;have j0:x k1=none:=lH i m3;have h6:x k2=none:=lH (i.trans n) h1;have g8:x R=none:=lH ((i.trans n).trans sc) f9;have Z:Same x U:=i.trans b5;clear m2 g4 l8 g3 j4 i9 j8 m3 h1 f9 i n sc k b5 d4 d1;left;refine⟨false,R,_,_,_,rfl,rfl,SqB.lst b3,rfl,?_⟩;refine⟨false,k0,_,rfl,SqB.lst f5,λa0 e8=>?_⟩;have i:=Same.new (o:=.lst (a8.map V.ref)) e8;have l5:(upd U a0 (.lst (a8.map V.ref))) a0=some (.lst (a8.map V.ref)):=oP;generalize upd U a0 (.lst (a8.map V.ref))=d3 at*
  refine⟨false,R,_,_,_,rfl,rfl,SqB.lst (i _ _ b3),rfl,?_⟩;refine⟨false,k1,_,rfl,SqB.lst (i _ _ e4),λa1 f3=>?_⟩;have n:=Same.new (o:=.lst (ok.map V.ref)) f3;have h0:(upd d3 a1 (.lst (ok.map V.ref))) a1=some (.lst (ok.map V.ref)):=oP;generalize upd d3 a1 (.lst (ok.map V.ref))=m7 at*
  have v:=i.trans n;exfalso;refine⟨false,R,_,_,_,rfl,rfl,SqB.lst (v _ _ b3),rfl,?_⟩;refine⟨false,k2,rfl,⟨_,SqB.lst (v _ _ b8)⟩,λd0 f0=>?_⟩;subst eB;refine Dk f0 (v _ _ b8) (Paired.mapP d6 λ_ _ z=>v _ _ z.2) (by rw[zqe];omega) λO sc p0=>?_;refine⟨by show 3<=sizeLine;decide,λa9 f8=>?_⟩;have k:=Same.new (o:=.lst [V.ref a0,.ref a1,.ref d0]) f8;have k8:(upd O a9 (.lst [V.ref a0,.ref a1,.ref d0])) a9=some (.lst [V.ref a0,.ref a1,.ref d0]):=oP;generalize upd O a9 (.lst [V.ref a0,.ref a1,.ref d0])=u at*
  obtain⟨_,q0,a7,i1⟩:=p0;have D:=(v.trans sc).trans k;have J:=Z.trans D;have k3:=i0.trans J;have b1:∀{b},O b=none->x b=none:=λh=>lH ((Z.trans v).trans sc) h;have c2:∀b∈[c,a,d,f],(∃xs,u b=some (.lst xs))/\H b=none/\x b≠none:=by
   intro b d2;simp only[List.mem_cons,List.not_mem_nil,or_false]at d2;rcases d2 with rfl|rfl|rfl|rfl
   ·exact⟨⟨_,J _ _ c0⟩,m1,by rw[c0];exact tP _⟩
   ·exact⟨⟨_,J _ _ c1⟩,g5,by rw[c1];exact tP _⟩
   ·exact⟨⟨_,J _ _ c4⟩,i4,by rw[c4];exact tP _⟩
   ·exact⟨⟨_,J _ _ c9⟩,h2,by rw[c9];exact tP _⟩
  have b0:=Zx (K:=K) (S:=[c,a,d,f]) λb d2=>(c2 b d2).1;have b9:Same H (offS [c,a,d,f] u):=λb o e=>by
   rw[cX (λm=>by rw[(c2 b m).2.1]at e;cases e)];exact k3 _ _ e
  have ins:∀{b:Addr},x b=none->offS [c,a,d,f] u b=u b:=λh=>cX (λm=>(c2 _ m).2.2 h);have out:∀b∈[c,a,d,f],offS [c,a,d,f] u b=none:=λb m=>zF m;have h7:Same (offS [c,a,d,f] u) u:=Zy;have i3:Dt K (offS [c,a,d,f] u) (.ref R) (tri (dlD ms) (dlD (srt.map (·.1))) (wlD (srt.map (·.2)))):=by
   refine .lst (SqL.of (by rw[ins g8];exact D _ _ b3)) (.cons ?_ (.cons ?_ (.cons ?_ .nil)))
   ·exact jN (by rw[ins j5];exact D _ _ f5) (Paired.mapP f7 λ_ _ z=>DdS.tk (DdS.up z D) b0)
   ·exact jN (by rw[ins j0];exact D _ _ e4) (Paired.mapP e9 λ_ _ z=>DdS.tk (DdS.up z D) b0)
   ·exact fL (by rw[ins h6];exact D _ _ b8) (Paired.mapP d6 λ_ _ z=>by rw[ins z.1];exact D _ _ z.2)
  have i2:Dt K (offS [c,a,d,f] u) (.ref a9) (tri (dlD ms) (dlD (srt.map (·.1))) (wlD (srt.map (·.2)))):=by
   refine .lst (SqL.of (by rw[ins (b1 f8)];exact k8)) (.cons ?_ (.cons ?_ (.cons ?_ .nil)))
   ·exact jN (by rw[ins (lH Z e8)];exact k _ _ (sc _ _ (n _ _ l5))) (Paired.mapP f7 λ_ _ z=>DdS.tk (DdS.up z D) b0)
   ·exact jN (by rw[ins (lH (Z.trans i) f3)];exact k _ _ (sc _ _ h0)) (Paired.mapP e9 λ_ _ z=>DdS.tk (DdS.up z D) b0)
   ·exact fL (by rw[ins (lH (Z.trans v) f0)];exact k _ _ a7) (Paired.mapP i1 λ_ _ z=>by rw[ins (lH (Z.trans v) z.1)];exact k _ _ z.2.2)
  have o0:=Dt.same b9 l3;have n5:=Dt.same b9 l2;have i7:=Dt.same b9 j1;have e6:=J _ _ k5;have d7:=J _ _ c0;have m8:=J _ _ c1;have i8:=J _ _ c4;have k6:=J _ _ c9;generalize offS [c,a,d,f] u=M at*
  clear c2 b0 ins l3 l2 j1 i1 a7 d6 e9 f7 k8 b3 f5 e4 b8 l5 h0 e8 f3 f0 f8 i n sc k v D J k3 Z b1 k5 c0 c1 c4 c9 j5 j0 h6 g8 m1 g5 i4 h2;have n6:∀{j:Hp}{X:VK},Same M j->X (.bl false) j->rNeD K (.ref R) (.ref a9) j X:=λL q=>fX 6 ∅ (Dt.same L i3) (Dt.same L i2) (Ao (lI _) (lI _) (jO _)) (Ao (lI _) (lI _) (jO _)) (b:=true) (by simp) q;have b6:∀{j:Hp}{p:Addr},Same M j->j p=none->Same M (upd j p (.lst [V.ref l,.ref a2]))/\Dt K (upd j p (.lst [V.ref l,.ref a2])) (.ref p) (two (dlD (srt.map (·.1))) (wlD (srt.map (·.2)))):=λ{j p}L W =>
   have f6:=L.trans (Same.new (o:=.lst [V.ref l,.ref a2]) W)
   ⟨f6,.lst (SqL.of oP) (.cons (Dt.same f6 o0) (.cons (Dt.same f6 n5) .nil))⟩
  have c7:=Zz (lI (srt.map (·.1))) (jO (srt.map (·.2)));have o2:∀{j:Hp}{X:VK},Same M j->(∀G,Same j G->X (.bl false) G)->∀p,j p=none->rNeD K (.ref p) (.ref e3) (upd j p (.lst [V.ref l,.ref a2])) X:=λL q p W=>fX 6 ∅ (b6 L W).2 (Dt.same (b6 L W).1 i7) c7 c7 (b:=true) (by simp) (q _ (Same.new W));have n3:∀{j:Hp}{X:VK},Same M j->(∀G,Same j G->X (.bl true) G)->∀p,j p=none->rEqD K (.ref p) (.ref e3) (upd j p (.lst [V.ref l,.ref a2])) X:=λL q p W=>dX 6 ∅ (b6 L W).2 (Dt.same (b6 L W).1 i7) c7 c7 (b:=true) (by simp) (q _ (Same.new W));left;refine⟨false,r,_,_,_,rfl,rfl,SqB.lst e6,rfl,tyL d7,c,_,_,rfl,rfl,d7,by rw[zqe];omega,?_⟩;have k4:Same M (upd u c (.lst (gs.map V.ref++[.int 1]))):=fM h7 (out c (by simp));have g0:(upd u c (.lst (gs.map V.ref++[.int 1]))) r=some (.lst [V.ref c,.ref a,.ref d]):=by rw[oT o9];exact e6
  have e0:(upd u c (.lst (gs.map V.ref++[.int 1]))) a=some (.lst (C.map V.ref)):=by rw[oT n8];exact m8
  have k9:(upd u c (.lst (gs.map V.ref++[.int 1]))) d=some (.lst (I.map V.ref)):=by rw[oT p5];exact i8
  have m6:(upd u c (.lst (gs.map V.ref++[.int 1]))) f=some (.lst (wV S)):=by rw[oT o5];exact k6
  generalize upd u c (.lst (gs.map V.ref++[.int 1]))=a3 at*;clear d7 m8 i8 k6 e6 h7;left;obtain⟨h9,o1⟩:∃h9,C[C.length-1]?=some h9:=⟨_,zqd ⋯⟩;refine⟨false,r,_,_,_,rfl,rfl,SqB.lst g0,rfl,tyL e0,a,_,_,rfl,rfl,e0,by rw[zqe,zI,o1];rfl,?_⟩;have b7:Same M (upd a3 a (.lst (C.map V.ref).dropLast)):=fM k4 (out a (by simp));have l0:(upd a3 a (.lst (C.map V.ref).dropLast)) r=some (.lst [V.ref c,.ref a,.ref d]):=by rw[oT l7];exact g0
  have l1:(upd a3 a (.lst (C.map V.ref).dropLast)) a=some (.lst (C.map V.ref).dropLast):=oP;have m5:(upd a3 a (.lst (C.map V.ref).dropLast)) d=some (.lst (I.map V.ref)):=by rw[oT l9];exact k9
  have g9:(upd a3 a (.lst (C.map V.ref).dropLast)) f=some (.lst (wV S)):=by rw[oT h3];exact m6
  generalize upd a3 a (.lst (C.map V.ref).dropLast)=p8 at*;clear e0 k9 m6 g0 k4;left;refine n6 b7 ⟨_,rfl,iteF ⟨by show 2<=sizeLine;decide,o2 b7 λG b4=>⟨_,rfl,iteF ?_⟩⟩⟩;have g7:=b7.trans b4;have g2:=b4 _ _ l0;have d9:=b4 _ _ l1;have j3:=b4 _ _ m5;have m4:=b4 _ _ g9;clear l0 l1 m5 g9 b7;left;refine⟨false,r,_,_,_,rfl,rfl,SqB.lst g2,rfl,tyL d9,a,_,rfl,rfl,d9,?_⟩;have l6:Same M (upd G a (.lst [])):=fM g7 (out a (by simp));have f2:(upd G a (.lst [])) r=some (.lst [V.ref c,.ref a,.ref d]):=by rw[oT l7];exact g2
  have f4:(upd G a (.lst [])) d=some (.lst (I.map V.ref)):=by rw[oT l9];exact j3
  have e5:(upd G a (.lst [])) f=some (.lst (wV S)):=by rw[oT h3];exact m4
  generalize upd G a (.lst [])=c8 at*;clear g2 d9 j3 m4 g7;have p2:(wV S).length<sizeLine:=by
   obtain⟨y,o7,rfl⟩:=gJ p3;have q3:=(Yb (d:=famD F.k) (ss:=ms.map oV) (N:=201)).2 y (Y.to.p.mem_iff.mp (zqb o7));have q1:=Y.to.l;unfold wV;rw[zqe];omega
  left;have n9:atI (I.map V.ref) (-1)=some (V.ref f):=by
   obtain⟨g1,k7,rfl⟩:∃g1 k7,I=g1++[k7]:=⟨_,_,(List.dropLast_concat_getLast (λz=>by rw[z]at f1;simp at f1;omega)).symm⟩;rw[show srt.length-1=g1.length by rw[←f1,yE];rfl,List.getElem?_concat_length]at d5;cases d5;rw[xD];exact Oj _ _
  refine⟨false,r,_,_,_,rfl,rfl,SqB.lst f2,rfl,?_⟩
  try ext
  refine⟨false,d,_,_,_,rfl,rfl,SqB.lst f4,n9,tyL e5,f,_,_,rfl,rfl,e5,p2,?_⟩;have o3:Same M (upd c8 f (.lst (wV S++[.int 5]))):=fM l6 (out f (by simp));have o8:(upd c8 f (.lst (wV S++[.int 5]))) r=some (.lst [V.ref c,.ref a,.ref d]):=by rw[oT o4];exact f2
  have j7:(upd c8 f (.lst (wV S++[.int 5]))) d=some (.lst (I.map V.ref)):=by rw[oT (yA o6)];exact f4
  generalize upd c8 f (.lst (wV S++[.int 5]))=n1 at*;clear f2 f4 e5 l6;left;refine⟨false,r,_,_,_,rfl,rfl,SqB.lst o8,rfl,tyL j7,by show 1<=sizeLine;decide,λd8 p1=>?_⟩;have h5:=Same.new (o:=.lst [V.int 7]) p1;have n0:=h5 _ _ j7;have n2:=o3.trans h5;generalize upd n1 d8 (.lst [V.int 7])=h4 at*
  refine⟨d,_,_,rfl,rfl,n0,by rw[zqe];omega,?_⟩;have c6:Same M (upd h4 d (.lst (I.map V.ref++[.ref d8]))):=fM n2 (out d (by simp));generalize upd h4 d (.lst (I.map V.ref++[.ref d8]))=q6 at*
  symm;refine dX 6 ∅ (Dt.same c6 i3) (Dt.same c6 i2) (Ao (lI _) (lI _) (jO _)) (Ao (lI _) (lI _) (jO _)) (b:=true) (by simp) ?_;exact⟨true,rfl,iteT ⟨by show 2<=sizeLine;decide,n3 c6 λp4 sz=>n4 p4 (b9.trans (c6.trans sz))⟩⟩
def sp_f(K:Frag)(t:Adr):Sp:=λvs H Q _=>E13 λ(g nb sc q l:Addr)(F:Fr4)(ms:List Dd)(srt:Tb)(cs S:LI')(d:Nat)(su so:Int)=>A13 (vs=[.ref g,.ref nb,.ref sc,.int d,.int so,.ref q]) (d=famD F.k) (GC K t F H g ms srt) (DTr K H nb (numT srt 0)) (SqL K H sc (cs.map V.int)) (H q=some (.tup [.ref l,.int su])) (H l=some (.lst (S.map V.int))) (S.length=d) ((∀z∈S,0<=z/\z<1000)) (0<su) (su<=1000) (0<=so) (∀H',Same H H'->Q (.bl true) H')
def FarT(u:Int)(ts:LI')(i:Nat)(ns:LI'):Prop:=ns.length=i/\∀(j:Nat) n,ns[j]?=some n->∃z f,ts[j]?=some z/\n=z+u*f
theorem Zw{u:Int}{ts ns:LI'}{i:Nat}{z f:Int}(h:FarT u ts i ns)(e:ts[i]?=some z):FarT u ts (i+1) (ns++[z+u*f]):=by
 refine⟨by rw[yE,h.1];rfl,λj n a=>?_⟩;rw[List.getElem?_append]at a;split at a
 ·exact h.2 j n a
 ·rw[List.getElem?_singleton]at a;split at a
  ·next c b =>
   cases a;have:j=i:=by have:=h.1;omega
   subst this;exact⟨z,f,e,rfl⟩
  ·cases a
theorem Zv{u:Int}{ts ns:LI'}(h:FarT u ts ts.length ns):Cong u ns ts:=by
 refine⟨h.1,λi x y e1 a=>?_⟩;obtain⟨z,f,e,rfl⟩:=h.2 i x e1;rw[a]at e;cases e;exact⟨f,⋯⟩
theorem ok_f(T:Txt K mg t):FnOk P w K mg base CX0 7 t.a_f t.d_f pa' (sp_f K t):=by
 have l4:=@ok_v P w K mg base t T;have d6:=@ok_1 P w K mg base t T;have k6:=@ok_g P w K mg base t T;have k3:=@ok_m P w K mg base t T;have m4:=@ok_u P w K mg base t T;have m6:=@ok_p P w K mg base t T;have k9:=@ok_a P w K mg base t T;apply T.F_f.ok sc_f
 ·have o3:=hr.units;obtain⟨g,L,sc,q,l,F,ms,srt,cs,S,d,e0,so,rfl,j0,b9,D,g6,m7,m1,l9,n4,e9,h0,m2,k4⟩:=h;refine⟨_,(oM (oU (i:=6) sc_f.nd rfl (Or.inl rfl) (oQ k6 hr.mo T.F_g (oJ (pq 2) (oJ oN (oJ (pq 3) (oJ (pq 5) (oJ (pq 4) oK)))))))
   (oM (oU (i:=7) sc_f.nd rfl (Or.inl rfl) (oQ l4 hr.mo T.F_v (oJ (pq 2) (oJ oN oK))))
   (oM (oU (i:=8) sc_f.nd rfl (Or.inl rfl) (nI oK))
   (oM (mQ yL rfl (mF rfl T.z_range (oJ (pq 3) oK)) (nX (i:=9) sc_f.nd rfl (Or.inl rfl))
   (oM (oU (i:=10) sc_f.nd rfl (Or.inl rfl) (oS kO (oQ d6 hr.mo T.F_1 (oJ (pq 7) (oJ oN oK))) oN))
   (oM (nK (nH lG (oQ d6 hr.mo T.F_1 (oJ (pq 7) (oJ oN oK))) oN (nD _))
   (oO (oU (i:=10) sc_f.nd rfl (Or.inl rfl) (oS kO (oQ d6 hr.mo T.F_1 (oJ (pq 7) (oJ (oS nR (oS nR oN (oS gP oN oN)) (oS gP oN oN)) oK))) (oS nR (oS gP oN oN) (oS gP oN oN)))))
   nJ)
   (oO (lU (jF yM yZ yY jG (pq 8) (oJ (oS mJ (nQ ix_B (oX (pq 6)) (pq 9) (λ_ _=>rfl)) (oS nR (oX (pq 6)) (pq 10))) oK)))))))
   (oM (oU (i:=11) sc_f.nd rfl (Or.inl rfl) (oQ m4 hr.mo T.F_u (oJ (oQ k3 hr.mo T.F_m (oJ (oS kO oN (pq 3)) oK)) (oJ (oS Ab (nI (oJ oN oK)) (oS kO oN (pq 3))) (oJ oN oK)))))
   (oM (oU (i:=12) sc_f.nd rfl (Or.inl rfl) (lV (oJ (oX (pq 6)) (oJ (mB jJ rfl T.z_tuple (nofun) (oJ (pq 8) oK)) (oJ (oX (pq 6)) oK)))))
   (oM (mQ yL rfl (nV (nI (oJ (pq 6) (oJ (pq 12) oK)))) (nX (i:=13) sc_f.nd rfl (Or.inl rfl))
   (oO (nK (kF (lJ (oQ m6 hr.mo T.F_p (oJ (pq 0) (oJ (pq 13) (oJ (pq 1) oK))))))
   (oO (oW mZ))
   nJ)))
   (oO (oW (jD bD (iG (C:=t.a_4) (pq 0) T.cl_4 T.me_a k9 hr.mo T.b_a .nil mC (oJ (pq 11) oK)) iR (nD _))))))))))),?_⟩
  show tSeq _ _ _ [some (.ref g),some (.ref L),some (.ref sc),some (.int d),some (.int so),some (.ref q),none,none,none,none,none,none,none,none] H;have a7:=b9.dim;rw[←j0]at a7;right;refine⟨sc,q,l,cs,S,10,d,e0,so,rfl,g6,∅,a7,m7,m1,l9,n4,e9,h0,m2,λr1 a9 x i6 g0 k5=>?_⟩;obtain⟨R,l7,ts,u,lt,f1,c0,j7,C⟩:=k5;obtain⟨i8,n3⟩:=At (so:=so) a7;obtain⟨h3,l6⟩:=Eo a7 (jA (ns:=cs) (k:=2));rw[i8]at C lt;have us:0<u*e0:=xE c0 e9;have us2:u*e0<=200*1000:=sH j7 h0 ⋯ ⋯;obtain⟨j6,i2,k0⟩:=cS (ts:=ts) us;have o2:x.1.length=d:=by rw[C];exact(fH (kE a7 h3) R).1
  have k7:x.2.1.length=d:=by rw[C];show(redT _ ts).length=d;unfold redT;rw[zqe];exact lt
  have c3:0<x.2.2:=by rw[C];exact i2
  have n8:x.2.2<=200000:=by rw[C];show redU _ ts<=_;omega
  have xs:mO x.2.2:=iP (B:=20) ⋯ ∅;have o6:kX 250 x.2.1:=λz g7=>by
   rw[C]at g7;obtain⟨t',m5,m0⟩:=j6 z g7;exact wW m0 (f1 t' m5)
  have e7:canD x.1 x.2.1 x.2.2=oV x:=by rw[C];exact En us
  clear C j6 i2 k0 us us2 lt f1 c0 j7 l7 h3 l6 i8 n3;left;refine⟨sc,cs,12,rfl,jB g6 i6,∅,λr b5 d2 d8 e5=>?_⟩;have f4:BxOk 1200 (bxF cs 12):=jA (k:=12);generalize bxF cs 12=b2 at*
  left;refine⟨yB _,λa a8=>?_⟩;have d5:Same b5 (upd b5 a (.lst [])):=Same.new a8;have i9:(upd b5 a (.lst [])) a=some (.lst (([]:LI').map V.int)):=oP;have a4:a≠r:=λz=>by rw[z,e5]at a8;cases a8
  have e8:a9 a=none:=lH d2 a8;generalize upd b5 a (.lst [])=o7 at*
  subst e1;refine st λN1 e1=>mT λB eB=>?_;simp only[nU];ext;refine⟨⋯,⋯,?_⟩;rw[zQ];refine iM (g:=nB 9) (tb:=B) (λi J X=>∃(a1 O:Option V)(b:Box)(ns:LI'),J=[some (.ref g),some (.ref L),some (.ref sc),some (.int d),some (.int so),some (.ref q),some (.ref r1),some (.ref r),some (.ref a),a1,O,none,none,none]/\Same a9 X/\X r=some (bxO b)/\BxOk (1200+3*i) b/\X a=some (.lst (ns.map V.int))/\FarT x.2.2 x.2.1 i ns) ⟨none,none,b2,[],rfl,d2.trans d5,d5 _ _ e5,f4,i9,rfl,λj n e=>by cases e⟩ ?_ ?_
  ·rintro i J X hi ⟨a1,O,b,ns,rfl,c1,e4,b7,b3,a2⟩;obtain⟨z,h9⟩:∃z,x.2.1[i]?=some z:=⟨_,zqd ⋯⟩;subst eB;show tSeq _ _ _ [some (.ref g),some (.ref L),some (.ref sc),some (.int d),some (.int so),some (.ref q),some (.ref r1),some (.ref r),some (.ref a),some (.int (0+(i:Int))),O,none,none,none] X;refine st λg4 d0=>?_;ext;refine⟨r,9,b,_,rfl,e4,b7,⋯,∅,∅,λa5 i0 l5=>?_⟩;obtain⟨o0,j5⟩:=nM (many:=9) b7 ∅;have m8:a5 a=some (.lst (ns.map V.int)):=by rw[i0 a a4];exact b3
   have n5:Same a9 a5:=iA c1 d8 λc o a3 e=>by rw[i0 c a3];exact e
   generalize tkB b 9=c9 at*;generalize tkV b 9=n2 at*
   try ext
   subst d0;refine st λg4 d0=>?_;ext;refine⟨r,3,c9,_,rfl,l5,j5,⋯,∅,∅,λZ g1 j2=>?_⟩;obtain⟨o4,d9⟩:=nM (many:=3) j5 ∅;have h1:Z a=some (.lst (ns.map V.int)):=by rw[g1 a a4];exact m8
   have Y:Same a9 Z:=iA n5 d8 λc o a3 e=>by rw[g1 c a3];exact e
   generalize tkB c9 3=c8 at*;generalize tkV c9 3=n9 at*
   have h4:∀(f:Int)(c4:Box)(v:Hp),f.natAbs<2^400->Same a9 v->v r=some (bxO c4)->BxOk (1200+3*(i+1)) c4->v a=some (.lst (ns.map V.int))->g4 [some (.ref g),some (.ref L),some (.ref sc),some (.int d),some (.int so),some (.ref q),some (.ref r1),some (.ref r),some (.ref a),some (.int (0+(i:Int))),some (.int f),none,none,none] v:=by
    intro f c4 v d3 W e2 c6 j3;subst d0;ext;have h8:=g0.up W;refine⟨tyL j3,gI h8.s λf6 n6=>⟨true,f6,_,_,_,rfl,rfl,(n6:SqB true K v f6 _),kC (iL h9) ⋯,kW h8.s ⟨_,_,rfl,rfl,yQ (nL (B:=20) ⋯) (nL d3) ∅,?_⟩⟩⟩
    try ext
    refine⟨a,_,_,rfl,rfl,j3,iH (by rw[zqe,a2.1];omega),?_⟩;refine⟨fM W e8,c4,by rw[oT (yA a4)];exact e2,c6,ns++[z+x.2.2*f],?_,Zw a2 h9⟩;rw[oP,xD];rfl
   refine⟨_,_,rfl,rfl,_,rfl,ite2 (λ_=>?_) (λ_=>?_)⟩
   ·refine⟨⟨∅,∅,∅⟩,yQ (nL (B:=400) (nofun)) (nL (B:=400) (nofun)) ∅,⟨∅,∅,∅⟩,yQ (nL (B:=400) (nofun)) (nL (B:=400) (nofun)) ∅,?_⟩;refine⟨r,_,c8,_,rfl,j2,d9,⋯,nofun,nofun,λv f2 e2=>?_⟩;obtain⟨l0,c6⟩:=nM (many:=2*10^Int.toNat 50*10^Int.toNat 40) d9 (nofun);refine⟨⟨∅,∅,∅⟩,⟨∅,∅,∅⟩,yQ (nL (B:=400) (nofun)) (nL (B:=400) (nofun)) ∅,_,_,rfl,rfl,?_⟩;refine h4 _ _ v ?_ (iA Y d8 λc o a3 e=>by rw[f2 c a3];exact e) e2 (c6.le ⋯) (by rw[f2 a a4];exact h1);have k8:(10:Int)^Int.toNat 50*10^Int.toNat 40=1000000000000000000000000000000000000000000000000000000000000000000000000000000000000000000:=nofun
    have e1:(2:Int)*10^Int.toNat 50*10^Int.toNat 40=2000000000000000000000000000000000000000000000000000000000000000000000000000000000000000000:=nofun
    rw[k8];rw[e1]at l0 ⊢;generalize tkV c8 2000000000000000000000000000000000000000000000000000000000000000000000000000000000000000000=o1 at*
    refine zJ (show _<2000000000000000000000000000000000000000000000000000000000000000000000000000000000000000001 by omega) (nofun)
   ·refine h4 _ c8 Z ?_ Y j2 (d9.le ⋯) h1;exact zJ (show(n2-4).natAbs<16 by omega) (nofun)
  ·rintro J X ⟨a1,O,b,ns,rfl,c1,e4,b7,b3,a2⟩;have h6:=g0.up c1;have g8:=i6.trans c1;have f5:Cong x.2.2 ns x.2.1:=Zv (by rw[k7];exact a2);have o5:ns.length=d:=a2.1;clear eB B i9 a8 a4 e5 f4 d2 d5 e4 b7 e8;left;rw[show(5:Int)-(d:Int)=((5-d:Nat):Int) by omega];refine⟨5-d,rfl,⋯,λn1 a5 d4=>?_⟩
   try ext
   refine⟨by show 1<=sizeLine;decide,λp g5=>?_⟩;have Y:=Same.new (o:=.lst [V.int 0]) g5;have ep:(upd a5 p (.lst [V.int 0])) p=some (.lst [V.int 0]):=oP;generalize upd a5 p (.lst [V.int 0])=Z at*
   refine⟨p,_,_,rfl,rfl,ep,⋯,⋯,?_,λl2 i3=>?_⟩
   ·rw[zQ];show 1*(5-d)<=sizeLine;have:3<=sizeLine:=∅
    omega
   rw[zQ];have f9:5-d=2\/5-d=3:=⋯
   have h2:(List.replicate (5-d) [V.int 0]).flatten=(List.replicate (5-d) (0:Int)).map V.int:=by rcases f9 with z|z <;> rw[z] <;> rfl
   rw[h2];have W:=Same.new (o:=.lst ((List.replicate (5-d) (0:Int)).map V.int)) i3;have f3:(upd Z l2 (.lst ((List.replicate (5-d) (0:Int)).map V.int))) l2=some (.lst ((List.replicate (5-d) (0:Int)).map V.int)):=oP;generalize upd Z l2 (.lst ((List.replicate (5-d) (0:Int)).map V.int))=v at*
   refine⟨false,false,false,n1,l2,idM (5-d),List.replicate (5-d) 0,1,rfl,((d4.up Y).up W).m.l.b,SqB.lst f3,by rw[jY.1];omega,by simp;omega,∅,iP (B:=20) ∅ ∅,λc7 c5 f7 i7=>?_⟩;have f0:DdAt K c5 c7 (nE (5-d)):=by
    rw[←Em f9 (U:=1) ∅];exact i7
   have b6:=((d4.s.trans Y).trans W).trans f7;have b0:=h6.up b6;have h7:=b6 _ _ b3;have g3:=g8.trans b6;clear i7 f3 h2 i3 ep g5 f7 W Y d4 b6 b3 h6 g8;have n7:5-d≠d:=⋯
   generalize 5-d=I at*;left;refine jK b0.s λr2 b8=>⟨a,_,rfl,.inl ⟨SqL.of h7,λG g9=>?_⟩⟩;have b4:=Same.new (o:=.tup (ns.map V.int)) g9;have j1:(upd c5 G (.tup (ns.map V.int))) G=some (.tup (ns.map V.int)):=oP;generalize upd c5 G (.tup (ns.map V.int))=f8 at*
   refine kW (b0.up b4).s ⟨by show 3<=sizeLine;decide,λm h5=>?_⟩;have b1:=Same.new (o:=.tup [V.ref r2,.ref G,.int x.2.2]) h5;have i5:(upd f8 m (.tup [V.ref r2,.ref G,.int x.2.2])) m=some (.tup [V.ref r2,.ref G,.int x.2.2]):=oP;generalize upd f8 m (.tup [V.ref r2,.ref G,.int x.2.2])=e3 at*
   have d3:DdS K e3 m (x.1,ns,x.2.2):=⟨r2,G,SqT.of i5,(MatB.up b8 b4).up b1,SqT.of (b1 _ _ j1)⟩;have c2:=b4.trans b1;have m3:=(b0.up c2).s;have n0:=f0.up c2;have g2:=g3.trans c2;have fr:canD x.1 ns x.2.2=oV (x.1,ns,x.2.2):=by
    rw[Dc c3 f5,e7];show(x.1,nW x.2.2 x.2.1,x.2.2)=(x.1,nW x.2.2 ns,x.2.2);rw[f5.rest_eq c3]
   clear h7 b0 f0 g3 b4 b1 c2 j1 i5 g9 h5 b8;subst e1;refine st λN1 e1=>mT λB eB=>?_;simp only[iSeq];ext;refine⟨by show 2<=sizeLine;decide,λd7 k2=>?_⟩;have i4:=Same.new (o:=.lst [V.ref r1,.ref m]) k2;have i1:(upd e3 d7 (.lst [V.ref r1,.ref m])) d7=some (.lst [V.ref r1,.ref m]):=oP;generalize upd e3 d7 (.lst [V.ref r1,.ref m])=k1 at*
   refine⟨false,⟨_,SqB.lst i1⟩,?_⟩;refine gU (g:=nB 13) (tb:=B) (λi J a6=>∃d1,J=[some (.ref g),some (.ref L),some (.ref sc),some (.int d),some (.int so),some (.ref q),some (.ref r1),some (.ref r),some (.ref a),a1,O,some (.ref c7),some (.ref m),d1]/\Same k1 a6) ⟨none,rfl,Same.refl _⟩ (λ_ _ _ _⟨_,_,U⟩=>SqB.lst (U _ _ i1)) ?_ ?_
   ·rintro i y J a6 M ⟨d1,rfl,U⟩;have N:=i4.trans U;have a0:=g2.trans N;obtain⟨p,k,rfl,l8,l1,l2,c0,us,l3⟩:∃(p:Addr)(k:Dd),y=.ref p/\DdS K a6 p k/\k.1.length<=100/\k.2.1.length<=100/\0<k.2.2/\mO k.2.2/\canD k.1 k.2.1 k.2.2=oV k:=by
     match i,M with
     |0,M=>cases M;exact⟨r1,x,rfl,m3.up N,⋯,⋯,c3,xs,e7⟩
     |1,M=>cases M;exact⟨m,_,rfl,d3.up N,by show x.1.length<=100;omega,by show ns.length<=100;omega,c3,xs,fr⟩
     |i+2,M=>simp at M
    subst eB;show tIfS _ _ _ _ [some (.ref g),some (.ref L),some (.ref sc),some (.int d),some (.int so),some (.ref q),some (.ref r1),some (.ref r),some (.ref a),a1,O,some (.ref c7),some (.ref m),some (.ref p)] a6;ext;exact⟨g,p,L,F,ms,srt,k,rfl,b9.up a0,D.up a0,l8,l1,l2,c0,us,l3,λj4 e6=>⟨_,rfl,iteF (U.trans e6)⟩⟩
   ·rintro J a6 ⟨d1,rfl,U⟩;have N:=i4.trans U;have a0:=g2.trans N;symm;simp only[lF];ext;refine Aq (b9.up a0).f (n0.up N).s (by show(idM I).length<=100;rw[jY.1];omega) (by show(List.replicate I (0:Int)).length<=100;rw[rC];omega) (by show(0:Int)<1;decide) λj4 e6=>?_;have j8:oV (nE I)∉srt.map (·.1):=λh=>by
     have m9:=(b9.fine _ h).sq.1;have b8:(idM I).length=I:=jY.1;have j9:(oV (nE I)).1=idM I:=rfl;rw[j9,b8,←j0]at m9;omega
    rw[Ar j8];exact k4 j4 (a0.trans e6)
theorem Zu{d:Nat}{a:Dd->Prop}(A:Amb d a){ms:List Dd}(h:MsOk d a ms):∀x s,a x->s∈ms->a (oZ d x (oV s)):=λx s c b=>A.mul x _ c (h.g s b)
theorem Zt{d:Nat}{a:Dd->Prop}(A:Amb d a){ms:List Dd}(h:MsOk d a ms):∀s∈ms.map oV,a s:=λs b=>by
 obtain⟨m,c,rfl⟩:=oE.mp b;exact h.g m c
theorem Zs{d:Nat}{a:Dd->Prop}(A:Amb d a){ms:List Dd}(h:MsOk d a ms):∀y∈tab d (ms.map oV) 201,mY d y.1:=λy e=>A.fine _ (Db A.one (λx c s b=>A.mul x s c (Zt A h s b)) y e)
theorem Eh{K:Frag}{c:Adr}{d most:Nat}{i:Dd->Prop}{ms:List Dd}{H j:Hp}{a x n:Addr}{b:Bool}{ps:LA}{Q:VK}{E:XK}(A:Amb d i)(h:MsOk d i ms)(r:j x=some (.ins c.a_4 n []))(f:Same H j)(u:SqB b K H a (ps.map V.ref))(F:Paired (DdS K H) ps ms)(C:1<=most)(m:most<=200)
  (t:H x=none)
  (w:most<(tab d (ms.map oV) 201).length->∀H',Same H H'->E (.ref c.a_1i) none H')(v:(tab d (ms.map oV) 201).length<=most->∀srt H',Same H H'->GrpF K c H' x d ms srt->(∀a l,H a=some (.lst l)->GrpF K c (offH a H') x d ms srt)->Told d (ms.map oV) srt->Q .non H'):
  Jf K c [.ref x,.int d,.ref a,.int most] j Q E:=by
 refine⟨b,d,a,x,n,ps,ms,i,most,rfl,r,A.dim,u.up f,Paired.mapP F λ_ _ z=>DdS.up z f,h.l,h.f,λs y=>A.fine _ (h.g s y),A.fine,A.one,Zu A h,C,m,Zs A h,Aw,λhl srt H' k g q p o=>?_,λhl H' D=>w hl H' (f.trans D)⟩;exact v hl srt H' (λb o e=>k b o (λz=>by rw[z,t]at e;cases e) (f _ _ e)) g (λa l e=>q a l (f _ _ e)) ⟨p,o,yG hl m⟩
theorem ok_10(T:Txt K mg t):FnOk P w K mg base CX0 14 t.a_10 t.d_10 pl' (sp_10 K t):=by
 have i:=@ok_0 P w K mg base t T;apply T.F_10.ok sc_10
 ·obtain⟨d,a,ps,ms,q,rfl,k,p,A,e,m,f⟩:=h;refine⟨_,(oM (oU (i:=2) sc_10.nd rfl (Or.inl rfl) iR)
   (oM (Rp rfl rfl rfl rfl T.m_1i (λ_ _ _ c =>
   (oO (oU (i:=2) sc_10.nd rfl (Or.inl rfl) (Ui (C:=t.a_4) (T.mk_4) i hr.mo rfl T.m_4 T.bd_Group___init__ (dvs:=[.int 200]) (.cons ⟨_,rfl⟩ .nil) c (oJ (pq 0) (oJ (pq 1) oK)))))) (λ_ =>
   (oO (oU (i:=2) sc_10.nd rfl (Or.inl rfl) iR))))
   (oO (oW (pq 2))))),?_⟩
  show tSeq _ _ _ [some (.int d),some (.ref a),none] H;ext;unfold Hq;simp only[Ie];ext;intro x r nx j l;obtain⟨n,e1⟩:=Ei (C:=t.a_4) nx j l;refine Eh (most:=200) A e e1 n (SqB.lst k) p ∅ ∅ nx (λhl H' b=>?_) λhl srt H' b g _ o=>?_
  ·exact⟨T.h_d,m hl H' b⟩
  ·exact⟨rfl,f x srt H' b g o⟩
theorem Zr{xs:List V}{k:Nat}(h:k<=xs.length):cutV xs (some (k:Int)) none=xs.drop k:=by
 unfold cutV;rw[HT.sIx_none,HT.sIx_nat,tQ h,yT (by simp)]
theorem Mp{d:Nat}:(tab d [] 201).length=1:=rfl
theorem Zq{b a:Type}{F:b->a->Prop}{x:b}{y:a}{xs:List b}{ys:List a}(h:Paired F (x:: xs) (y:: ys)):Paired F xs ys:=by cases h;assumption
theorem Zp{F:Fr4}(h:F.Ok){m:Dd}(b:LowU F 300 m):mY (famD F.k) m:=by
 obtain⟨p,_,_⟩:=fK h b;refine⟨p.sq,p.len,p.pos,λr hr z a=>zJ (p.bm r hr z a) (yC ∅ ∅),λz a=>zJ (p.bt z a) (yC ∅ ∅),?_⟩;have c:=p.bu;exact Int.lt_of_lt_of_le c (nofun)
theorem ok_1o(T:Txt K mg t):FnOk P w K mg base CX0 18 t.a_1o t.d_1o pA' (Gn K):=by
 have u5:=@ok_l P w K mg base t T;have x7:=@ok_10 P w K mg base t T;have j4:=@ok_0 P w K mg base t T;have q9:=@ok_5 P w K mg base t T;have e8:=@ok_2 P w K mg base t T;have g8:=@ok_6 P w K mg base t T;have x5:=@ok_d P w K mg base t T;have w0:=@ok_c P w K mg base t T;have x4:=@ok_e P w K mg base t T;have u7:=@ok_h P w K mg base t T;have u2:=@ok_v P w K mg base t T;have u6:=@ok_12 P w K mg base t T;have s8:=@ok_z P w K mg base t T;have u1:=@ok_f P w K mg base t T;apply T.F_1o.ok sc_1o
 ·have U:=hr.units;obtain⟨a,cs,rfl,X,w8,ac,s9⟩:=h;refine⟨_,(oM (iV (oQ u5 hr.mo T.F_l (oJ (pq 0) oK)) (Hr rfl (lD (nX (i:=1) sc_1o.nd rfl (Or.inl rfl)) (lD (nX (i:=2) sc_1o.nd rfl (Or.inl rfl)) iU))))
   (oM (cY yL (nH bD (oQ x7 hr.mo T.F_10 (oJ (pq 1) (oJ (pq 2) oK))) iR (nD _))
   (oO (oU (i:=2) sc_1o.nd rfl (Or.inl rfl) (bH sl_B (pq 2) (dM oN) Af))))
   (oM (oU (i:=3) sc_1o.nd rfl (Or.inl rfl) (mB kR rfl T.z_list (nofun) (oJ (pq 2) oK)))
   (oM (oU (i:=4) sc_1o.nd rfl (Or.inl rfl) (Fn (C:=t.a_4) (T.mk_4) j4 hr.mo rfl T.m_4 T.bd_Group___init__ (dvs:=[.int 200]) (.cons ⟨_,rfl⟩ .nil) fR (oJ (pq 1) (oJ (pq 3) oK))))
   (oM (oU (i:=5) sc_1o.nd rfl (Or.inl rfl) (Fn (C:=t.a_4) (T.mk_4) j4 hr.mo rfl T.m_4 T.bd_Group___init__ (dvs:=[.int 200]) (.cons ⟨_,rfl⟩ .nil) fR (oJ (pq 1) (oJ (nI oK) oK))))
   (oM (lU (jF yM yZ yY jG (pq 3) (oJ oN oK)))
   (oM (oU (i:=6) sc_1o.nd rfl (Or.inl rfl) (kB (C:=t.a_4) (pq 4) T.cl_4 T.me_2 e8 hr.mo T.b_2 .nil mC))
   (oM (oU (i:=7) sc_1o.nd rfl (Or.inl rfl) (kB (C:=t.a_4) (pq 4) T.cl_4 T.me_6 g8 hr.mo T.b_6 .nil mC))
   (oM (oU (i:=8) sc_1o.nd rfl (Or.inl rfl) (nI (oJ (mB kR rfl T.z_list (nofun) (oJ (pq 6) oK)) (oJ (nT (sc:=oR s_1o) (N:=N_1o) (fr:=[]) (te:=(tCB (gT K) (nF (tVar 0) tNil))) rfl rfl (nofun) rfl (nofun) (nV (pq 7)) (λ_ _ _ y2=>(mB kR rfl T.z_list (nofun) (oJ (pv 0) oK)))) oK))))
   (oM (nK (kF (lJ (oQ x5 hr.mo T.F_d (oJ (pq 4) (oJ (pq 6) (oJ (pq 7) (oJ (pq 8) oK)))))))
   (oO (oW mZ))
   nJ)
   (oM (oU (i:=9) sc_1o.nd rfl (Or.inl rfl) (oQ w0 hr.mo T.F_c (oJ (oX (pq 8)) oK)))
   (oM (nK (kF (lJ (oQ x4 hr.mo T.F_e (oJ (pq 4) (oJ (pq 2) (oJ (pq 9) (oJ (pq 0) (oJ (pq 1) oK))))))))
   (oO (oW mZ))
   nJ)
   (oM (mQ yL rfl (Nr rfl T.z_range (oJ oN (oJ oN oK))) (nX (i:=10) sc_1o.nd rfl (Or.inl rfl))
   (oO (nK (kF (lJ (oQ u7 hr.mo T.F_h (oJ (pq 4) (oJ (oX (pq 8)) (oJ (pq 9) (oJ (oQ u2 hr.mo T.F_v (oJ (pq 0) (oJ (pq 10) oK))) oK)))))))
   (oO (oW mZ))
   nJ)))
   (oM (nK (kF (lJ (oQ u1 hr.mo T.F_f (oJ (pq 4) (oJ (pq 9) (oJ (pq 0) (oJ (pq 1) (oJ (oX (oQ u6 hr.mo T.F_12 (oJ (pq 0) oK))) (oJ (oQ s8 hr.mo T.F_z (oJ (pq 0) (oJ (pq 1) oK))) oK)))))))))
   (oO (oW mZ))
   nJ)
   (oM (nK (PW.pt (kN (nH hJ (mL T.z_len (kB (C:=t.a_4) (pq 5) T.cl_4 T.me_2 e8 hr.mo T.b_2 .nil mC)) oN (nD _)) (kN (nH (gS U) (kB (C:=t.a_4) (pq 5) T.cl_4 T.me_5 q9 hr.mo T.b_5 .nil mC) (nI oK) (nD _)) (jP (nH (gS U) (kB (C:=t.a_4) (pq 5) T.cl_4 T.me_6 g8 hr.mo T.b_6 .nil mC) (nI (oJ (nI oK) oK)) (nD _))))))
   (oO (oW mZ))
   nJ)
   (oM (nK (PW.pt (kN (nH (gS U) (kB (C:=t.a_4) (pq 4) T.cl_4 T.me_5 q9 hr.mo T.b_5 .nil mC) (pq 2) (nD _)) (kN (nH (gS U) (kB (C:=t.a_4) (pq 4) T.cl_4 T.me_2 e8 hr.mo T.b_2 .nil mC) (oX (pq 8)) (nD _)) (jP (nH (gS U) (kB (C:=t.a_4) (pq 4) T.cl_4 T.me_6 g8 hr.mo T.b_6 .nil mC) (oX (pq 8)) (nD _))))))
   (oO (oW mZ))
   nJ)
   (oO (oW (dG (jD (dP U) (pq 6) (oX (pq 8)) (nD _)) (dF (jD (dP U) (pq 7) (oX (pq 8)) (nD _)))))))))))))))))))))),?_⟩
  show tSeq _ _ _ [some (.ref a),none,none,none,none,none,none,none,none,none,none] H;right;refine⟨a,cs,rfl,X,λr l s2 ms aa q5 w1 a6 p0 m3 j0 n2 i7 d8=>?_⟩;have c8:=La cs;have v1:=Mz cs;obtain⟨i0,r5⟩:=At (so:=soF cs) c8;obtain⟨n9,m7⟩:=Eo c8 (jA (ns:=cs) (k:=2));obtain⟨F,m9,e0,d4⟩:=Yj r5 (by rw[i0];exact n9) m7 j0 n2 i7 d8;have i2:dmF cs=famD F.k:=by rw[m9,i0]
  clear d8 n9 m7 i0 r5 m9 j0 n2;refine⟨false,r,_,rfl,SqB.lst a6,rfl,_,_,rfl,_,_,rfl,rfl,?_⟩;have b5:=Paired.mapP m3 λ_ _ z=>DdAt.s z;have A:=cT e0;rw[i2]at c8;clear m3 a6;subst e1;refine st λN1 e1=>Gm λB eB=>?_;refine⟨λm Z H'=>∃(j:Addr)(d:LA)(c:List Dd),Z=[some (.ref a),some (.int (dmF cs:Nat)),some (.ref j),none,none,none,none,none,none,none,none]/\Same q5 H'/\H' j=some (.lst (d.map V.ref))/\Paired (DdS K H') d c/\(∀x∈c,x∈ms)/\c.length<=3/\m=c.length,
   ⟨ms.length,l,s2,ms,rfl,Same.refl _,p0,b5,λ_ h=>h,i7,rfl⟩,?_⟩
  rintro m Z t6 ⟨j,d,c,rfl,g6,d9,a5,sub,p8,rfl⟩;have mo:MsOk (famD F.k) (InG F) c:=⟨λs f4=>Zp e0 (d4 s (sub s f4)),λs f4=>(fK e0 (d4 s (sub s f4))).2.2,⋯⟩;ext;refine⟨famD F.k,j,d,c,InG F,by rw[i2],d9,a5,A,mo,λi4 a2 L=>?_,λg srt a2 L f1 o=>?_⟩
  ·refine iteT ⟨λl2 H'=>∃(j:Addr)(G:LA)(N:List Dd),l2=[some (.ref a),some (.int (dmF cs:Nat)),some (.ref j),none,none,none,none,none,none,none,none]/\Same q5 H'/\H' j=some (.lst (G.map V.ref))/\Paired (DdS K H') G N/\(∀x∈N,x∈ms)/\N.length<c.length,?_,?_⟩
   ·rintro l2 H' ⟨t2,G,N,rfl,k1,k2,k3,u4,k5⟩;exact⟨_,k5,t2,rfl,k1,G,k2,N,k3,u4,⋯,rfl⟩
   subst eB;have b2:=L _ _ d9;have y:=Paired.mapP a5 λ_ _ z=>DdS.up z L;show tAsg _ _ _ [some (.ref a),some (.int (dmF cs:Nat)),some (.ref j),none,none,none,none,none,none,none,none] a2;ext;refine⟨false,j,_,rfl,SqB.lst b2,(by intro z;cases z),λg5 w3=>?_⟩;clear a5
   match c,d,y,i4 with
   |[],_,_,i4=>exact absurd i4 (by rw[rD,Mp];decide)
   |m0:: N,z4:: G,y,_ =>
   rw[show(1:Int)=((1:Nat):Int) from rfl,Zr (by rw[zqe];exact qP (yB _))];have ss:=Same.new (o:=.lst (G.map V.ref)) w3;have x2:(upd a2 g5 (.lst (G.map V.ref))) g5=some (.lst (G.map V.ref)):=oP;exact⟨g5,rfl,(g6.trans L).trans ss,G,x2,N,Paired.mapP (Zq y) λ_ _ z=>DdS.up z ss,λx t5=>sub x (.tail _ t5),vX _⟩
  ·refine iteF ?_;have y5:=o.l;have M:=g6.trans L;have b2:=L _ _ d9;have y:=Paired.mapP a5 λ_ _ z=>DdS.up z L;have x8:∀m∈c,LowU F 300 m:=λm d8=>d4 m (sub m d8);have v7:=w1.trans M;clear a5 d9 g6 L M f1 o srt g B eB d4 sub b5 p0 i7 t6;rw[i2];left;refine⟨false,j,_,rfl,SqB.lst b2,λf g4=>?_⟩;have h6:=Same.new (o:=.lst (d.map V.ref)) g4;have c3:(upd a2 f (.lst (d.map V.ref))) f=some (.lst (d.map V.ref)):=oP;generalize upd a2 f (.lst (d.map V.ref))=z0 at*
   have n1:=Paired.mapP y λ_ _ z=>DdS.up z h6;subst e1;refine st λN1 e1=>?_;simp only[Ak];ext;intro x x3 nx k9 r3;obtain⟨s0,o1⟩:=Ei (C:=t.a_4) nx k9 r3;refine Eh (most:=200) A mo o1 s0 (SqB.lst c3) n1 ∅ ∅ nx (λhl=>absurd hl ⋯) λhl srt c7 g7 f1 q3 o=>⟨rfl,?_⟩;have l0:=q3 f _ c3;clear q3 f1 o1 s0 nx k9 r3 x3;subst e1;refine st λN1 e1=>?_;simp only[Ak];ext;refine⟨yB _,λb6 n0=>?_⟩;have d7:Same c7 (upd c7 b6 (.lst [])):=Same.new n0;have p6:(upd c7 b6 (.lst [])) b6=some (.lst (([]:LA).map V.ref)):=oP;generalize upd c7 b6 (.lst [])=z9 at*
   intro g1 x0 f8 i9 k4;obtain⟨l4,j8⟩:=Ei (C:=t.a_4) f8 i9 k4;have i3:=d7 _ _ (g7 _ _ c3);refine Eh (most:=200) (ms:=[]) A ⟨λ_ h=>(by cases h),λ_ h=>(by cases h),yB _⟩ j8 l4 (SqB.lst p6) .nil ∅ ∅ f8 (λhl=>absurd hl (by rw[rD,Mp];decide)) λ_ w9 a9 d3 _ o0 s6=>⟨rfl,?_⟩;have j2:=o0 f _ i3;clear o0 j8 l4 f8 i9 k4 x0 p6 n0;have f9:=d3 _ _ i3;left;refine⟨tyL f9,f,_,_,rfl,rfl,f9,iH (by rw[zqe,mE y];omega),?_⟩;have c1:Same a2 (upd a9 f (.lst (d.map V.ref++[.int 1]))):=fM ((h6.trans g7).trans (d7.trans d3)) g4;have g9:∀{f0:Hp},Same f0 a9->Same (offH f f0) (upd a9 f (.lst (d.map V.ref++[.int 1]))):=λ{f0}s5 b o e=>by
    unfold offH at e;split at e
    ·cases e
    ·next z=>rw[oT z];exact s5 _ _ e
   have e6:GC K t F (upd a9 f (.lst (d.map V.ref++[.int 1]))) x c srt:=⟨l0.up (g9 (d7.trans d3)),e0,o,x8⟩;have l1:=j2.up (g9 (Same.refl _));generalize upd a9 f (.lst (d.map V.ref++[.int 1]))=s3 at*
   have l6:=v7.trans c1;have q8:=c1 _ _ b2;have r2:=Paired.mapP y λ_ _ z=>DdS.up z c1;clear l0 j2 g9 f9 i3 d3 d7 g7 c3 h6 g4 n1 c1 b2 y;show N1 [some (.ref a),some (.int (famD F.k:Nat)),some (.ref j),some (.ref f),some (.ref x),some (.ref g1),none,none,none,none,none] s3;have h9:=o.len;left;simp only[lF];ext;refine cV e6.f λa4 W y8 f6 _ p3 m5=>?_;have r6:=Ej m5;clear m5;left;simp only[lF];ext;refine cW (e6.up f6).f h9 λc0 i6 b8 i1=>?_;obtain⟨_,w2,b7,o6⟩:=i1;have e9:Paired (λp(w:List Nat)=>i6 p=some (.lst (wV w))) w2 (srt.map (·.2)):=Paired.mapP o6 λ_ _ z=>z.2.2;clear o6;have h2:=Paired.mapP r6 λ_ _ z=>DdS.up z b8;have i5:=b8 _ _ p3;left;refine⟨false,a4,_,rfl,SqB.lst i5,λv o9=>?_⟩;have b1:=Same.new (o:=.lst (W.map V.ref)) o9;have r1:(upd i6 v (.lst (W.map V.ref))) v=some (.lst (W.map V.ref)):=oP;generalize upd i6 v (.lst (W.map V.ref))=y4 at*
   exfalso;refine⟨false,⟨_,SqB.lst (b1 _ _ b7)⟩,λb0 p9=>?_⟩;subst eB;refine Dk p9 (b1 _ _ b7) (Paired.mapP e9 λ_ _ z=>b1 _ _ z) (by rw[zqe];omega) λm4 f2 i1=>?_;obtain⟨_,z5,j9,l7⟩:=i1;refine⟨by show 2<=sizeLine;decide,λhh q7=>?_⟩;have M:=Same.new (o:=.lst [V.ref v,.ref b0]) q7;have c9:(upd m4 hh (.lst [V.ref v,.ref b0])) hh=some (.lst [V.ref v,.ref b0]):=oP;generalize upd m4 hh (.lst [V.ref v,.ref b0])=a1 at*
   have R:=(b1.trans f2).trans M;have a0:=(f6.trans b8).trans R;have h0:=e6.up a0;have h8:Dt K a1 (.ref a4) (dlD (srt.map (·.1))):=jN (R _ _ i5) (Paired.mapP h2 λ_ _ z=>DdS.up z R);have h7:Dt K a1 (.ref c0) (wlD (srt.map (·.2))):=fL (R _ _ b7) (Paired.mapP e9 λ_ _ z=>R _ _ z);have e5:a1 v=some (.lst (W.map V.ref)):=M _ _ (f2 _ _ r1);have d6:=Paired.mapP h2 λ_ _ z=>DdS.up z R;have d0:Dt K a1 (.ref v) (dlD (srt.map (·.1))):=jN e5 d6;have g0:Dt K a1 (.ref b0) (wlD (srt.map (·.2))):=fL (M _ _ j9) (Paired.mapP l7 λ_ _ z=>M _ _ z.2.2);have n3:Dt K a1 (.ref hh) (two (dlD (srt.map (·.1))) (wlD (srt.map (·.2)))):=.lst (SqL.of c9) (.cons d0 (.cons g0 .nil));have p2:=l6.trans a0;have q2:=a0 _ _ q8;have k0:=Paired.mapP r2 λ_ _ z=>DdS.up z a0;have j3:=l1.up a0;clear l7 j9 q7 p9 o9 r1 M f2 b1 b7 e9 h2 i5 R a0 e6 l1 r2 q8 l6 b8 f6 r6 p3;left;refine⟨x,a4,c0,hh,F,c,srt,rfl,h0,p8,h8,h7,n3,λy6 a8=>⟨_,rfl,iteF ?_⟩⟩;left;refine⟨false,hh,_,_,_,rfl,rfl,SqB.lst (a8 _ _ c9),rfl,?_⟩;refine⟨v,W,srt,rfl,a8 _ _ e5,Paired.mapP d6 λ_ _ z=>DdS.up z a8,o.nd,h9,λa7 s4 m2 D=>?_⟩;have k:=a8.trans m2;have b4:=h0.up k;have q0:=Dt.same k h8;have j5:=Dt.same k h7;have k6:=Dt.same k d0;have q4:=Dt.same k g0;have h4:=k _ _ c9;have n8:=k _ _ e5;have o7:=Paired.mapP d6 λ_ _ z=>DdS.up z k;have h3:=k _ _ q2;have h5:=Paired.mapP k0 λ_ _ z=>DdS.up z k;have l8:=j3.up k;have Y:=p2.trans k;clear h0 h8 h7 d0 g0 n3 c9 e5 d6 q2 k0 j3 p2 k a8 m2;left;refine⟨x,j,a7,a,F,d,c,srt,cs,famD F.k,rfl,rfl,b4,h3,h5,p8,D,jB X Y,w8,λz2 o4=>⟨_,rfl,iteF ?_⟩⟩;subst e1;refine st λN1 e1=>mT λB eB=>?_;simp only[Fu];simp only[nF,tNil,tC];refine⟨13,17,rfl,⟨∅,∅,∅,∅⟩,?_⟩;rw[show((17:Int)-13).toNat=4 from rfl];refine iM (g:=nB 10) (tb:=B) (λi Z a3=>∃f3,Z=[some (.ref a),some (.int (famD F.k:Nat)),some (.ref j),some (.ref f),some (.ref x),some (.ref g1),some (.ref a4),some (.ref c0),some (.ref hh),some (.ref a7),f3]/\Same s4 a3) ⟨none,rfl,o4⟩ ?_ ?_
   ·rintro i Z a3 hi ⟨f3,rfl,n⟩;subst eB;show tIfS _ _ _ _ [some (.ref a),some (.int (famD F.k:Nat)),some (.ref j),some (.ref f),some (.ref x),some (.ref g1),some (.ref a4),some (.ref c0),some (.ref hh),some (.ref a7),some (.int (13+(i:Int)))] a3;ext;refine⟨false,hh,_,_,_,rfl,rfl,SqB.lst (n _ _ h4),rfl,?_⟩;refine⟨a,cs,13+i,rfl,jB X (Y.trans n),⋯,λx1 t3 d1 v0 x6=>?_⟩;refine⟨x,v,a7,x1,F,W,c,srt,_,100*(13+i),a3,rfl,d1,v0,b4.up n,n _ _ n8,Paired.mapP o7 λ_ _ z=>DdS.up z n,D.up n,x6,jA,⋯,λt1 d5=>⟨_,rfl,iteF ?_⟩⟩;exact n.trans d5
   ·rintro Z a3 ⟨f3,rfl,n⟩;clear o4 B eB;left;refine⟨a,cs,rfl,jB X (Y.trans n),λr t3 d1 a6=>?_⟩;refine⟨false,r,_,_,_,rfl,rfl,SqB.lst a6,rfl,?_⟩;have f5:=n.trans d1;refine⟨a,cs,famD F.k,rfl,jB X (Y.trans f5),c8,λq l S u t1 d5 p7 n7 n4 r8 r0 j6=>?_⟩;have b3:=f5.trans d5;refine⟨x,a7,a,q,l,F,c,srt,cs,S,famD F.k,u,soF cs,rfl,rfl,b4.up b3,D.up b3,jB X (Y.trans b3),p7,n7,n4,r8,r0,j6,v1,λab j1=>⟨_,rfl,iteF ?_⟩⟩;have C:=b3.trans j1;have p1:=b4.up C;have e7:=l8.up C;have j7:=C _ _ h3;have m8:=Paired.mapP h5 λ_ _ z=>DdS.up z C;have l9:=C _ _ h4;have n6:=Dt.same C q0;have p4:=Dt.same C j5;have m1:=Dt.same C k6;have l5:=Dt.same C q4;clear b4 l8 h3 h5 h4 q0 j5 k6 q4 C j1 b3 d5 f5 d1 n a6 p7 n7 n4 r8 r0 j6 o7 n8 D Y;have w6:w9=[(nE (famD F.k),[])]:=by
     have q1:=s6.p;have v9:tab (famD F.k) (([]:List Dd).map oV) 201=[(nE (famD F.k),[])]:=rfl;rw[v9]at q1;exact List.perm_singleton.mp q1
    subst w6;left;simp only[lF];ext;refine cV e7 λv6 t7 z7 g3 _ l3 o3=>?_;refine⟨false,v6,_,rfl,SqB.lst l3,?_⟩;have u8:t7.length=1:=mE o3;rw[zqe,u8]
    try ext
    refine iteF ?_;refine Ap (e7.up g3) λt8 w7 c4 m6 _ d2 e4=>⟨yB _,λe3 b5=>?_⟩;have b9:Same c4 (upd c4 e3 (.lst [])):=Same.new b5;have o2:(upd c4 e3 (.lst [])) e3=some (.lst (([]:LA).map V.ref)):=oP;generalize upd c4 e3 (.lst [])=y9 at*
    refine Mt (b9 _ _ d2) (Paired.mapP e4 λ_ _ z=>DdS.up z b9) o2 .nil rfl ⟨_,rfl,iteF ?_⟩;have h1:=(g3.trans m6).trans b9;refine cW (e7.up h1) (by show 1<=200;decide) λz6 n5 r7 t4=>⟨yB _,λO o5=>⟨by show 1<=sizeLine;decide,λf7 y=>?_⟩⟩;obtain⟨_,y0,k8,o8⟩:=t4;have r9:=Same.new (o:=.lst []) o5;have q6:(upd n5 O (.lst [])) O=some (.lst (wV [])):=oP;generalize upd n5 O (.lst [])=r4 at*
    have g2:=Same.new (o:=.lst [V.ref O]) y;have p5:(upd r4 f7 (.lst [V.ref O])) f7=some (.lst ([O].map V.ref)):=oP;generalize upd r4 f7 (.lst [V.ref O])=y7 at*
    have c2:=r9.trans g2;refine fX 5 ∅ (fL (K:=K) (c2 _ _ k8) (Paired.mapP o8 λ_ _ z=>c2 _ _ z.2.2)) (fL (K:=K) (W:=[[]]) p5 (.cons (g2 _ _ q6) .nil)) (jO _) (jO _) (b:=true) (by simp) ⟨_,rfl,iteF ?_⟩;have I:=(h1.trans r7).trans c2;have i8:=p1.up I;have v8:=I _ _ j7;have v4:=Paired.mapP m8 λ_ _ z=>DdS.up z I;have c6:=I _ _ l9;have x9:=Dt.same I n6;have u0:=Dt.same I p4;have k7:=Dt.same I m1;have s1:=Dt.same I l5;clear p1 e7 j7 m8 l9 n6 p4 m1 l5 I c2 g2 r9 p5 q6 y o5 k8 o8 r7 h1 b9 m6 g3 o2 b5 d2 e4 l3 o3;left;simp only[lF];ext;refine Ap i8.f λt8 w7 ad c5 _ d2 e4=>?_;refine Mt d2 e4 (c5 _ _ v8) (Paired.mapP v4 λ_ _ z=>DdS.up z c5) rfl ⟨_,rfl,iteF ?_⟩;refine cV (i8.up c5).f λz1 z8 z3 w4 _ w5 t0=>?_;have e2:=c5.trans w4;refine⟨false,hh,_,_,_,rfl,rfl,SqB.lst (e2 _ _ c6),rfl,?_⟩;refine fX 5 ∅ (jN (K:=K) w5 (Ej t0)) (Dt.same e2 k7) (lI _) (lI _) (b:=true) (by simp) ⟨_,rfl,iteF ?_⟩;refine cW (i8.up e2).f h9 λy1 v5 u3 u9=>?_;obtain⟨_,y3,s7,t9⟩:=u9;have J:=e2.trans u3;refine⟨false,hh,_,_,_,rfl,rfl,SqB.lst (J _ _ c6),rfl,?_⟩;refine fX 5 ∅ (fL (K:=K) s7 (Paired.mapP t9 λ_ _ z=>z.2.2)) (Dt.same J s1) (jO _) (jO _) (b:=true) (by simp) ⟨_,rfl,iteF ?_⟩;symm;refine⟨false,hh,_,_,_,rfl,rfl,SqB.lst (J _ _ c6),rfl,?_⟩;refine dX 5 ∅ (Dt.same J x9) (Dt.same J k7) (lI _) (lI _) (b:=true) (by simp) ?_;refine⟨true,rfl,iteT ⟨false,hh,_,_,_,rfl,rfl,SqB.lst (J _ _ c6),rfl,?_⟩⟩;exact dX 5 ∅ (Dt.same J u0) (Dt.same J s1) (jO _) (jO _) (b:=true) (by simp) (s9 v5)
end
theorem us1{a:Type}{us:List a}(h:us.length=1):∃a0,us=[a0]:=match us,h with|[a0],_=>⟨a0,rfl⟩
theorem us2{b:Type}{us:List b}(h:us.length=2):∃a0 a,us=[a0,a]:=match us,h with|[a0,a],_=>⟨a0,a,rfl⟩
theorem us3{c:Type}{us:List c}(h:us.length=3):∃a0 a b,us=[a0,a,b]:=match us,h with|[a0,a,b],_=>⟨a0,a,b,rfl⟩
theorem us4{d:Type}{us:List d}(h:us.length=4):∃a0 b a c,us=[a0,b,a,c]:=match us,h with|[a0,b,a,c],_=>⟨a0,b,a,c,rfl⟩
theorem us5{e:Type}{us:List e}(h:us.length=5):∃a0 b d c a,us=[a0,b,d,c,a]:=match us,h with|[a0,b,d,c,a],_=>⟨a0,b,d,c,a,rfl⟩
theorem us6{f:Type}{us:List f}(h:us.length=6):∃a0 c b e a d,us=[a0,c,b,e,a,d]:=match us,h with|[a0,c,b,e,a,d],_=>⟨a0,c,b,e,a,d,rfl⟩
abbrev caG(K:Frag)(C:Addr):Prop:=findIn K (.ref C) "__class__"=some (some (.builtin "object.__class__"))
abbrev nG(K:Frag)(x:Str)(f:Addr):Prop:=nsIn K mainGlobals x=some (some (.ref f))
local macro_rules | `(tactic| walk_at "1")=>`(tactic| (intro _ _ _ _ _ _ us hl; obtain ⟨_,hh⟩:=us1 hl; subst hh; rfl))
local macro_rules | `(tactic| walk_at "2")=>`(tactic| (intro _ _ _ _ _ _ us hl; obtain ⟨_,_,hh⟩:=us2 hl; subst hh; rfl))
local macro_rules | `(tactic| walk_at "3")=>`(tactic| (intro _ _ _ _ _ _ us hl; obtain ⟨_,_,_,hh⟩:=us3 hl; subst hh; rfl))
theorem txt_mk{K:Frag}{h:Heap}{e9:MT}(X:K.In h)(a:h.Ns mainGlobals e9)
  {b5 c1 o c d7 b C i c2 b2 t T b4 a1 a8 a5 D V z c0 G U L b9 P b0 M c3 q c4 f e j l k g a3 b1 a2 u Y a0 a6 Z b8 b6 I p S N n a4 b7 J r R w x W m a9 y a7:Addr}{r7 u1 l5 t3 u7 u8 m5 q2 u5 o0 y2 v8 w5 p6 m0 i8 r9 m7 s2 p9 af p1 n8 i6 n4 q3 w1 y9 z0 j4 m8 z7 m2 v0 k8 j8 p0 x7 u4 v9 z8 t7 r6 w7 t1 j5 x6 n7 x4 r2 z1 p2 m9 u9 r4 u2 j0:FuncData}
  {d:Addr}{w6 o5:Option Addr}{z3:Array (Option Value)}{y0 o2 q4 s1 i0 l0:Value}
  {g9:Addr}{w2:Value}{ac:Option Addr}{s8:Nat}{k4:Array (Option Value)}{F:Tok}
  {aa:Tok}
  (s7:nG K "CrystalError" b5)
  (m4:nG K "NoPlace" c1)
  (s5:nG K "NoDeed" o)
  (x5:nG K "TooMany" c)
  (x0:nG K "NoNumber" d7)
  (j2:nG K "Group" b)
  (l6:nG K "copied" C)
  (d3:Fun K "copied" "copied" s_1c C r7)
  (ak:findIn K (.ref c) "__init__"=some (some (.ref i)))
  (h1:Fun K "__init__" "TooMany.__init__" s_7 i u1)
  (s3:nG K "divisor" c2)
  (i2:Fun K "divisor" "divisor" s_18 c2 l5)
  (l9:nG K "place" b2)
  (e7:Fun K "place" "place" s_19 b2 t3)
  (m6:nG K "rest_place" t)
  (f5:Fun K "rest_place" "rest_place" aK t u7)
  (y8:nG K "still_rows" T)
  (d0:Fun K "still_rows" "still_rows" aL T u8)
  (z4:nG K "dot" b4)
  (c6:Fun K "dot" "dot" s_1n b4 m5)
  (j9:nG K "turned" a1)
  (d1:Fun K "turned" "turned" s_1e a1 q2)
  (t6:nG K "without" a8)
  (h5:Fun K "without" "without" s_16 a8 u5)
  (n5:nG K "determinant" a5)
  (f9:Fun K "determinant" "determinant" s_3 a5 o0)
  (k7:nG K "cofactor" D)
  (h6:Fun K "cofactor" "cofactor" s_13 D y2)
  (z9:nG K "crossed" V)
  (c7:Fun K "crossed" "crossed" s_1a V v8)
  (n6:nG K "scaled" z)
  (g8:Fun K "scaled" "scaled" s_1f z w5)
  (ad:nG K "inverse" c0)
  (h8:Fun K "inverse" "inverse" s_1d c0 p6)
  (r1:nG K "joined" G)
  (d8:Fun K "joined" "joined" s_14 G m0)
  (r3:nG K "deed" U)
  (d6:Fun K "deed" "deed" s_1k U i8)
  (t2:nG K "still" L)
  (g3:Fun K "still" "still" s_1h L r9)
  (k2:nG K "moved" b9)
  (h3:Fun K "moved" "moved" s_1g b9 m7)
  (t4:nG K "behind" P)
  (f7:Fun K "behind" "behind" s_1b P s2)
  (y3:nG K "back" b0)
  (e8:Fun K "back" "back" s_1l b0 p9)
  (j6:nG K "rest" M)
  (h7:Fun K "rest" "rest" s_1j M af)
  (s9:nG K "check_most" c3)
  (g4:Fun K "check_most" "check_most" Cp c3 p1)
  (l1:nG K "check_axes" q)
  (h2:Fun K "check_axes" "check_axes" Co q n8)
  (k1:nG K "closed" c4)
  (f8:Fun K "closed" "closed" s_15 c4 i6)
  (am:findIn K (.ref b) "__init__"=some (some (.ref d)))
  (n0:K.lookup d=some ⟨y0,w6,.func (fnOf "__init__" "Group.__init__" (jR s_0) (kH s_0) (oR s_0) (.ref g9) o2 q4 s1 o5 i0 l0),z3⟩)
  (k0:K.lookup g9=some ⟨w2,ac,.seq #[.int 200 F] s8,k4⟩)
  (p8:codeIn K i0 "Group.__init__"=true)
  (v4:keepIn K (.ref d)=true)
  (aj:findIn K (.ref b) "makers"=some (some (.ref f)))
  (g2:Fun K "makers" "Group.makers" s_5 f n4)
  (ah:findIn K (.ref b) "members"=some (some (.ref e)))
  (e6:Fun K "members" "Group.members" s_2 e q3)
  (ao:findIn K (.ref b) "words"=some (some (.ref j)))
  (d2:Fun K "words" "Group.words" s_6 j w1)
  (ai:findIn K (.ref b) "at"=some (some (.ref l)))
  (e3:Fun K "at" "Group.at" Cn l y9)
  (al:findIn K (.ref b) "product"=some (some (.ref k)))
  (f3:Fun K "product" "Group.product" s_9 k z0)
  (an:findIn K (.ref b) "back_of"=some (some (.ref g)))
  (f0:Fun K "back_of" "Group.back_of" s_8 g j4)
  (y7:nG K "_law_box" a3)
  (e2:Fun K "_law_box" "_law_box" Cm a3 m8)
  (x3:nG K "_law_take" b1)
  (c9:Fun K "_law_take" "_law_take" s_1 b1 z7)
  (o4:nG K "_law_whole" a2)
  (d5:Fun K "_law_whole" "_law_whole" Cl a2 m2)
  (z6:nG K "_law_common" u)
  (c8:Fun K "_law_common" "_law_common" Ck u v0)
  (x1:nG K "_law_still" Y)
  (i5:Fun K "_law_still" "_law_still" aM Y k8)
  (s4:nG K "_law_times" a0)
  (g7:Fun K "_law_times" "_law_times" aN a0 j8)
  (j1:nG K "_law_sixty" a6)
  (e4:Fun K "_law_sixty" "_law_sixty" Cj a6 p0)
  (j7:nG K "_law_signed" Z)
  (f4:Fun K "_law_signed" "_law_signed" aO Z x7)
  (t0:nG K "_law_rows" b8)
  (g0:Fun K "_law_rows" "_law_rows" s_17 b8 u4)
  (l4:nG K "_law_based" b6)
  (g5:Fun K "_law_based" "_law_based" aP b6 v9)
  (v7:nG K "_law_rest" I)
  (e0:Fun K "_law_rest" "_law_rest" s_11 I z8)
  (ag:nG K "_law_low" p)
  (f6:Fun K "_law_low" "_law_low" cJ p t7)
  (u3:nG K "_law_maker" S)
  (h0:Fun K "_law_maker" "_law_maker" aQ S r6)
  (v6:nG K "_law_spot" N)
  (i1:Fun K "_law_spot" "_law_spot" aR N w7)
  (l8:nG K "_law_sort" n)
  (d4:Fun K "_law_sort" "_law_sort" s_12 n t1)
  (x8:nG K "_law_makers" a4)
  (d9:Fun K "_law_makers" "_law_makers" aS a4 j5)
  (q7:nG K "_law_behind" b7)
  (c5:Fun K "_law_behind" "_law_behind" aT b7 x6)
  (o3:nG K "_law_rested" J)
  (g6:Fun K "_law_rested" "_law_rested" Ci J n7)
  (o1:nG K "_law_group" r)
  (i4:Fun K "_law_group" "_law_group" s_10 r x4)
  (w0:nG K "_law_numbered" R)
  (h9:Fun K "_law_numbered" "_law_numbered" Cg R r2)
  (o8:nG K "_law_right" w)
  (e5:Fun K "_law_right" "_law_right" Cf w z1)
  (i7:nG K "_law_pair" x)
  (f1:Fun K "_law_pair" "_law_pair" Ce x p2)
  (q9:nG K "_law_walked" W)
  (f2:Fun K "_law_walked" "_law_walked" Cd W m9)
  (t8:nG K "_law_any_two" m)
  (g1:Fun K "_law_any_two" "_law_any_two" Cc m u9)
  (n3:nG K "_law_changed" a9)
  (h4:Fun K "_law_changed" "_law_changed" aU a9 r4)
  (ab:nG K "_law_others" y)
  (i3:Fun K "_law_others" "_law_others" Cb y u2)
  (w4:nG K "law" a7)
  (b3:Fun K "law" "law" s_1o a7 j0)
  (v5:nsIn K mainGlobals "MOST_MEMBERS"=some (some (.int 200 aa)))
  (u0:nsIn K mainGlobals "sum"=some none)
  (s6:nsIn K mainGlobals "zip"=some none)
  (q0:nsIn K mainGlobals "enumerate"=some none)
  (o9:nsIn K mainGlobals "range"=some none)
  (v1:nsIn K mainGlobals "len"=some none)
  (r8:nsIn K mainGlobals "abs"=some none)
  (k3:nsIn K mainGlobals "isinstance"=some none)
  (z2:nsIn K mainGlobals "int"=some none)
  (q6:nsIn K mainGlobals "bool"=some none)
  (l2:nsIn K mainGlobals "list"=some none)
  (k5:nsIn K mainGlobals "tuple"=some none)
  (x9:nsIn K mainGlobals "sorted"=some none)
  (r5:nsIn K mainGlobals "dict"=some none)
  (x2:nsIn K mainGlobals "any"=some none)
  (q8:kitOne K (.type "list") (.type "list")=some true)
  (q1:PySem.W.excIn K c1 [.type "ValueError",.type "Exception",.type "BaseException",.type "object"] "ValueError.__new__"=true)
  (l3:PySem.W.excIn K o [.type "ValueError",.type "Exception",.type "BaseException",.type "object"] "ValueError.__new__"=true)
  (o7:L2.Cls K b)
  (y6:L2.Mk K b d)
  (u6:L2.Meth K b "members" e)
  (w3:findIn K (.ref b) "dimension"=some none)
  (n9:findIn K (.ref b) "given"=some none)
  (q5:findIn K (.ref b) "ordered"=some none)
  (n1:findIn K (.ref b) "shortest"=some none)
  (k9:findIn K (.ref b) "numbers"=some none)
  (m3:L2.Meth K b "makers" f)
  (s0:L2.Meth K b "words" j)
  (t9:kitOne K (.type "int") (.type "list")=some false)
  (p3:kitOne K (.type "int") (.type "tuple")=some false)
  (n2:L2.XIn K c b5 i)
  (p5:L2.XSt K c "apart")
  (k6:PySem.W.exmOne K (.ref c) (.ref c)=some true)
  (w9:L2.Meth K b "at" l)
  (p4:L2.Meth K b "product" k)
  (r0:L2.Meth K b "back_of" g)
  (w8:kitOne K (.type "tuple") (.type "tuple")=some true)
  (ae:kitOne K (.type "int") (.type "bool")=some false)
  (y5:kitOne K (.type "int") (.type "int")=some true)
  :∃y4,Txt K e9 y4:=by
 have z5:=h1.binds (ps:=pu') (by walk_at "2");have O:=Uu (st:=s_0) (ds:=[.int 200 F]) n0 p8 v4 k0;have p7:=O.bindsA (ps:=pm') λ_ _ _ _ _ _ _ us hl=>by obtain⟨_,_,_,_,rfl⟩:=us4 hl;exact⟨_,rfl,rfl⟩
 have o6:=O.binds (ps:=pm') λ_ _ _ _ _ _ _ us hl=>by obtain⟨_,_,_,rfl⟩:=us3 (qQ hl);exact⟨_,rfl,rfl⟩
 have i9:=g2.binds (ps:=pF') (by walk_at "1");have t5:=e6.binds (ps:=pF') (by walk_at "1");have j3:=d2.binds (ps:=pF') (by walk_at "1");have l7:=e3.binds (ps:=pB') (by walk_at "2");have y1:=f3.binds (ps:=px') (by walk_at "3");have m1:=f0.binds (ps:=pD') (by walk_at "2");obtain⟨_,_,_,_,_,_,_,_,_,rfl,_,_⟩:=id b3.ex;exact⟨⟨C,i,c2,b2,t,T,b4,a1,a8,a5,D,V,z,c0,G,U,L,b9,P,b0,M,c3,q,c4,d,f,e,j,l,k,g,a3,b1,a2,u,Y,a0,a6,Z,b8,b6,I,p,S,N,n,a4,b7,J,r,R,w,x,W,m,a9,y,a7,_,_,_,_,_,_,_,_,_,_,_,_,_,_,_,_,_,_,_,_,_,_,_,_,_,_,_,_,_,_,_,_,_,_,_,_,_,_,_,_,_,_,_,_,_,_,_,_,_,_,_,_,_,_,_,_,_,_,b5,c1,o,c,d7,b,F⟩,⟨⟨d3,yP X a l6,d3.binds (λ_ _ _ _ _ _ us hl=>by obtain⟨_,rfl⟩:=us1 hl;rfl)⟩,h1,z5,⟨i2,yP X a s3,i2.binds (λ_ _ _ _ _ _ us hl=>by obtain⟨_,_,rfl⟩:=us2 hl;rfl)⟩,⟨e7,yP X a l9,e7.binds (λ_ _ _ _ _ _ us hl=>by obtain⟨_,_,rfl⟩:=us2 hl;rfl)⟩,⟨f5,yP X a m6,f5.binds (λ_ _ _ _ _ _ us hl=>by obtain⟨_,rfl⟩:=us1 hl;rfl)⟩,⟨d0,yP X a y8,d0.binds (λ_ _ _ _ _ _ us hl=>by obtain⟨_,rfl⟩:=us1 hl;rfl)⟩,⟨c6,yP X a z4,c6.binds (λ_ _ _ _ _ _ us hl=>by obtain⟨_,_,rfl⟩:=us2 hl;rfl)⟩,⟨d1,yP X a j9,d1.binds (λ_ _ _ _ _ _ us hl=>by obtain⟨_,rfl⟩:=us1 hl;rfl)⟩,⟨h5,yP X a t6,h5.binds (λ_ _ _ _ _ _ us hl=>by obtain⟨_,_,_,rfl⟩:=us3 hl;rfl)⟩,⟨f9,yP X a n5,f9.binds (λ_ _ _ _ _ _ us hl=>by obtain⟨_,rfl⟩:=us1 hl;rfl)⟩,⟨h6,yP X a k7,h6.binds (λ_ _ _ _ _ _ us hl=>by obtain⟨_,_,_,rfl⟩:=us3 hl;rfl)⟩,⟨c7,yP X a z9,c7.binds (λ_ _ _ _ _ _ us hl=>by obtain⟨_,rfl⟩:=us1 hl;rfl)⟩,⟨g8,yP X a n6,g8.binds (λ_ _ _ _ _ _ us hl=>by obtain⟨_,_,rfl⟩:=us2 hl;rfl)⟩,⟨h8,yP X a ad,h8.binds (λ_ _ _ _ _ _ us hl=>by obtain⟨_,rfl⟩:=us1 hl;rfl)⟩,⟨d8,yP X a r1,d8.binds (λ_ _ _ _ _ _ us hl=>by obtain⟨_,_,rfl⟩:=us2 hl;rfl)⟩,⟨d6,yP X a r3,d6.binds (λ_ _ _ _ _ _ us hl=>by obtain⟨_,_,_,rfl⟩:=us3 hl;rfl)⟩,⟨g3,yP X a t2,g3.binds (λ_ _ _ _ _ _ us hl=>by obtain⟨_,rfl⟩:=us1 hl;rfl)⟩,⟨h3,yP X a k2,h3.binds (λ_ _ _ _ _ _ us hl=>by obtain⟨_,_,rfl⟩:=us2 hl;rfl)⟩,⟨f7,yP X a t4,f7.binds (λ_ _ _ _ _ _ us hl=>by obtain⟨_,_,rfl⟩:=us2 hl;rfl)⟩,⟨e8,yP X a y3,e8.binds (λ_ _ _ _ _ _ us hl=>by obtain⟨_,rfl⟩:=us1 hl;rfl)⟩,⟨h7,yP X a j6,h7.binds (λ_ _ _ _ _ _ us hl=>by obtain⟨_,rfl⟩:=us1 hl;rfl)⟩,⟨g4,yP X a s9,g4.binds (λ_ _ _ _ _ _ us hl=>by obtain⟨_,rfl⟩:=us1 hl;rfl)⟩,⟨h2,yP X a l1,h2.binds (λ_ _ _ _ _ _ us hl=>by obtain⟨_,_,rfl⟩:=us2 hl;rfl)⟩,⟨f8,yP X a k1,f8.binds (λ_ _ _ _ _ _ us hl=>by obtain⟨_,_,_,rfl⟩:=us3 hl;rfl)⟩,O,o6,p7,g2,i9,e6,t5,d2,j3,e3,l7,f3,y1,f0,m1,⟨e2,yP X a y7,e2.binds (λ_ _ _ _ _ _ us hl=>by obtain⟨_,_,rfl⟩:=us2 hl;rfl)⟩,⟨c9,yP X a x3,c9.binds (λ_ _ _ _ _ _ us hl=>by obtain⟨_,_,rfl⟩:=us2 hl;rfl)⟩,⟨d5,yP X a o4,d5.binds (λ_ _ _ _ _ _ us hl=>by obtain⟨_,rfl⟩:=us1 hl;rfl)⟩,⟨c8,yP X a z6,c8.binds (λ_ _ _ _ _ _ us hl=>by obtain⟨_,_,rfl⟩:=us2 hl;rfl)⟩,⟨i5,yP X a x1,i5.binds (λ_ _ _ _ _ _ us hl=>by obtain⟨_,rfl⟩:=us1 hl;rfl)⟩,⟨g7,yP X a s4,g7.binds (λ_ _ _ _ _ _ us hl=>by obtain⟨_,_,rfl⟩:=us2 hl;rfl)⟩,⟨e4,yP X a j1,e4.binds (λ_ _ _ _ _ _ us hl=>by obtain⟨_,_,rfl⟩:=us2 hl;rfl)⟩,⟨f4,yP X a j7,f4.binds (λ_ _ _ _ _ _ us hl=>by obtain⟨_,_,rfl⟩:=us2 hl;rfl)⟩,⟨g0,yP X a t0,g0.binds (λ_ _ _ _ _ _ us hl=>by obtain⟨_,_,_,rfl⟩:=us3 hl;rfl)⟩,⟨g5,yP X a l4,g5.binds (λ_ _ _ _ _ _ us hl=>by obtain⟨_,_,rfl⟩:=us2 hl;rfl)⟩,⟨e0,yP X a v7,e0.binds (λ_ _ _ _ _ _ us hl=>by obtain⟨_,_,_,rfl⟩:=us3 hl;rfl)⟩,⟨f6,yP X a ag,f6.binds (λ_ _ _ _ _ _ us hl=>by obtain⟨_,_,_,rfl⟩:=us3 hl;rfl)⟩,⟨h0,yP X a u3,h0.binds (λ_ _ _ _ _ _ us hl=>by obtain⟨_,_,_,_,_,rfl⟩:=us5 hl;rfl)⟩,⟨i1,yP X a v6,i1.binds (λ_ _ _ _ _ _ us hl=>by obtain⟨_,_,rfl⟩:=us2 hl;rfl)⟩,⟨d4,yP X a l8,d4.binds (λ_ _ _ _ _ _ us hl=>by obtain⟨_,rfl⟩:=us1 hl;rfl)⟩,⟨d9,yP X a x8,d9.binds (λ_ _ _ _ _ _ us hl=>by obtain⟨_,rfl⟩:=us1 hl;rfl)⟩,⟨c5,yP X a q7,c5.binds (λ_ _ _ _ _ _ us hl=>by obtain⟨_,_,rfl⟩:=us2 hl;rfl)⟩,⟨g6,yP X a o3,g6.binds (λ_ _ _ _ _ _ us hl=>by obtain⟨_,rfl⟩:=us1 hl;rfl)⟩,⟨i4,yP X a o1,i4.binds (λ_ _ _ _ _ _ us hl=>by obtain⟨_,_,rfl⟩:=us2 hl;rfl)⟩,⟨h9,yP X a w0,h9.binds (λ_ _ _ _ _ _ us hl=>by obtain⟨_,rfl⟩:=us1 hl;rfl)⟩,⟨e5,yP X a o8,e5.binds (λ_ _ _ _ _ _ us hl=>by obtain⟨_,_,_,rfl⟩:=us3 hl;rfl)⟩,⟨f1,yP X a i7,f1.binds (λ_ _ _ _ _ _ us hl=>by obtain⟨_,_,_,_,rfl⟩:=us4 hl;rfl)⟩,⟨f2,yP X a q9,f2.binds (λ_ _ _ _ _ _ us hl=>by obtain⟨_,_,_,_,_,rfl⟩:=us5 hl;rfl)⟩,⟨g1,yP X a t8,g1.binds (λ_ _ _ _ _ _ us hl=>by obtain⟨_,_,_,_,rfl⟩:=us4 hl;rfl)⟩,⟨h4,yP X a n3,h4.binds (λ_ _ _ _ _ _ us hl=>by obtain⟨_,_,_,_,rfl⟩:=us4 hl;rfl)⟩,⟨i3,yP X a ab,i3.binds (λ_ _ _ _ _ _ us hl=>by obtain⟨_,_,_,_,_,_,rfl⟩:=us6 hl;rfl)⟩,⟨b3,yP X a w4,b3.binds (λ_ _ _ _ _ _ us hl=>by obtain⟨_,rfl⟩:=us1 hl;rfl)⟩,yV X a u0,yV X a s6,yV X a q0,yV X a o9,yV X a v1,yV X a r8,yV X a k3,yV X a z2,yV X a q6,yV X a l2,yV X a k5,yV X a x9,yV X a r5,yV X a x2,yP X a s7,yP X a m4,yP X a s5,yP X a x5,yP X a x0,yP X a j2,⟨_,yP X a v5,_,rfl⟩,q8,q1,l3,o7,y6,u6,w3,n9,q5,n1,k9,m3,s0,t9,p3,n2,p5,k6,w9,p4,r0,w8,ae,y5,λs v=>.of_eq rfl⟩⟩
end Cw
end
open PySem PySem.W PyProof.Rows
/-! Names that the head would else lay equations under: the proof wants none of them. -/
namespace PySem.W.Fast
local macro_rules|`(command|include $x)=>`(def $x:ident:=Nat)|`(command|include $x $y $z*)=>`(def $x:ident:=Nat
include $y $z*)
include tw203270232411559073 tw10150623370950096999 tw6499618847664459987 tw16266459187965152730 tw10687354545809035202 tw13701416639070301083 tw10782653751155193164 tw3929488755112046965 tw7034677210396194628 tw2234166998245380620 tw13761399324255047889 tw6038857302899401277 tw3896829652556142197 tw6252898311398773370 tw2254881041880060523 tw15765918296894324858 tw9440408583413562505 tw9582613467214605250 tw605840509936178534 tw3311466228342285192 tw17883569160422563910 tw13651281998758374911 tw5674828347472951724 tw334582457225130241 tw10026545420886237778 tw6239066264407386741 tw1432976701703370537 tw7471788926659844234 tw7407383467912602962 tw1380438894338683409 tw3085812938935215749 tw11576417648454275410 tw16965011473312281949 tw14650763456169767009 tw11176844202658925288 tw8676809493804839315 tw4549745140325317063 tw5081231556328825214 tw17807007937510629000 tw16291295602033411242 tw12599286573895263589 tw12110098752259007348 tw17324776515960716918 tw9547217655135253718 tw7028660262884495008 tw16092184127816920908 tw1609211260900190447 tw11210649698386595131 tw4049359032449216661 tw16112782336688575875 tw13381125966170460596 tw9659666774831966255 tw15014295357416068597 tw12989935092977890007 tw8293735054182559597 tw4245197315577054960 tw15145621403754909370 tw14634458736247804287 tw17664602666638642059 tw1873403418981946343 tw2245984127133314213 tw14893464708639780011 tw7110981244371541224 tw4863127669516366086 tw14764915926104590039 tw15003008899182557255 tw11704070477995507128 tw7769828264173332265 tw57036972569681891 tw734046868449353309 tw18044637130280537423 tw1351320525515664312 tw6615675046512182420 tw18193622600564137670 tw11696670088548927606 tw15018990084255415435 tw115619560313928796 tw16781845919971558889 tw5250596466632009681 tw6872799514561566808 tw5141898871428848791 tw15717635918215304913 tw15409618591638743770 tw6138325513933294142 tw10871048572385401894 tw14233508506371968639 tw3304303016939878637 tw5966364490053299170 tw16750727026591110585 tw7065116819225096911 tw6236146913908575120 tw13120227525514081971 tw14757683130757471440 tw13005727283913264338 tw16335321577112636537 tw18009537011083625471 tw7650426185056791422 tw17592676796077511068 tw15698369342127615167 tw8698932431201934818 tw12653758453211904475 tw14895710514318248399 tw14803524477320115722 tw8166413997527298849 tw724278714884706523 tw16833900374420451723 tw14835624983345722671 tw10163878308149476244 tw17079936057415687285 tw5992656492240829092 tw5284393720496436795 tw4707820839888969725 tw7203796218438484919 tw17339724976790383330 tw10390811608240158993 tw12078212083473621209 tw17339279348236602674 tw16446110009740818834 tw8755918581351037108 tw2969811982682366130 tw11215848102465838991 tw8453337811433939594 tw2892156175552946463 tw14798641914070896433 tw7416442498269148828 tw10013384163110600069 tw1559362789569639761 tw16058145140293058593 tw17127773857811395516 tw17525597875802003236 tw15662890389314899829 tw9355645150249384707 tw18379424896667807315 tw10236898623623279363 tw13263355527149934601 tw16057684735055448327 tw2427549196046718469 tw10795839869998975972 tw8594212170806315121 tw13197785543774934472 tw15930111824873950067 tw11617557199761396867 tw12351329653527635768 tw2797350897622328714 tw11373434106524972330 tw865039506425177177 tw10027263932651882712 tw15498269628738173106 tw11436993152423946888 tw4460154941209437147 tw5935412200010021834 tw16791058647210677286 tw5323682708748693004 tw9831712610895499751 tw3487289139862465680 tw8925716524404796087 tw4693425214678312538 tw15552601980527643084 tw4212529542089587077 tw382346731667605796 tw1439181276578605867 tw4456301336260117645 tw2713161735089409991 tw7044983173900970828 tw11564327311601071523 tw6287038520602313427 tw8898879068914403248 tw1485509829569899049 tw15097050236237619323 tw5953852642543357394 tw16072546535054613902 tw3809974989016372913 tw15961082257062779180 tw3508569536977545230 tw10660345196587903977 tw4194183929499422462 tw14864869572355029352 tw15622589797530298394 tw11768373156824595691 tw16044664149444512983 tw1359244845738174469 tw18121769645594235729 tw3496882284580773869 tw8824143274836457803 tw17314243862377284627 tw9179339502385276416 tw7611019555304421220 tw265025963897163820 tw1162795949738636547 tw18234682699450525601 tw11980824485701671396 tw13022569446414480373 tw13513692087939704055 tw379468164301876656 tw15475338675286097113 tw16218309586125754425 tw8991970980095871477 tw13407736904330196042 tw3295260984432517504 tw3599833866607245538 tw17508249486145778114 tw10982807222018216562 tw14583271266256868933 tw14795722658451191961 tw15009348013571472578 tw7083803828210281499 tw18031050183625423058 tw1958204911133567408 tw1920456800112024056 tw2146142458948429568 tw786787961805662702 tw526558886423382223 tw17496053029816065995 tw8231823179588127217 tw5837612599397319244 tw4185667861233620894 tw7729374526448288215 tw15335656286589932952 tw4466611228956497434 tw2031365531490713866 tw10180688525995994050 tw12083204586623237457 tw1441094275263604787 tw359901002028680038 tw15776023782880471459 tw4734796937336811121 tw875932295319111819 tw14840751520446500789 tw195251229901492397 tw3219676510146399694 tw17470826932155512678 tw12883637366264226033 tw885342790333680271 tw16815355280303560487 tw8385769178290323468 tw4336541488807613511 tw11097712455215836621 tw2237188325602716324 tw17213851872184266371 tw3668757072701598097 tw16917006293799960944 tw2523902889154345567 tw18290903982872088305 tw3231611641219661217 tw4415488531692358977 tw6372615230610996993 tw263887159935833052 tw18149601524784231642 tw10768219274926093835 tw5867654285220418675 tw13478518248741110257 tw15763466724890750374 tw345825375994764561 tw3363469562534631143 tw8522138000828318199 tw3773435468754866750 tw5399690871736262108 tw1322507611017726600 tw456628484992000202 tw14383025456966594476 tw8842670965645900879 tw10946523685775881268 tw12954700876069338379 tw6121670012749448464 tw13984364329863990600 tw16320794898225569638 tw7696521338042353895 tw3501029989208601755 tw18146753559241519221 tw16810637125575681756 tw14408631817557459442 tw1438469032191036556 tw8055254440748122624 tw17340052312504408098 tw12412078051354125266 tw2344305555501401387 tw1283022199654312551 tw8164286170487352221 tw12523326984798329368 tw4697948008421188958 tw12320381279971819488 tw8799508331929435905 tw5848311011903851596 tw6113316045806121541 tw13613544530865342330 tw13103526798711935213 tw8292271657282337808 tw8865107912170455426 tw15352506136331932297 tw10970853160143873298 tw5562923747733358115 tw12948213359068132516 tw10897122492282348031 tw12901771407782896442 tw15387115966259933397 tw762206503454586217 tw14502375597196032065 tw11546293709849730961 tw8669213068235734871 tw2382702117939359931 tw8225630365301832603 tw1938230001766237552 tw12250261995773259315 tw15453689960944673178 tw15624463339212786528 tw13762514689207881523 tw2670930207057474633 tw15212966537817226267 tw4288961937586769428 tw14047545556153587227 tw5857527421904463786 tw16078248181155702458 tw16428682394285313436 tw15555081771444850162 tw17827228905783545753 tw226768694144246879 tw11475150437805928432 tw3528385603587847811 tw16368979524851997074 tw3606206280401629900 tw13612669249797251245 tw1884454733208837866 tw3475631782355297458 tw1105053405947116935 tw3570660693735529924 tw1482613596716596172 tw11927470353446399266 tw7608852552155623251 tw17985623410164732294 tw8504318635513015157 tw14028454683092200661 tw18034263425534148548 tw16263889070013075178 tw13233918457970534983 tw7222953106402956295 tw12988646549569090474 tw6561940552194132367 tw7583314393635795061 tw11324378534835425164 tw9281965003636812429 tw8733261945304806798 tw1763706682789403576 tw16731629273207986283 tw4335776245088077279 tw7286820713401426469 tw3520074186350032252 tw11161944180512313022 tw4151075812351140777 tw11108737212107091013 tw866604527346262451 tw12552906474787933586 tw9856068700083356383 tw5823186811852778621 tw729215717527911568 tw7488621740780988157 tw7114416993330817847 tw162868102972385252 tw13038286896145538829 tw14180938289477091538 tw11809487839770179027 tw9965919824308876556 tw3255638993290169932 tw11886892114829657938 tw6759183205670634976 tw11303474298501823824 tw2853421967283786738 tw12810258973963681714 tw14576662685027775974 tw75124008482862586 tw12245233128574443148 tw3813606240451079943 tw4752137756002820795 tw4409290503208813633 tw15900573251388772206 tw11831243505544118587 tw16905398656831563436 tw5334008010552046558 tw10188879017086036264 tw4888103999004928039 tw3785601475615508557 tw14256985222716497545 tw4089695641268270155 tw18425082617659490587 tw12830168101944604471 tw2103906042734683382 tw16165461357908563589 tw7351747814609187629 tw3606728453364409000 tw5979149540410985540 tw2346430870446538584 tw10050828321419553564 tw9264221299026136097 tw1600184774160409367 tw7937164906324636247 tw1004988986410829946 tw10069500764365545066 tw2137445829531334854 tw16508482759608892419 tw16044772630124734341 tw7116099204514189294 tw6851758680528582797 tw3972248937550434359 tw10404034374937403551 tw14587839690570882828 tw1848983384766998163 tw15752253765455103104 tw13711233007609328998 tw11832008256436949999 tw4781354302837638239 tw10623810832049929186 tw2369713858302386531 tw14831345124362550745 tw11551304185118766592 tw5631335994941964581
end PySem.W.Fast
set_option maxRecDepth 100000 in
set_option maxHeartbeats 0 in
theorem PySem.Challenge.cw_crystalwords_k43_whole_every_word_holds : PySem.Challenge.rw_crystalwords_k43_whole_every_word.Holds := by
 w_on; o_law; k_head; (case hw=>w_witness2)
 k_fill
 refine L2.walkB (l:=PySem.Challenge.rw_crystalwords_k43_whole_every_word) (k:=18) (x := "_law_script") rfl rfl ⟨rfl,by decide,by decide⟩ (λ w h Y=>PySem.W.kIn_of Y) ?F
 case F =>
  intro w mg fa h KX G hmg
  have T:∃ t,Cw.Txt (L2.KOf KX) mg t:=by
   dsimp only [L2.KOf]
   refine' Cw.txt_mk KX G ?n_1m ?n_1q ?n_1p ?n_1i ?n_1r ?n_4 ?n_1c ?F_1c ?n_7 ?F_7 ?n_18 ?F_18 ?n_19 ?F_19 ?n_r ?F_r ?n_t ?F_t ?n_1n ?F_1n ?n_1e ?F_1e ?n_16 ?F_16 ?n_3 ?F_3 ?n_13 ?F_13 ?n_1a ?F_1a ?n_1f ?F_1f ?n_1d ?F_1d ?n_14 ?F_14 ?n_1k ?F_1k ?n_1h ?F_1h ?n_1g ?F_1g ?n_1b ?F_1b ?n_1l ?F_1l ?n_1j ?F_1j ?n_x ?F_x ?n_w ?F_w ?n_15 ?F_15 ?n_0 ?l_0 ?t_Group___init__ ?c_0 ?k_0 ?n_5 ?F_5 ?n_2 ?F_2 ?n_6 ?F_6 ?n_a ?F_a ?n_9 ?F_9 ?n_8 ?F_8 ?n_v ?F_v ?n_1 ?F_1 ?n_q ?F_q ?n_i ?F_i ?n_m ?F_m ?n_k ?F_k ?n_y ?F_y ?n_j ?F_j ?n_17 ?F_17 ?n_n ?F_n ?n_11 ?F_11 ?n_u ?F_u ?n_g ?F_g ?n_z ?F_z ?n_12 ?F_12 ?n_l ?F_l ?n_b ?F_b ?n_o ?F_o ?n_10 ?F_10 ?n_c ?F_c ?n_p ?F_p ?n_s ?F_s ?n_e ?F_e ?n_h ?F_h ?n_d ?F_d ?n_f ?F_f ?n_1o ?F_1o ?n_MOST_MEMBERS ?y_sum ?y_zip ?y_enumerate ?y_range ?y_len ?y_abs ?y_isinstance ?y_int ?y_bool ?y_list ?y_tuple ?y_sorted ?y_dict ?y_any ?q_j ?q_c ?q_e ?q_f ?q_g ?q_0 ?q_5 ?q_h ?q_8 ?q_6 ?q_9 ?q_3 ?q_4 ?q_k ?q_l ?q_a ?q_b ?q_d ?q_7 ?q_1 ?q_2 ?q_m ?q_n ?q_i
   (case n_1m | n_1q | n_1p | n_1i | n_1r | n_4 | n_1c | n_18 | n_19 | n_r | n_t | n_1n | n_1e | n_16 | n_3 | n_13 | n_1a | n_1f | n_1d | n_14 | n_1k | n_1h | n_1g | n_1b | n_1l | n_1j | n_x | n_w | n_15 | n_v | n_1 | n_q | n_i | n_m | n_k | n_y | n_j | n_17 | n_n | n_11 | n_u | n_g | n_z | n_12 | n_l | n_b | n_o | n_10 | n_c | n_p | n_s | n_e | n_h | n_d | n_f | n_1o=>show _=_; k_is)
   (case n_7 | n_0 | l_0 | t_Group___init__ | c_0 | k_0 | n_5 | n_2 | n_6 | n_a | n_9 | n_8 | n_MOST_MEMBERS | y_sum | y_zip | y_enumerate | y_range | y_len | y_abs | y_isinstance | y_int | y_bool | y_list | y_tuple | y_sorted | y_dict | y_any | q_5 | q_h | q_8 | q_6 | q_9=>show _=_; k_is)
   (case F_1c | F_7 | F_18 | F_19 | F_r | F_t | F_1n | F_1e | F_16 | F_3 | F_13 | F_1a | F_1f | F_1d | F_14 | F_1k | F_1h | F_1g | F_1b | F_1l | F_1j | F_x | F_w | F_15 | F_5 | F_2 | F_6 | F_a | F_9 | F_8 | F_v | F_1 | F_q | F_i | F_m | F_k | F_y | F_j | F_17 | F_n | F_11 | F_u | F_g | F_z | F_12 | F_l | F_b | F_o | F_10 | F_c | F_p | F_s | F_e | F_h | F_d | F_f | F_1o=>refine' L2.fun_mk ?l ?c ?k; (case l=>k_is); (case c=>k_is); (case k=>k_is))
   (case q_j | q_k | q_l | q_m | q_n | q_i=>kit_is)
   (case q_c | q_e=>k_exc)
   (case q_f | q_g=>exact ⟨by k_is,by k_is,by k_is,by k_is⟩)
   (case q_0 | q_3 | q_4 | q_7 | q_1 | q_2=>exact ⟨by k_is,by k_is,by k_is⟩)
   (case q_a=>exact ⟨by kernel_rfl,by k_is,by kernel_rfl,by kernel_rfl⟩)
   (case q_b=>exact ⟨by k_is,by kernel_rfl,by k_is⟩)
   (case q_d=>kts_exm)
  obtain ⟨t,T⟩:=T
  have e0:=hmg.symm.trans T.F_1o.m
  cases e0
  exact ⟨t.d_1o,T.bl,λ base kb nb=>Cw.ok_1o T⟩
#print axioms PySem.Challenge.cw_crystalwords_k43_whole_every_word_holds