import PyProof.Rows.All
import Wide.All
import OpenK.AllK
import Wide.FinOn
import Lean
import PyProof.EqAt
import PyProof.EqKinds
import PyProof.TupleCall
import PySem.Challenge.RW_crystalwords_k85_spread
set_option Elab.async false
set_option linter.all false
set_option compiler.extract_closed false
set_option genSizeOf false
set_option bootstrap.genMatcherCode false
set_option maxRecDepth 100000
local macro_rules | `(⋯)=>`(by omega)
local macro_rules | `(∅)=>`(by decide)
local macro_rules | `(nofun)=>`(by decide +kernel)
local macro_rules | `(tactic| ext)=>`(tactic| walk_at "r")
noncomputable section
theorem dLe{d k:Nat}(h:d=2\/d=3)(g:3≤k):d≤k:=by
 rcases h with h|h<;>rw[h]
 ·exact Nat.le_trans (by decide) g
 ·exact g
theorem eLe{x d k:Nat}(e:x=d)(h:d=2\/d=3)(g:3≤k):x≤k:=by rw[e];exact dLe h g
theorem eLt{x y k:Nat}(e:x=y)(g:k<y):k<x:=by rw[e];exact g
theorem iNn{x:Int}(h:0<x):¬x<0:=Int.not_lt.mpr (Int.le_of_lt h)
local macro_rules | `(tactic| omega)=>`(tactic| first | (with_reducible first | assumption | exact Int.ne_of_gt (by assumption) | exact iNn (by assumption) | exact Int.le_of_lt (by assumption) | exact eLt (by assumption) (by assumption) | exact dLe (by assumption) (by decide) | exact eLe (by assumption) (by assumption) (by decide) | exact Nat.le_trans (by assumption) (by decide) | exact Nat.lt_of_lt_of_le (by assumption) (by decide) | exact Nat.lt_of_le_of_lt (by assumption) (by decide) | exact Nat.le_trans (Nat.le_of_lt (by assumption)) (by decide) | exact Nat.le_of_lt (by assumption)) | decide | lia | omega +splitDisjunctions)
abbrev SP':=List Int×Int
abbrev LI':=List Int
abbrev PN:=List (PySem.Addr×PySem.Obj)
abbrev VP:=PySem.Value->PySem.Shared->Prop
abbrev LW:=List PySem.Value
abbrev LA:=List PySem.Addr
abbrev MT:=PySem.Str->Option PySem.Value
def zA:=@PySem.wpAny_bind
def zB:=@PySem.wpAny_pure
def zC:=@PySem.Heap.get?_push_of_some
def zD:=@if_neg
def zE:=@if_pos
def zF:=@PyProof.Rows.wpS_bind
def zG:=@Nat.le_refl
def zH:=@PyProof.Rows.wpS_pure
def zI:=@decide_eq_false
def zJ:=@PySem.Heap.lt_size
def zK:=@decide_eq_true
def zL:=@Nat.lt_of_lt_of_le
def zM:=@List.map_cons
def zN:=@List.mem_cons_of_mem
def zO:=@List.getElem?_map
def zP:=@Array.length_toList
def zQ:=@Bool.and_eq_true
def zR:=@Bool.false_ne_true
def zS:=@PySem.Heap.get?_push_size
def zT:=@List.length_cons
def zU:=@PySem.wpAny_mono
def zV:=@List.mem_cons_self
def zW:=@Int.toNat_natCast
def zX:=@Nat.ne_of_lt
def zY:=@Int.mul_pos
def zZ:=@Nat.zero_le
def yA:=@Option.some.inj
def yB:=@List.size_toArray
def yC:=@List.mem_append_right
def yD:=@List.getElem?_append_right
def yE:=@Int.eq_ofNat_of_zero_le
def yF:=@List.length_append
def yG:=@List.mem_of_getElem?
def yH:=@Nat.le_trans
def yI:=@Ne.symm
def yJ:=@PySem.PassesOwn.never
def yK:=@Array.toList_append
def yL:=@PySem.wpAny_holding
def yM:=@PySem.F.excBase_ValueError
def yN:=@Int.fmod_eq_emod_of_nonneg
def yO:=@List.append_assoc
def yP:=@List.getElem?_append_left
def yQ:=@LawfulBEq.eq_of_beq
def yR:=@Nat.lt_irrefl
def yS:=@Array.getElem?_toList
def yT:=@PySem.W.mg_of
def yU:=@PySem.W.mg_none_of
def yV:=@List.getElem?_range
def yW:=@Nat.pow_le_pow_right
def yX:=@List.length_map
def yY:=@List.cons.injEq
def yZ:=@Nat.mul_le_mul
def xA:=@List.length_take
def xB:=@PySem.wpAny_newObj_type
def xC:=@List.mem_cons
def xD:=@List.zipWith_cons_cons
def xE:=@List.mem_append_left
def xF:=@List.all_cons
def xG:=@List.lookup_cons
def xH:=@PySem.F.plainAttrs_list
def xI:=@PyProof.Rows.wpS_forRange
def xJ:=@Int.mul_comm
def xK:=@Nat.mul_le_mul_right
def xL:=@PySem.wpAny_field
def xM:=@PySem.Heap.size_push
def xN:=@Int.natAbs_mul
def xO:=@PySem.wpAny_standAt
def xP:=@PySem.W.kia_one
def xQ:=@PySem.F.type_list_append
def xR:=@Int.le_of_lt
def xS:=@List.getElem?_eq_getElem
def xT:=@PySem.F.slot_list_append
def xU:=@Int.ne_of_gt
def xV:=@Int.zero_add
def xW:=@List.map_append
def xX:=@PySem.wpAny_call_entry
def xY:=@List.take_add_one
def xZ:=@List.take_append_drop
def wA:=@Nat.le_of_lt
def wB:=@List.foldl_cons
def wC:=@Nat.lt_of_le_of_lt
def wD:=@PySem.wpAny_callSpecial?_slot
def wE:=@Int.fdiv_eq_ediv_of_nonneg
def wF:=@List.take_of_length_le
def wG:=@congrArg
def wH:=@PySem.Heap.get?_update_self
def wI:=@List.all_eq_true
def wJ:=@List.map_map
def wK:=@PySem.wpAny_Call_Name_kw
def wL:=@List.getElem?_of_mem
def wM:=@PySem.wpAny_rule
def wN:=@PySem.wpAny_seqItems
def wO:=@PySem.F.slot_dict_keyiterator_next
def wP:=@PyProof.Rows.wpS_mono
def wQ:=@Nat.zero_add
def wR:=@PyProof.Rows.wpS_modify
def wS:=@List.getElem_mem
def wT:=@PySem.W.Looks.here
def wU:=@List.append_nil
def wV:=@PySem.codeAny_mono
def wW:=@Int.add_zero
def wX:=@of_decide_eq_true
def wY:=@Bool.not_eq_true'
def wZ:=@PySem.wpAny_attempt
def vA:=@PyProof.Rows.mulOk_of_bits
def vB:=@PySem.wpAny_typeNameOfWhole_keyiter
def vC:=@List.eq_nil_of_length_eq_zero
def vD:=@List.map_congr_left
def vE:=@List.replicate_succ
def vF:=@PySem.Heap.SameBut.update
def vG:=@List.filterMap_cons
def vH:=@PySem.mem_of_lookup
def vI:=@Nat.lt_succ_self
def vJ:=@Int.mul_le_mul
def vK:=@PySem.IntMulOk.of_left
def vL:=@List.take_length
def vM:=@PySem.Heap.get?_update_other
def vN:=@List.getElem?_set_self
def vO:=@PySem.wpAny_setField_rec
def vP:=@PySem.W.callWith_K
def vQ:=@PyProof.Rows.callWith_type1
def vR:=@PySem.Obj.data_mapFields
def vS:=@PySem.wpAny_passesOwn
def vU:=@List.perm_append_comm
def vV:=@Int.natCast_mul
def vW:=@List.forIn_cons
def vX:=@PySem.F.slot_tuple_iterator_next
def vY:=@PySem.wpAny_truthy_bool
def vZ:=@List.foldl_append
def uA:=@PySem.IntMulOk.of_right
def uB:=@PySem.W.looks_findIn
def uC:=@PySem.wpAny_call
def uD:=@List.eraseIdx_append_of_length_le
def uE:=@PySem.wpAny_isInstance
def uF:=@List.zipIdx_cons
def uG:=@PySem.wpAny_typeNameOf_keyiter
def uH:=@List.length_zipWith
def uI:=@List.getElem_of_mem
def uJ:=@PySem.wpAny_pyIter_tuple
def uK:=@PySem.wpAny_loadPart'
def uL:=@PySem.W.of_hideAll
def uM:=@PySem.wpAny_execs_nil
def uN:=@Int.lt_of_le_of_lt
def uO:=@Nat.le_succ
def uP:=@PySem.wpAny_pyIter_list
def uQ:=@Array.toList_push
def uR:=@PySem.wpAny_loadPart_at
def uS:=@List.cons_lt_cons_iff
def uT:=@PySem.wpAny_setField
def uU:=@Nat.le_of_ble_eq_true
def uV:=@PyProof.Rows.wpS_get
def uW:=@PySem.wpAny_typeOf
def uX:=@Nat.lt_or_ge
def uY:=@Nat.sub_self
def uZ:=@List.Pairwise.sublist
def tD:=@PySem.Calls.evalArgs_plain
def tE:=@List.getElem_map
def tF:=@List.length_drop
def tG:=@PySem.Around.under_plainId
def tH:=@PySem.W.hideAll_none
def tI:=@PySem.codeAny_call_builtin
def tJ:=@Array.toList_reverse
def tK:=@List.ext_getElem
def tL:=@List.eraseIdx_of_length_le
def tM:=@List.getD_eq_getElem?_getD
def tN:=@Nat.add_assoc
def tO:=@PySem.W.hideAll_get
def tP:=@List.of_mem_zip
def tQ:=@Bool.eq_iff_iff
def tR:=@Array.getElem?_eq_getElem
def tS:=@List.drop_eq_getElem_cons
def tU:=@PySem.codeAny_builtin
def tV:=@List.mem_of_mem_eraseIdx
def tW:=@Int.natAbs_natCast
def tX:=@Nat.add_zero
def tY:=@of_decide_eq_false
def tZ:=@List.getElem?_drop
def sD:=@Int.zero_mul
def sE:=@Int.natAbs_add_le
def sF:=@Option.isSome_map
def sG:=@List.flatten_cons
def sH:=@List.drop_sublist
def sI:=@Nat.add_mul
def sJ:=@Array.getElem?_eq_none
def sK:=@PySem.W.cellsFrom_some
def sL:=@Nat.pow_add
def sQ:=@Int.fmod_nonneg_of_pos
def sR:=@PyProof.Rows.subscriptTail_builtinR
def sT:=@PySem.F.plainAttrs_str
def sU:=@PySem.Calls.callWith_builtin
def sV:=@List.drop_eq_nil_of_le
def sW:=@PySem.wpAny_onRaise
def sZ:=@PySem.W.any_some
def rA:=@List.filter_cons
def rB:=@PySem.W.Looks.ld
def rC:=@List.Perm.append_left
def rD:=@List.getElem?_reverse
def rE:=@PySem.F.type_str_join
def rF:=@List.getElem?_zipWith
def rG:=@PySem.F.slot_str_join
def rH:=@PySem.Obj.isFreed_of_fields
def rJ:=@List.getElem?_zipIdx
def rK:=@List.getElem?_set_ne
def rL:=@List.nodup_cons
def rM:=@List.mem_of_mem_take
def rN:=@PySem.pushCells_keeps
def rO:=@Int.fmod_def
def rP:=@PySem.wpAny_updateSeq_pair
def rQ:=@Int.mul_zero
def rR:=@List.nil_append
def rS:=@List.map_nil
def rT:=@Nat.ne_of_gt
def rV:=@List.length_eraseIdx
def rW:=@Nat.le_of_eq
def rX:=@Nat.mul_comm
def rY:=@PySem.call_meets
def rZ:=@PySem.F.slot_zip_next
def qB:=@PySem.W.looks_clsIn
def qC:=@Int.mul_fdiv_cancel
def qD:=@PySem.W.looks_mroIn
def qE:=@PySem.W.plainGet_of
def qF:=@Nat.mul_le_mul_left
def qG:=@PyProof.Rows.wpS_lift
def qH:=@ne_eq
def qI:=@Int.mul_one
def qJ:=@Int.fmod_lt_of_pos
def qK:=@PyProof.Rows.assignInOrder_cons
def qL:=@PySem.Code.quiet_builtin
def qM:=@PySem.wpAny_tupleItemsOf
def qN:=@Array.size_extract
def qO:=@PySem.W.isNs_of_in
def qP:=@List.zip_cons_cons
def qQ:=@List.getElem_range
def qR:=@Int.natCast_nonneg
def qT:=@PySem.plainId_quiet
def qU:=@List.any_cons
def qV:=@List.take_add
def qW:=@List.reverse_perm
def qX:=@PySem.W.kitx_list
def qZ:=@PySem.wpAny_assign_Name
def pC:=@Nat.lt_succ_of_lt
def pE:=@Nat.le_of_succ_le
def pF:=@PySem.wpAny_dictEntries
def pG:=@List.flatMap_cons
def pH:=@Int.dvd_refl
def pI:=@PySem.wpAny_pyHash_int
def pJ:=@PySem.wpAny_comp_letGo
def pK:=@Nat.pow_succ
def pL:=@Nat.le_add_right
def pM:=@Nat.succ_mul
def pN:=@PySem.Heap.Ns.of_isNs
def pO:=@PySem.wpAny_dictEpoch
def pQ:=@PySem.wpAny_looks_onW
def pR:=@Nat.min_eq_left
def pS:=@Nat.two_pow_pos
def pU:=@PySem.wpAny_letGo
def pV:=@Nat.log2_lt
def pW:=@PySem.wpAny_loadPart
def pY:=@PySem.isSubtype_stop
def pZ:=@List.drop_drop
def oA:=@PySem.wpAny_newTuple
def oB:=@Int.mul_nonneg
def oC:=@PySem.wpAny_bindName
def oE:=@Iff.rfl
def oF:=@PySem.typeIs_str
def oG:=@Int.mul_assoc
def oH:=@PySem.wpAny_landsW
def oJ:=@Nat.succ.inj
def oK:=@Int.neg_mul
def oM:=@Int.one_mul
def oN:=@Nat.one_mul
def oO:=@beq_iff_eq
def oP:=@beq_eq_false_iff_ne
def oQ:=@List.mem_singleton
def oR:=@List.mem_map
def oS:=@List.mem_reverse
def oU:=@List.mem_filterMap
def oV:=@List.pairwise_append
def oW:=@List.mem_append
def oX:=@Option.isSome_iff_exists
def oY:=@List.not_lt
def oZ:=@List.mem_range
def nA:=@PySem.intBits_le_iff
def nB:=@List.getElem?_eq_some_iff
namespace L2
open PySem PySem.Spec PyProof.Rows
open PySem.W (Frag)
abbrev Key:=Sum Int Str
def Ft:Key->Value->Bool
 |.inl k,v=>Value.isInt k v
 |.inr x,v=>Value.isStrOf x v
def keyH(w:World):Key->Int
 |.inl k=>hashInt k
 |.inr x=>hashStr w x
theorem iO:∀{k:Key}{v:Value},Ft k v=true->(∃i t,k=Sum.inl i/\v=Value.int i t)\/(∃x t,k=Sum.inr x/\v=Value.str x t)
 |.inl i,v,h=>by
  obtain⟨t,e⟩:=Value.isInt_shape (k:=i) (v:=v) h;exact .inl ⟨i,t,rfl,e⟩
 |.inr x,v,h=>by
  obtain⟨t,e⟩:=Value.isStrOf_shape (x:=x) (v:=v) h;exact .inr ⟨x,t,rfl,e⟩
theorem Nb(a b:Int):decide ((Sum.inl a:Key)=Sum.inl b)=(a == b):=by
 by_cases e:a=b
 ·subst e;simp
 ·have h:¬ (Sum.inl a:Key)=Sum.inl b:=λq=>e (Sum.inl.inj q);rw[zI h];exact(oP.mpr e).symm
theorem Na(a b:Str):decide ((Sum.inr a:Key)=Sum.inr b)=decide (a=b):=by
 by_cases e:a=b
 ·subst e;simp
 ·have h:¬ (Sum.inr a:Key)=Sum.inr b:=λq=>e (Sum.inr.inj q);rw[zI h,zI e]
theorem Oz(a:Int)(b:Str):decide ((Sum.inl a:Key)=Sum.inr b)=false:=zI (λq=>nomatch q)
theorem Oy(a:Str)(b:Int):decide ((Sum.inr a:Key)=Sum.inl b)=false:=zI (λq=>nomatch q)
def Fs(prog:Program)(w:World):PySem.KeyKind prog w Key where
 is:=Ft
 hash:=keyH w
 inj:=λv a b ha hb=>by
  rcases iO ha with⟨i,t,rfl,rfl⟩|⟨x,t,rfl,rfl⟩
  ·rcases iO hb with⟨j,u,rfl,e⟩|⟨y,u,rfl,e⟩
   ·injection e with e1 _;rw[e1]
   ·exact nomatch e
  ·rcases iO hb with⟨j,u,rfl,e⟩|⟨y,u,rfl,e⟩
   ·exact nomatch e
   ·injection e with e1 _;rw[e1]
 byValue:=λk v h=>by
  rcases iO h with⟨i,t,rfl,rfl⟩|⟨x,t,rfl,rfl⟩ <;> rfl
 pyHash:=λhv h=>by
  rcases iO hv with⟨i,t,rfl,rfl⟩|⟨x,t,rfl,rfl⟩
  ·exact pI h
  ·exact wpAny_pyHash_str h
 eqBool:=λhu hv h=>by
  rcases iO hu with⟨i,t,rfl,rfl⟩|⟨x,t,rfl,rfl⟩
  ·rcases iO hv with⟨j,u,rfl,rfl⟩|⟨y,u,rfl,rfl⟩
   ·rw[Nb]at h;exact wpAny_eqBool_int h
   ·rw[Oz]at h;exact SeqAt.EqAt.int_str i t y u _ _ _ _ h
  ·rcases iO hv with⟨j,u,rfl,rfl⟩|⟨y,u,rfl,rfl⟩
   ·rw[Oy]at h;exact SeqAt.EqAt.str_int x t j u _ _ _ _ h
   ·rw[Na]at h;exact wpAny_eqBool_str h
 «strs»:=λk x t v h=>by
  rcases iO h with⟨i,u,rfl,e⟩|⟨y,u,rfl,e⟩
  ·exact nomatch e
  ·injection e with e1 _;subst e1;cases v <;> rfl
inductive V where
 |non|bl(b:Bool)|int(i:Int)|str(x:Str)|byt(b:Array UInt8)|flt(b:UInt64)|ref(a:Addr)|ty(n:String)
 deriving DecidableEq
def RelV:V->Value->Prop
 |.non,u=>u=Value.none
 |.bl b,u=>u=Value.bool b
 |.int i,u=>∃t,u=Value.int i t
 |.str x,u=>∃t,u=Value.str x t
 |.byt b,u=>∃t,u=Value.bytes b t
 |.flt b,u=>∃t,u=Value.float b t
 |.ref a,u=>u=Value.ref a
 |.ty n,u=>u=Value.type n
abbrev Vals:List V->LW->Prop:=Paired RelV
theorem Vals.length{xs:List V}{us:LW}(r:Vals xs us):xs.length=us.length:=Paired.length r
theorem Vals.get:∀{xs:List V}{us:LW}{i:Nat}{x:V},Vals xs us->xs[i]?=some x->∃u,us[i]?=some u/\RelV x u
 |_,_,_,_,.nil,e=>by simp at e
 |_,_,0,_,.cons r _,e=>by simp at e;subst e;exact⟨_,rfl,r⟩
 |_,_,i+1,x,.cons _ t,e=>by
  obtain⟨u,a,b⟩:=Vals.get (i:=i) (x:=x) t (by simpa using e);exact⟨u,by simpa using a,b⟩
theorem Vals.append:∀{xs ys:List V}{us a:LW},Vals xs us->Vals ys a->Vals (xs++ys) (us++a)
 |_,_,_,_,.nil,s=>s
 |_,_,_,_,.cons r t,s=>.cons r (Vals.append t s)
theorem Vals.take:∀{xs:List V}{us:LW}(n:Nat),Vals xs us->Vals (xs.take n) (us.take n)
 |_,_,0,_=>.nil
 |_,_,_+1,.nil=>.nil
 |_,_,n+1,.cons r t=>.cons r (Vals.take n t)
theorem Vals.drop:∀{xs:List V}{us:LW}(n:Nat),Vals xs us->Vals (xs.drop n) (us.drop n)
 |_,_,0,r=>r
 |_,_,_+1,.nil=>.nil
 |_,_,n+1,.cons _ t=>Vals.drop n t
theorem Vals.none_of:∀{xs:List V}{us:LW}{i:Nat},Vals xs us->xs[i]?=none->us[i]?=none:=λ{xs us i}r e=>by
 have a:=r.length;have b:xs.length<=i:=List.getElem?_eq_none_iff.mp e;exact List.getElem?_eq_none_iff.mpr ⋯
def RelO:Option V->Option Value->Prop
 |some v,some u=>RelV v u
 |none,none=>True
 |_,_=>False
def KV{κ:Type}:List (κ×V)->List (κ×Value)->Prop:=Paired λ(p:κ×V)(q:κ×Value)=>p.1=q.1/\RelV p.2 q.2
def kV:Key->V
 |.inl i=>.int i
 |.inr x=>.str x
inductive HO where
  |lst(xs:List V)
  |tup(xs:List V)
  |dK(kvs:List (Key×V))|dT(kvs:List (List Key×V))
  |set(S:Int->Bool)(n:Nat)
  |ins(C dx:Addr)(fs:List (Str×V))
  |own(x:Addr)
  |xd(fs:List (Str×V))
  |met(f x:Addr)
  |rng(lo hi:Int)
  |frz(o:Obj)(u:HO)
  |tbl(ps:Array Value)
  |ext(φ:Heap->Prop)
abbrev Hp:=Addr->Option HO
def upd(H:Hp)(a:Addr)(o:HO):Hp:=λb=>if b=a then some o else H b
theorem nK{H:Hp}{a:Addr}{o:HO}:upd H a o a=some o:=by unfold upd;rw[zE rfl]
theorem nN{H:Hp}{a b:Addr}{o:HO}(h:b≠a):upd H a o b=H b:=by unfold upd;rw[zD h]
theorem mX{H:Hp}{a b:Addr}{o:HO}(h:H a=some o)(h':H b=none):a≠b:=by
 intro e;subst e;rw[h]at h';cases h'
section
variable (P:Program) (w:World)
def mI(H:Hp)(h:Heap)(a:Addr):HO->Prop
 |.lst xs=>xs.length<=sizeLine/\∃(its:LW)(n:Nat),Vals xs its/\h.get? a=some {cls:=.type "list",data:=.seq its.toArray n}
 |.tup xs=>xs.length<=sizeLine/\∃its:LW,Vals xs its/\IsTup h a its.toArray
 |.dK kvs=>kvs.length<=sizeLine/\(a == sysModules)=false/\∃vs,KV kvs vs/\h.DictOf (Fs P w) a vs
 | .dT kvs=>kvs.length<=sizeLine/\(a == sysModules)=false/\∃xs:List (List Key×Addr×Value),
   Paired (λ(p:List Key×V)(q:List Key×Addr×Value)=>p.1=q.1/\H q.2.1=some (.tup (p.1.map kV))/\RelV p.2 q.2.2) kvs xs /\
   ∃o es ep,h.get? a=some o/\o.ExactDict/\o.data=.dict es ep/\es.toList=xs.map (entryOfKey (tupleKind (Fs P w)))/\(xs.map (·.1)).Nodup
 |.set S n=>h.SetOf (intKind P w) a S n
 | .ins C dx fs=>H dx=some (.own a)/\fs.length<=1000/\dx≠a/\h.get? a=some (PySem.W.instObj C dx) /\
   ∃mA,h.Ns1 dx mA/\(∀f,RelO (fs.lookup f) (mA f))/\PySem.Within mA (fs.map (·.1))
 |.own _=>∃o,h.get? a=some o
 |.xd fs=>∃mA,h.Ns1 a mA/\∀f,RelO (fs.lookup f) (mA f)
 |.rng lo hi=>∃t u v,h.get? a=some {cls:=.type "range",data:=.fields #[.int lo t,.int hi u,.int 1 v]}
 |.frz o u=>h.get? a=some o/\mI H h a u
 |.tbl ps=>h.get? a=some {cls:=.none,data:=.fields ps}
 |.met f x=>h.get? a=some (PySem.W.methodObj (.ref f) (.ref x))
 |.ext φ=>φ h/\(∃o,h.get? a=some o)/\∀h1 h2:Heap,φ h1->(∀o,h1.get? a=some o->h2.get? a=some o)->φ h2
def HOk(H:Hp)(h:Heap):Prop:=∀a o,H a=some o->mI P w H h a o
end
section
variable {P:Program} {w:World} {H H':Hp} {h h':Heap} {a:Addr} {o:HO}
theorem mI.lt(x:mI P w H h a o):a<h.objs.size:=by
 cases o with
 |lst xs=>obtain⟨_,_,_,_,e⟩:=x;exact zJ e
 |tup xs=>obtain⟨_,_,_,p⟩:=x;exact p.lt
 |dK kvs=>obtain⟨_,_,_,_,o,_,_,e,_⟩:=x;exact zJ e
 |dT kvs=>obtain⟨_,_,_,_,o,_,_,e,_⟩:=x;exact zJ e
 |set S n=>obtain⟨o,_,_,_,e,_⟩:=x;exact zJ e
 |ins C c fs=>obtain⟨_,_,_,e,_⟩:=x;exact zJ e
 |own y=>obtain⟨_,e⟩:=x;exact zJ e
 |xd fs=>obtain⟨_,⟨_,_,_,e,_⟩,_⟩:=x;exact zJ e
 |rng lo hi=>obtain⟨_,_,_,e⟩:=x;exact zJ e
 |frz d u=>obtain⟨e,_⟩:=x;exact zJ e
 |tbl ps=>exact zJ (show h.get? a=some _ from x)
 |met f y=>exact zJ (show h.get? a=some _ from x)
 |ext b=>obtain⟨_,⟨_,e⟩,_⟩:=x;exact zJ e
theorem Paired.mapP{g c:Type}{e G:g->c->Prop}:∀{d:List g}{i:List c},Paired e d i->(∀a b,e a b->G a b)->Paired G d i
 |_,_,.nil,_=>.nil
 |_,_,.cons r t,f=>.cons (f _ _ r) (Paired.mapP t f)
theorem mI.stay(x:mI P w H h a o)(k:∀b u,(b=a\/H b=some (.own a))->h.get? b=some u->h'.get? b=some u)
  (D:∀b,H b=some (.own a)->H' b=some (.own a))(F:∀b xs,H b=some (.tup xs)->H' b=some (.tup xs)):mI P w H' h' a o:=by
 induction o with
 |lst xs=>obtain⟨z,its,n,r,e⟩:=x;exact⟨z,its,n,r,k _ _ (.inl rfl) e⟩
 |tup xs=>obtain⟨z,its,r,g,e,c⟩:=x;exact⟨z,its,r,g,k _ _ (.inl rfl) e,c⟩
 |dK kvs=>obtain⟨z,y,vs,r,g,es,ep,e,c⟩:=x;exact⟨z,y,vs,r,g,es,ep,k _ _ (.inl rfl) e,c⟩
 |dT kvs =>
  obtain⟨z,y,xs,r,g,es,ep,e,c⟩:=x;exact⟨z,y,xs,Paired.mapP r λp q z=>⟨z.1,F _ _ z.2.1,z.2.2⟩,g,es,ep,k _ _ (.inl rfl) e,c⟩
 |set S n=>obtain⟨g,es,ep,t,e,c⟩:=x;exact⟨g,es,ep,t,k _ _ (.inl rfl) e,c⟩
 |ins C I fs =>
  obtain⟨d,z,ne,e,i,⟨j,es,ep,m,c⟩,r⟩:=x;exact⟨D _ d,z,ne,k _ _ (.inl rfl) e,i,⟨j,es,ep,k _ _ (.inr d) m,c⟩,r⟩
 |own y=>obtain⟨g,e⟩:=x;exact⟨g,k _ _ (.inl rfl) e⟩
 |xd fs=>obtain⟨i,⟨j,es,ep,e,c⟩,r⟩:=x;exact⟨i,⟨j,es,ep,k _ _ (.inl rfl) e,c⟩,r⟩
 |rng lo hi=>obtain⟨t,u,v,e⟩:=x;exact⟨t,u,v,k _ _ (.inl rfl) e⟩
 |frz g u l=>obtain⟨e,q⟩:=x;exact⟨k _ _ (.inl rfl) e,l q⟩
 |tbl ps =>
  have e:h.get? a=some {cls:=.none,data:=.fields ps}:=x;show h'.get? a=some {cls:=.none,data:=.fields ps};exact k a _ (.inl rfl) e
 |met f y =>
  have e:h.get? a=some (PySem.W.methodObj (.ref f) (.ref y)):=x;show h'.get? a=some (PySem.W.methodObj (.ref f) (.ref y));exact k a _ (.inl rfl) e
 |ext G=>obtain⟨p,⟨o,e⟩,st⟩:=x;exact⟨st _ _ p λo q=>k _ _ (.inl rfl) q,⟨o,k _ _ (.inl rfl) e⟩,st⟩
theorem HOk.lt(x:HOk P w H h)(e:H a=some o):a<h.objs.size:=(x a o e).lt
theorem HOk.fresh(x:HOk P w H h)(e:h.objs.size<=a):H a=none:=by
 cases q:H a with
 |none=>rfl
 |some u=>exact absurd (zL (x.lt q) e) (yR _)
theorem HOk.kept(x:HOk P w H h)(k:∀b u,h.get? b=some u->h'.get? b=some u):HOk P w H h':=λa o e =>
 (x a o e).stay (λb u _ q=>k b u q) (λ_ q=>q) λ_ _ q=>q
theorem HOk.laid(x:HOk P w H h)(k:∀b u,h.get? b=some u->h'.get? b=some u)(g:h.objs.size<=a)(new:mI P w (upd H a o) h' a o):HOk P w (upd H a o) h':=λb u e=>by
 have d:=x.fresh g
 by_cases f:b=a
 ·subst f;rw[nK]at e;cases e;exact new
 ·rw[nN f]at e;exact(x b u e).stay (λc v _ q=>k c v q) (λc q=>by rw[nN (mX q d)];exact q) λc xs q=>by rw[nN (mX q d)];exact q
end
def Rd(H:Hp)(a:Addr)(u:HO):Prop:=H a=some u\/∃o,H a=some (.frz o u)
theorem Rd.ok{P:Program}{w:World}{H:Hp}{h:Heap}{a:Addr}{u:HO}(r:Rd H a u)(x:HOk P w H h):mI P w H h a u:=by
 rcases r with r|⟨o,r⟩
 ·exact x a u r
 ·obtain⟨_,q⟩:=x a _ r;exact q
def Mut:Option HO->Prop
 |some (.lst _)=>True
 |some (.dK _)=>True
 |some (.dT _)=>True
 |some (.set _ _)=>True
 |some (.ins _ _ _)=>True
 |some (.ext _)=>True
 |_=>False
section
variable {P:Program} {w:World} {H:Hp} {h h':Heap} {x e:Addr} {o':HO}
theorem HOk.write(ok:HOk P w H h)(f:Mut (H x))(l:e=x\/H e=some (.own x))(k:∀b u,b≠e->h.get? b=some u->h'.get? b=some u)(n:∃u,h'.get? e=some u)
  (new:mI P w (upd H x o') h' x o'):HOk P w (upd H x o') h':=λb u q=>by
 have j:∀c y,H c=some (.own y)->c≠x:=λc y r z=>by subst z;rw[r]at f;exact f
 have m:∀c xs,H c=some (.tup xs)->c≠x:=λc xs r z=>by subst z;rw[r]at f;exact f
 by_cases a:b=x
 ·subst a;rw[nK]at q;cases q;exact new
 ·rw[nN a]at q
  by_cases g:b=e
  ·have i:H b=some (.own x):=by
    rcases l with z|z
    ·exact absurd (g.trans z) a
    ·rw[g];exact z
   rw[q]at i;cases i;obtain⟨v,o⟩:=n;exact⟨v,by rw[g];exact o⟩
  ·refine(ok b u q).stay (λc v d r=>k c v ?_ r) (λc r=>by rw[nN (j c b r)];exact r) λc xs r=>by rw[nN (m c xs r)];exact r
   rcases d with rfl|d
   ·exact g
   ·rintro rfl;rcases l with z|z
    ·exact j c b d z
    ·rw[d]at z;cases z;exact a rfl
end
structure Un(fs ex:LA)(H H':Hp)(h h':Heap):Prop where
 keep:∀b o,h.get? b=some o->H b=none->b∉fs->b∉ex->h'.get? b=some o
 slot:∀b o,h.get? b=some o->H b=none->b∈fs->b∉ex->∃sl,h'.get? b=some {o with slots:=sl}
 free:∀b o,h.get? b=some o->H b=none->b∉ex->H' b=none
 there:∀b o,h.get? b=some o->b∉ex->∃o',h'.get? b=some o'
 tups:∀b xs,H b=some (.tup xs)->H' b=some (.tup xs)
 frzs:∀b o u,H b=some (.frz o u)->H' b=some (.frz o u)
 tbls:∀b ps,H b=some (.tbl ps)->∃more,H' b=some (.tbl (ps++more))
section
variable {fs fs' ex ex':LA} {H H1 H2:Hp} {h h1 h2 h':Heap} {a x e:Addr} {o:HO}
theorem Un.any(u:Un fs ex H H1 h h1){b:Addr}{c:Obj}(q:h.get? b=some c)(n:H b=none)(d:b∉ex):∃g,h1.get? b=some {c with slots:=g}:=by
 by_cases f:b∈fs
 ·exact u.slot b c q n f d
 ·exact⟨c.slots,u.keep b c q n f d⟩
theorem Un.trans(a:Un fs ex H H1 h h1)(b:Un fs ex H1 H2 h1 h2):Un fs ex H H2 h h2 where
 keep:=λc f q n g d=>b.keep c f (a.keep c f q n g d) (a.free c f q n d) g d
 slot:=λc f q n g d=>by
  obtain⟨p,e1⟩:=a.slot c f q n g d;obtain⟨l,j⟩:=b.slot c _ e1 (a.free c f q n d) g d;exact⟨l,j⟩
 free:=λc f q n d=>by
  obtain⟨i,e1⟩:=a.there c f q d;exact b.free c i e1 (a.free c f q n d) d
 there:=λc f q d=>by
  obtain⟨i,e1⟩:=a.there c f q d;exact b.there c i e1 d
 tups:=λc xs q=>b.tups c xs (a.tups c xs q)
 frzs:=λc f xs q=>b.frzs c f xs (a.frzs c f xs q)
 tbls:=λc ps q=>by
  obtain⟨k,e1⟩:=a.tbls c ps q;obtain⟨m,j⟩:=b.tbls c _ e1;exact⟨k++m,by rw[j,Array.append_assoc]⟩
theorem Un.kept(k:∀b u,h.get? b=some u->h'.get? b=some u):Un fs ex H H h h':=
 ⟨λb c q _ _ _=>k b c q,λb c q _ _ _=>⟨c.slots,k b c q⟩,λ_ _ _ n _=>n,λb c q _=>⟨c,k b c q⟩,λ_ _ q=>q,λ_ _ _ q=>q,λ_ ps q=>⟨#[],by rw[q];simp⟩⟩
theorem Un.refl:Un fs ex H H h h:=Un.kept λ_ _ q=>q
theorem Un.laid(k:∀b u,h.get? b=some u->h'.get? b=some u)(d:h.objs.size<=a)(c:H a=none):Un fs ex H (upd H a o) h h' where
 keep:=λb u q _ _ _=>k b u q
 slot:=λb u q _ _ _=>⟨u.slots,k b u q⟩
 free:=λb u q n _=>by rw[nN (zX (zL (zJ q) d))];exact n
 there:=λb u q _=>⟨u,k b u q⟩
 tups:=λb xs q=>by rw[nN (mX q c)];exact q
 frzs:=λb u xs q=>by rw[nN (mX q c)];exact q
 tbls:=λb ps q=>⟨#[],by rw[nN (mX q c),q];simp⟩
theorem Un.write(c:Mut (H x))(j:e=x\/H e=some (.own x))(k:∀b u,b≠e->h.get? b=some u->h'.get? b=some u)(l:∃u,h'.get? e=some u):Un fs ex H (upd H x o) h h':=by
 have f:∀b,H b=none->b≠x:=λb n z=>by subst z;rw[n]at c;exact c
 have g:∀b,H b=none->b≠e:=λb n z=>by
  subst z;rcases j with r|r
  ·exact f b n r
  ·rw[n]at r;cases r
 have d:∀b u,H b=some u->¬ Mut (some u)->b≠x:=λb u q nm z=>by subst z;rw[q]at c;exact nm c
 refine⟨λb u q n _ _=>k b u (g b n) q,λb u q n _ _=>⟨u.slots,k b u (g b n) q⟩,λb u q n _=>by rw[nN (f b n)];exact n,λb u q _=>?_,
  λb xs q=>by rw[nN (d b _ q λz=>z)];exact q,λb u xs q=>by rw[nN (d b _ q λz=>z)];exact q,λb ps q=>⟨#[],by rw[nN (d b _ q λz=>z),q];simp⟩⟩
 by_cases i:b=e
 ·subst i;exact l
 ·exact⟨u,k b u i q⟩
end
def trk(h:Heap)(H:Hp):LA:=(List.range h.objs.size).filter λa=>(H a).isSome
def hidT(h:Heap)(H:Hp):Heap:=PySem.W.hideAll h (trk h H)
theorem Ox(h:Heap)(H:Hp):(hidT h H).objs.size=h.objs.size:=PySem.W.hideAll_size _ _
theorem Ow{h:Heap}{H:Hp}{b:Addr}{o:Obj}(e:h.get? b=some o)(n:H b=none):(hidT h H).get? b=some o:=
 tO _ e λa=>by
  have q:(H b).isSome=true:=(List.mem_filter.mp a).2;rw[n]at q;simp at q
theorem Ov{h:Heap}{H:Hp}{b:Addr}{o:Obj}(e:(hidT h H).get? b=some o):h.get? b=some o/\H b=none:=by
 have a:h.get? b=some o:=uL (trk h H) e;refine⟨a,?_⟩;cases q:H b with
 |none=>rfl
 |some x =>
  have c:b∈trk h H:=List.mem_filter.mpr ⟨oZ.mpr (zJ a),by simp[q]⟩;have z:(hidT h H).get? b=none:=tH (trk h H) c;rw[z]at e;cases e
def Ou(g h:Heap)(L:Addr):PN:=(List.range h.objs.size).filterMap λa=>if a=L\/(g.get? a).isSome=true then none else(h.get? a).map λo=>(a,o)
def rest(g h:Heap)(L d:Addr):PN:=(Ou g h L).filter λp=>decide (p.1≠d)
structure Mod(K:Frag)(mg:MT)(base:Heap):Prop where
 kin:K.In base
 glob:base.Ns mainGlobals mg
 blt:∃mb,base.Ns builtinsNs mb/\∀x:Str,x≠"__name__" -> mb x=bootBuiltins x
 nolimit:base.NoLimit
structure Cx where
 prog:Program
 w:World
 K:Frag
 mg:MT
 base:Heap
 A:Around
 N:List Str
 s₀:Shared
 H₀:Hp
 env:Env
 outer:List Env
 stack:List Env
 ex:LA
 fn:Str->Bool
 calm:Bool
 pn:PN
 xe:VP
def frs(l:List Env):LA:=l.filterMap (·.frame)
abbrev Cx.fs(X:Cx):LA:=frs X.outer
def Vis(sc:Scope)(x:Str):Prop:=sc.names.lookup x=some .local\/sc.names.lookup x=some .cell\/sc.names.lookup x=some .free
def Loc(sc:Scope)(x:Str):Prop:=sc.names.lookup x=some .local\/sc.names.lookup x=some .cell
def Look(env:Env)(h:Heap)(m:MT)(x:Str)(u:Value):Prop:=
 (env.kindOf x=some .local/\m x=some u)\/((env.kindOf x=some .cell\/env.kindOf x=some .free)/\∃c,env.cells.lookup x=some c/\h.IsCell c (some u))
structure Cx.Ok(X:Cx):Prop where
 mod:Mod X.K X.mg X.base
 kind:X.env.scope.kind=.function
 glob:X.env.globals=mainGlobals
 blt:X.env.builtins=builtinsNs
 above:X.s₀.heap.objs.size<=X.env.locals
 inj:∀x y c,X.env.cells.lookup x=some c->X.env.cells.lookup y=some c->x=y
 has:∀x,(X.env.kindOf x=some .cell\/X.env.kindOf x=some .free)->∃c,X.env.cells.lookup x=some c
 cab:∀x c,X.fn x=true->X.env.cells.lookup x=some c->X.s₀.heap.objs.size<=c
 hd:X.calm=true->X.A.handled=none
 frames:X.A.frames=some X.stack
 stk:X.stack=X.outer\/(X.stack=X.env:: X.outer/\X.env.frame=some X.env.locals)
 exf:∀b∈X.ex,b≠X.env.locals/\∀x c,X.env.cells.lookup x=some c->c≠b
 bs:∀b o,X.base.get? b=some o->X.s₀.heap.get? b=some o/\X.H₀ b=none
 bsz:X.base.objs.size<=X.s₀.heap.objs.size
 noex:∀b o,X.base.get? b=some o->b∉X.ex
 exfs:∀b∈X.ex,b∉X.fs
 funs:X.s₀.heap.FunFrames X.base X.outer
 frf:∀b∈X.fs,X.H₀ b=none
structure Inv(X:Cx)(pins:PN)(σ:List (Option V))(H:Hp)(s:Shared):Prop where
 ok:X.Ok
 os:s.os=X.s₀.os
 bare:AllBare s.gens
 base:Un X.fs X.ex X.H₀ H X.s₀.heap s.heap
 loc:∃m,s.heap.Ns X.env.locals m/\∀(i:Nat)(x:Str)(v:V),X.N[i]?=some x->σ[i]?=some (some v)->Vis X.env.scope x->∃u,RelV v u/\Look X.env s.heap m x u
 cell:∀x c,X.env.cells.lookup x=some c->∃v,s.heap.IsCell c v
 free:H X.env.locals=none
 freeC:∀x c,X.env.cells.lookup x=some c->H c=none
 pin:∀p∈X.pn++pins,s.heap.get? p.1=some p.2/\H p.1=none/\p.1≠X.env.locals/\p.1∉X.fs/\∀v,p.2.data≠.cell v
 hok:HOk X.prog X.w H s.heap
 len:σ.length=X.N.length
section
variable {X:Cx} {pins:PN} {σ:List (Option V)} {H H':Hp} {s:Shared} {h':Heap}
theorem Cx.Ok.nofr(ok:X.Ok){b:Addr}{o:Obj}(e:X.base.get? b=some o):b∉X.fs:=λa=>by
 have:=(ok.funs.mem a).1;rw[e]at this;cases this
theorem Inv.bs(I:Inv X pins σ H s):∀b o,X.base.get? b=some o->s.heap.get? b=some o/\H b=none:=λb o e =>
 ⟨I.base.keep b o (I.ok.bs b o e).1 (I.ok.bs b o e).2 (I.ok.nofr e) (I.ok.noex b o e),I.base.free b o (I.ok.bs b o e).1 (I.ok.bs b o e).2 (I.ok.noex b o e)⟩
theorem Inv.bk(I:Inv X pins σ H s):∀b o,X.base.get? b=some o->s.heap.get? b=some o:=λb o e=>(I.bs b o e).1
theorem Inv.mod(I:Inv X pins σ H s):Mod X.K X.mg X.base:=I.ok.mod
theorem Inv.kIn(I:Inv X pins σ H s):X.K.In s.heap:=I.ok.mod.kin.keeps I.bk
theorem Inv.lt(I:Inv X pins σ H s):X.env.locals<s.heap.objs.size:=let ⟨_,a,_⟩:=I.loc;a.lt
theorem Inv.sz(I:Inv X pins σ H s):X.s₀.heap.objs.size<=s.heap.objs.size:=yH I.ok.above (wA I.lt)
theorem Inv.nofs(I:Inv X pins σ H s){a:Addr}(h:s.heap.objs.size<=a):a∉X.fs:=λb=>by
 obtain⟨_,o,c,_⟩:=I.ok.funs.mem b;exact absurd (zL (zJ c) (yH I.sz h)) (yR _)
theorem Inv.cne(I:Inv X pins σ H s):∀x c,X.env.cells.lookup x=some c->c≠X.env.locals:=λx c e z=>by
 obtain⟨v,o,b,a⟩:=I.cell x c e;obtain⟨m,⟨g,es,ep,d,f,_⟩,_⟩:=I.loc;rw[z,d]at b;cases b;rw[f]at a;cases a
theorem Inv.funs(I:Inv X pins σ H s):s.heap.FunFrames X.base X.outer:=by
 have all:∀(l:List Env),(∀b∈frs l,b∈X.fs)->X.s₀.heap.FunFrames X.base l->s.heap.FunFrames X.base l:=by
  intro l
  induction l with
  |nil=>intro _ _;trivial
  |cons env r g =>
   intro f hl;obtain⟨m,⟨L,o,d,j,k,i⟩,hr⟩:=hl;have a:L∈X.fs:=f L (by unfold frs;rw[vG,d];exact zV);obtain⟨n,e⟩:=I.base.slot L o k (I.ok.frf L a) a λz=>I.ok.exfs L z a;exact⟨m,⟨L,_,d,j,e,i⟩,g (λb c=>f b (by unfold frs;rw[vG,d];exact zN _ c)) hr⟩
 exact all X.outer (λ_ c=>c) I.ok.funs
theorem Inv.stack(I:Inv X pins σ H s):s.heap.FunFrames X.base X.stack:=by
 rcases I.ok.stk with e|⟨e,a⟩
 ·rw[e];exact I.funs
 ·rw[e];obtain⟨m,b,_⟩:=I.loc;refine .cons (by rw[I.ok.kind];decide) a b ?_ I.funs;exact Heap.get?_none_of_le (yH I.ok.bsz I.ok.above)
theorem Inv.stkSub(I:Inv X pins σ H s):∀b∈frs X.stack,b∈X.env.locals:: X.fs:=λb a=>by
 rcases I.ok.stk with e|⟨e,c⟩
 ·rw[e]at a;exact zN _ a
 ·rw[e]at a;unfold frs at a;rw[vG,c]at a;exact a
theorem Inv.stkFree(I:Inv X pins σ H s):∀b∈frs X.stack,H b=none:=λb a=>by
 rcases xC.mp (I.stkSub b a) with e|a
 ·rw[e];exact I.free
 ·obtain⟨_,o,c,_⟩:=I.ok.funs.mem a;exact I.base.free b o c (I.ok.frf b a) λz=>I.ok.exfs b z a
theorem Inv.step{g':Array GenState}{t':Nat}{d':Drawn}{ch:LA}(I:Inv X pins σ H s)
  (t:∀b∈ch,(b∈X.ex\/X.s₀.heap.objs.size<=b)/\b≠X.env.locals/\(∀x c,X.env.cells.lookup x=some c->c≠b)/\∀p∈X.pn++pins,p.1≠b)
  (G:∀b o,b≠X.env.locals->b∉X.fs->b∉ch->s.heap.get? b=some o->H b=none->h'.get? b=some o)
  (J:∀b o,b≠X.env.locals->b∈X.fs->b∉ch->s.heap.get? b=some o->H b=none->∃D,h'.get? b=some {o with slots:=D})(free:∀b o,b∉ch->s.heap.get? b=some o->H b=none->H' b=none)
  (there:∀b o,b∉ch->s.heap.get? b=some o->∃y,h'.get? b=some y)
  (Z:∀b xs,H b=some (.tup xs)->H' b=some (.tup xs))(R:∀b o u,H b=some (.frz o u)->H' b=some (.frz o u))(W:∀b ps,H b=some (.tbl ps)->∃more,H' b=some (.tbl (ps++more)))
  (ns:∀m,s.heap.Ns X.env.locals m->h'.Ns X.env.locals m)(U:HOk X.prog X.w H' h')(T:AllBare g'):
  Inv X pins σ H' {s with heap:=h',gens:=g',drawn:=d',toks:=t'}:=by
 have N:∀b o,X.s₀.heap.get? b=some o->b≠X.env.locals:=λb o e=>zX (zL (zJ e) I.ok.above);have C:∀b o,X.s₀.heap.get? b=some o->b∉X.ex->b∉ch:=λb o e a f=>by
  rcases(t b f).1 with z|z
  ·exact a z
  ·exact absurd (zL (zJ e) z) (yR _)
 have O:∀x c,X.env.cells.lookup x=some c->∀v,s.heap.IsCell c v->h'.IsCell c v:=λx c e v⟨o,g,F⟩=>by
  have w:c∉ch:=λz=>(t c z).2.2.1 x c e rfl
  by_cases K:c∈X.fs
  ·obtain⟨D,q⟩:=J c o (I.cne x c e) K w g (I.freeC x c e);exact⟨_,q,F⟩
  ·exact⟨o,G c o (I.cne x c e) K w g (I.freeC x c e),F⟩
 refine⟨I.ok,I.os,T,⟨λb o e n f a=>?_,λb o e n f a=>?_,λb o e n a=>?_,λb o e a=>?_,λb xs e=>Z b xs (I.base.tups b xs e),λb o xs e=>R b o xs (I.base.frzs b o xs e),λb ps e=>?_⟩,?_,λx c e=>?_,?_,λx c e=>?_,λp M=>?_,U,I.len⟩
 ·exact G b o (N b o e) f (C b o e a) (I.base.keep b o e n f a) (I.base.free b o e n a)
 ·obtain⟨D,e1⟩:=I.base.slot b o e n f a;obtain⟨a1,j⟩:=J b _ (N b o e) f (C b o e a) e1 (I.base.free b o e n a);exact⟨a1,j⟩
 ·obtain⟨y,e1⟩:=I.base.there b o e a;exact free b y (C b o e a) e1 (I.base.free b o e n a)
 ·obtain⟨y,e1⟩:=I.base.there b o e a;exact there b y (C b o e a) e1
 ·obtain⟨Y,e1⟩:=I.base.tbls b ps e;obtain⟨P,j⟩:=W b _ e1;exact⟨Y++P,by rw[j,Array.append_assoc]⟩
 ·obtain⟨m,a0,hl⟩:=I.loc;refine⟨m,ns m a0,λi x v e1 j S=>?_⟩;obtain⟨u,r,l⟩:=hl i x v e1 j S;refine⟨u,r,?_⟩;rcases l with l|⟨k,c,e,z⟩
  ·exact .inl l
  ·exact .inr ⟨k,c,e,O x c e _ z⟩
 ·obtain⟨v,z⟩:=I.cell x c e;exact⟨v,O x c e v z⟩
 ·obtain⟨m,⟨o,_,_,g,_⟩,_⟩:=I.loc;exact free _ o (λz=>(t _ z).2.1 rfl) g I.free
 ·obtain⟨v,o,g,F⟩:=I.cell x c e;exact free c o (λz=>(t c z).2.2.1 x c e rfl) g (I.freeC x c e)
 ·obtain⟨e,n,ne,L,d⟩:=I.pin p M;have w:p.1∉ch:=λz=>(t p.1 z).2.2.2 p M rfl;exact⟨G p.1 p.2 ne L w e n,free p.1 p.2 w e n,ne,L,d⟩
theorem Inv.un{t':Nat}(I:Inv X pins σ H s)(u:Un X.fs [] H H' s.heap h')(g:HOk X.prog X.w H' h'):Inv X pins σ H' {s with heap:=h',toks:=t'}:=by
 obtain⟨m,⟨o,es,ep,d,r⟩,_⟩:=id I.loc;obtain⟨p,f⟩:=u.any d I.free (by simp);exact I.step (g':=s.gens) (d':=s.drawn) (ch:=[]) (λ_ z=>nomatch z) (λb o _ a _ e n=>u.keep b o e n a (by simp)) (λb o _ a _ e n=>u.slot b o e n a (by simp)) (λb o _ e n=>u.free b o e n (by simp)) (λb o _ e=>u.there b o e (by simp)) u.tups u.frzs u.tbls (λt j=>by
  obtain⟨q,l,i,c,k⟩:=j;rw[d]at c;cases c;exact⟨_,l,i,f,k⟩) g I.bare
theorem Inv.call{g':Array GenState}{t':Nat}{d':Drawn}{ch:LA}(I:Inv X pins σ H s)(u:Un (frs X.stack) ch H H' s.heap h')(j:HOk X.prog X.w H' h')(t:AllBare g')
  (g:∀b∈ch,(b∈X.ex\/X.s₀.heap.objs.size<=b)/\b≠X.env.locals/\(∀x c,X.env.cells.lookup x=some c->c≠b)/\∀p∈X.pn++pins,p.1≠b):
  Inv X pins σ H' {s with heap:=h',gens:=g',drawn:=d',toks:=t'}:=by
 obtain⟨m,⟨o,es,ep,i,r⟩,_⟩:=id I.loc;obtain⟨y,d⟩:=u.any i I.free λz=>(g _ z).2.1 rfl;exact I.step (ch:=ch) g (λb o d q a e n=>u.keep b o e n (λz=>(xC.mp (I.stkSub b z)).elim d q) a) (λb o _ _ a e n=>u.any e n a) (λb o a e n=>u.free b o e n a) (λb o a e=>u.there b o e a) u.tups u.frzs u.tbls (λD l=>by
  obtain⟨C,w,k,f,v⟩:=l;rw[i]at f;cases f;exact⟨_,w,k,d,v⟩) j t
theorem Inv.turned{t':Nat}{a:Addr}(I:Inv X pins σ H s)(k:∀b o,b≠a->s.heap.get? b=some o->h'.get? b=some o)(w:H a=none)(f:a≠X.env.locals)
  (t:a∈X.ex\/X.s₀.heap.objs.size<=a)(C:∀x c,X.env.cells.lookup x=some c->c≠a)(i:∀p∈X.pn++pins,p.1≠a):Inv X pins σ H {s with heap:=h',toks:=t'}:=by
 have g:∀b u,H b=some u->b≠a:=λb u e z=>by rw[z,w]at e;cases e
 refine I.step (g':=s.gens) (d':=s.drawn) (ch:=[a]) (λb l=>?_) (λb o _ _ d e _=>k b o (λz=>d (by simp[z])) e) (λb o _ _ d e _=>⟨o.slots,k b o (λz=>d (by simp[z])) e⟩) (λ_ _ _ _ n=>n)
  (λb o d e=>⟨o,k b o (λz=>d (by simp[z])) e⟩) (λ_ _ e=>e) (λ_ _ _ e=>e) (λb ps e=>⟨#[],by rw[e];simp⟩) (λm j=>?_) (λb u e=>?_) I.bare
 ·have e:b=a:=by simpa using l
  subst e;exact⟨t,f,C,i⟩
 ·obtain⟨o,es,ep,y,r⟩:=j;exact⟨o,es,ep,k _ o (yI f) y,r⟩
 ·refine(I.hok b u e).stay (λc v d q=>k c v ?_ q) (λ_ q=>q) λ_ _ q=>q;rcases d with z|z
  ·rw[z];exact g b u e
  ·exact g c _ z
theorem Inv.tok(I:Inv X pins σ H s)(t:Nat):Inv X pins σ H {s with toks:=t}:=I.un (h':=s.heap) (t':=t) Un.refl I.hok
theorem Inv.kept{t':Nat}(I:Inv X pins σ H s)(k:∀b u,s.heap.get? b=some u->h'.get? b=some u):Inv X pins σ H {s with heap:=h',toks:=t'}:=I.un (Un.kept k) (I.hok.kept k)
theorem Inv.laid{a:Addr}{o:HO}{t':Nat}(I:Inv X pins σ H s)(k:∀b u,s.heap.get? b=some u->h'.get? b=some u)(c:s.heap.objs.size<=a)(new:mI X.prog X.w (upd H a o) h' a o):
  Inv X pins σ (upd H a o) {s with heap:=h',toks:=t'}:=I.un (Un.laid k c (I.hok.fresh c)) (I.hok.laid k c new)
theorem Inv.write{x e:Addr}{o:HO}{t':Nat}(I:Inv X pins σ H s)(d:Mut (H x))(a:e=x\/H e=some (.own x))(k:∀b u,b≠e->s.heap.get? b=some u->h'.get? b=some u)(c:∃u,h'.get? e=some u)
  (new:mI X.prog X.w (upd H x o) h' x o):Inv X pins σ (upd H x o) {s with heap:=h',toks:=t'}:=I.un (Un.write d a k c) (I.hok.write d a k c new)
theorem Inv.pins_of{a:PN}(I:Inv X pins σ H s)(h:∀p∈a,s.heap.get? p.1=some p.2/\H p.1=none/\p.1≠X.env.locals/\p.1∉X.fs/\∀v,p.2.data≠.cell v):Inv X a σ H s:=
 ⟨I.ok,I.os,I.bare,I.base,I.loc,I.cell,I.free,I.freeC,λp b=>(oW.mp b).elim (λz=>I.pin p (xE _ z)) (h p),I.hok,I.len⟩
theorem Ax{N:List Str}(d:N.Nodup){i j:Nat}{x:Str}(a:N[i]?=some x)(b:N[j]?=some x):i=j:=by
 obtain⟨e,e1⟩:=nB.mp a;obtain⟨f,c⟩:=nB.mp b;exact(List.getElem_inj d).mp (e1.trans c.symm)
theorem Aw{M:Model}{A:Around}{E:VP}{i:Nat}{x:Str}{v:V}{u:Value}{Q:Unit->Shared->Prop}(I:Inv X pins σ H s)(a4:X.N.Nodup)(hi:X.N[i]?=some x)(l:Loc X.env.scope x)(r:RelV v u)
  (h:∀P,Inv X pins (σ.set i (some v)) H P->(∃a,Heap.SameBut a s.heap P.heap/\(a=X.env.locals\/X.env.cells.lookup x=some a))->Q () P)(b5:X.fn x=true\/X.env.scope.names.lookup x=some .local:=by first|exact .inl rfl|exact .inr rfl|assumption):wpAny M A (storeName X.env x u) Q E s:=by
 obtain⟨m,W,hl⟩:=id I.loc;have a8:(X.env.scope.kind == .class || (X.env.scope.kind == .module && X.env.locals != X.env.globals))=false:=by rw[I.ok.kind];rfl
 have a0:i<σ.length:=by rw[I.len];exact(nB.mp hi).1
 have cne:=I.cne;have a3:∀{a:Addr}{h':Heap},(∃o,s.heap.get? a=some o/\H a=none)->Heap.SameBut a s.heap h'->HOk X.prog X.w H h':=λ{a h'}a9 f b b4 e=>by
  obtain⟨_,_,Z⟩:=a9;refine(I.hok b b4 e).stay (λc G g q=>(f.2 c ?_).trans q) (λ_ q=>q) λ_ _ q=>q;rintro rfl;rcases g with rfl|g
  ·rw[Z]at e;cases e
  ·rw[Z]at g;cases g
 rcases l with w|w
 ·refine wpAny_storeName_local w W (λh' b2 f=>?_) a8;obtain⟨a7,_,_,b1,_⟩:=id W;refine h _ ⟨I.ok,I.os,I.bare,⟨λb o e n D l=>?_,λb o e n D l=>?_,I.base.free,λb o e l=>?_,I.base.tups,I.base.frzs,I.base.tbls⟩,⟨_,b2,λj y N e1 t R=>?_⟩,λy c e=>?_,I.free,I.freeC,λp L=>?_,a3 ⟨a7,b1,I.free⟩ f,by simpa using I.len⟩ ⟨_,f,.inl rfl⟩
  ·exact(f.2 b (zX (zL (zJ e) I.ok.above))).trans (I.base.keep b o e n D l)
  ·obtain⟨J,e1⟩:=I.base.slot b o e n D l;exact⟨J,(f.2 b (zX (zL (zJ e) I.ok.above))).trans e1⟩
  ·obtain⟨U,e1⟩:=I.base.there b o e l;exact⟨U,(f.2 b (zX (zL (zJ e) I.ok.above))).trans e1⟩
  ·by_cases C:j=i
   ·subst C;rw[hi]at e1;cases e1;rw[vN a0]at t;cases t;exact⟨u,r,.inl ⟨w,by simp⟩⟩
   ·rw[rK (yI C)]at t;obtain⟨O,S,q⟩:=hl j y N e1 t R;refine⟨O,S,?_⟩;rcases q with⟨k,e⟩|⟨k,c,e,z⟩
    ·refine .inl ⟨k,?_⟩;have:y≠x:=λe=>C (Ax a4 e1 (e ▸ hi));simp[this,e]
    ·exact .inr ⟨k,c,e,z.sameBut f (cne y c e)⟩
  ·obtain⟨G,z⟩:=I.cell y c e;exact⟨G,z.sameBut f (cne y c e)⟩
  ·obtain⟨e,n,ne,K,d⟩:=I.pin p L;exact⟨(f.2 p.1 ne).trans e,n,ne,K,d⟩
 ·have T:X.fn x=true:=by
   rcases b5 with z|z
   ·exact z
   ·rw[z]at w;cases w
  obtain⟨c,g⟩:=I.ok.has x (.inl w);obtain⟨G,z⟩:=I.cell x c g;refine wpAny_storeName_cell I.ok.kind w g z (λh' Y f=>?_);obtain⟨a1,a2,a6⟩:=id z;refine h {s with heap:=h'} ⟨I.ok,I.os,I.bare,⟨λb o e n D l=>?_,λb o e n D l=>?_,I.base.free,λb o e l=>?_,I.base.tups,I.base.frzs,I.base.tbls⟩,⟨m,W.sameBut f (yI (cne x c g)),λj y N e1 t R=>?_⟩,λy F e=>?_,I.free,I.freeC,λp L=>?_,a3 ⟨a1,a2,I.freeC x c g⟩ f,by simpa using I.len⟩ ⟨c,f,.inr g⟩
  ·exact(f.2 b (zX (zL (zJ e) (I.ok.cab x c T g)))).trans (I.base.keep b o e n D l)
  ·obtain⟨J,e1⟩:=I.base.slot b o e n D l;exact⟨J,(f.2 b (zX (zL (zJ e) (I.ok.cab x c T g)))).trans e1⟩
  ·obtain⟨U,e1⟩:=I.base.there b o e l;exact⟨U,(f.2 b (zX (zL (zJ e) (I.ok.cab x c T g)))).trans e1⟩
  ·by_cases C:j=i
   ·subst C;rw[hi]at e1;cases e1;rw[vN a0]at t;cases t;exact⟨u,r,.inr ⟨.inl w,c,g,Y⟩⟩
   ·rw[rK (yI C)]at t;obtain⟨O,S,q⟩:=hl j y N e1 t R;refine⟨O,S,?_⟩;rcases q with q|⟨k,F,e,b7⟩
    ·exact .inl q
    ·refine .inr ⟨k,F,e,b7.sameBut f ?_⟩;rintro rfl;exact C (Ax a4 e1 (I.ok.inj _ _ _ e g ▸ hi))
  ·by_cases a5:F=c
   ·subst a5;exact⟨_,Y⟩
   ·obtain⟨b6,b0⟩:=I.cell y F e;exact⟨b6,b0.sameBut f a5⟩
  ·obtain⟨e,n,ne,K,d⟩:=I.pin p L;refine⟨(f.2 p.1 ?_).trans e,n,ne,K,d⟩;intro q;rw[q,a2]at e;have b3:a1=p.2:=yA e;exact d G (by rw[←b3];exact a6)
theorem gP{M:Model}{A:Around}{E:VP}{i:Nat}{x:Str}{v:V}{u:Value}{Q:Unit->Shared->Prop}(I:Inv X pins σ H s)(e:X.N.Nodup)(hi:X.N[i]?=some x)(b:Loc X.env.scope x)(r:RelV v u)
  (h:∀a,Inv X pins (σ.set i (some v)) H a->Q () a)(d:X.fn x=true\/X.env.scope.names.lookup x=some .local:=by first|exact .inl rfl|exact .inr rfl|assumption):wpAny M A (storeName X.env x u) Q E s:=
 Aw I e hi b r (λa c _=>h a c) d
theorem Inv.call'{a:Shared}{ch:LA}(I:Inv X pins σ H s)(i:a.os=s.os)(u:Un (frs X.stack) ch H H' s.heap a.heap)(d:HOk X.prog X.w H' a.heap)(j:AllBare a.gens)
  (f:∀b∈ch,(b∈X.ex\/X.s₀.heap.objs.size<=b)/\b≠X.env.locals/\(∀x c,X.env.cells.lookup x=some c->c≠b)/\∀p∈X.pn++pins,p.1≠b):Inv X pins σ H' a:=by
 obtain⟨h',g',d',t',g⟩:=a;have e:g=s.os:=i;subst e;exact I.call (g':=g') (t':=t') (d':=d') u d j f
end
abbrev XK:=Value->Option Addr->Hp->Prop
abbrev St:=List (Option V)
abbrev VK:=V->Hp->Prop
abbrev TE:=St->Hp->VK->Prop
abbrev TT:=St->Hp->(Bool->Hp->Prop)->Prop
abbrev TA:=St->Hp->(List V->Hp->Prop)->Prop
structure Ends where
 nx:St->Hp->Prop
 rt:VK
 bk:St->Hp->Prop:=λ_ _=>False
 ct:St->Hp->Prop:=λ_ _=>False
abbrev TS:=Ends->St->Hp->Prop
def EP(X:Cx)(pins:PN)(σ:St)(Q:VK)(u:Value)(s':Shared):Prop:=∃v H',Inv X pins σ H' s'/\RelV v u/\Q v H'
def TP(X:Cx)(pins:PN)(σ:St)(Q:Bool->Hp->Prop)(b:Bool)(s':Shared):Prop:=∃H',Inv X pins σ H' s'/\Q b H'
def AP(X:Cx)(pins:PN)(σ:St)(Q:List V->Hp->Prop)(us:LW)(s':Shared):Prop:=∃vs H',Inv X pins σ H' s'/\Vals vs us/\Q vs H'
def SP(X:Cx)(pins:PN)(D:Ends)(f:Flow)(s':Shared):Prop:=
 match f with
 |.next=>∃σ' H',Inv X pins σ' H' s'/\D.nx σ' H'
 |.brk=>∃σ' H',Inv X pins σ' H' s'/\D.bk σ' H'
 |.cont=>∃σ' H',Inv X pins σ' H' s'/\D.ct σ' H'
 |.ret u=>∃v σ' H',Inv X pins σ' H' s'/\RelV v u/\D.rt v H'
def PE(X:Cx)(e:Expr)(t:TE):Prop:=
 ∀(pins:PN)(s:Shared)(σ:St)(H:Hp)(Q:VK),Inv X pins σ H s->t σ H Q->wpAny (model X.prog X.w) X.A (eval e X.env) (EP X pins σ Q) X.xe s
def PT(X:Cx)(e:Expr)(t:TT):Prop:=
 ∀(pins:PN)(s:Shared)(σ:St)(H:Hp)(Q:Bool->Hp->Prop),Inv X pins σ H s->t σ H Q->wpAny (model X.prog X.w) X.A (isTrue e X.env (eval e X.env)) (TP X pins σ Q) X.xe s
def PW(X:Cx)(e:Expr)(t:TT):Prop:=
 ∀(whole:Sem Value)(pins:PN)(s:Shared)(σ:St)(H:Hp)(Q:Bool->Hp->Prop),Inv X pins σ H s->t σ H Q->wpAny (model X.prog X.w) X.A (isTrue e X.env whole) (TP X pins σ Q) X.xe s
theorem PW.pt{X:Cx}{e:Expr}{t:TT}(h:PW X e t):PT X e t:=h _
def PA(X:Cx)(es:List Expr)(t:TA):Prop:=
 ∀(pos:Pos)(pins:PN)(s:Shared)(σ:St)(H:Hp)(Q:List V->Hp->Prop),Inv X pins σ H s->t σ H Q->wpAny (model X.prog X.w) X.A (spliced (backTo pos (starEach es X.env))) (AP X pins σ Q) X.xe s
def PS(X:Cx)(st:Stmt)(t:TS):Prop:=
 ∀(pins:PN)(s:Shared)(σ:St)(H:Hp)(D:Ends),Inv X pins σ H s->t D σ H->wpAny (model X.prog X.w) X.A (exec st X.env) (SP X pins D) X.xe s
def PSs(X:Cx)(st:List Stmt)(t:TS):Prop:=
 ∀(pins:PN)(s:Shared)(σ:St)(H:Hp)(D:Ends),Inv X pins σ H s->t D σ H->wpAny (model X.prog X.w) X.A (execs st X.env) (SP X pins D) X.xe s
theorem thn{b:Type}{t:Sem b}{Q c:b->Shared->Prop}{M:Model}{A:Around}{E:VP}{s:Shared}(h:wpAny M A t Q E s)(d:∀a s,Q a s->c a s):wpAny M A t c E s:=zU h d λ_ _ x=>x
section
variable {X:Cx}
def tVar(i:Nat):TE:=λσ H Q=>∃v,σ[i]?=some (some v)/\Q v H
def tC(v:V):TE:=λ_ H Q=>Q v H
theorem Ot{i:Nat}{x:Str}{j:Pos}(q:X.N[i]?=some x)(o:Vis X.env.scope x)(d:(x == ("__debug__" :Str))=false:=by decide)(n:(x == ("__classdict__" :Str))=false:=by decide):PE X (.Name x j) (tVar i):=by
 intro t s w H Q I h;obtain⟨v,e,h⟩:=h;obtain⟨m,p,hl⟩:=I.loc;obtain⟨u,r,l⟩:=hl i x v q e o;have b:EP X t w Q u s:=⟨v,H,I,r,h⟩;rcases l with⟨a,k⟩|⟨a,c,f,g⟩
 ·exact wpAny_Name (wpAny_loadName_local I.ok.kind a p k b) d
 ·rcases a with a|a
  ·exact wpAny_Name (wpAny_loadName_cell I.ok.kind a f g b) d
  ·exact wpAny_Name (wpAny_loadName_free I.ok.kind a f g b n) d
theorem nI{i j a}:PE X (.Constant (.int i) j a) (tC (.int i)):=λ_ _ _ H _ I h=>wpAny_Constant_int ⟨.int i,H,I.tok _,⟨_,rfl⟩,h⟩
theorem gQ{b j a}:PE X (.Constant (.bool b) j a) (tC (.bl b)):=λ_ _ _ H _ I h=>Constant_bool ⟨.bl b,H,I,rfl,h⟩
theorem gR{j a}:PE X (.Constant .none j a) (tC .non):=λ_ _ _ H _ I h=>Constant_none ⟨.non,H,I,rfl,h⟩
theorem mL{x j a}:PE X (.Constant (.str x) j a) (tC (.str x)):=λ_ _ _ H _ I h=>Calls.Constant_str ⟨.str x,H,I.tok _,⟨_,rfl⟩,h⟩
def Gl(X:Cx)(x:Str):Prop:=X.env.kindOf x=some .globalImplicit
theorem jI{E:VP}{e:PN}{s:Shared}{f:St}{H:Hp}{x:Str}{u:Value}{a:Pos}{Q:VP}(I:Inv X e f H s)(d:Gl X x)(b:X.mg x=some u)(h:Q u s)
  (c:(x == ("__debug__" :Str))=false:=by decide):wpAny (model X.prog X.w) X.A (eval (.Name x a) X.env) Q E s:=
 Calls.Name_function_global I.ok.kind d (Calls.loadGlobal_global (by rw[I.ok.glob];exact I.mod.glob.keeps I.bk) b h) c
theorem fN{E:VP}{i:PN}{s:Shared}{k:St}{H:Hp}{x:Str}{u:Value}{a:Pos}{Q:VP}(I:Inv X i k H s)(g:Gl X x)(b:X.mg x=none)(c:bootBuiltins x=some u)(h:Q u s)
  (f:x≠"__name__" := by decide)(e:(x == ("__debug__" :Str))=false:=by decide):wpAny (model X.prog X.w) X.A (eval (.Name x a) X.env) Q E s:=by
 obtain⟨l,d,j⟩:=I.mod.blt;exact Calls.Name_function_global I.ok.kind g (Calls.loadGlobal_builtin (by rw[I.ok.glob];exact I.mod.glob.keeps I.bk) b (by rw[I.ok.blt];exact d.keeps I.bk) ((j x f).trans c) h) e
theorem gT{x:Str}{v:V}{u:Value}{b:Pos}(a:Gl X x)(c:X.mg x=some u)(r:RelV v u)(d:(x == ("__debug__" :Str))=false:=by decide):PE X (.Name x b) (tC v):=
 λ_ _ _ H _ I h=>jI I a c ⟨v,H,I,r,h⟩ d
theorem fO{x:Str}{v:V}{u:Value}{a:Pos}(e:Gl X x)(b:X.mg x=none)(f:bootBuiltins x=some u)(r:RelV v u)(c:x≠"__name__" := by decide)(d:(x == ("__debug__" :Str))=false:=by decide):PE X (.Name x a) (tC v):=
 λ_ _ _ H _ I h=>fN I e b f ⟨v,H,I,r,h⟩ c d
variable {a b:Expr} {ta tb:TE} {pos:Pos}
def tB(t:TE):TT:=λσ H Q=>t σ H λx H1=>∃c,x=.bl c/\Q c H1
theorem lY{e:Expr}{t:TE}(h:PE X e t)(i:∀c,isTrue e X.env c=(do let v ←c;standAt e.pos;holding [v] (truthy v)):=by intro _;rfl):PT X e (tB t):=by
 intro m s n H Q I g;refine isTrue_plain (thn (h m s n H _ I g) λv o⟨x,j,k,l,f⟩=>?_) (i _);obtain⟨d,rfl,q⟩:=f;cases l;exact vY ⟨j,k,q⟩
variable {tA tB':TT} {rest:List Expr}
def tAnd(t u:TT):TT:=λσ H Q=>t σ H λc H1=>if c=true then u σ H1 Q else Q false H1
def tOr(t u:TT):TT:=λσ H Q=>t σ H λc H1=>if c=true then Q true H1 else u σ H1 Q
def tNot(t:TT):TT:=λσ H Q=>t σ H λc H1=>Q (!c) H1
theorem jX(d:PT X a tA):PW X (.BoolOp .Or [a] pos) tA:=by
 intro i f s g H Q I h;refine isTrue_or (thn (d f s g H Q I h) λc j e=>?_);cases c with
 |false=>exact isTrue_or_nil e
 |true=>exact e
theorem kZ(m:PT X a tA)(l:PW X (.BoolOp .Or (b:: rest) pos) tB'):PW X (.BoolOp .Or (a:: b:: rest) pos) (tOr tA tB'):=by
 intro j g s i H Q I h;refine isTrue_or (thn (m g s i H _ I h) λc k⟨e,f,d⟩=>?_);cases c with
 |true=>exact⟨e,f,d⟩
 |false=>exact l j g k i e Q f d
theorem gU(d:PT X a tA):PT X (.UnaryOp .Not a pos) (tNot tA):=by
 intro e s g H Q I h;exact isTrue_not (d e s g H (λc f=>Q (!c) f) I h)
def Os(ta tb:TE):TE:=λσ H Q=>ta σ H λx H1=>∃c,x=.bl c/\if c=true then tb σ H1 Q else Q (.bl false) H1
def tOrV(ta tb:TE):TE:=λσ H Q=>ta σ H λx H1=>∃c,x=.bl c/\if c=true then Q (.bl true) H1 else tb σ H1 Q
def u_T(ta:TE):TE:=λσ H Q=>ta σ H λx H1=>∃c,x=.bl c/\Q (.bl (!c)) H1
theorem Av{op}{t:TE}(h:PE X a t):PE X (.BoolOp op [a] pos) t:=λd s e H Q I c=>BoolOp_one (h d s e H Q I c)
theorem Fr(l:PE X a ta)(k:PE X (.BoolOp .And (b:: rest) pos) tb):PE X (.BoolOp .And (a:: b:: rest) pos) (Os ta tb):=by
 intro g s i H Q I h;refine BoolOp_and (thn (l g s i H _ I h) λv j⟨x,e,f,m,d⟩=>?_);obtain⟨c,rfl,d⟩:=d;cases m;refine vY ?_;cases c with
 |true=>exact k g j i e Q f d
 |false=>exact⟨.bl false,e,f,rfl,d⟩
theorem Oq(l:PE X a ta)(k:PE X (.BoolOp .Or (b:: rest) pos) tb):PE X (.BoolOp .Or (a:: b:: rest) pos) (tOrV ta tb):=by
 intro g s i H Q I h;refine BoolOp_or (thn (l g s i H _ I h) λv j⟨x,e,f,m,d⟩=>?_);obtain⟨c,rfl,d⟩:=d;cases m;refine vY ?_;cases c with
 |false=>exact k g j i e Q f d
 |true=>exact⟨.bl true,e,f,rfl,d⟩
def tIf(t:TT)(ta tb:TE):TE:=λσ H Q=>t σ H λc H1=>if c=true then ta σ H1 Q else tb σ H1 Q
theorem Op{c:Expr}(m:PT X c tA)(n:PE X a ta)(l:PE X b tb):PE X (.IfExp c a b pos) (tIf tA ta tb):=by
 intro e s f H Q I h;refine wpAny_IfExp (thn (m e s f H _ I h) λd i⟨j,k,g⟩=>?_);cases d with
 |true=>exact n e i f j Q k g
 |false=>exact l e i f j Q k g
end
def SqL(K:Frag)(H:Hp)(a:Addr)(xs:List V):Prop:=
 Rd H a (.lst xs) \/
  ∃(o:Obj)(its:Array Value)(n:Nat),K.lookup a=some o/\o.cls=.type "list" /\ o.dict=none/\o.data=.seq its n/\its.size<=sizeLine/\Vals xs its.toList
def SqT(K:Frag)(H:Hp)(a:Addr)(xs:List V):Prop:=
 Rd H a (.tup xs) \/
  ∃(o:Obj)(its:Array Value)(n:Nat),K.lookup a=some o/\o.cls=.type "tuple" /\ o.data=.seq its n/\its.size<=sizeLine/\Vals xs its.toList
def absV:Value->Option V
 |.none=>some .non
 |.bool b=>some (.bl b)
 |.int i _=>some (.int i)
 |.str x _=>some (.str x)
 |.bytes b _=>some (.byt b)
 |.float b _=>some (.flt b)
 |.ref a=>some (.ref a)
 |.type n=>some (.ty n)
 |_=>none
theorem RelV.abs{x:V}{u:Value}(r:RelV x u):absV u=some x:=by
 cases x with
 |non=>cases r;rfl
 |bl _=>cases r;rfl
 |int _=>obtain⟨t,rfl⟩:=r;rfl
 |str _=>obtain⟨t,rfl⟩:=r;rfl
 |byt _=>obtain⟨t,rfl⟩:=r;rfl
 |flt _=>obtain⟨t,rfl⟩:=r;rfl
 |ref _=>cases r;rfl
 |ty _=>cases r;rfl
theorem RelV.inj{x y:V}{u:Value}(r:RelV x u)(q:RelV y u):x=y:=yA (r.abs.symm.trans q.abs)
theorem Vals.inj:∀{xs ys:List V}{us:LW},Vals xs us->Vals ys us->xs=ys
 |_,_,_,.nil,.nil=>rfl
 |_,_,_,.cons r t,.cons a t'=>by rw[r.inj a,Vals.inj t t']
section
variable {X:Cx} {pins:PN} {σ:St} {H:Hp} {s:Shared} {a:Addr} {xs ys:List V}
theorem SqL.of{K:Frag}(h:H a=some (.lst xs)):SqL K H a xs:=.inl (.inl h)
theorem SqT.of{K:Frag}(h:H a=some (.tup xs)):SqT K H a xs:=.inl (.inl h)
theorem Inv.list(I:Inv X pins σ H s)(h:SqL X.K H a xs):∃its:LW,Vals xs its/\PlainL s.heap a its.toArray/\xs.length<=sizeLine:=by
 rcases h with h|⟨o,its,n,f,c,d,b,g,r⟩
 ·obtain⟨z,its,n,r,e⟩:=h.ok I.hok;exact⟨its,r,⟨_,n,e,rfl,rfl,rfl⟩,z⟩
 ·refine⟨its.toList,r,⟨o,n,I.kIn a o f,c,d,by simpa using b⟩,?_⟩;have e:=r.length;simp only[Array.length_toList]at e;omega
theorem Inv.tuple(I:Inv X pins σ H s)(h:SqT X.K H a xs):∃its:LW,Vals xs its/\IsTup s.heap a its.toArray/\xs.length<=sizeLine:=by
 rcases h with h|⟨o,its,n,d,b,c,f,r⟩
 ·obtain⟨z,its,r,p⟩:=h.ok I.hok;exact⟨its,r,p,z⟩
 ·refine⟨its.toList,r,⟨o,I.kIn a o d,b,n,by simpa using c⟩,?_⟩;have e:=r.length;simp only[Array.length_toList]at e;omega
theorem Inv.list_inj(I:Inv X pins σ H s)(h:SqL X.K H a xs)(h':SqL X.K H a ys):xs=ys:=by
 obtain⟨its,r,⟨o,n,e,_,_,d⟩,_⟩:=I.list h;obtain⟨its',f,⟨g,i,b,_,_,d'⟩,_⟩:=I.list h';rw[e]at b;cases b;rw[d]at d';injection d' with c _;have:its=its':=by simpa using wG Array.toList c
 subst this;exact r.inj f
theorem Inv.tuple_inj(I:Inv X pins σ H s)(h:SqT X.K H a xs)(h':SqT X.K H a ys):xs=ys:=by
 obtain⟨its,r,⟨o,e,_,n,d⟩,_⟩:=I.tuple h;obtain⟨its',f,⟨g,b,_,i,d'⟩,_⟩:=I.tuple h';rw[e]at b;cases b;rw[d]at d';injection d' with c _;have:its=its':=by simpa using wG Array.toList c
 subst this;exact r.inj f
end
abbrev Cx.wish(X:Cx)(E:VP):Cx:={X with xe:=E}
abbrev Cx.nox(X:Cx):Cx:=X.wish λ_ _=>False
theorem Cx.Ok.wish{X:Cx}(ok:X.Ok)(E:VP):(X.wish E).Ok:=
 ⟨ok.mod,ok.kind,ok.glob,ok.blt,ok.above,ok.inj,ok.has,ok.cab,ok.hd,ok.frames,ok.stk,ok.exf,ok.bs,ok.bsz,ok.noex,ok.exfs,ok.funs,ok.frf⟩
theorem Cx.Ok.unwish{X:Cx}{E:VP}(ok:(X.wish E).Ok):X.Ok:=
 ⟨ok.mod,ok.kind,ok.glob,ok.blt,ok.above,ok.inj,ok.has,ok.cab,ok.hd,ok.frames,ok.stk,ok.exf,ok.bs,ok.bsz,ok.noex,ok.exfs,ok.funs,ok.frf⟩
section
variable {X:Cx} {pins:PN} {σ:St} {H:Hp} {s:Shared} {E:VP}
theorem Inv.wish(I:Inv X pins σ H s)(E:VP):Inv (X.wish E) pins σ H s:=⟨I.ok.wish E,I.os,I.bare,I.base,I.loc,I.cell,I.free,I.freeC,I.pin,I.hok,I.len⟩
theorem Inv.unwish(I:Inv (X.wish E) pins σ H s):Inv X pins σ H s:=⟨I.ok.unwish,I.os,I.bare,I.base,I.loc,I.cell,I.free,I.freeC,I.pin,I.hok,I.len⟩
theorem SP.unwish{D:Ends}{f:Flow}{b:Shared}(h:SP (X.wish E) pins D f b):SP X pins D f b:=by
 cases f with
 |next=>obtain⟨a,H',I,q⟩:=h;exact⟨a,H',I.unwish,q⟩
 |brk=>obtain⟨a,H',I,q⟩:=h;exact⟨a,H',I.unwish,q⟩
 |cont=>obtain⟨a,H',I,q⟩:=h;exact⟨a,H',I.unwish,q⟩
 |ret u=>obtain⟨v,a,H',I,r,q⟩:=h;exact⟨v,a,H',I.unwish,r,q⟩
theorem PSs.nox{st:List Stmt}{t:TS}(h:PSs X.nox st t):PSs X st t:=λpins s σ H D I a =>
 zU (h pins s σ H D (I.wish _) a) (λ_ _ q=>q.unwish) λ_ _ z=>False.elim z
end
section
variable {X:Cx} {st:Stmt} {rest:List Stmt} {t u:TS} {e:Expr} {te:TE} {pos:Pos}
def Oo:TS:=λD σ H=>D.nx σ H
def tSeq(t u:TS):TS:=λD σ H=>t {D with nx:=u D} σ H
theorem mE:PSs X [] Oo:=λ_ _ a H _ I h=>uM ⟨a,H,I,h⟩
theorem nF(g:PS X st t)(i:PSs X rest u):PSs X (st:: rest) (tSeq t u):=by
 intro a s j H D I h;refine wpAny_execs_cons (thn (g a s j H {D with nx:=u D} I h) λf b q=>?_);cases f with
 |next =>
  obtain⟨d,H',c,q⟩:=q;exact i a b d H' D c q
 |ret v=>exact q
 |brk=>exact q
 |cont=>exact q
theorem nJ(a:PS X st t):PSs X [st] t:=by
 intro b s c H D I h;refine wpAny_execs_cons (thn (a b s c H D I h) λf d q=>?_);cases f with
 |next=>exact uM q
 |ret v=>exact q
 |brk=>exact q
 |cont=>exact q
def On:TS:=λD σ H=>D.ct σ H
theorem Om:PS X (.Continue pos) On:=λ_ _ a H _ I h=>wpAny_Continue ⟨a,H,I,h⟩
theorem Inv.quiet{a:PN}{b:St}{H:Hp}{s:Shared}(I:Inv X a b H s):interactive X.env=false:=by simp[interactive,I.ok.kind]
def Au(te:TE):TS:=λD σ H=>te σ H λ_ H1=>D.nx σ H1
theorem jJ(d:PE X e te)(c:swapsWith e none pos.line X.env=pure false:=by rfl):PS X (.Expr e pos) (Au te):=by
 intro i s a H D I h;exact wpAny_Expr_any (thn (d i s a H _ I h) λv j⟨x,f,g,k,b⟩=>⟨a,f,g,b⟩) I.quiet c
def tRet(te:TE):TS:=λD σ H=>te σ H D.rt
theorem nX(c:PE X e te):PS X (.Return (some e) pos) (tRet te):=by
 intro i s a H D I h;exact wpAny_Return_some (thn (c i s a H _ I h) λv j⟨x,d,f,g,b⟩=>⟨x,a,d,f,g,b⟩)
def u_W:TS:=λD _ H=>D.rt .non H
def tIfS(c:TT)(t u:TS):TS:=λD σ H=>c σ H λb H1=>if b=true then t D σ H1 else u D σ H1
theorem mF{c:Expr}{a b:List Stmt}{i:TT}(o:PT X c i)(p:PSs X a t)(n:PSs X b u):PS X (.If c a b pos) (tIfS i t u):=by
 intro f s g H D I h;refine wpAny_If (thn (o f s g H _ I h) λd k⟨l,m,j⟩=>?_);cases d with
 |true=>exact p f k g l D m j
 |false=>exact n f k g l D m j
def Fq:TS:=λ_ _ _=>False
theorem At:PS X st Fq:=λ_ _ _ _ _ _ h=>h.elim
theorem Ol{a:List Stmt}:PSs X a Fq:=λ_ _ _ _ _ _ h=>h.elim
end
abbrev TG:=V->St->Hp->(St->Hp->Prop)->Prop
abbrev TGs:=List V->St->Hp->(St->Hp->Prop)->Prop
def PG(X:Cx)(target:Expr)(t:TG):Prop:=
 ∀(pins:PN)(s:Shared)(σ:St)(H:Hp)(v:V)(u:Value)(Q:St->Hp->Prop),Inv X pins σ H s->RelV v u->t v σ H Q ->
  wpAny (model X.prog X.w) X.A (assign target X.env u) (λ_ s'=>∃σ' H',Inv X pins σ' H' s'/\Q σ' H') X.xe s
def PGs(X:Cx)(ts:List Expr)(t:TGs):Prop:=
 ∀(pins:PN)(s:Shared)(σ:St)(H:Hp)(vs:List V)(us:LW)(Q:St->Hp->Prop),Inv X pins σ H s->Vals vs us->t vs σ H Q ->
  wpAny (model X.prog X.w) X.A (assignInOrder ((assignEach ts X.env).map (·.2)) us) (λ_ s'=>∃σ' H',Inv X pins σ' H' s'/\Q σ' H') X.xe s
abbrev TSet:=V->V->V->Hp->(Hp->Prop)->Prop
def PSet(X:Cx)(t:TSet):Prop:=
 ∀(pins:PN)(s:Shared)(σ:St)(H:Hp)(o i v:V)(ov iv u:Value)(Q:Hp->Prop),Inv X pins σ H s->RelV o ov->RelV i iv->RelV v u->t o i v H Q ->
  wpAny (model X.prog X.w) X.A (setItem ov iv u) (λ_ s'=>∃H',Inv X pins σ H' s'/\Q H') X.xe s
abbrev TIp:=V->V->Hp->VK->Prop
def PIp(X:Cx)(op:Operator)(t:TIp):Prop:=
 ∀(pins:PN)(s:Shared)(σ:St)(H:Hp)(x y:V)(v u:Value)(Q:VK),Inv X pins σ H s->RelV x v->RelV y u->t x y H Q ->
  wpAny (model X.prog X.w) X.A (inplaceOp op v u) (EP X pins σ Q) X.xe s
section
variable {X:Cx} {pos:Pos}
def nS(i:Nat):TG:=λv σ H Q=>Q (σ.set i (some v)) H
theorem mM{i:Nat}{x:Str}(d:X.N.Nodup)(hi:X.N[i]?=some x)(a:Loc X.env.scope x)(c:X.fn x=true\/X.env.scope.names.lookup x=some .local:=by first|exact .inl rfl|exact .inr rfl|assumption):PG X (.Name x pos) (nS i):=by
 intro f s g H v u Q I r h;exact qZ (gP I d hi a r (λe b=>⟨_,H,b,h⟩) c)
def gNil:TGs:=λvs σ H Q=>vs=[]/\Q σ H
def lM(t:TG)(u:TGs):TGs:=λvs σ H Q=>∃v r,vs=v:: r/\t v σ H λσ' H'=>u r σ' H' Q
theorem jR:PGs X [] gNil:=by
 intro b s a H vs us Q I r h;obtain⟨e,h⟩:=h;subst e;cases r;exact assignInOrder_nil ⟨a,H,I,h⟩
theorem mY{e:Expr}{es:List Expr}{t:TG}{u:TGs}(i:PG X e t)(l:PGs X es u)
  (d:(assignEach (e:: es) X.env).map (·.2)=assign e X.env:: (assignEach es X.env).map (·.2):=by rfl):PGs X (e:: es) (lM t u):=by
 intro a s m H vs us Q I r h;obtain⟨v,n,e1,h⟩:=h;subst e1;cases r with
 |cons r j =>
  rw[d];refine qK (thn (i a s m H _ _ _ I r h) λ_ c⟨g,f,k,b⟩=>?_);exact l a c g f _ _ Q k j b
def gTup(K:Frag)(n:Nat)(t:TGs):TG:=λv σ H Q=>∃a xs,v=.ref a/\SqT K H a xs/\xs.length=n/\t xs σ H Q
theorem jY{es:List Expr}{k:Nat}{t:TGs}{n:Nat}(l:X.calm=true)(h:PGs X es t)
  (p:(assignEach es X.env).length=n:=by rfl)(m:(assignEach es X.env).findIdx? (·.1)=none:=by rfl):PG X (.Tuple es k pos) (gTup X.K n t):=by
 intro f s g H v u Q I r c;obtain⟨a,xs,e1,i,hl,c⟩:=c;subst e1;cases r;obtain⟨its,d,w,x⟩:=I.tuple i;refine assign_Tuple_tuple (I.ok.hd l) w (by simp[p,←hl,d.length]) m λh' j=>?_;have q:Inv X f g H {s with heap:=h'}:=I.kept (t':=s.toks) λb o e=>j b o (zX (zJ e)) e;exact h f _ g H xs _ Q q (by simpa using d) c
def gSub(to ti:TE)(t:TSet):TG:=λv σ H Q=>to σ H λo H1=>ti σ H1 λi H2=>t o i v H2 λH3=>Q σ H3
theorem cK{o i:Expr}{e f:TE}{t:TSet}(G:PE X o e)(hi:PE X i f)(k:PSet X t)
  (n:∀v,assign (.Subscript o i pos) X.env v=(do
   let a ←holding [v] (eval o X.env)
   let b ←holding [v,a] (eval i X.env)
   standAt pos
   holding [v,a,b] (setItem a b v)
   release [v,a,b] []):=by intro _;rfl):PG X (.Subscript o i pos) (gSub e f t):=by
 intro d s c H v u Q I r h;rw[n];refine zA (yL (thn (G d s c H _ I h) λa D⟨x,j,p,J,g⟩=>?_));refine zA (yL (thn (hi d D c j _ p g) λb l⟨y,C,q,w,m⟩=>?_));refine zA (xO (zA (yL (thn (k d l c C x y v a b u _ q J w r m) λ_ L⟨K,F,z⟩=>?_))));exact wpAny_release ⟨c,K,F,z⟩
def tAsg(te:TE)(g:TG):TS:=λD σ H=>te σ H λx H1=>g x σ H1 D.nx
theorem gW{a e:Expr}{te:TE}{g:TG}(k:PE X e te)(n:PG X a g)(j:swapsWithSole [a] e pos.line X.env=pure false:=by rfl)(i:swappedStores [a] e X.env=pure none:=by rfl)
  (m:(assignEach [a] X.env).map (·.2)=[assign a X.env]:=by rfl):PS X (.Assign [a] e pos) (tAsg te g):=by
 intro b s c H D I h;refine wpAny_Assign_stores (thn (k b s c H _ I h) λv f⟨x,l,o,p,d⟩=>?_) j i;rw[m];exact thn (n b f c l x v _ o p d) λ_ r q=>q
theorem nP{i:Nat}{x:Str}{e:Expr}{te:TE}{a:Pos}(l:X.N.Nodup)(hi:X.N[i]?=some x)(d:Loc X.env.scope x)(j:PE X e te)(c:swapsWith e (some (.Name x a)) pos.line X.env=pure false:=by rfl)(k:X.fn x=true\/X.env.scope.names.lookup x=some .local:=by first|exact .inl rfl|exact .inr rfl|assumption):
  PS X (.Assign [.Name x a] e pos) (tAsg te (nS i)):=by
 intro o s p H D I h;refine wpAny_Assign_Name (thn (j o s p H _ I h) λv q⟨y,g,m,n,b⟩=>?_) c;exact gP m l hi d n (λr f=>⟨_,g,f,b⟩) k
def tPar(i j:Nat)(ta:TA):TS:=λD σ H=>ta σ H λvs H1=>∃v w,vs=[v,w]/\D.nx ((σ.set i (some v)).set j (some w)) H1
theorem Oj{i j:Nat}{x y:Str}{a b:Expr}{r:TA}{l m pt:Pos}{n k2 k}(K:X.calm=true)(C:X.N.Nodup)(hi:X.N[i]?=some x)(U:X.N[j]?=some y)(V:i≠j)
  (F:X.env.scope.names.lookup x=some .local)(G:X.env.scope.names.lookup y=some .local)(N:PA X [a,b] r)
  (Y:swappedStores [.Tuple [.Name x l,.Name y m] n pt] (.Tuple [a,b] k2 k) X.env=pure (some [x,y]))
  (M:swapsWithSole [.Tuple [.Name x l,.Name y m] n pt] (.Tuple [a,b] k2 k) pos.line X.env=pure false:=by rfl):
  PS X (.Assign [.Tuple [.Name x l,.Name y m] n pt] (.Tuple [a,b] k2 k) pos) (tPar i j r):=by
 intro u s J H D I h;rw[exec_Assign_arm];refine zA (xO ?_);rw[M];refine zA (zB ?_);rw[zD ∅];refine zA (Tuple_ (thn (N _ u s J H _ I h) λus f⟨vs,t,O,a1,g⟩=>?_));obtain⟨v,w,e1,g⟩:=g;subst e1;obtain⟨c,d,rfl,R,a0⟩:∃c d,us=[c,d]/\RelV v c/\RelV w d:=by
  cases a1 with
  | cons p q =>
   cases q with
   |cons L S =>
    cases S;exact⟨_,_,rfl,p,L⟩
 refine xB ?_ (by show 2<=sizeLine;decide);have T:Inv X u J t {f with heap:=f.heap.push {cls:=.type "tuple",data:=.seq [c,d].toArray}}:=O.kept (t':=f.toks) λb o e=>zC _ e;rw[Y];refine zA (zB ?_);show wpAny (model X.prog X.w) X.A (do rule "assign.swapped-stores";let items ←unpackItems (.ref f.heap.objs.size) 2 none;assignInOrder [λv=>bindName X.env y v,λv=>bindName X.env x v] items.reverse;pure Flow.next) _ _ _;refine zA (wM (zA (unpackItems_tuple (items:=#[c,d]) (I.ok.hd K) (IsTup.new f.heap _) λh' P=>?_)));have Z:=T.kept (h':=h') (t':=f.toks) λb o e=>P b o (zX (zJ e)) e;show wpAny _ _ (assignInOrder [λv=>bindName X.env y v,λv=>bindName X.env x v] [d,c] >>= λ_=>pure Flow.next) _ _ _;refine zA (qK (oC (gP Z C U (.inl G) a0 (λa2 W=>?_) (.inr G))));refine qK (oC (gP W C hi (.inl F) R (λa3 z=>assignInOrder_nil (zB ?_)) (.inr F)));rw[List.set_comm _ _ (yI V)]at z;exact⟨_,t,z,g⟩
def tAug(i:Nat)(te:TE)(ti:TIp):TS:=λD σ H=>∃x,σ[i]?=some (some x)/\te σ H λy H1=>ti x y H1 λz H2=>D.nx (σ.set i (some z)) H2
theorem As{i:Nat}{x:Str}{e:Expr}{te:TE}{op:Operator}{f:TIp}{W:Pos}(N:X.N.Nodup)(hi:X.N[i]?=some x)(d:Loc X.env.scope x)(R:PE X e te)(U:PIp X op f)(K:X.fn x=true\/X.env.scope.names.lookup x=some .local:=by first|exact .inl rfl|exact .inr rfl|assumption):
  PS X (.AugAssign (.Name x W) op e pos) (tAug i te f):=by
 intro b s g H D I h;obtain⟨v,e1,h⟩:=h;obtain⟨m,T,hl⟩:=I.loc;have G:Vis X.env.scope x:=by rcases d with k|k;exact .inl k;exact .inr (.inl k)
 obtain⟨u,r,l⟩:=hl i x v hi e1 G;refine wpAny_AugAssign_Name ?_;have go:wpAny (model X.prog X.w) X.A (eval e X.env) (λw t=>wpAny (model X.prog X.w) X.A (inplaceOp op u w) (λr o=>wpAny (model X.prog X.w) X.A (storeName X.env x r) (λ_=>SP X b D .next) X.xe o) X.xe t) X.xe s:=by
  refine thn (R b s g H _ I h) λw P⟨y,n,F,V,j⟩=>?_;refine thn (U b P g n v y u w _ F r V j) λz Y⟨a0,O,J,M,C⟩=>?_;exact gP J N hi d M (λZ S=>⟨_,O,S,C⟩) K
 rcases l with⟨a,q⟩|⟨a,c,p,L⟩
 ·exact wpAny_loadName_local I.ok.kind a T q go
 ·rcases a with a|a
  ·exact wpAny_loadName_cell I.ok.kind a p L go
  ·rcases d with k|k
   ·have:X.env.scope.names.lookup x=some .free:=a;rw[k]at this;cases this
   ·have:X.env.scope.names.lookup x=some .free:=a;rw[k]at this;cases this
def ipI(f:Int->Int->Int):TIp:=λx y H Q=>∃i j,x=.int i/\y=.int j/\Q (.int (f i j)) H
theorem Ar:PIp X .Add (ipI λi j=>i+j):=by
 intro d s e H x y v u Q I c b h;obtain⟨i,j,e1,a,q⟩:=h;subst e1;subst a;obtain⟨t,rfl⟩:=c;obtain⟨t',rfl⟩:=b;exact iadd_int ⟨.int _,H,I.tok _,⟨_,rfl⟩,q⟩
def Fp(c:TT)(tb:TS):TS:=λD σ H=>∃W:Nat->St->Hp->Prop,(∃m,W m σ H)/\∀m σ H,W m σ H ->
 c σ H λb H1=>if b=true then∃N:St->Hp->Prop,(∀σ' H',N σ' H'->∃m',m'<m/\W m' σ' H')/\tb {D with nx:=N,ct:=N,bk:=D.nx} σ H1 else D.nx σ H1
theorem eX{c:Expr}{body:List Stmt}{q:TT}{tb:TS}(t:PassesOwn (model X.prog X.w) X.A X.env X.xe)(z:PT X c q)(L:PSs X body tb):PS X (.While c body [] pos) (Fp q tb):=by
 intro j s P H D I h;obtain⟨M,⟨K,w0⟩,O⟩:=h;refine wpAny_While (codeAny_whileLoop (λn F=>∃u H',Inv X j u H' F/\M n u H') ?_ K ⟨P,H,I,w0⟩);rintro n J ⟨g,r,G,w1⟩;refine vS t (thn (z j J g r _ G (O n g r w1)) λb C⟨y,w,e⟩=>?_);cases b with
 | true =>
  obtain⟨N,x,e⟩:=e;rw[zE rfl];refine vS t (thn (L j C g y _ w e) λf R i=>?_);cases f with
  |next =>
   obtain⟨a,d,o,l⟩:=i;obtain⟨p,k,m⟩:=x a d l;exact⟨p,k,a,d,o,m⟩
  |cont =>
   obtain⟨a,d,o,l⟩:=i;obtain⟨p,k,m⟩:=x a d l;exact⟨p,k,a,d,o,m⟩
  |brk=>exact i
  |ret v=>exact i
 |false =>
  rw[zD zR];exact uM ⟨g,y,w,e⟩
end
structure It where
 go:Nat->Hp->Prop
 yld:Nat->Hp->V->Hp->Prop
 stop:Nat->Hp->Prop
def FpOk(X:Cx)(pins:PN)(H:Hp)(b:Addr):Prop:=
 H b=none/\b≠X.env.locals/\b∉X.fs/\(b∈X.ex\/X.s₀.heap.objs.size<=b)/\(∀x c,X.env.cells.lookup x=some c->c≠b)/\∀p∈X.pn++pins,p.1≠b
theorem Inv.fpOk{X:Cx}{d:PN}{i:St}{H H':Hp}{s:Shared}{b:Addr}(I:Inv X d i H s)(a:s.heap.objs.size<=b)(g:H' b=none):FpOk X d H' b:=by
 refine⟨g,rT (zL I.lt a),I.nofs a,.inr (yH I.sz a),λx c e z=>?_,λp f z=>?_⟩
 ·obtain⟨v,q⟩:=I.cell x c e;exact absurd (zL q.lt (by rw[z];exact a)) (yR _)
 ·exact absurd (zL (zJ (I.pin p f).1) (by rw[z];exact a)) (yR _)
structure Turn(P:Program)(w:World)(K:Frag)(tg:Expr)(J:It)(fp:LA)(it:Addr)(tn:Nat->Heap->Prop):Prop where
 mem:it∈fp
 obj:∀i h,tn i h->∀b∈fp,∃o,h.get? b=some o/\∀v,o.data≠.cell v
 keep:∀i h h',tn i h->(∀b∈fp,∀o,h.get? b=some o->h'.get? b=some o)->tn i h'
 item:∀(X:Cx),X.prog=P->X.w=w->X.K=K->X.calm=true->∀(i:Nat)(pins:PN)(s:Shared)(σ:St)(H:Hp)(E:VP),Inv X pins σ H s->(∀b∈fp,FpOk X pins H b)->tn i s.heap->J.go i H ->
  wpAny (model P w) X.A (pyNext (.ref it)) (λr s1=>∃u,r=some u /\
   wpAny (model P w) X.A (letOwnedTupleGo tg (.ref it) u) (λ_ s2=>∃x H',Inv X pins σ H' s2/\RelV x u/\J.yld i H x H'/\tn (i+1) s2.heap/\∀b∈fp,H' b=none) E s1) E s
 done:∀(X:Cx),X.prog=P->X.w=w->X.K=K->X.calm=true->∀(i:Nat)(pins:PN)(s:Shared)(σ:St)(H:Hp)(E:VP),Inv X pins σ H s->(∀b∈fp,FpOk X pins H b)->tn i s.heap->J.stop i H ->
  wpAny (model P w) X.A (pyNext (.ref it)) (λr s1=>r=none/\Inv X pins σ H s1) E s
 self:∀(A:Around)(i:Nat)(s:Shared)(Q:VP)(E:VP),tn i s.heap->Q (.ref it) s->wpAny (model P w) A (pyIter (.ref it)) Q E s
abbrev TI:=St->Hp->(It->Hp->Prop)->Prop
def PIE(X:Cx)(pins:PN)(σ:St)(tg:Expr)(R:It->Hp->Prop)(itv:Value)(s2:Shared):Prop:=
 ∃(it:Addr)(fp:LA)(tn:Nat->Heap->Prop)(J:It)(H':Hp),itv=.ref it/\Inv X pins σ H' s2/\Turn X.prog X.w X.K tg J fp it tn/\tn 0 s2.heap/\(∀b∈fp,FpOk X pins H' b)/\R J H'
def PI(X:Cx)(tg iter:Expr)(wi:TI):Prop:=
 ∀(pins:PN)(s:Shared)(σ:St)(H:Hp)(R:It->Hp->Prop),Inv X pins σ H s->wi σ H R ->
  wpAny (model X.prog X.w) X.A (eval iter X.env) (λv s1=>wpAny (model X.prog X.w) X.A (pyIter v) (PIE X pins σ tg R) X.xe s1) X.xe s
theorem cL {M:Model}{A:Around}{E:VP}{s:Shared}{b:Expr}{c:Addr}{u:Value}{o:Obj}{n:String}{vs:Array Value}{Q:Unit->Shared->Prop}(g:s.heap.get? c=some o)(d:o.cls=.type n)(f:o.data=.fields vs)
    (e:["enumerate","zip","dict_itemiterator","dict_reverseitemiterator","odict_iterator","itertools.zip_longest","itertools.pairwise"].contains n=false)(a:Q () s):wpAny M A (letOwnedTupleGo b (.ref c) u) Q E s:=by
  unfold letOwnedTupleGo;cases b <;> first
    |exact zB a
    |(cases u <;> first
        |exact zB a
        | (refine zA (wpAny_load g ?_)
           rw[d,f];show wpAny M A (if(["enumerate","zip","dict_itemiterator","dict_reverseitemiterator","odict_iterator","itertools.zip_longest","itertools.pairwise"].contains n && vs[0]? == some (rawInt _))=true then _ else _) Q E s;rw[zD (by intro h;rw[e,Bool.false_and]at h;cases h)];exact zB a))
def Itl(K:Frag)(a:Addr):It:=
 ⟨λi H=>∃xs x,SqL K H a xs/\xs[i]?=some x,λi H x H'=>H'=H/\∀xs,SqL K H a xs->xs[i]?=some x,λi H=>∃xs,SqL K H a xs/\xs.length<=i⟩
def Itt(K:Frag)(a:Addr):It:=
 ⟨λi H=>∃xs x,SqT K H a xs/\xs[i]?=some x,λi H x H'=>H'=H/\∀xs,SqT K H a xs->xs[i]?=some x,λi H=>∃xs,SqT K H a xs/\xs.length<=i⟩
def Itr(lo:Int)(n:Nat):It:=⟨λi _=>i<n,λi H x H'=>H'=H/\x=.int (lo+i),λi _=>n<=i⟩
theorem Oi{P:Program}{w:World}{K:Frag}{R:Expr}(a f:Addr):Turn P w K R (Itl K a) [f] f (λi h=>h.IsListIter f a i) where
 mem:=by simp
 obj:=λi h st b g=>by
  have e:b=f:=by simpa using g
  subst e;obtain⟨o,e,c,d⟩:=st;exact⟨o,e,λv z=>by rw[d]at z;cases z⟩
 keep:=λi h h' st k=>st.at λo e=>k f (by simp) o e
 item:=by
  intro X q C t L i N s M H E I j st r;subst q C t;obtain⟨xs,x,l,F⟩:=r;obtain⟨its,y,p,Z⟩:=I.list l;obtain⟨u,W,a0⟩:=y.get F;obtain⟨n,m,S,D,G,J⟩:=j f (by simp);refine wpAny_pyNext_list_item st p.isList (x:=u) (by simpa using W) λh' O T=>?_;have U:Inv X N M H {s with heap:=h'}:=I.turned (t':=s.toks) (λb o g e=>(T.2 b g).trans e) n m D G J;obtain⟨o,e,c,d⟩:=id O;exact⟨u,rfl,cL (s:={s with heap:=h'}) e c d ∅ ⟨x,H,U,a0,⟨rfl,λys Y=>by rw[I.list_inj Y l];exact F⟩,O,λb g=>(j b g).1⟩⟩
 done:=by
  intro X q C t L i N s M H E I j st r;subst q C t;obtain⟨xs,l,F⟩:=r;obtain⟨its,y,p,Z⟩:=I.list l;obtain⟨n,m,S,D,G,J⟩:=j f (by simp);have hl:=y.length;exact wpAny_pyNext_list_end (I.ok.hd L) st p.isList (by simp;omega) λh' V=>⟨rfl,I.turned (t':=s.toks) (λb o g e=>V b o g e) n m D G J⟩
 self:=λ_ _ _ _ _ st h=>wpAny_pyIter_listiter st h
theorem Oh{P:Program}{w:World}{K:Frag}{R:Expr}(a f:Addr):Turn P w K R (Itt K a) [f] f (λi h=>h.IsTupleIter f a i) where
 mem:=by simp
 obj:=λi h st b g=>by
  have e:b=f:=by simpa using g
  subst e;obtain⟨o,e,c,d⟩:=st;exact⟨o,e,λv z=>by rw[d]at z;cases z⟩
 keep:=λi h h' st k=>st.at λo e=>k f (by simp) o e
 item:=by
  intro X q C t L i N s M H E I j st r;subst q C t;obtain⟨xs,x,l,F⟩:=r;obtain⟨its,y,p,Z⟩:=I.tuple l;obtain⟨u,W,a0⟩:=y.get F;obtain⟨n,m,S,D,G,J⟩:=j f (by simp);refine wpAny_pyNext_tuple_item st (show s.heap.IsTuple a its.toArray from p) (x:=u) (by simpa using W) λh' O T=>?_;have U:Inv X N M H {s with heap:=h'}:=I.turned (t':=s.toks) (λb o g e=>(T.2 b g).trans e) n m D G J;obtain⟨o,e,c,d⟩:=id O;exact⟨u,rfl,cL (s:={s with heap:=h'}) e c d ∅ ⟨x,H,U,a0,⟨rfl,λys Y=>by rw[I.tuple_inj Y l];exact F⟩,O,λb g=>(j b g).1⟩⟩
 done:=by
  intro X q C t L i N s M H E I j st r;subst q C t;obtain⟨xs,l,F⟩:=r;obtain⟨its,y,p,Z⟩:=I.tuple l;obtain⟨n,m,S,D,G,J⟩:=j f (by simp);have hl:=y.length;exact wpAny_pyNext_tuple_end (I.ok.hd L) st (show s.heap.IsTuple a its.toArray from p) (by simp;omega) λh' V=>⟨rfl,I.turned (t':=s.toks) (λb o g e=>V b o g e) n m D G J⟩
 self:=λ_ _ _ _ _ st h=>wpAny_pyIter_tupleiter st h
theorem Og{P:Program}{w:World}{K:Frag}{F:Expr}(a:Addr)(lo:Int)(n:Nat):Turn P w K F (Itr lo n) [a] a (λi h=>IsRangeIter h a (lo+(i:Nat)*1) ((n:Int)-(i:Nat)) 1) where
 mem:=by simp
 obj:=λi h st b c=>by
  have e:b=a:=by simpa using c
  subst e;exact⟨_,st,λv z=>by
   have R:Data.fields _=Data.cell v:=z;cases R⟩
 keep:=λi h h' st k=>k a (by simp) _ st
 item:=by
  intro X l q p f i y s D H E I d st m;subst l q p;obtain⟨j,g,G,r,u,x⟩:=d a (by simp);have O:=Walks.range (prog:=X.prog) (w:=X.w) (I.ok.hd f) a lo 1 n;refine O.item i s _ _ m st λv h' tk M C J=>?_;obtain⟨t,rfl⟩:=M;have L:Inv X y D H {s with heap:=h',toks:=tk}:=I.turned (λb o c e=>J b o (by simpa using c) e) j g r u x;refine⟨_,rfl,cL (s:={s with heap:=h',toks:=tk}) (n:= "range_iterator") C rfl rfl ∅ ⟨.int (lo+i),H,L,⟨t,?_⟩,⟨rfl,rfl⟩,C,λb c=>(d b c).1⟩⟩;rw[qI]
 done:=by
  intro X l q p f i y s D H E I d st m;subst l q p;obtain⟨j,g,G,r,u,x⟩:=d a (by simp);exact wpAny_pyNext_range_end (I.ok.hd f) st (by have:n<=i:=m;omega) λh' N=>⟨rfl,I.turned (t':=s.toks) (λb o c e=>N b o c e) j g r u x⟩
 self:=λ_ _ _ _ _ st h=>wpAny_pyIter_rangeiter st h
section
variable {X:Cx} {tg:Expr}
theorem Of{c:PN}{d:St}{H:Hp}{s:Shared}{R:It->Hp->Prop}{E:VP}{lo hi:Int}{t u v:Tok}{tk:Nat}(I:Inv X c d H s)(k:-(2^62)<=lo)(l:lo<2^62)(f:-(2^62)<=hi)(g:hi<2^62)
  (q:R (Itr lo (hi-lo).toNat) H):wpAny (model X.prog X.w) X.A (pyIter (.ref s.heap.objs.size)) (PIE X c d tg R) E {s with heap:=s.heap.push {cls:=.type "range",data:=.fields #[.int lo t,.int hi u,.int 1 v]},toks:=tk}:=by
 refine wpAny_pyIter_range (IsRange.new ..) (small_one k l f g) ?_;have a:Inv X c d H {s with heap:=s.heap.push {cls:=.type "range",data:=.fields #[.int lo t,.int hi u,.int 1 v]},toks:=tk}:=I.kept λb o e=>zC _ e;refine⟨(s.heap.push {cls:=.type "range",data:=.fields #[.int lo t,.int hi u,.int 1 v]}).objs.size,[(s.heap.push {cls:=.type "range",data:=.fields #[.int lo t,.int hi u,.int 1 v]}).objs.size],_,_,H,rfl,
  a.kept (t':=tk) λb o e=>zC _ e,Og _ lo (hi-lo).toNat,?_,λb i=>?_,q⟩
 ·have e1:lo+((0:Nat):Int)*1=lo:=by simp
  have j:(((hi-lo).toNat:Nat):Int)-((0:Nat):Int)=Builtin.Range.rangeSize lo hi 1:=by rw[rangeSize_one];split <;> omega
  show IsRangeIter _ _ (lo+((0:Nat):Int)*1) ((((hi-lo).toNat:Nat):Int)-((0:Nat):Int)) 1;rw[e1,j];exact zS _ rfl
 ·have e:b=(s.heap.push {cls:=.type "range",data:=.fields #[.int lo t,.int hi u,.int 1 v]}).objs.size:=by simpa using i
  subst e;exact a.fpOk (zG _) (a.hok.fresh (zG _))
def lF(ta:TA):TI:=λσ H R=>ta σ H λvs H1=>∃j:Int,vs=[.int j]/\-(2^62)<=j/\j<2^62/\R (Itr 0 j.toNat) H1
theorem lQ{a:Expr}{d:TA}{p c:Pos}(m:Gl X "range")(g:X.mg "range"=none)(k:PA X [a] d)(f:starEach [a] X.env=[(false,eval a X.env)]:=by rfl):PI X tg (.Call (.Name "range" p) [a] [] c) (lF d):=by
 intro u s v H R I h;refine Call_ (fN I m g boot_range (vQ (thn (k c u s v H _ I h) λus w⟨vs,x,n,o,b⟩=>?_) f rfl));obtain⟨j,e,b,i,q⟩:=b;subst e;cases o with
 |cons r l =>
  cases l;obtain⟨t,rfl⟩:=r;exact call_range_1 (Of n ⋯ ⋯ b i (by simpa using q))
def tFor(wi:TI)(g:TG)(tb:TS):TS:=λD σ H=>wi σ H λJ H1=>∃W:Nat->Nat->St->Hp->Prop,(∃m,W 0 m σ H1)/\∀i m σ H,W i m σ H ->
 (J.stop i H/\D.nx σ H)\/(J.go i H/\∃N:St->Hp->Prop,(∀σ' H',N σ' H'->∃m',m'<m/\W (i+1) m' σ' H')/\∀x H',J.yld i H x H'->g x σ H' λσ2 H2=>tb {D with nx:=N,ct:=N,bk:=D.nx} σ2 H2)
def fP(fp:LA)(h:Heap):PN:=fp.filterMap λb=>(h.get? b).map λo=>(b,o)
theorem fQ{a:LA}{h:Heap}{b:Addr}{o:Obj}(c:b∈a)(e:h.get? b=some o):(b,o)∈fP a h:=oU.mpr ⟨b,c,by rw[e];rfl⟩
theorem Oe{a:LA}{h:Heap}{p:Addr×Obj}(d:p∈fP a h):p.1∈a/\h.get? p.1=some p.2:=by
 obtain⟨b,c,e⟩:=oU.mp d;cases q:h.get? b with
 |none=>rw[q]at e;cases e
 |some o =>
  rw[q]at e;have f:(b,o)=p:=yA e;subst f;exact⟨c,q⟩
theorem Inv.pinned{c:PN}{i:St}{H:Hp}{s:Shared}{a:LA}(I:Inv X c i H s)(l:∀b∈a,FpOk X c H b)(n:∀b∈a,∃o,s.heap.get? b=some o/\∀v,o.data≠.cell v):Inv X (c++fP a s.heap) i H s:=
 I.pins_of λp m=>(oW.mp m).elim (λz=>I.pin p (yC _ z)) λz=>by
  obtain⟨g,e⟩:=Oe z;obtain⟨k,j,q,_⟩:=l p.1 g;obtain⟨o,f,d⟩:=n p.1 g;rw[e]at f;cases f;exact⟨e,k,j,q,d⟩
theorem Inv.unpinned{a pl:PN}{b:St}{H:Hp}{s:Shared}(I:Inv X (a++pl) b H s):Inv X a b H s:=I.pins_of λp c=>I.pin p (yC _ (xE _ c))
theorem lN{K:Expr}{body:List Stmt}{L:TI}{g:TG}{tb:TS}{a3:Pos}(q:PassesOwn (model X.prog X.w) X.A X.env X.xe)(O:X.calm=true)(hi:PI X tg K L)(b4:PG X tg g)(k:PSs X body tb)
  (b0:∀x,foldedSetIterable K X.env x=pure x:=by intro _;rfl):PS X (.For tg K body [] a3) (tFor L g tb):=by
 intro p s a2 H D I h;refine wpAny_For (thn (hi p s a2 H _ I h) λv d9 b3=>thn b3 λd7 d6 c3=>?_) b0;obtain⟨d8,z,Y,d5,c4,e,b8,T,d4,R,a0,⟨c9,w0⟩,d1⟩:=c3;subst e
 -- what stays true of the iterator's objects through the loop
 have J:∀{H':Hp},(∀b∈z,H' b=none)->∀b∈z,FpOk X p H' b:=λd0 b k=>⟨d0 b k,(R b k).2⟩;refine codeAny_forLoop_any (λn U=>∃i t H',Inv X p t H' U/\Y i U.heap/\(∀b∈z,H' b=none)/\a0 i n t H') ?_ c9 ⟨0,a2,c4,b8,d4,λb k=>(R b k).1,w0⟩;rintro n V ⟨i,w,C,Z,W,P,c2⟩;rcases d1 i n w C c2 with⟨stop,c8⟩|⟨go,N,c1,step⟩
 ·refine vS q (thn (T.done X rfl rfl rfl O i p V w C X.xe Z (J P) W stop) λr a4⟨hr,c7⟩=>?_);subst hr;exact uM ⟨w,C,c7,c8⟩
 ·refine vS q (thn (T.item X rfl rfl rfl O i p V w C X.xe Z (J P) W go) λr a4⟨u,hr,a8⟩=>?_);subst hr;refine vS q (thn a8 λ_ S⟨x,M,b7,b5,c5,G,a9⟩=>?_);have a6:=b7.pinned (J a9) (T.obj _ _ G);refine vS q (thn (b4 _ S w M x u _ a6 b5 (step x M c5)) λ_ d2⟨b6,a5,c6,b9⟩=>?_);refine vS q (thn (k _ d2 b6 a5 _ c6 b9) λf F l=>?_);have a1:∀{a:St}{j:Hp},Inv X (p++fP z S.heap) a j F->N a j->∃m,m<n/\∃i t H',Inv X p t H' F/\Y i F.heap/\(∀b∈z,H' b=none)/\a0 i m t H':=λ{a j}c y=>by
   obtain⟨d3,b2,b1⟩:=c1 a j y;refine⟨d3,b2,i+1,a,j,c.unpinned,T.keep _ _ _ G λb k o e=>(c.pin (b,o) (yC _ (yC _ (fQ k e)))).1,λb k=>?_,b1⟩;obtain⟨o,e,d⟩:=T.obj _ _ G b k;exact(c.pin (b,o) (yC _ (yC _ (fQ k e)))).2.1
  cases f with
  |next=>obtain⟨a,j,c,y⟩:=l;exact a1 c y
  |cont=>obtain⟨a,j,c,y⟩:=l;exact a1 c y
  |brk=>obtain⟨a,j,c,l⟩:=l;exact⟨a,j,c.unpinned,l⟩
  |ret v=>obtain⟨a7,a,j,c,c0,l⟩:=l;exact⟨a7,a,j,c.unpinned,c0,l⟩
end
theorem Od{K:Frag}{a:Addr}{xs:List V}{g:TG}{tb:TS}{D:Ends}{b:St}{H:Hp}(c:Nat->St->Hp->Prop)(r:c 0 b H)(hl:∀i b H,i<=xs.length->c i b H->SqL K H a xs)
  (t:∀i x b H,xs[i]?=some x->c i b H->g x b H λd k=>tb {D with nx:=c (i+1),ct:=c (i+1),bk:=D.nx} d k)(u:∀b H,c xs.length b H->D.nx b H):
  ∃j:Nat->Nat->St->Hp->Prop,(∃m,j 0 m b H)/\∀i m b H,j i m b H ->
   ((Itl K a).stop i H/\D.nx b H)\/((Itl K a).go i H/\∃N:St->Hp->Prop,(∀f H',N f H'->∃n,n<m/\j (i+1) n f H')/\∀x H',(Itl K a).yld i H x H'->g x b H' λd k=>tb {D with nx:=N,ct:=N,bk:=D.nx} d k):=by
 refine⟨λi m b H=>m=xs.length-i/\i<=xs.length/\c i b H,⟨xs.length,by simp,zZ _,r⟩,?_⟩;rintro i m b H ⟨rfl,hi,p⟩;have q:=hl i b H hi p
 by_cases l:i<xs.length
 ·refine .inr ⟨⟨xs,xs[i],q,by simp[l]⟩,c (i+1),λf H' o=>⟨xs.length-(i+1),⋯,rfl,l,o⟩,λx H' y=>?_⟩;obtain⟨e,y⟩:=y;subst e;exact t i x b _ (y xs q) p
 ·have e:i=xs.length:=⋯
  subst e;exact .inl ⟨⟨xs,q,zG _⟩,u b H p⟩
theorem Oc{K:Frag}{a:Addr}{xs:List V}{g:TG}{tb:TS}{D:Ends}{b:St}{H:Hp}(c:Nat->St->Hp->Prop)(r:c 0 b H)(hl:∀i b H,i<=xs.length->c i b H->SqT K H a xs)
  (t:∀i x b H,xs[i]?=some x->c i b H->g x b H λd k=>tb {D with nx:=c (i+1),ct:=c (i+1),bk:=D.nx} d k)(u:∀b H,c xs.length b H->D.nx b H):
  ∃j:Nat->Nat->St->Hp->Prop,(∃m,j 0 m b H)/\∀i m b H,j i m b H ->
   ((Itt K a).stop i H/\D.nx b H)\/((Itt K a).go i H/\∃N:St->Hp->Prop,(∀f H',N f H'->∃n,n<m/\j (i+1) n f H')/\∀x H',(Itt K a).yld i H x H'->g x b H' λd k=>tb {D with nx:=N,ct:=N,bk:=D.nx} d k):=by
 refine⟨λi m b H=>m=xs.length-i/\i<=xs.length/\c i b H,⟨xs.length,by simp,zZ _,r⟩,?_⟩;rintro i m b H ⟨rfl,hi,p⟩;have q:=hl i b H hi p
 by_cases l:i<xs.length
 ·refine .inr ⟨⟨xs,xs[i],q,by simp[l]⟩,c (i+1),λf H' o=>⟨xs.length-(i+1),⋯,rfl,l,o⟩,λx H' y=>?_⟩;obtain⟨e,y⟩:=y;subst e;exact t i x b _ (y xs q) p
 ·have e:i=xs.length:=⋯
  subst e;exact .inl ⟨⟨xs,q,zG _⟩,u b H p⟩
theorem Ob{lo:Int}{n:Nat}{g:TG}{tb:TS}{D:Ends}{a:St}{H:Hp}(b:Nat->St->Hp->Prop)(q:b 0 a H)
  (r:∀i a H,i<n->b i a H->g (.int (lo+i)) a H λc k=>tb {D with nx:=b (i+1),ct:=b (i+1),bk:=D.nx} c k)(t:∀a H,b n a H->D.nx a H):
  ∃j:Nat->Nat->St->Hp->Prop,(∃m,j 0 m a H)/\∀i m a H,j i m a H ->
   ((Itr lo n).stop i H/\D.nx a H)\/((Itr lo n).go i H/\∃N:St->Hp->Prop,(∀f H',N f H'->∃l,l<m/\j (i+1) l f H')/\∀x H',(Itr lo n).yld i H x H'->g x a H' λc k=>tb {D with nx:=N,ct:=N,bk:=D.nx} c k):=by
 refine⟨λi m a H=>m=n-i/\i<=n/\b i a H,⟨n,by simp,zZ _,q⟩,?_⟩;rintro i m a H ⟨rfl,hi,p⟩
 by_cases d:i<n
 ·refine .inr ⟨d,b (i+1),λf H' o=>⟨n-(i+1),⋯,rfl,d,o⟩,λx H' y=>?_⟩;obtain⟨e,y⟩:=y;subst e y;exact r i a _ d p
 ·have e:i=n:=⋯
  subst e;exact .inl ⟨zG _,t a H p⟩
abbrev R2:=V->V->Hp->VK->Prop
def OpR(X:Cx)(f:Value->Value->Sem Value)(r:R2):Prop:=
 ∀(pins:PN)(s:Shared)(σ:St)(H:Hp)(x y:V)(v u:Value)(Q:VK),Inv X pins σ H s->RelV x v->RelV y u->r x y H Q ->
  wpAny (model X.prog X.w) X.A (f v u) (EP X pins σ Q) X.xe s
def UnR(X:Cx)(f:Value->Sem Value)(r:V->Hp->VK->Prop):Prop:=
 ∀(pins:PN)(s:Shared)(σ:St)(H:Hp)(x:V)(v:Value)(Q:VK),Inv X pins σ H s->RelV x v->r x H Q ->
  wpAny (model X.prog X.w) X.A (f v) (EP X pins σ Q) X.xe s
def lZ(X:Cx)(f:Value)(r:List V->Hp->VK->Prop):Prop:=
 ∀(pins:PN)(s:Shared)(σ:St)(H:Hp)(xs:List V)(us:LW)(Q:VK),Inv X pins σ H s->Vals xs us->r xs H Q ->
  wpAny (model X.prog X.w) X.A (call f us) (EP X pins σ Q) X.xe s
def tOp(r:R2)(ta tb:TE):TE:=λσ H Q=>ta σ H λx H1=>tb σ H1 λy H2=>r x y H2 Q
def tUn(r:V->Hp->VK->Prop)(ta:TE):TE:=λσ H Q=>ta σ H λx H1=>r x H1 Q
def rI(C:Int->Int->Prop)(g:Int->Int->V):R2:=λx y H Q=>∃i j,x=.int i/\y=.int j/\C i j/\Q (g i j) H
def rI0(g:Int->Int->V):R2:=λx y H Q=>∃i j,x=.int i/\y=.int j/\Q (g i j) H
def rU(g:Int->V):V->Hp->VK->Prop:=λx H Q=>∃i,x=.int i/\Q (g i) H
section
variable {X:Cx} {a b c:Expr} {ta tb tc:TE} {pos:Pos}
theorem binT(r:PE X a ta)(q:PE X b tb){i:PN}{s:Shared}{e:St}{H:Hp}{R:V->V->Hp->Prop}(I:Inv X i e H s)
  (h:ta e H λx j=>tb e j λy d=>R x y d){Q:VP}{f:Value->Value->Sem Value}
  (t:∀v u g x y d,Inv X i e d g->RelV x v->RelV y u->R x y d->wpAny (model X.prog X.w) X.A (f v u) Q X.xe g):
  wpAny (model X.prog X.w) X.A (eval a X.env) (λv C=>wpAny (model X.prog X.w) X.A (eval b X.env) (λu n=>wpAny (model X.prog X.w) X.A (f v u) Q X.xe n) X.xe C) X.xe s:=by
 refine thn (r i s e H _ I h) λv l⟨x,j,z,w,k⟩=>?_;refine thn (q i l e j _ z k) λu g⟨y,d,p,m,o⟩=>?_;exact t v u g x y d p w m o
theorem nH{op:Operator}{r:R2}(j:OpR X (binaryOp op) r)(g:PE X a ta)(f:PE X b tb):PE X (.BinOp a op b pos) (tOp r ta tb):=by
 intro l s n H Q I h;exact wpAny_BinOp (binT g f I h λv u d x y m e i k q=>j l d n m x y v u Q e i k q)
theorem eY{op:UnaryOp}{r:V->Hp->VK->Prop}(k:UnR X (unaryOp op) r)(j:PE X a ta):PE X (.UnaryOp op a pos) (tUn r ta):=by
 intro d s e H Q I h;exact UnaryOp_ (thn (j d s e H _ I h) λv g⟨x,i,l,m,f⟩=>k d g e i x v Q l m f)
theorem opI{f:Value->Value->Sem Value}{C:Int->Int->Prop}{g:Int->Int->Int}
  (k:∀(i j:Int)(t u:Tok)(s:Shared)(Q:VP)(E:VP),C i j->Q (.int (g i j) s.toks) {s with toks:=s.toks+1}->wpAny (model X.prog X.w) X.A (f (.int i t) (.int j u)) Q E s):
  OpR X f (rI C λi j=>.int (g i j)):=by
 intro m s n H x y v u Q I e l h;obtain⟨i,j,rfl,rfl,d,q⟩:=h;obtain⟨t,rfl⟩:=e;obtain⟨t',rfl⟩:=l;exact k i j t t' s _ _ d ⟨.int (g i j),H,I.tok _,⟨_,rfl⟩,q⟩
theorem opI0{f:Value->Value->Sem Value}{g:Int->Int->Int}
  (e:∀(i j:Int)(t u:Tok)(s:Shared)(Q:VP)(E:VP),Q (.int (g i j) s.toks) {s with toks:=s.toks+1}->wpAny (model X.prog X.w) X.A (f (.int i t) (.int j u)) Q E s):
  OpR X f (rI0 λi j=>.int (g i j)):=by
 intro l s m H x y v u Q I d k h;obtain⟨i,j,rfl,rfl,q⟩:=h;obtain⟨t,rfl⟩:=d;obtain⟨t',rfl⟩:=k;exact e i j t t' s _ _ ⟨.int (g i j),H,I.tok _,⟨_,rfl⟩,q⟩
theorem opB0{f:Value->Value->Sem Value}{g:Int->Int->Bool}
  (e:∀(i j:Int)(t u:Tok)(s:Shared)(Q:VP)(E:VP),Q (.bool (g i j)) s->wpAny (model X.prog X.w) X.A (f (.int i t) (.int j u)) Q E s):
  OpR X f (rI0 λi j=>.bl (g i j)):=by
 intro l s m H x y v u Q I d k h;obtain⟨i,j,rfl,rfl,q⟩:=h;obtain⟨t,rfl⟩:=d;obtain⟨t',rfl⟩:=k;exact e i j t t' s _ _ ⟨.bl (g i j),H,I,rfl,q⟩
def CPow(i j:Int):Prop:=0<=j/\j<=1000000/\i.natAbs<2^64
def CMul(i j:Int):Prop:=(-(2^64)<i/\i<2^64)\/(-(2^64)<j/\j<2^64)
theorem kF:OpR X (binaryOp .Add) (rI0 λi j=>.int (i+j)):=opI0 λ_ _ _ _ _ _ _ q=>add_int q
theorem Aq:OpR X (binaryOp .Sub) (rI0 λi j=>.int (i-j)):=opI0 λ_ _ _ _ _ _ _ q=>sub_int q
theorem mH:OpR X (binaryOp .Mod) (rI (λ_ j=>j≠0) λi j=>.int (i.fmod j)):=opI λ_ _ _ _ _ _ _ d q=>mod_int' d q
theorem Oa:OpR X (binaryOp .Pow) (rI CPow λi j=>.int (i^j.toNat)):=opI λ_ _ _ _ _ _ _ d q=>pow_int_small d.1 d.2.1 d.2.2 q
theorem unI{f:Value->Sem Value}{g:Int->Int}
  (e:∀(i:Int)(t:Tok)(s:Shared)(Q:VP)(E:VP),Q (.int (g i) s.toks) {s with toks:=s.toks+1}->wpAny (model X.prog X.w) X.A (f (.int i t)) Q E s):
  UnR X f (rU λi=>.int (g i)):=by
 intro j s k H x v Q I d h;obtain⟨i,rfl,q⟩:=h;obtain⟨t,rfl⟩:=d;exact e i t s _ _ ⟨.int (g i),H,I.tok _,⟨_,rfl⟩,q⟩
theorem eZ:UnR X (unaryOp .USub) (rU λi=>.int (-i)):=unI λ_ _ _ _ _ q=>neg_int q
end
def scal:V->V->Bool
 |.non,.non=>true|.non,.int _=>true|.int _,.non=>true|.non,.bl _=>true|.bl _,.non=>true|.non,.str _=>true|.str _,.non=>true
 |.int _,.int _=>true|.bl _,.bl _=>true|.str _,.str _=>true|.byt _,.byt _=>true
 |.int _,.str _=>true|.str _,.int _=>true|.bl _,.str _=>true|.str _,.bl _=>true
 |_,_=>false
def rEq:R2:=λx y H Q=>scal x y=true/\Q (.bl (decide (x=y))) H
def rNe:R2:=λx y H Q=>scal x y=true/\Q (.bl (!decide (x=y))) H
theorem Fo{i j:Int}:decide (V.int i=V.int j)=(i == j):=by
 rw[tQ];simp
theorem Fn{i j:Bool}:decide (V.bl i=V.bl j)=(i == j):=by
 rw[tQ];simp
theorem Fm{i j:Str}:decide (V.str i=V.str j)=(i == j):=by
 rw[tQ];simp
theorem Fk{i j:Array UInt8}:decide (V.byt i=V.byt j)=(i.toList == j.toList):=by
 rw[tQ];cases i;cases j;simp
section
variable {X:Cx} {a b c:Expr} {ta tb tc:TE} {pos:Pos}
theorem mO{d:PN}{f:St}{H:Hp}{s:Shared}{Q:VK}{k k':Bool}(I:Inv X d f H s)(q:Q (.bl k) H)(e:k=k'):EP X d f Q (.bool k') s:=by
 subst e;exact⟨.bl k,H,I,rfl,q⟩
theorem cM:OpR X (compareOp .Eq) rEq:=by
 intro g s k H x y v u Q I f d h;obtain⟨e,q⟩:=h;cases x with
 |non =>
  cases f;cases y with
  |non=>cases d;exact PySem.EqNone.eq_none_none (mO I q (by simp))
  |bl j=>cases d;exact PySem.EqNone.eq_none_bool (mO I q (by simp))
  |int j=>obtain⟨t',rfl⟩:=d;exact PySem.EqNone.eq_none_int (mO I q (by simp))
  |str j=>obtain⟨t',rfl⟩:=d;exact PySem.EqNone.eq_none_str (mO I q (by simp))
  |_=>exact absurd (show false=true from e) zR
 |bl i =>
  cases f;cases y with
  |non=>cases d;exact PySem.EqNone.eq_bool_none (mO I q (by simp))
  |bl j=>cases d;exact eq_bool (mO I q Fn)
  |str j=>obtain⟨t',rfl⟩:=d;exact PySem.EqMixed.eq_bool_str (mO I q (by simp))
  |_=>exact absurd (show false=true from e) zR
 |int i =>
  obtain⟨t,rfl⟩:=f;cases y with
  |non=>cases d;exact PySem.EqNone.eq_int_none (mO I q (by simp))
  |int j=>obtain⟨t',rfl⟩:=d;exact eq_int (mO I q Fo)
  |str j=>obtain⟨t',rfl⟩:=d;exact PySem.EqMixed.eq_int_str (mO I q (by simp))
  |_=>exact absurd (show false=true from e) zR
 |str i =>
  obtain⟨t,rfl⟩:=f;cases y with
  |non=>cases d;exact PySem.EqNone.eq_str_none (mO I q (by simp))
  |bl j=>cases d;exact PySem.EqMixed.eq_str_bool (mO I q (by simp))
  |int j=>obtain⟨t',rfl⟩:=d;exact PySem.EqMixed.eq_str_int (mO I q (by simp))
  |str j=>obtain⟨t',rfl⟩:=d;exact eq_str (mO I q Fm)
  |_=>exact absurd (show false=true from e) zR
 |byt i =>
  obtain⟨t,rfl⟩:=f;cases y with
  |byt j=>obtain⟨t',rfl⟩:=d;exact PySem.W.eq_bytes (mO I q Fk)
  |_=>exact absurd (show false=true from e) zR
 |_=>cases y <;> exact absurd (show false=true from e) zR
theorem cN:OpR X (compareOp .NotEq) rNe:=by
 intro g s k H x y v u Q I f d h;obtain⟨e,q⟩:=h;cases x with
 |non =>
  cases f;cases y with
  |non=>cases d;exact PySem.EqNone.ne_none_none (mO I q (by simp))
  |bl j=>cases d;exact PySem.EqNone.ne_none_bool (mO I q (by simp))
  |int j=>obtain⟨t',rfl⟩:=d;exact PySem.EqNone.ne_none_int (mO I q (by simp))
  |str j=>obtain⟨t',rfl⟩:=d;exact PySem.EqNone.ne_none_str (mO I q (by simp))
  |_=>exact absurd (show false=true from e) zR
 |bl i =>
  cases f;cases y with
  |non=>cases d;exact PySem.EqNone.ne_bool_none (mO I q (by simp))
  |bl j=>cases d;exact ne_bool (mO I q (wG not Fn))
  |str j=>obtain⟨t',rfl⟩:=d;exact PySem.EqMixed.ne_bool_str (mO I q (by simp))
  |_=>exact absurd (show false=true from e) zR
 |int i =>
  obtain⟨t,rfl⟩:=f;cases y with
  |non=>cases d;exact PySem.EqNone.ne_int_none (mO I q (by simp))
  |int j=>obtain⟨t',rfl⟩:=d;exact ne_int (mO I q (wG not Fo))
  |str j=>obtain⟨t',rfl⟩:=d;exact PySem.EqMixed.ne_int_str (mO I q (by simp))
  |_=>exact absurd (show false=true from e) zR
 |str i =>
  obtain⟨t,rfl⟩:=f;cases y with
  |non=>cases d;exact PySem.EqNone.ne_str_none (mO I q (by simp))
  |bl j=>cases d;exact PySem.EqMixed.ne_str_bool (mO I q (by simp))
  |int j=>obtain⟨t',rfl⟩:=d;exact PySem.EqMixed.ne_str_int (mO I q (by simp))
  |str j=>obtain⟨t',rfl⟩:=d;exact ne_str (mO I q (wG not Fm))
  |_=>exact absurd (show false=true from e) zR
 |byt i =>
  obtain⟨t,rfl⟩:=f;cases y with
  |byt j=>obtain⟨t',rfl⟩:=d;exact PySem.W.ne_bytes (mO I q (wG not Fk))
  |_=>exact absurd (show false=true from e) zR
 |_=>cases y <;> exact absurd (show false=true from e) zR
theorem cO:OpR X (compareOp .Lt) (rI0 λi j=>.bl (decide (i<j))):=opB0 λ_ _ _ _ _ _ _ q=>lt_int q
theorem Fj:OpR X (compareOp .LtE) (rI0 λi j=>.bl (decide (i<=j))):=opB0 λ_ _ _ _ _ _ _ q=>le_int q
theorem Ap:OpR X (compareOp .Gt) (rI0 λi j=>.bl (decide (j<i))):=opB0 λ_ _ _ _ _ _ _ q=>gt_int q
theorem Pz:OpR X (compareOp .In) (λx y H Q=>∃i j,x=.str i/\y=.str j/\Q (.bl (!(Builtin.Str.occurrences j i 0 j.length 1).isEmpty)) H):=by
 intro f s g H x y v u Q I e d h;obtain⟨i,j,rfl,rfl,q⟩:=h;obtain⟨t,rfl⟩:=e;obtain⟨t',rfl⟩:=d;exact in_str (mO I q rfl)
theorem Ao:OpR X (compareOp .Is) (λx y H Q=>y=.non/\Q (.bl (decide (x=.non))) H):=by
 intro f s g H x y v u Q I d e h;obtain⟨rfl,q⟩:=h;cases e;refine is_none_gen (mO I q ?_);cases x <;> first
  |(cases d;rfl)
  |(obtain⟨t,rfl⟩:=d;rfl)
theorem mB(b:Expr){op:CmpOp}(h:op≠.In:=by decide)(e:op≠.NotIn:=by decide):behindInMarks op b=false:=by
 have e1:(op == CmpOp.In)=false:=by cases op <;> first|rfl|exact absurd rfl h
 have d:(op == CmpOp.NotIn)=false:=by cases op <;> first|rfl|exact absurd rfl e
 cases b <;> simp[behindInMarks,e1,d]
theorem iP{op:CmpOp}{r:R2}(k:OpR X (compareOp op) r)(i:PE X a ta)(g:PE X b tb)(e:behindInMarks op b=false):PE X (.Compare a [op] [b] pos) (tOp r ta tb):=by
 intro m s o H Q I h;exact wpAny_Compare1 (binT i g I h λv u d x y n f j l q=>k m d o n x y v u Q f j l q) e
def cP(t:TE):TT:=λσ H Q=>t σ H λx H'=>∃k,x=.bl k/\Q k H'
theorem mC{op:CmpOp}{r:R2}(J:OpR X (compareOp op) r)(n:PE X a ta)(G:PE X b tb)(l:behindInMarks op b=false):PT X (.Compare a [op] [b] pos) (cP (tOp r ta tb)):=by
 intro d s f H Q I h;refine wpAny_isTrue_Compare1 (thn (n d s f H _ I h) λv D⟨x,i,o,K,g⟩=>thn (G d D f i _ o g) λu j⟨y,C,q,t,m⟩ =>
  thn (J d j f C x y v u _ q K t m) λc M⟨z,L,F,p,k,e,w⟩=>?_) l
 subst e;cases p;exact vY ⟨L,F,w⟩
theorem dA:(sizeLine:Nat)<2^63:=by rw[sizeLine_eq];decide
theorem jZ{x:V}{us:LW}(r:Vals [x] us):∃u,us=[u]/\RelV x u:=by
 cases r with
 |cons e d=>cases d;exact⟨_,rfl,e⟩
theorem dB:lZ X (.builtin "abs") (λxs H Q=>∃i,xs=[.int i]/\Q (.int (if i<0 then -i else i)) H):=by
 intro d s e H xs us Q I r h;obtain⟨i,rfl,q⟩:=h;obtain⟨u,rfl,t,rfl⟩:=jZ r;exact call_abs_int λu tk=>⟨.int (if i<0 then -i else i),H,I.tok _,⟨_,rfl⟩,q⟩
end
structure ObjM(h:Heap)(x dx C:Addr)(mA:MT):Prop where
 obj:h.get? x=some (PySem.W.instObj C dx)
 ns:h.Ns1 dx mA
 ne:dx≠x
theorem Py{h:Heap}{c:Addr}{b:MT}(n:h.Ns1 c b):∃d,h.get? c=some d/\∀name,PySem.W.lookIn name d=some (b name):=by
 obtain⟨o,es,ep,l,k,m,_,j⟩:=n;refine⟨o,l,λname=>?_⟩;have e:=j name;unfold nsFind findBy at e;rw[←Array.find?_toList]at e;unfold PySem.W.lookIn;rw[k];dsimp only;split
 ·rename_i y q;rw[q]at e;exact wG some e
 ·rename_i q;rw[q]at e;have a:es.toList.any (·.refKey)=false:=by
   rw[List.any_eq_false];intro y i;obtain⟨z,t,g⟩:=m y (Array.mem_toList_iff.mp i);simp[DictEntry.refKey,g]
  have f:¬ es.toList.any (·.refKey)=true:=by rw[a];exact zR
  rw[zD f];exact wG some e
theorem ObjM.look{h:Heap}{x c C:Addr}{b:MT}(I:ObjM h x c C b):∃a,PySem.W.InstAt h x (PySem.W.instObj C c) C (some a)/\∀name,PySem.W.lookIn name a=some (b name):=
 let ⟨a,d,hl⟩:=Py I.ns
 ⟨a,⟨I.obj,rfl,rfl,d⟩,hl⟩
section
variable {prog:Program} {w:World} {A:Around} {E:VP} {s:Shared} {K:Frag} {x dx C f:Addr} {mA:MT} {name:Str} {v:Value}
theorem Px{a:Bool}{Q:VP}(X:K.In s.heap)(I:ObjM s.heap x dx C mA)(e:PySem.W.plainGet K C name=true)(hh:PySem.W.hasDictIn K C=true)
  (c:PySem.W.findIn K (.ref C) name=some none)(g:mA name=some v)(d:PySem.W.handedIn v=true)(h:Q v {s with toks:=s.toks+1}):
  wpAny (model prog w) A (getAttr (.ref x) name a) Q E s:=by
 obtain⟨i,b,hl⟩:=I.look;exact PySem.W.get_value X b (qE e).1 (PySem.W.findObj_own hh c rfl (by rw[hl,g])) d h
theorem Pw{pl:Sem Bool}{Q:Value×LW->Shared->Prop}(X:K.In s.heap)(I:ObjM s.heap x dx C mA)(a:PySem.W.plainGet K C name=true)
  (c:PySem.W.findIn K (.ref C) name=some (some (.ref f)))(g:PySem.W.isFn K (.ref f)=true)(e:mA name=none)(h:Q (.ref f,[.ref x]) s):
  wpAny (model prog w) A (getMethod (.ref x) name pl) Q E s:=by
 obtain⟨d,b,hl⟩:=I.look;exact PySem.W.method_fn X b (qE a).1 (qE a).2 c (oO.mp g) (by show(PySem.W.lookIn name d).map (·.isSome)=some false;rw[hl,e];rfl) h
theorem Pu{ns:List Str}{Q:Unit->Shared->Prop}(X:K.In s.heap)(I:ObjM s.heap x dx C mA)
  (g:PySem.W.findIn K (.ref C) "__setattr__"=some (some (.builtin "object.__setattr__")))(n:PySem.W.plainOver K C=true)(p:PySem.W.takerIn K C name=some none)(hh:PySem.W.hasDictIn K C=true)
  (i:PySem.Within mA ns)(hsz:ns.length<=sizeLine)
  (h:∀h',ObjM h' x dx C (λy=>if y=name then some v else mA y)->Heap.SameBut dx s.heap h'->Q () {s with heap:=h',toks:=s.toks+2}):
  wpAny (model prog w) A (setAttr (.ref x) name v) Q E s:=by
 obtain⟨u,c,hl⟩:=I.look;refine PySem.W.set_plain X c g (PySem.W.osa_open (s:={s with toks:=s.toks+1}) (r:=none) X c n p λb=>?_);obtain⟨r,l,j⟩:=sZ hh;have k:s.heap.get? x=some ⟨.ref C,some dx,.plain,#[]⟩:=I.obj;refine zA (zB (zA (zA (pW k (zA (wT (s:={s with toks:=s.toks+1}) (qB X l) ?_))))));rw[j];refine zB (a:=some dx) (zA (zB (zA ?_)));refine wpAny_nsSet1 (s:={s with toks:=s.toks+1}) I.ns λh' a d=>?_;obtain⟨t,q,z,m,e,o⟩:=a.count (PySem.Within.cons name v i);refine zA (wpAny_lookBehind m (by rw[e];exact pastItsLine_dict (yH o (by rw[zT];omega))) ?_);exact zB (h _ ⟨(d.2 _ (yI I.ne)).trans I.obj,a,I.ne⟩ d)
theorem Fi{R:Result->Shared->Prop}{vs:LW}{a:List (Str×Value)}(X:K.In s.heap)(b:PySem.W.makesIn K C=true)
  (hi:PySem.W.findIn K (.ref C) "__init__"=some (some (.ref f)))(c:PySem.W.typeIn K (.ref f)=some (.type "function"))
  (h:codeAny (model prog w) (A.under (.builtin "type.__call__" ⟨.ref C:: vs,a⟩)) (.call (.ref f) ⟨.ref (s.heap.objs.size+1):: vs,a⟩) (PySem.W.InitBack (s.heap.objs.size+1) R)
   {s with heap:=(s.heap.push PySem.W.emptyDict).push (PySem.W.instObj C s.heap.objs.size)}):
  codeAny (model prog w) A (.call (.ref C) ⟨vs,a⟩) R s:=by
 obtain⟨hh,g,d,t,i⟩:=s;exact PySem.W.make_core (PySem.W.makes_of X b) (uB X hi) (λe=>PySem.W.bind_fn X e c) (.inl rfl) h
end
def putF(f:Str)(v:V):List (Str×V)->List (Str×V)
 |[]=>[(f,v)]
 |(g,x):: r=>if g=f then(g,v):: r else(g,x):: putF f v r
theorem Fh(f g:Str)(v:V):∀fs:List (Str×V),(putF f v fs).lookup g=if g=f then some v else fs.lookup g
 |[]=>by
  show List.lookup g [(f,v)]=_
  by_cases h:g=f
  ·have a:(g == f)=true:=oO.mpr h;simp only[List.lookup,a,if_pos h]
  ·have a:(g == f)=false:=oP.mpr h;simp only[List.lookup,a,if_neg h]
 | (k,x):: r=>by
  have c:=Fh f g v r;rw[show putF f v ((k,x):: r)=(if k=f then(k,v):: r else(k,x):: putF f v r) from rfl]
  by_cases b:k=f
  ·rw[zE b]
   by_cases h:g=k
   ·have a:(g == k)=true:=oO.mpr h;simp only[List.lookup,a,if_pos (h.trans b)]
   ·have a:(g == k)=false:=oP.mpr h;simp only[List.lookup,a,if_neg (λe:g=f=>h (e.trans b.symm))]
  ·rw[zD b]
   by_cases h:g=k
   ·have a:(g == k)=true:=oO.mpr h;simp only[List.lookup,a,if_neg (λe:g=f=>b (h.symm.trans e))]
   ·have a:(g == k)=false:=oP.mpr h;simp only[List.lookup,a];exact c
theorem An(f:Str)(v:V):∀fs:List (Str×V),f∈(putF f v fs).map (·.1)/\∀g,g∈fs.map (·.1)->g∈(putF f v fs).map (·.1)
 |[]=>⟨by simp[putF],λg h=>by simp at h⟩
 | (k,x):: r=>by
  obtain⟨b,c⟩:=An f v r;rw[show putF f v ((k,x):: r)=(if k=f then(k,v):: r else(k,x):: putF f v r) from rfl]
  by_cases a:k=f
  ·rw[zE a];subst a;exact⟨by simp,λg h=>by simpa using h⟩
  ·rw[zD a];refine⟨?_,λg h=>?_⟩
   ·rw[zM];exact zN _ b
   ·rw[zM]at h ⊢;rcases xC.mp h with e|e
    ·exact xC.mpr (.inl e)
    ·exact zN _ (c g e)
theorem Fg(f:Str)(v:V):∀fs:List (Str×V),(putF f v fs).length<=fs.length+1
 |[]=>by simp[putF]
 |(k,x):: r=>by
  have b:=Fg f v r;rw[show putF f v ((k,x):: r)=(if k=f then(k,v):: r else(k,x):: putF f v r) from rfl]
  by_cases a:k=f
  ·rw[zE a,zT,zT];omega
  ·rw[zD a,zT,zT];omega
theorem RelO.some_of{v:V}{o:Option Value}(r:RelO (some v) o):∃u,o=some u/\RelV v u:=by
 cases o with
 |none=>exact(show False from r).elim
 |some u=>exact⟨u,rfl,r⟩
theorem RelO.none_of{o:Option Value}(r:RelO none o):o=none:=by
 cases o with
 |none=>rfl
 |some u=>exact(show False from r).elim
theorem Pt{v:V}{u:Value}(r:RelV v u):PySem.W.handedIn u=true:=by
 cases v with
 |non=>cases(show u=Value.none from r);rfl
 |bl b=>cases(show u=Value.bool b from r);rfl
 |int i=>obtain⟨t,e⟩:=(show∃t,u=Value.int i t from r);cases e;rfl
 |str x=>obtain⟨t,e⟩:=(show∃t,u=Value.str x t from r);cases e;rfl
 |byt b=>obtain⟨t,e⟩:=(show∃t,u=Value.bytes b t from r);cases e;rfl
 |flt b=>obtain⟨t,e⟩:=(show∃t,u=Value.float b t from r);cases e;rfl
 |ref a=>cases(show u=Value.ref a from r);rfl
 |ty n=>cases(show u=Value.type n from r);rfl
section
variable {P:Program} {w:World} {H H':Hp} {h h':Heap} {a C dx:Addr} {fs fs':List (Str×V)}
theorem cQ(c:HOk P w H h)(e:H a=some (.ins C dx fs)):∃b,ObjM h a dx C b/\(∀f,RelO (fs.lookup f) (b f))/\PySem.Within b (fs.map (·.1))/\fs.length<=1000/\H dx=some (.own a):=by
 obtain⟨d,z,ne,g,b,n,r,q⟩:=(show mI P w H h a (.ins C dx fs) from c a _ e);exact⟨b,⟨g,n,ne⟩,r,q,z,d⟩
end
structure Cls(K:Frag)(C:Addr):Prop where
 pg:PySem.W.plainGet K C Str.empty=true
 hd:PySem.W.hasDictIn K C=true
 po:PySem.W.plainOver K C=true
 sa:PySem.W.findIn K (.ref C) "__setattr__"=some (some (.builtin "object.__setattr__"))
theorem Cls.get{K:Frag}{C:Addr}(c:Cls K C)(f:Str):PySem.W.plainGet K C f=true:=c.pg
def gX(K:Frag)(C:Addr)(f:Str):Prop:=PySem.W.findIn K (.ref C) f=some none
theorem gX.taker{K:Frag}{C:Addr}{f:Str}(n:gX K C f):PySem.W.takerIn K C f=some none:=by
 unfold PySem.W.takerIn;rw[show PySem.W.findIn K (.ref C) f=some none from n];rfl
structure Meth(K:Frag)(C:Addr)(m:Str)(f:Addr):Prop where
 at_:PySem.W.findIn K (.ref C) m=some (some (.ref f))
 fn:PySem.W.isFn K (.ref f)=true
 kp:PySem.W.keepIn K (.ref f)=true
section
variable {X:Cx} {pins:PN} {σ:St} {H:Hp} {s:Shared} {a C dx:Addr} {fs:List (Str×V)} {f:Str} {v:V} {A:Around} {E:VP}
theorem Ps{b:Bool}{Q:VP}(I:Inv X pins σ H s)(e:H a=some (.ins C dx fs))(c:Cls X.K C)(n:gX X.K C f)(l:fs.lookup f=some v)
  (h:∀u d,Inv X pins σ H d->RelV v u->Q u d):wpAny (model X.prog X.w) A (getAttr (.ref a) f b) Q E s:=by
 obtain⟨j,O,r,_,_,_⟩:=cQ I.hok e;obtain⟨u,i,g⟩:=RelO.some_of (v:=v) (o:=j f) (by rw[←l];exact r f);exact Px I.kIn O (c.get f) c.hd n i (Pt g) (h u _ (I.tok _) g)
theorem Pr{m:Str}{g:Addr}{pl:Sem Bool}{Q:Value×LW->Shared->Prop}(I:Inv X pins σ H s)(e:H a=some (.ins C dx fs))(c:Cls X.K C)(k:Meth X.K C m g)(l:fs.lookup m=none)
  (h:Q (.ref g,[.ref a]) s):wpAny (model X.prog X.w) A (getMethod (.ref a) m pl) Q E s:=by
 obtain⟨b,O,r,_,_,_⟩:=cQ I.hok e;have d:b m=none:=RelO.none_of (by rw[←l];exact r m);exact Pw I.kIn O (c.get m) k.at_ k.fn d h
theorem Pq{y:V}{u:Value}{Q:Unit->Shared->Prop}(I:Inv X pins σ H s)(e:H a=some (.ins C dx fs))(c:Cls X.K C)(n:gX X.K C f)(hl:fs.length<1000)(F:RelV y u)
  (h:∀k,Inv X pins σ (upd H a (.ins C dx (putF f y fs))) k->Q () k):wpAny (model X.prog X.w) A (setAttr (.ref a) f u) Q E s:=by
 obtain⟨i,O,r,j,_,l⟩:=cQ I.hok e;have w:(fs.map (·.1)).length<=sizeLine:=by rw[yX,sizeLine_eq];omega
 refine Pu I.kIn O c.sa c.po n.taker c.hd j w λh' d m=>h _ ?_;have x:∃o,h'.get? dx=some o:=let ⟨o,_,_,p,_⟩:=d.ns;⟨o,p⟩
 refine I.write (x:=a) (e:=dx) (by rw[e];exact True.intro) (.inr l) (λb q t z=>(m.2 b t).trans z) x ?_;refine⟨by rw[nN O.ne];exact l,?_,O.ne,d.obj,_,d.ns,λg=>?_,λg D=>?_⟩
 ·have:=Fg f y fs;omega
 ·show RelO ((putF f y fs).lookup g) (if g=f then some u else i g);rw[Fh]
  by_cases q:g=f
  ·rw[zE q,zE q];exact F
  ·rw[zD q,zD q];exact r g
 ·by_cases q:g=f
  ·rw[q];exact(An f y fs).1
  ·refine(An f y fs).2 g (j g λz=>D ?_);show(if g=f then some u else i g)=none;rw[zD q];exact z
theorem Inv.made(I:Inv X pins σ H s):Inv X pins σ (upd (upd H s.heap.objs.size (.own (s.heap.objs.size+1))) (s.heap.objs.size+1) (.ins C s.heap.objs.size []))
  {s with heap:=(s.heap.push PySem.W.emptyDict).push (PySem.W.instObj C s.heap.objs.size)}:=by
 have e1:(s.heap.push PySem.W.emptyDict).get? s.heap.objs.size=some PySem.W.emptyDict:=zS s.heap rfl;have g:((s.heap.push PySem.W.emptyDict).push (PySem.W.instObj C s.heap.objs.size)).get? (s.heap.objs.size+1)=some (PySem.W.instObj C s.heap.objs.size):=by
  have:=zS (s.heap.push PySem.W.emptyDict) (o:=PySem.W.instObj C s.heap.objs.size) rfl
  rwa[xM]at this
 have i:(s.heap.push PySem.W.emptyDict).Ns s.heap.objs.size (λ_=>none):=⟨PySem.W.emptyDict,#[],_,e1,rfl,(λe d=>absurd d (by simp)),λ_=>rfl⟩;have j:=I.laid (a:=s.heap.objs.size) (o:=.own (s.heap.objs.size+1)) (h':=s.heap.push PySem.W.emptyDict) (t':=s.toks) (λb u q=>zC _ q) (zG _) ⟨_,e1⟩;refine j.laid (a:=s.heap.objs.size+1) (o:=.ins C s.heap.objs.size []) (t':=s.toks) (λb u q=>zC _ q) (rW (xM _ _)) ?_;have ne:s.heap.objs.size≠s.heap.objs.size+1:=zX (vI _);refine⟨by rw[nN ne,nK],zZ _,ne,g,λ_=>none,(Heap.Ns1.of_empty i).at λo q=>zC _ q,λ_=>True.intro,λy c=>absurd rfl c⟩
theorem Pp{prog:Program}{w:World}{env:Env}{e:Expr}{f:Str}{c:Pos}{s:Shared}{Q:VP}(d:attributeBase e f env (eval e env)=eval e env)
  (h:wpAny (model prog w) A (eval e env) (λo b=>wpAny (model prog w) A (getAttr o f true) Q E b) E s):wpAny (model prog w) A (eval (.Attribute e f c) env) Q E s:=
 Attribute_any_ h (by rw[arm_eval_Attribute,d])
end
def tFld(K:Frag)(ta:TE)(f:Str):TE:=λσ H Q=>ta σ H λx H1=>∃a C dx fs v,x=.ref a/\H1 a=some (.ins C dx fs)/\Cls K C/\gX K C f/\fs.lookup f=some v/\Q v H1
def sFld(K:Frag)(ta tv:TE)(f:Str):TS:=λD σ H=>tv σ H λy H1=>ta σ H1 λx H2=>∃a C dx fs,x=.ref a/\H2 a=some (.ins C dx fs)/\Cls K C/\gX K C f/\fs.length<1000 /\
 D.nx σ (upd H2 a (.ins C dx (putF f y fs)))
section
variable {X:Cx} {o e value:Expr} {f:Str} {pos pos' tpos:Pos} {ta tv:TE}
theorem Am(i:PE X e ta)(j:attributeBase e f X.env (eval e X.env)=eval e X.env):PE X (.Attribute e f pos) (tFld X.K ta f):=by
 intro w s k H Q I h;refine Pp j (thn (i w s k H _ I h) λu y⟨x,g,t,r,a,C,D,fs,v,p,b,c,n,l,q⟩=>?_);subst p;obtain rfl:u=Value.ref a:=r;exact Ps t b c n l λF z d m=>⟨v,g,d,m,q⟩
theorem dC(k:PE X o ta)(r:PE X value tv)(i:swapsWith value (some (.Attribute o f pos')) pos.line X.env=pure false):PS X (.Assign [.Attribute o f pos'] value pos) (sFld X.K ta tv f):=by
 intro d s b H D I h;refine plainObj_wpAny_Assign_Attribute (thn (r d s b H _ I h) λu F⟨y,g,p,z,q⟩=>thn (k d F b g _ p q) λJ K⟨x,N,v,w,a,C,M,fs,m,t,c,n,l,j⟩=>?_) i;subst m;obtain rfl:J=Value.ref a:=w;exact Pq v t c n l z λL G=>⟨b,_,G,j⟩
end
section
variable {X:Cx} {pins:PN} {σ:St} {H:Hp} {s:Shared} {A:Around} {E:VP} {Q:VP} {c:Value} {b:Bool}
inductive TyOf(K:Frag)(H:Hp):V->Value->Prop where
 |non:TyOf K H .non (.type "NoneType")
 |bl (x:Bool):TyOf K H (.bl x) (.type "bool")
 |int (i:Int):TyOf K H (.int i) (.type "int")
 |str (x:Str):TyOf K H (.str x) (.type "str")
 |flt (x:UInt64):TyOf K H (.flt x) (.type "float")
 |lst {a:Addr} {xs:List V} (e:H a=some (.lst xs)):TyOf K H (.ref a) (.type "list")
 |frz {a:Addr} {o:Obj} {xs:List V} (e:H a=some (.frz o (.lst xs))):TyOf K H (.ref a) (.type "list")
 |tup {a:Addr} {xs:List V} (e:H a=some (.tup xs)):TyOf K H (.ref a) (.type "tuple")
 |dK {a:Addr} {kvs:List (Key×V)} (e:H a=some (.dK kvs)):TyOf K H (.ref a) (.type "dict")
 |dT {a:Addr} {kvs:List (List Key×V)} (e:H a=some (.dT kvs)):TyOf K H (.ref a) (.type "dict")
 | ins {a C dx:Addr} {fs:List (Str×V)} (e:H a=some (.ins C dx fs)) (cl:Cls K C) (ha:PySem.W.findIn K (.ref C) "__class__"=some (some (.builtin "object.__class__")))
   (hn:PySem.W.specialIn K (.builtin "object.__class__") "__get__"=some (some (.builtin "getset_descriptor.__get__"))) (htk:PySem.W.takesIn K (.builtin "object.__class__")=some true)
   (hm:PySem.W.mroIn K C (.type "object")=some true):TyOf K H (.ref a) (.ref C)
theorem Po{x:V}{u t:Value}(I:Inv X pins σ H s)(f:RelV x u)(ty:TyOf X.K H x t)(e:PySem.W.kitOne X.K t c=some b)(h:∀tk,Q (.bool b) {s with toks:=tk}):
  wpAny (model X.prog X.w) A (call (.builtin "isinstance") [u,c]) Q E s:=by
 cases ty with
 |non=>cases(show u=Value.none from f);exact xP PySem.W.kitx_none I.kIn True.intro e (λz=>nomatch z) h
 |bl y=>cases(show u=Value.bool y from f);exact xP PySem.W.kitx_bool I.kIn True.intro e (λz=>nomatch z) h
 |int i=>obtain⟨t,q⟩:=(show∃t,u=Value.int i t from f);cases q;exact xP PySem.W.kitx_int I.kIn True.intro e (λz=>nomatch z) h
 |str y=>obtain⟨t,q⟩:=(show∃t,u=Value.str y t from f);cases q;exact xP PySem.W.kitx_str I.kIn True.intro e (λz=>nomatch z) h
 |flt y=>obtain⟨t,q⟩:=(show∃t,u=Value.float y t from f);cases q;exact xP PySem.W.kitx_float I.kIn True.intro e (λz=>nomatch z) h
 |@lst a xs d =>
  cases(show u=Value.ref a from f);obtain⟨_,_,n,_,g⟩:=(show mI X.prog X.w H s.heap a (.lst xs) from I.hok a _ d);exact xP qX I.kIn ⟨_,g,rfl⟩ e (λz=>nomatch z) h
 |@frz a r xs d =>
  cases(show u=Value.ref a from f);obtain⟨_,_,_,n,_,g⟩:=(show mI X.prog X.w H s.heap a (.frz r (.lst xs)) from I.hok a _ d);exact xP qX I.kIn ⟨_,g,rfl⟩ e (λz=>nomatch z) h
 |@tup a xs d =>
  cases(show u=Value.ref a from f);obtain⟨_,_,_,p⟩:=(show mI X.prog X.w H s.heap a (.tup xs) from I.hok a _ d);obtain⟨o,g,j,_⟩:=p;exact xP PySem.W.kitx_tuple I.kIn ⟨o,g,j⟩ e (λz=>nomatch z) h
 |@dK a kvs d =>
  cases(show u=Value.ref a from f);obtain⟨_,_,vs,_,p⟩:=(show mI X.prog X.w H s.heap a (.dK kvs) from I.hok a _ d);obtain⟨o,es,ep,g,j,_⟩:=p;exact xP PySem.W.kitx_dict I.kIn ⟨o,g,j.1⟩ e (λz=>nomatch z) h
 |@dT a kvs d =>
  cases(show u=Value.ref a from f);obtain⟨_,_,xs,_,o,es,ep,g,j,_⟩:=(show mI X.prog X.w H s.heap a (.dT kvs) from I.hok a _ d);exact xP PySem.W.kitx_dict I.kIn ⟨o,g,j.1⟩ e (λz=>nomatch z) h
 |@ins a C G fs d k v w D m =>
  cases(show u=Value.ref a from f);obtain⟨F,O,_⟩:=cQ I.hok d;obtain⟨J,l,_⟩:=O.look;exact xP (PySem.W.kitx_own (k.get _) k.hd v w D m) I.kIn l e (λz=>nomatch z) h
end
structure Room(k:Nat)(A:Around):Prop where
 hd:A.handled=none
 dp:A.depth+3*k+5<recursionLimit
 un:A.units+16*k+200<cLine
theorem Room.mono{j k:Nat}{A:Around}(r:Room k A)(h:j<=k):Room j A:=⟨r.hd,by have:=r.dp;omega,by have:=r.un;omega⟩
theorem Room.mo{j k:Nat}{A:Around}(r:Room k A)(h:j<=k:=by first|decide|omega):Room j A:=r.mono h
theorem Room.deeper{k:Nat}{A:Around}(r:Room (k+1) A)(env:Env):Room k (A.deeper env):=
 ⟨r.hd,by have:=r.dp;show A.depth+1+3*k+5<_;omega,by have:=r.un;show A.units+3+16*k+200<_;omega⟩
theorem Pn{A:Around}{C:Addr}{us:LW}{a:List (Str×Value)}:(A.under (.builtin "type.__call__" ⟨.ref C:: us,a⟩)).depth=A.depth+1:=by
 first|rfl|simp[Around.under,Code.weight,Code.isCreation,Code.isGuard,Code.isCaller,Code.frames,Code.isFrame,guardIds]
theorem Pm{A:Around}{C:Addr}{us:LW}{a:List (Str×Value)}:(A.under (.builtin "type.__call__" ⟨.ref C:: us,a⟩)).units=A.units+1:=by
 first|rfl|simp[Around.under,Code.cUnits,Code.frames,Code.isFrame]
theorem Room.make{k:Nat}{A:Around}(r:Room (k+1) A)(C:Addr)(us:LW)(a:List (Str×Value)):Room k (A.under (.builtin "type.__call__" ⟨.ref C:: us,a⟩)):=
 ⟨r.hd,by have:=r.dp;rw[Pn];omega,by have:=r.un;rw[Pm];omega⟩
theorem Room.depth{k:Nat}{A:Around}(r:Room k A):A.depth<recursionLimit:=by have:=r.dp;omega
theorem Room.units{k:Nat}{A:Around}(r:Room k A):A.units+64<cLine:=by have:=r.un;omega
def tNil:TA:=λ_ H Q=>Q [] H
def mG(ta:TE)(tr:TA):TA:=λσ H Q=>ta σ H λx H1=>tr σ H1 λxs H2=>Q (x:: xs) H2
section
variable {X:Cx} {e:Expr} {es:List Expr} {te:TE} {t:TA} {pos:Pos}
theorem nE:PA X [] tNil:=λ_ _ _ _ H Q I h=>Calls.spliced_nil ⟨[],H,I,.nil,h⟩
theorem nD(l:PE X e te)(hr:PA X es t)(g:starEach (e:: es) X.env=(false,eval e X.env):: starEach es X.env:=by rfl):PA X (e:: es) (mG te t):=by
 intro pos a s b H Q I h;rw[g];show wpAny _ _ (spliced ((false,eval e X.env):: backTo pos (starEach es X.env))) _ _ s;refine Calls.spliced_cons (thn (l a s b H _ I h) λu d⟨x,k,m,n,c⟩=>?_);exact thn (hr pos a d b k _ m c) λus p⟨xs,o,j,f,i⟩=>⟨x:: xs,o,j,.cons n f,i⟩
def tTup(t:TA):TE:=λσ H Q=>t σ H λxs H1=>xs.length<=sizeLine/\∀p,H1 p=none->Q (.ref p) (upd H1 p (.tup xs))
def tLst(t:TA):TE:=λσ H Q=>t σ H λxs H1=>xs.length<=sizeLine/\∀p,H1 p=none->Q (.ref p) (upd H1 p (.lst xs))
theorem lI{i}(h:PA X es t):PE X (.Tuple es i pos) (tTup t):=by
 intro j s k H Q I f;refine wpAny_Tuple_spliced (thn (h pos j s k H _ I f) λus a⟨xs,c,d,r,z,q⟩=>⟨by rw[←r.length];exact z,?_⟩);have g:c a.heap.objs.size=none:=d.hok.fresh (zG _);refine⟨.ref a.heap.objs.size,upd c a.heap.objs.size (.tup xs),d.laid (t':=a.toks) (λb u e=>zC _ e) (zG _) ?_,rfl,q _ g⟩;exact⟨z,us,r,⟨_,zS _ rfl,rfl,_,rfl⟩⟩
theorem mS(h:PA X es t):PE X (.List es pos) (tLst t):=by
 intro i s j H Q I f;refine wpAny_List_spliced (thn (h pos i s j H _ I f) λus a⟨xs,c,d,r,z,q⟩=>⟨by rw[←r.length];exact z,?_⟩);have g:c a.heap.objs.size=none:=d.hok.fresh (zG _);refine⟨.ref a.heap.objs.size,upd c a.heap.objs.size (.lst xs),d.laid (t':=a.toks) (λb u e=>zC _ e) (zG _) ?_,rfl,q _ g⟩;exact⟨z,us,0,r,zS _ rfl⟩
end
abbrev Sp:=List V->Hp->VK->XK->Prop
abbrev CXT:=List Env->Hp->Shared->XK->VP
structure Env0(P:Program)(w:World)(K:Frag)(mg:MT)(base:Heap)(A:Around)(outer:List Env)(s:Shared)(H:Hp):Prop where
 frames:A.frames=some outer
 mod:Mod K mg base
 bs:∀b o,base.get? b=some o->s.heap.get? b=some o/\H b=none
 bsz:base.objs.size<=s.heap.objs.size
 funs:s.heap.FunFrames base outer
 frf:∀b∈frs outer,H b=none
 hok:HOk P w H s.heap
 bare:AllBare s.gens
def CE(outer:List Env)(P:Program)(w:World)(H:Hp)(s:Shared)(Q:VK)(u:Value)(s':Shared):Prop:=
 ∃v H',s'.os=s.os/\AllBare s'.gens/\Un (frs outer) [] H H' s.heap s'.heap/\HOk P w H' s'.heap/\RelV v u/\Q v H'
def CR(CX:CXT)(outer:List Env)(P:Program)(w:World)(H:Hp)(s:Shared)(Q:VK)(E:XK)(r:Result)(s':Shared):Prop:=
 match r with
 |.ok (.ret u)=>CE outer P w H s Q u s'
 |.ok _=>False
 |.error e=>CX outer H s E e s'
structure FnOk(P:Program)(w:World)(K:Frag)(mg:MT)(base:Heap)(CX:CXT)(k:Nat)(f:Addr)(fd:FuncData)(ps:List Str)(sp:Sp):Prop where
 len:∀vs H Q E,sp vs H Q E->vs.length=ps.length
 run:∀(A:Around)(outer:List Env)(s:Shared)(H:Hp)(args:Args)(us:LW)(vs:List V)(Q:VK)(E:XK),Room k A->Env0 P w K mg base A outer s H->BindsTo s fd args (ps.zip us)->Vals vs us->sp vs H Q E ->
  codeAny (model P w) A (.call (.ref f) args) (CR CX outer P w H s Q E) s
theorem Env0.make{P:Program}{w:World}{K:Frag}{a:MT}{base:Heap}{A:Around}{outer:List Env}{s:Shared}{H:Hp}(e:Env0 P w K a base A outer s H)(C:Addr)(us:LW)(b:List (Str×Value)):
  Env0 P w K a base (A.under (.builtin "type.__call__" ⟨.ref C:: us,b⟩)) outer s H:=⟨by first|exact e.frames|(simpa [Around.under,Code.envs,Code.isFrame,pushEnvs]using e.frames),e.mod,e.bs,e.bsz,e.funs,e.frf,e.hok,e.bare⟩
section
variable {X:Cx} {pins:PN} {σ:St} {H:Hp} {s s':Shared}
theorem Inv.env0(I:Inv X pins σ H s):Env0 X.prog X.w X.K X.mg X.base X.A X.stack s H:=
 ⟨I.ok.frames,I.ok.mod,I.bs,yH I.ok.bsz I.sz,I.stack,I.stkFree,I.hok,I.bare⟩
theorem Inv.after{Q:VK}{u:Value}(I:Inv X pins σ H s)(h:CE X.stack X.prog X.w H s Q u s'):EP X pins σ Q u s':=by
 obtain⟨v,H',a,f,un,c,r,q⟩:=h;obtain⟨hh,g,d,t,e⟩:=s';obtain rfl:e=s.os:=a;exact⟨v,H',I.call (h':=hh) (g':=g) (d':=d) (t':=t) (ch:=[]) un c f (λb z=>absurd z (by simp)),r,q⟩
end
def kP(sp:Sp)(dvs:List V)(E:XK)(t:TA):TE:=λσ H Q=>t σ H λvs H1=>sp (vs++dvs) H1 Q E
def Al(C:Addr)(m:Str)(sp:Sp)(dvs:List V)(E:XK)(ta:TE)(t:TA):TE:=λσ H Q=>ta σ H λx H1=>∃a dx fs,x=.ref a/\H1 a=some (.ins C dx fs)/\fs.lookup m=none /\
 t σ H1 λvs H2=>sp (x:: (vs++dvs)) H2 Q E
def Ff(C:Addr)(sp:Sp)(dvs:List V)(E:XK)(t:TA):TE:=λσ H Q=>t σ H λvs H1=>∀x dx,H1 x=none->H1 dx=none->dx≠x ->
 sp (.ref x:: (vs++dvs)) (upd (upd H1 dx (.own x)) x (.ins C dx [])) (λv H2=>v=.non/\Q (.ref x) H2) E
def mZ(K:Frag)(fd:FuncData)(ps:List Str)(ds:LW):Prop:=
 ∀(s:Shared)(us:LW),K.In s.heap->(us++ds).length=ps.length->BindsTo s fd ⟨us,[]⟩ (ps.zip (us++ds))
theorem mZ.all{K:Frag}{a:FuncData}{ps:List Str}(h:∀us:LW,us.length=ps.length->bindArgs a ⟨us,[]⟩=pure (ps.zip us)):mZ K a ps []:=λs us _ hl=>by
 rw[wU]at hl ⊢;exact .of_eq (h us hl)
def hZ(CX:CXT)(X:Cx)(E:XK):Prop:=∀(pins:PN)(σ:St)(H:Hp)(s:Shared)(e:Value)(s':Shared),Inv X pins σ H s->CX X.stack H s E e s'->X.xe e s'
section
variable {X:Cx} {CX:CXT} {k:Nat} {f C:Addr} {fd:FuncData} {ps:List Str} {sp:Sp} {dvs:List V} {ds:LW} {E:XK} {x m:Str} {p pos apos:Pos} {e o:Expr} {es:List Expr} {ta:TE} {t:TA}
theorem Fe{b:PN}{c:St}{H:Hp}{s:Shared}{Q:VK}{us:LW}{vs:List V}(d:FnOk X.prog X.w X.K X.mg X.base CX k f fd ps sp)(hr:Room k X.A)(l:mZ X.K fd ps ds)(n:Vals dvs ds)(j:hZ CX X E)
  (I:Inv X b c H s)(r:Vals vs us)(h:sp (vs++dvs) H Q E):wpAny (model X.prog X.w) X.A (call (.ref f) us) (EP X b c Q) X.xe s:=by
 have g:Vals (vs++dvs) (us++ds):=r.append n;have hl:(us++ds).length=ps.length:=by rw[←g.length];exact d.len _ _ _ _ h
 refine uC (wV (d.run X.A X.stack s H ⟨us,[]⟩ (us++ds) (vs++dvs) Q E hr I.env0 (l s us I.kIn hl) g h) λr i a=>?_);cases r with
 |error e=>exact j b c H s e i I a
 |ok fl =>
  cases fl with
  |ret u=>exact I.after a
  |next=>exact False.elim a
  |brk=>exact False.elim a
  |cont=>exact False.elim a
theorem dD(b:FnOk X.prog X.w X.K X.mg X.base CX k f fd ps sp)(hr:Room k X.A)(u:Gl X x)(g:X.mg x=some (.ref f))(y:PySem.W.keepIn X.K (.ref f)=true)(j:mZ X.K fd ps ds)(n:Vals dvs ds)(d:hZ CX X E)
  (l:PA X (e:: es) t)(v:(x == ("__debug__" :Str))=false:=by decide)(i:starEach (e:: es) X.env=(false,eval e X.env):: starEach es X.env:=by rfl)(c:(backTo pos (starEach es X.env)).any (·.1)=false:=by rfl):
  PE X (.Call (.Name x p) (e:: es) [] pos) (kP sp dvs E t):=by
 intro w s z H Q I h;refine wK (jI I u g ?_ v);refine vP (h₀:=X.base) I.ok.mod.kin y (thn (l pos w s z H _ I h) λus D⟨vs,F,a,r,q⟩=>⟨a.kIn,?_⟩) i c;exact Fe b hr j n d a r q
theorem Fd{pl:Sem Bool}(r:PE X o ta)(c:Cls X.K C)(d:Meth X.K C m f)(j:FnOk X.prog X.w X.K X.mg X.base CX k f fd ps sp)(hr:Room k X.A)(v:mZ X.K fd ps ds)(y:Vals dvs ds)(n:hZ CX X E)
  (F:eval (.Call (.Attribute o m apos) [] [] pos) X.env=(do
   let g ←eval o X.env
   standAt apos.atName
   let (f,first) ←holding [g] (getMethod g m pl)
   callWith pos f first (backTo pos (starEach [] X.env)) (backToKw pos (keywordEach [] X.env))):=by rfl):
  PE X (.Call (.Attribute o m apos) [] [] pos) (Al C m sp dvs E ta tNil):=by
 intro D s G H Q I h;refine PySem.W.methodCall_KW (pl:=pl) (thn (r D s G H _ I h) λu J⟨x,K,b,w,a,L,fs,z,i,l,q⟩=>?_) F;subst z;obtain rfl:u=Value.ref a:=w;refine Pr b i c d l ?_;exact PySem.W.callWith_K0 (first:=[.ref a]) b.kIn d.kp (Fe (us:=[.ref a]) (vs:=[.ref a]) j hr v y n b (.cons rfl .nil) q)
structure Mk(K:Frag)(C f:Addr):Prop where
 makes:PySem.W.makesIn K C=true
 init:PySem.W.findIn K (.ref C) "__init__"=some (some (.ref f))
 fn:PySem.W.isFn K (.ref f)=true
 kp:PySem.W.keepIn K (.ref C)=true
theorem Pl{d:PN}{g:St}{H:Hp}{s:Shared}{Q:VK}{us:LW}{vs:List V}(M:Mk X.K C f)(j:FnOk X.prog X.w X.K X.mg X.base CX k f fd ps sp)(hr:Room (k+1) X.A)(D:mZ X.K fd ps ds)(G:Vals dvs ds)
  (y:hZ CX X E)(I:Inv X d g H s)(r:Vals vs us)
  (h:∀x c,H x=none->H c=none->c≠x->sp (.ref x:: (vs++dvs)) (upd (upd H c (.own x)) x (.ins C c [])) (λv J=>v=.non/\Q (.ref x) J) E):
  wpAny (model X.prog X.w) X.A (call (.ref C) us) (EP X d g Q) X.xe s:=by
 have i:=h (s.heap.objs.size+1) s.heap.objs.size (I.hok.fresh (uO _)) (I.hok.fresh (zG _)) (zX (vI _));have b:=Inv.made (C:=C) I;have l:Vals (V.ref (s.heap.objs.size+1):: (vs++dvs)) (Value.ref (s.heap.objs.size+1):: (us++ds)):=.cons rfl (r.append G);have hl:(Value.ref (s.heap.objs.size+1):: us++ds).length=ps.length:=by
  have e:=l.length;rw[j.len _ _ _ _ i]at e;exact e.symm
 refine uC (Fi (f:=f) I.kIn M.makes M.init (oO.mp M.fn) (wV (j.run _ X.stack _ _ ⟨Value.ref (s.heap.objs.size+1):: us,[]⟩ (Value.ref (s.heap.objs.size+1):: (us++ds)) _ _ E (hr.make C us [])
  (b.env0.make C us []) (D _ (Value.ref (s.heap.objs.size+1):: us) b.kIn hl) l i) λr z a=>?_))
 cases r with
 |error e=>exact y d g _ _ e z b a
 | ok fl =>
  cases fl with
  |ret u =>
   obtain⟨v,H',F,q,n,w⟩:=b.after a;subst n;exact⟨q,⟨V.ref (s.heap.objs.size+1),H',F,rfl,w⟩⟩
  |next=>exact False.elim a
  |brk=>exact False.elim a
  |cont=>exact False.elim a
theorem Pk(M:Mk X.K C f)(b:FnOk X.prog X.w X.K X.mg X.base CX k f fd ps sp)(hr:Room (k+1) X.A)(u:Gl X x)(g:X.mg x=some (.ref C))(j:mZ X.K fd ps ds)(n:Vals dvs ds)(d:hZ CX X E)
  (l:PA X (e:: es) t)(v:(x == ("__debug__" :Str))=false:=by decide)(i:starEach (e:: es) X.env=(false,eval e X.env):: starEach es X.env:=by rfl)(c:(backTo pos (starEach es X.env)).any (·.1)=false:=by rfl):
  PE X (.Call (.Name x p) (e:: es) [] pos) (Ff C sp dvs E t):=by
 intro w s y H Q I h;refine wK (jI I u g ?_ v);refine vP (h₀:=X.base) I.ok.mod.kin M.kp (thn (l pos w s y H _ I h) λus z⟨vs,D,a,r,q⟩=>⟨a.kIn,?_⟩) i c;exact Pl M b hr j n d a r q
end
def PK(X:Cx)(kws:List Keyword)(t:TA):Prop:=
 ∀(pos:Pos)(pins:PN)(s:Shared)(σ:St)(H:Hp)(Q:List V->Hp->Prop),Inv X pins σ H s->t σ H Q->wpAny (model X.prog X.w) X.A (evalAll ((backToKw pos (keywordEach kws X.env)).map (·.2))) (AP X pins σ Q) X.xe s
section
variable {X:Cx} {CX:CXT} {k:Nat} {f C:Addr} {fd:FuncData} {ps ks:List Str} {sp:Sp} {E:XK} {x m:Str} {p pos apos kpos:Pos} {e o:Expr} {es:List Expr} {kws:List Keyword} {te ta:TE} {t tk:TA} {nm:Option Str}
theorem pk_nil:PK X [] tNil:=λ_ _ _ _ H Q I h=>wpAny_evalAll_nil ⟨[],H,I,.nil,h⟩
variable {g:LW->LW->LW} {gV:List V->List V->List V}
end
structure nZ(N P:List Str)(sc:Scope):Prop where
 kind:sc.kind=.function
 co:sc.isCoroutine=false
 gen:sc.isGenerator=false
 nd:N.Nodup
 pre:N.take P.length=P
 par:∀x∈P,sc.names.lookup x=some .local\/sc.names.lookup x=some .cell
 nofree:∀y∈sc.names,y.2≠.free
theorem Fc{b:Str->Option NameKind}{x:Str}:∀{binds:List (Str×Value)}{m:MT},(∀v,(x,v)∉binds)->bindL b binds m x=m x
 |[],_,_=>rfl
 | (n,v):: r,m,h=>by
  unfold bindL;rw[Fc λw a=>h w (zN _ a)];split
  ·have:x≠n:=by rintro rfl;exact h v zV
   simp[this]
  ·rfl
theorem Fb{b:Str->Option NameKind}{x:Str}:∀{binds:List (Str×Value)}{m:MT},(∀v,(x,v)∉binds)->bindC b binds m x=m x
 |[],_,_=>rfl
 | (n,v):: r,m,h=>by
  unfold bindC;rw[Fb λw a=>h w (zN _ a)];split
  ·rfl
  ·have:x≠n:=by rintro rfl;exact h v zV
   simp[this]
theorem Fa{a:Str->Option NameKind}{x:Str}{v:Value}:∀{P:List Str}{vs:LW}{i:Nat}{m:MT},P.Nodup->P[i]?=some x->vs[i]?=some v->a x=some .local ->
  bindL a (P.zip vs) m x=some v
 |[],_,_,_,_,h,_,_=>by simp at h
 |_:: _,[],_,_,_,_,h,_=>by simp at h
 |p:: P,w:: vs,0,m,d,b,c,e=>by
  simp at b c;subst b;subst c;show bindL a ((p,w):: P.zip vs) m p=_;unfold bindL;rw[Fc λv f=>(rL.mp d).1 (tP f).1,zE e];simp
 |p:: P,w:: vs,i+1,m,d,b,c,e=>by
  show bindL a ((p,w):: P.zip vs) m x=_;unfold bindL;exact Fa (i:=i) (rL.mp d).2 (by simpa using b) (by simpa using c) e
theorem Gz{a:Str->Option NameKind}{x:Str}{v:Value}:∀{P:List Str}{vs:LW}{i:Nat}{m:MT},P.Nodup->P[i]?=some x->vs[i]?=some v->a x≠some .local ->
  bindC a (P.zip vs) m x=some v
 |[],_,_,_,_,h,_,_=>by simp at h
 |_:: _,[],_,_,_,_,h,_=>by simp at h
 |p:: P,w:: vs,0,m,d,b,c,e=>by
  simp at b c;subst b;subst c;show bindC a ((p,w):: P.zip vs) m p=_;unfold bindC;rw[Fb λv f=>(rL.mp d).1 (tP f).1,zD e];simp
 |p:: P,w:: vs,i+1,m,d,b,c,e=>by
  show bindC a ((p,w):: P.zip vs) m x=_;unfold bindC;exact Gz (i:=i) (rL.mp d).2 (by simpa using b) (by simpa using c) e
def start(N:List Str)(vs:List V):St:=vs.map some++List.replicate (N.length-vs.length) none
def cxOf(CX:CXT)(P:Program)(w:World)(K:Frag)(mg:MT)(base:Heap)(N:List Str)(qual:Str)(scope:Scope)(f:Addr)(cd:Value)(A:Around)(outer:List Env)(s:Shared)(H:Hp)(E:XK):Cx where
 prog:=P
 w:=w
 K:=K
 mg:=mg
 base:=base
 A:=A.deeper (envOfC qual scope s.heap.objs.size f cd)
 N:=N
 s₀:=s
 H₀:=H
 env:=envOfC qual scope s.heap.objs.size f cd
 outer:=outer
 stack:=envOfC qual scope s.heap.objs.size f cd:: outer
 ex:=[]
 calm:=true
 fn:=λ_=>true
 pn:=[]
 xe:=λe s'=>wpAny (model P w) (A.deeper (envOfC qual scope s.heap.objs.size f cd)) (leaving (envOfC qual scope s.heap.objs.size f cd) e) (λ_ s''=>CX outer H s E e s'') (λe' s''=>CX outer H s E e' s'') s'
theorem Gy{sc:Scope}{n:Nat}{x:Str}(h:sc.names.lookup x=some .cell):∃c,(cellsFrom n sc.names []).lookup x=some c:=by
 have q:=sK sc.names n [] (.inl h);exact oX.mp q
theorem Gx{F:CXT}{P:Program}{w:World}{K:Frag}{D:MT}{base:Heap}{N ps:List Str}{t:Str}{j:Scope}{f:Addr}{o:Value}{A:Around}{outer:List Env}{s L:Shared}{H:Hp}{E:XK}{us:LW}{vs:List V}
  (S:nZ N ps j)(R:A.handled=none)(g:Env0 P w K D base A outer s H)(hl:vs.length=ps.length)(r:Vals vs us)
  (x:InCallC s s.heap.objs.size (bindL (envOfC t j s.heap.objs.size f o).kindOf (ps.zip us) λ_=>none) (cellsFrom (s.heap.objs.size+1) j.names []) (bindC (envOfC t j s.heap.objs.size f o).kindOf (ps.zip us) λ_=>none) L):
  Inv (cxOf F P w K D base N t j f o A outer s H E) [] (start N vs) H L:=by
 have U:ps.length<=N.length:=by have:=wG List.length S.pre;rw[xA]at this;omega
 obtain⟨n,tk,rfl,G⟩:=x.done;have C:∀b:Addr,b∉(cxOf F P w K D base N t j f o A outer s H E).ex:=λb z=>absurd (show b∈([]:LA) from z) (by simp);refine⟨⟨g.mod,S.kind,rfl,rfl,zG _,λy z c n d=>?_,λy l=>?_,λy c _ h=>?_,λ_=>R,Around.frames_deeper g.frames,.inr ⟨rfl,rfl⟩,λb z=>absurd z (C b),g.bs,g.bsz,λb _ _=>C b,λb z=>absurd z (C b),g.funs,g.frf⟩,
  rfl,g.bare,Un.kept G,⟨_,x.toInCall.ns,λi y v n d T=>?_⟩,λy c h=>⟨_,x.cell y c h⟩,g.hok.fresh (zG _),λy c h=>?_,λp m=>absurd (show p∈([]:PN) from m) (by simp),g.hok.kept G,?_⟩
 ·exact name_of_addr x.apart (vH n) (vH d)
 ·have l:j.names.lookup y=some .cell\/j.names.lookup y=some .free:=l;rcases l with l|l
  ·exact Gy l
  ·exact absurd rfl (S.nofree _ (vH l))
 ·exact wA (x.above y c (vH h))
 ·have hi:i<vs.length:=by
   unfold start at d
   by_cases hi:i<vs.length
   ·exact hi
   ·rw[yD (by simpa using hi)]at d;rw[List.getElem?_replicate]at d;split at d <;> cases d
  have M:vs[i]?=some v:=by
   unfold start at d;rw[yP (by simpa using hi),zO]at d;cases e:vs[i]? with
   |none=>rw[e]at d;cases d
   |some a=>rw[e]at d;cases d;rfl
  obtain⟨u,J,O⟩:=r.get M;have m:ps[i]?=some y:=by
   rw[←S.pre,List.getElem?_take_of_lt ⋯];exact n
  have I:ps.Nodup:=by rw[←S.pre];exact S.nd.sublist (List.take_sublist _ _)
  refine⟨u,O,?_⟩;rcases S.par y (yG m) with k|k
  ·exact .inl ⟨k,Fa I m J k⟩
  ·obtain⟨c,e⟩:=Gy (n:=s.heap.objs.size+1) k;refine .inr ⟨.inl k,c,e,?_⟩;have q:=x.cell y c e;rw[Gz I m J (by show j.names.lookup y≠_;rw[k];decide)]at q;exact q
 ·exact g.hok.fresh (wA (x.above y c (vH h)))
 ·unfold start;show _=N.length;rw[yF,yX,List.length_replicate];omega
theorem Ak{j:CXT}{P:Program}{w:World}{K:Frag}{m:MT}{base:Heap}{k:Nat}{f:Addr}{name d:Str}{F:Arguments}{body:List Stmt}{a:Scope}{J kV T R cdv L U:Value}{M a6:Option Addr}
  {Y:Array (Option Value)}{N ps:List Str}{p:Sp}(X:K.lookup f=some ⟨U,a6,.func (PySem.W.fnOf name d F body a J kV T R M cdv L),Y⟩)(W:PySem.W.codeIn K cdv d=true)(S:nZ N ps a)
  (len:∀vs H Q E,p vs H Q E->vs.length=ps.length)
  (a0:∀(A:Around)(outer:List Env)(s:Shared)(H:Hp)(vs:List V)(Q:VK)(E:XK),Room k (A.deeper (envOfC d a s.heap.objs.size f cdv))->p vs H Q E ->
   ∃t,PSs (cxOf j P w K m base N d a f cdv A outer s H E) body t/\t {nx:=λ_ H'=>Q .non H',rt:=Q} (start N vs) H):
  FnOk P w K m base j (k+1) f (PySem.W.fnOf name d F body a J kV T R M cdv L) ps p:=by
 refine⟨len,λA outer s H a8 us vs Q E hr i a5 r D=>?_⟩;have hl:=len _ _ _ _ D;have KX:K.In s.heap:=i.mod.kin.keeps λb o e=>(i.bs b o e).1;have a2:s.heap.NoLimit:=i.mod.nolimit.keeps λb o e=>(i.bs b o e).1;have a7:∀y∈ps.zip us,a.names.lookup y.1=some .local\/(a.names.lookup y.1=some .cell/\((cellsFrom (s.heap.objs.size+1) a.names []).lookup y.1).isSome=true):=λ⟨n,v⟩a3=>by
  rcases S.par n (tP a3).1 with q|q
  ·exact .inl q
  ·exact .inr ⟨q,sK _ _ _ (.inl q)⟩
 refine codeAny_call_function hr.depth (KX _ _ X) rfl S.co S.gen rfl (PySem.W.codeRec_of KX W) (a5 _ _ _ _ ?_);refine wpAny_newFunctionEnv_cells S.kind a7 λenv a4 O x=>?_;subst a4;refine⟨a2.keeps x.toInCall.keep,codeAny_func ?_⟩;obtain⟨t,Z,a1⟩:=a0 A outer s H vs Q E (hr.deeper _) D;have I:Inv (cxOf j P w K m base N d a f cdv A outer s H E) [] (start N vs) H O:=Gx S hr.hd i hl r x;refine zU (Z [] O (start N vs) H _ I a1) (λfl z g=>?_) λe z g=>g;have G:∀{l:St}{H':Hp}{v:V}{u:Value},Inv (cxOf j P w K m base N d a f cdv A outer s H E) [] l H' z->RelV v u->Q v H'->CE outer P w H s Q u z:=
  λ{l H' v u}c C q=>⟨v,H',c.os,c.bare,c.base,c.hok,C,q⟩
 cases fl with
 |ret u =>
  obtain⟨v,l,H',c,C,q⟩:=g;exact G c C q
 |next =>
  obtain⟨l,H',c,q⟩:=g;exact G (v:=V.non) (u:=Value.none) c rfl q
 |brk =>
  obtain⟨_,_,_,q⟩:=g;exact False.elim q
 |cont =>
  obtain⟨_,_,_,q⟩:=g;exact False.elim q
section
variable {X:Cx} {x:Str} {p pos:Pos} {e:Expr} {es:List Expr} {t:TA} {id T:String} {r:List V->Hp->VK->Prop}
def tCB(r:List V->Hp->VK->Prop)(t:TA):TE:=λσ H Q=>t σ H λvs H1=>r vs H1 Q
theorem lA(m:lZ X (.builtin id) r)(q:Gl X x)(g:X.mg x=none)(l:bootBuiltins x=some (.builtin id))(n:PA X (e:: es) t)(o:x≠"__name__" := by decide)(v:(x == ("__debug__" :Str))=false:=by decide)
  (j:starEach (e:: es) X.env=(false,eval e X.env):: starEach es X.env:=by rfl)(f:(backTo pos (starEach es X.env)).any (·.1)=false:=by rfl):PE X (.Call (.Name x p) (e:: es) [] pos) (tCB r t):=by
 intro a s b H Q I h;refine wK (fN I q g l ?_ o v);exact PyProof.Rows.callWith_builtin1 (thn (n pos a s b H _ I h) λus d⟨vs,k,u,i,c⟩=>m a d b k vs us Q u i c) j f
theorem jA(m:lZ X (.type T) r)(q:Gl X x)(g:X.mg x=none)(l:bootBuiltins x=some (.type T))(n:PA X (e:: es) t)(o:x≠"__name__" := by decide)(v:(x == ("__debug__" :Str))=false:=by decide)
  (j:starEach (e:: es) X.env=(false,eval e X.env):: starEach es X.env:=by rfl)(f:(backTo pos (starEach es X.env)).any (·.1)=false:=by rfl):PE X (.Call (.Name x p) (e:: es) [] pos) (tCB r t):=by
 intro a s b H Q I h;refine wK (fN I q g l ?_ o v);exact vQ (thn (n pos a s b H _ I h) λus d⟨vs,k,u,i,c⟩=>m a d b k vs us Q u i c) j f
end
end L2
namespace HT
open PySem PyProof.Rows
section
open PySem.SeqAt
open PySem.AutoSeq1 (wpAny_loadPart')
open PySem.MeetsSeq PySem.MeetsSeq2 PySem.MeetsSeq3
end
section
variable {prog:Program} {w:World} {A:Around} {E:VP} {s:Shared}
def sIx(n d:Nat):Option Int->Nat
 |none=>d
 |some v=>if v<0 then(v+(n:Int)).toNat else min v.toNat n
theorem sIx_none(n d:Nat):sIx n d none=d:=rfl
theorem sIx_nat(n d k:Nat):sIx n d (some (k:Int))=min k n:=by
 show(if(k:Int)<0 then((k:Int)+(n:Int)).toNat else min (k:Int).toNat n)=min k n;rw[zD ⋯,zW]
theorem Pj(n d:Nat)(b:d<=n)(o:Option Int):sIx n d o<=n:=by
 cases o with
 |none=>exact b
 |some v =>
  show(if v<0 then(v+(n:Int)).toNat else min v.toNat n)<=n
  by_cases a:v<0
  ·rw[zE a];omega
  ·rw[zD a];exact Nat.min_le_right _ _
theorem Gw(v:Int)(n d:Nat):(if v<0 then max (v+(n:Int)) 0 else min v (n:Int))=((sIx n d (some v):Nat):Int):=by
 show(if v<0 then max (v+(n:Int)) 0 else min v (n:Int))=(((if v<0 then(v+(n:Int)).toNat else min v.toNat n):Nat):Int)
 by_cases a:v<0
 ·simp only[if_pos a];omega
 ·simp only[if_neg a];omega
theorem Pi(lo hi:Option Int)(n:Nat):Builtin.Slice.sliceAdjust lo hi 1 (n:Int)=(((sIx n 0 lo:Nat):Int),((sIx n n hi:Nat):Int)):=by
 have a:¬ ((1:Int)<0):=⋯
 unfold Builtin.Slice.sliceAdjust;simp only[a,if_false];refine Prod.ext ?_ ?_
 ·cases lo with
  |none=>rfl
  |some v=>exact Gw v n 0
 ·cases hi with
  |none=>rfl
  |some v=>exact Gw v n n
theorem Ph(i j:Nat):Builtin.Slice.slicePlaces (i:Int) (j:Int) 1=j-i:=by
 unfold Builtin.Slice.slicePlaces;have a:(1:Int) > 0:=⋯
 simp only[a,if_true,Int.ediv_one];split <;> omega
theorem Gv{v:Value}{o:Option Int}{Q:Option Int->Shared->Prop}(p:IsPart v o)(h:Q o s):wpAny (model prog w) A (Builtin.Slice.slicePartIndex v) Q E s:=by
 cases p with
 |none=>exact slicePart_none h
 |int i t=>exact slicePart_int h
theorem Pg{e:Addr}{d b:Value}{lo hi:Option Int}{n:Nat}{Q:Int×Int×Nat->Shared->Prop}(f:s.heap.IsSliceOf e d b .none)(pl:IsPart d lo)(g:IsPart b hi)
  (h:Q (((sIx n 0 lo:Nat):Int),1,sIx n n hi-sIx n 0 lo) s):wpAny (model prog w) A (Builtin.Slice.sliceApplied (.ref e) (pure (n:Int))) Q E s:=by
 obtain⟨i,a,j,c⟩:=id f;unfold Builtin.Slice.sliceApplied Builtin.Slice.sliceFields;refine zA (zA (xL a c (x:=d) rfl (zA (xL a c (x:=b) rfl (zA (xL a c (x:=.none) rfl (zB ?_)))))));refine zA (slicePart_none ?_);show wpAny _ _ (if((1:Int) == 0)=true then _ else _) _ _ s;rw[zD ∅];refine zA (Gv pl (zA (Gv g (zA (zB ?_)))));show wpAny _ _ (match Builtin.Slice.sliceAdjust lo hi 1 (n:Int) with|(lo,hi)=>pure (lo,(1:Int),Builtin.Slice.slicePlaces lo hi 1)) _ _ s;rw[Pi lo hi n];show wpAny _ _ (pure (((sIx n 0 lo:Nat):Int),(1:Int),Builtin.Slice.slicePlaces ((sIx n 0 lo:Nat):Int) ((sIx n n hi:Nat):Int) 1)) _ _ s;rw[Ph];exact zB h
theorem Pf(xs:Array Value)(i k:Nat):((List.range k).filterMap λ(m:Nat)=>xs[((i:Int)+(m:Int)*1).toNat]?).toArray=((xs.toList.drop i).take k).toArray:=by
 have e:(λ(m:Nat)=>xs[((i:Int)+(m:Int)*1).toNat]?)=λm=>xs[i+m]?:=by
  funext m
  have:((i:Int)+(m:Int)*1).toNat=i+m:=⋯
  rw[this]
 rw[e];have:=pick_run xs i k;rw[List.filterMap_map]at this;have a:((λx=>xs[x]?)∘ λx=>i+x)=λm=>xs[i+m]?:=rfl;rw[a]at this;rw[this]
theorem getItem_tuple_cut{t c:Addr}{items:Array Value}{f e:Value}{lo hi:Option Int}{Q:VP}(b:IsTup s.heap t items)(d:s.heap.IsSliceOf c f e .none)(pl:IsPart f lo)(k:IsPart e hi)
  (g:¬ (sIx items.size 0 lo=0/\sIx items.size items.size hi=items.size))
  (h:Q (.ref s.heap.objs.size) {s with heap:=s.heap.push {cls:=.type "tuple",data:=.seq ((items.toList.drop (sIx items.size 0 lo)).take (sIx items.size items.size hi-sIx items.size 0 lo)).toArray}})
  (hsz:items.size<=sizeLine):wpAny (model prog w) A (getItem (.ref t) (.ref c)) Q E s:=by
 have a:sizeOk (.seq ((items.toList.drop (sIx items.size 0 lo)).take (sIx items.size items.size hi-sIx items.size 0 lo)).toArray):=by
  show((items.toList.drop (sIx items.size 0 lo)).take (sIx items.size items.size hi-sIx items.size 0 lo)).toArray.size<=sizeLine;rw[yB,xA,tF,zP];omega
 have u:sIx items.size items.size hi<=items.size:=Pj _ _ (zG _) hi;obtain⟨i,j,n,r⟩:=id d;have m:s.TypeIs (.ref c) "slice" := ⟨i,j,n⟩;unfold getItem
 try with_reducible refine yL ?_
 first|refine zA (zB ?_)|skip
 refine zA (wpAny_sequenceKey b.typeIs ∅ ?_);refine zA (wD (name:=Str.ofString "__getitem__") b.typeIs PyProof.Rows.slot_tuple_getitem
  (xX PyProof.Rows.slot_tuple_getitem b.typeIs entry_tuple_getitem ?_ (args_tuple_getitem _ _)))
 show wpAny _ _ (Builtin.Tuple.tupleItemsOf (.ref t) >>= _) _ _ s;refine zA (tupleItemsOf_ b ?_);refine zA (uW m ?_);rw[zE ∅];refine zA (Pg d pl k ?_);have l:¬ ((((sIx items.size 0 lo:Nat):Int) == 0 && (1:Int) == 1 && (sIx items.size items.size hi-sIx items.size 0 lo) == items.size)=true):=by
  intro q;rw[zQ,zQ]at q;have o:((sIx items.size 0 lo:Nat):Int)=0:=yQ q.1.1;have p:sIx items.size items.size hi-sIx items.size 0 lo=items.size:=yQ q.2;exact g ⟨⋯,⋯⟩
 show wpAny _ _ (if(((sIx items.size 0 lo:Nat):Int) == 0 && (1:Int) == 1 && (sIx items.size items.size hi-sIx items.size 0 lo) == items.size)=true then _ else _) _ _ s;rw[zD l,Pf]
 first
  |exact zA (m:=Builtin.Tuple.tupleExact _) (xB (zB ⟨_,rfl,zB h⟩) a)
  |exact zA (m:=Builtin.Tuple.tupleExact _) (xB (zA (zB (zB ⟨_,rfl,zB h⟩))) a)
  |exact zA (zA (m:=Builtin.Tuple.tupleExact _) (xB (zB (zB ⟨_,rfl,zB h⟩)) a))
  |exact zA (zA (m:=Builtin.Tuple.tupleExact _) (xB (zB ⟨_,rfl,zB h⟩) a))
end
end HT
namespace L2
open PySem PySem.Spec PyProof.Rows
open PySem.W (Frag)
abbrev TO:=St->Hp->(Option Int->Hp->Prop)->Prop
def PO(X:Cx)(e:Option Expr)(t:TO):Prop:=
 ∀(pins:PN)(s:Shared)(σ:St)(H:Hp)(Q:Option Int->Hp->Prop),Inv X pins σ H s->t σ H Q ->
  wpAny (model X.prog X.w) X.A (evalPart e X.env) (λu s'=>∃o H',Inv X pins σ H' s'/\IsPart u o/\Q o H') X.xe s
def Aj:TO:=λ_ H Q=>Q none H
def Ai(t:TE):TO:=λσ H Q=>t σ H λx H1=>∃i,x=.int i/\Q (some i) H1
section
variable {X:Cx} {e:Expr} {te:TE} {lo hi:Option Expr} {tl th:TO} {pos p2:Pos}
theorem Ah:PO X none Aj:=by
 intro a s b H Q I h;rw[evalPart_none];exact zB ⟨none,H,I,.none,h⟩
theorem Ag(h:PE X e te):PO X (some e) (Ai te):=by
 intro g s j H Q I b;rw[evalPart_some];refine thn (h g s j H _ I b) λu k⟨x,c,d,f,a⟩=>?_;obtain⟨i,rfl,q⟩:=a;obtain⟨t,rfl⟩:=f;exact⟨some i,c,d,.int i t,q⟩
def SlR(X:Cx)(r:V->Option Int->Option Int->Hp->VK->Prop):Prop:=
 ∀(pins:PN)(s:Shared)(σ:St)(H:Hp)(x:V)(v vl vu:Value)(lo hi:Option Int)(sl:Addr)(Q:VK),Inv X pins σ H s->RelV x v->s.heap.IsSliceOf sl vl vu .none->IsPart vl lo->IsPart vu hi->r x lo hi H Q ->
  ∃T id,typeLookup (.type T) "__getitem__"=pure (some (.builtin id))/\s.TypeIs v T/\wpAny (model X.prog X.w) X.A (getItem v (.ref sl)) (EP X pins σ Q) X.xe s
def tSl(r:V->Option Int->Option Int->Hp->VK->Prop)(te:TE)(tl th:TO):TE:=λσ H Q=>te σ H λx H1=>tl σ H1 λl H2=>th σ H2 λu H3=>r x l u H3 Q
theorem Af{r:V->Option Int->Option Int->Hp->VK->Prop}(hr:SlR X r)(K:PE X e te)(hl:PO X lo tl)(z:PO X hi th):PE X (.Subscript e (.Slice lo hi none p2) pos) (tSl r te tl th):=by
 intro c s d H Q I h;refine Subscript_ (thn (K c s d H _ I h) λv J⟨x,m,w,M,k⟩=>?_);refine wpAny_Slice (thn (hl c J d m _ w k) λg n⟨l,D,y,pl,o⟩=>thn (z c n d D _ y o) λf a⟨u,i,L,p,C⟩=>?_);rw[evalPart_none];refine zB ?_;have G:Inv X c d i {a with heap:=a.heap.push {cls:=.type "slice",data:=.fields #[g,f,.none]}}:=L.kept (t':=a.toks) λb N q=>zC _ q;obtain⟨T,id,j,F,t⟩:=hr c {a with heap:=a.heap.push {cls:=.type "slice",data:=.fields #[g,f,.none]}} d i x v g f l u a.heap.objs.size Q G M (Heap.IsSliceOf.new ..) pl p C;show wpAny (model X.prog X.w) X.A (subscriptTail e (.Slice lo hi none p2) v (.ref a.heap.objs.size)) (EP X c d Q) X.xe {a with heap:=a.heap.push {cls:=.type "slice",data:=.fields #[g,f,.none]}};exact tail_any (ops:=[.ref a.heap.objs.size,v]) F j t (by with_unfolding_all rfl)
def cutV(xs:List V)(lo hi:Option Int):List V:=(xs.drop (HT.sIx xs.length 0 lo)).take (HT.sIx xs.length xs.length hi-HT.sIx xs.length 0 lo)
theorem Gu(xs:List V)(lo hi:Option Int):(cutV xs lo hi).length<=xs.length:=by
 unfold cutV;rw[xA,tF];omega
def rSlT(K:Frag):V->Option Int->Option Int->Hp->VK->Prop:=λx lo hi H Q=>∃a xs,x=.ref a/\SqT K H a xs /\
 ¬ (HT.sIx xs.length 0 lo=0/\HT.sIx xs.length xs.length hi=xs.length)/\∀p,H p=none->Q (.ref p) (upd H p (.tup (cutV xs lo hi)))
theorem Pe:SlR X (rSlT X.K):=by
 intro t s u H x v p n lo hi m Q I l i pl k h;obtain⟨a,xs,rfl,j,g,q⟩:=h;cases l;obtain⟨its,r,f,d⟩:=I.tuple j;have c:its.toArray.size=xs.length:=by rw[yB];exact r.length.symm
 refine⟨"tuple",_,PyProof.Rows.slot_tuple_getitem.lookup,f.typeIs,?_⟩;refine HT.getItem_tuple_cut f i pl k (by rw[c];exact g) ?_ (by rw[c];exact d);rw[c];refine⟨.ref s.heap.objs.size,_,I.laid (t':=s.toks) (o:=.tup (cutV xs lo hi)) (λb o q=>zC _ q) (zG _) ?_,rfl,q _ (I.hok.fresh (zG _))⟩;exact⟨yH (Gu xs lo hi) d,_,(r.drop (HT.sIx xs.length 0 lo)).take (HT.sIx xs.length xs.length hi-HT.sIx xs.length 0 lo),IsTup.new _ _⟩
end
def ixN(n:Nat)(i:Int):Option Nat:=if 0<=i then(if i<n then some i.toNat else none) else if -(n:Int)<=i then some (i+n).toNat else none
def atI{α:Type}(xs:List α)(i:Int):Option α:=(ixN xs.length i).bind λj=>xs[j]?
theorem Pd{n:Nat}{i:Int}{j:Nat}(h:ixN n i=some j):seqIndex? i n=some j/\j<n/\-(n:Int)<=i/\i<n:=by
 unfold ixN at h
 by_cases b:0<=i
 ·rw[zE b]at h
  by_cases a:i<n
  ·rw[zE a]at h;have e:i.toNat=j:=yA h;exact⟨by rw[seqIndex_of b a,e],⋯,⋯,a⟩
  ·rw[zD a]at h;cases h
 ·rw[zD b]at h
  by_cases a:-(n:Int)<=i
  ·rw[zE a]at h;have e:(i+n).toNat=j:=yA h;exact⟨by rw[seqIndex_neg ⋯ a,e],⋯,a,⋯⟩
  ·rw[zD a]at h;cases h
theorem Ae{a:Type}{xs:List a}{i:Int}{v:a}(h:atI xs i=some v):∃j,seqIndex? i xs.length=some j/\xs[j]?=some v/\j<xs.length/\-(xs.length:Int)<=i/\i<xs.length:=by
 unfold atI at h;cases e:ixN xs.length i with
 |none=>rw[e]at h;cases h
 |some j =>
  rw[e]at h;obtain⟨d,f,b,c⟩:=Pd e;exact⟨j,d,h,f,b,c⟩
theorem Pc{a:Type}{xs:List a}{j:Nat}{v:a}(h:xs[j]?=some v):atI xs (j:Int)=some v:=by
 have b:j<xs.length:=(nB.mp h).1;have e:ixN xs.length (j:Int)=some j:=by
  unfold ixN;rw[zE ⋯,zE ⋯];simp
 unfold atI;rw[e];exact h
def Pb(b:Expr):Prop:=∀o i,subscripted b false o i=operate [o,i] (getItem o i)
def IxR(X:Cx)(r:R2):Prop:=
 ∀(value slice:Expr)(pins:PN)(s:Shared)(σ:St)(H:Hp)(x y:V)(v u:Value)(Q:VK),Inv X pins σ H s->RelV x v->RelV y u->r x y H Q ->
  subscripted slice false v u=operate [v,u] (getItem v u)->wpAny (model X.prog X.w) X.A (subscriptTail value slice v u) (EP X pins σ Q) X.xe s
def MtR(X:Cx)(id:String)(r:V->List V->Hp->VK->Prop):Prop:=
 ∀(pins:PN)(s:Shared)(σ:St)(H:Hp)(x:V)(xs:List V)(v:Value)(us:LW)(Q:VK),Inv X pins σ H s->RelV x v->Vals xs us->r x xs H Q ->
  wpAny (model X.prog X.w) X.A (call (.builtin id) (v:: us)) (EP X pins σ Q) X.xe s
section
variable {X:Cx} {a b:Expr} {ta tb:TE} {pos:Pos}
theorem lC{r:R2}(hr:IxR X r)(g:PE X a ta)(f:PE X b tb)(c:Pb b):PE X (.Subscript a b pos) (tOp r ta tb):=by
 intro k s m H Q I h;exact Subscript_ (binT g f I h λv u d x y l e i j q=>hr a b k d m l x y v u Q e i j q (c _ _))
def rIxL(K:Frag):R2:=λx y H Q=>∃p xs i v,x=.ref p/\y=.int i/\SqL K H p xs/\atI xs i=some v/\Q v H
def rIxT(K:Frag):R2:=λx y H Q=>∃p xs i v,x=.ref p/\y=.int i/\SqT K H p xs/\atI xs i=some v/\Q v H
def rIxS:R2:=λx y H Q=>∃z i c,x=.str z/\y=.int i/\z.length<=sizeLine/\atI z.cps.toList i=some c/\Q (.str ⟨#[c]⟩) H
theorem Pa:IxR X (rIxL X.K):=by
 intro R M e s m H x y v u Q I C D h g;obtain⟨p,xs,i,z,rfl,rfl,G,K,q⟩:=h;cases C;obtain⟨t,rfl⟩:=D;obtain⟨its,r,pl,O⟩:=I.list G;obtain⟨j,c,F,N,n,J⟩:=Ae K;obtain⟨w,k,L⟩:=r.get F;have hl:=r.length;have P:=dA;have l:EP X e m Q w s:=⟨z,H,I,L,q⟩
 by_cases f:0<=i
 ·have d:i.toNat=j:=by
   rw[seqIndex_of f J]at c;exact yA c
  exact item_listR pl.isList f ⋯ (by rw[d];simpa using k) l g
 ·have d:(i+(its.toArray.size:Int)).toNat=j:=by
   rw[seqIndex_neg ⋯ n]at c;rw[yB,←hl];exact yA c
  exact sR (x:=w) pl.isList.typeIs slot_list_getitem.lookup
   (wpAny_getItem_list_neg (Q:=λr o=>r=w/\EP X e m Q r o) pl.isList ⋯ (by rw[yB] <;> omega) ⋯ (by rw[d];simpa using k) ⟨rfl,l⟩) g
theorem Qz:IxR X (rIxT X.K):=by
 intro O J c s d H x y v u Q I m n h e;obtain⟨p,xs,i,z,rfl,rfl,C,D,q⟩:=h;cases m;obtain⟨t,rfl⟩:=n;obtain⟨its,r,pl,M⟩:=I.tuple C;obtain⟨j,k,o,K,G,L⟩:=Ae D;obtain⟨w,f,F⟩:=r.get o;have hl:=r.length;have N:=dA;have l:EP X c d Q w s:=⟨z,H,I,F,q⟩;exact sR (x:=w) pl.typeIs slot_tuple_getitem.lookup
  (getItem_tuple (j:=j) (Q:=λr g=>r=w/\EP X c d Q r g) pl ⋯ ⋯ (by rw[yB,←hl];exact k) (by simpa using f) ⟨rfl,l⟩) e
theorem fR:IxR X rIxS:=by
 intro F r D s G H x y v u Q I m n h g;obtain⟨z,i,c,rfl,rfl,w,k,q⟩:=h;obtain⟨t,rfl⟩:=m;obtain⟨t',rfl⟩:=n;obtain⟨j,d,o,p,e,f⟩:=Ae k;have hl:z.cps.toList.length=z.length:=by simp[Str.length]
 rw[hl]at d e f;have C:=dA;exact tail_any (oF s z t) slot_str_getitem.lookup (getItem_str (c:=c) (by
  have e1:decide (i < -(2^63:Int))=false:=zI ⋯;have l:decide (i≥2^63)=false:=zI ⋯;rw[e1,l,Bool.or_false]) (by rw[d];simpa using o) ⟨.str ⟨#[c]⟩,H,I.tok _,⟨_,rfl⟩,q⟩) g
theorem Qy(lo hi:Option Int)(n:Nat):(sliceBounds lo hi none n).1=((HT.sIx n 0 lo:Nat):Int)/\(sliceBounds lo hi none n).2.1=((HT.sIx n n hi:Nat):Int)/\(sliceBounds lo hi none n).2.2=1:=by
 refine⟨?_,?_,rfl⟩
 ·cases lo with
  |none=>simp[sliceBounds,HT.sIx]
  |some i =>
   simp only[sliceBounds,HT.sIx,Option.getD_none,show(1:Int) > 0 by decide,if_true]
   by_cases h:i<0
   ·simp only[h,if_true] <;> omega
   ·simp only[h,if_false] <;> omega
 ·cases hi with
  |none=>simp[sliceBounds,HT.sIx]
  |some i =>
   simp only[sliceBounds,HT.sIx,Option.getD_none,show(1:Int) > 0 by decide,if_true]
   by_cases h:i<0
   ·simp only[h,if_true] <;> omega
   ·simp only[h,if_false] <;> omega
theorem Qx(its:LW)(lo hi:Option Int):slicePick its.toArray lo hi none=((its.drop (HT.sIx its.length 0 lo)).take (HT.sIx its.length its.length hi-HT.sIx its.length 0 lo)).toArray:=by
 obtain⟨d,e,c⟩:=Qy lo hi its.toArray.size;unfold slicePick;rw[d,e,c];simp only[sliceRange_one,pick_run,List.size_toArray] <;> rfl
def rSlL(K:Frag):V->Option Int->Option Int->Hp->VK->Prop:=λx lo hi H Q=>∃a xs,x=.ref a/\SqL K H a xs/\∀p,H p=none->Q (.ref p) (upd H p (.lst (cutV xs lo hi)))
theorem Qw:SlR X (rSlL X.K):=by
 intro o s p H x v n l lo hi k Q I i d pl g h;obtain⟨a,xs,rfl,e,q⟩:=h;cases i;obtain⟨its,r,c,j⟩:=I.list e;have f:=r.length;refine⟨"list",_,slot_list_getitem.lookup,c.isList.typeIs,?_⟩;refine wpAny_getItem_list_slice c.isList d pl g .none (by simp) ?_ (by rw[List.size_toArray] <;> omega);rw[Qx,←f];refine⟨.ref s.heap.objs.size,_,I.laid (t':=s.toks) (o:=.lst (cutV xs lo hi)) (λb m q=>zC _ q) (zG _) ?_,rfl,q _ (I.hok.fresh (zG _))⟩;exact⟨yH (Gu xs lo hi) j,_,0,(r.drop (HT.sIx xs.length 0 lo)).take (HT.sIx xs.length xs.length hi-HT.sIx xs.length 0 lo),zS _ rfl⟩
def gC:V->Bool
 |.non=>true
 |.bl _=>true
 |.int _=>true
 |.str _=>true
 |_=>false
def eqV:V->V->Bool
 |.non,.non=>true
 |.bl a,.bl b=>a == b
 |.bl a,.int b=>(if a then 1 else 0) == b
 |.int a,.bl b=>a == (if b then 1 else 0)
 |.int a,.int b=>a == b
 |.str a,.str b=>a == b
 |_,_=>false
theorem Qv{A:Around}{s:Shared}{y x:V}{u v:Value}(d:RelV y u)(c:RelV x v)(f:gC y=true)(e:gC x=true):SeqAt.EqAt A s u v (eqV y x):=by
 cases y with
 |non =>
  cases d;cases x with
  |non=>cases c;exact SeqAt.EqAt.same _
  |bl b=>cases c;exact SeqAt.EqAt.none_bool b
  |int b=>obtain⟨t,rfl⟩:=c;exact SeqAt.EqAt.none_int b t
  |str b=>obtain⟨t,rfl⟩:=c;exact SeqAt.EqAt.none_str b t
  |_=>exact absurd (show false=true from e) zR
 |bl a =>
  cases d;cases x with
  |non=>cases c;exact SeqAt.EqAt.bool_none a
  |bl b=>cases c;exact SeqAt.EqAt.bool_bool a b
  |int b=>obtain⟨t,rfl⟩:=c;exact SeqAt.EqAt.bool_int a b t
  |str b=>obtain⟨t,rfl⟩:=c;exact SeqAt.EqAt.bool_str a b t
  |_=>exact absurd (show false=true from e) zR
 |int a =>
  obtain⟨t',rfl⟩:=d;cases x with
  |non=>cases c;exact SeqAt.EqAt.int_none a t'
  |bl b=>cases c;exact SeqAt.EqAt.int_bool a t' b
  |int b=>obtain⟨t,rfl⟩:=c;exact SeqAt.EqAt.int_int a t' b t
  |str b=>obtain⟨t,rfl⟩:=c;exact SeqAt.EqAt.int_str a t' b t
  |_=>exact absurd (show false=true from e) zR
 |str a =>
  obtain⟨t',rfl⟩:=d;cases x with
  |non=>cases c;exact SeqAt.EqAt.str_none a t'
  |bl b=>cases c;exact SeqAt.EqAt.str_bool a t' b
  |int b=>obtain⟨t,rfl⟩:=c;exact SeqAt.EqAt.str_int a t' b t
  |str b=>obtain⟨t,rfl⟩:=c;exact SeqAt.EqAt.str_str a t' b t
  |_=>exact absurd (show false=true from e) zR
 |_=>exact absurd (show false=true from f) zR
def eqU(x:V)(u:Value):Bool:=match u with
 |.none=>eqV .non x
 |.bool b=>eqV (.bl b) x
 |.int i _=>eqV (.int i) x
 |.str z _=>eqV (.str z) x
 |_=>false
theorem Gs{x y:V}{u:Value}(r:RelV y u)(f:gC y=true):eqU x u=eqV y x:=by
 cases y with
 |non=>cases r;rfl
 |bl b=>cases r;rfl
 |int i=>obtain⟨t,rfl⟩:=r;rfl
 |str z=>obtain⟨t,rfl⟩:=r;rfl
 |_=>exact absurd (show false=true from f) zR
theorem Ad{x:V}:∀{xs:List V}{us:LW},Vals xs us->xs.all gC=true->us.any (eqU x)=xs.any λy=>eqV y x
 |_,_,.nil,_=>rfl
 |y:: xs,u:: us,.cons r t,f=>by
  rw[xF,zQ]at f;rw[qU,qU,Gs r f.1,Ad t f.2]
theorem Ac{A:Around}{s:Shared}{x:V}{v:Value}(d:RelV x v)(e:gC x=true):∀{xs:List V}{us:LW},Vals xs us->xs.all gC=true->∀u∈us,SeqAt.EqAt A s u v (eqU x u)
 |_,_,.nil,_=>λu c=>by cases c
 |y:: xs,u:: us,.cons r t,f=>λg c=>by
  rw[xF,zQ]at f;rcases xC.mp c with rfl|c
  ·rw[Gs r f.1];exact Qv r d f.1 e
  ·exact Ac d e t f.2 g c
def inV(x:V)(xs:List V):Bool:=xs.any λy=>eqV y x
def rIn(K:Frag)(neg:Bool):R2:=λx y H Q=>∃p xs,y=.ref p/\(SqL K H p xs\/SqT K H p xs)/\gC x=true/\xs.all gC=true/\Q (.bl (if neg then !inV x xs else inV x xs)) H
theorem Ab:OpR X (compareOp .NotIn) (rIn X.K true):=by
 intro j s k H x y v u Q I f i h;obtain⟨p,xs,rfl,c,e,fs,q⟩:=h;cases i;rcases c with c|c
 ·obtain⟨its,r,pl,g⟩:=I.list c;refine SeqAt.notIn_listAt (eqU x) pl.isList (λw d=>Ac f e r fs w (by simpa using d)) ⟨.bl _,H,I,rfl,?_⟩;rw[show its.toArray.any (eqU x)=its.any (eqU x) by simp,Ad r fs];exact q
 ·obtain⟨its,r,pl,g⟩:=I.tuple c;refine SeqAt.notIn_tupleAt (eqU x) pl (λw d=>Ac f e r fs w (by simpa using d)) ⟨.bl _,H,I,rfl,?_⟩;rw[show its.toArray.any (eqU x)=its.any (eqU x) by simp,Ad r fs];exact q
theorem Qu:lZ X (.builtin "len") (λxs H Q=>∃p ys,xs=[.ref p]/\(SqL X.K H p ys\/SqT X.K H p ys)/\Q (.int ys.length) H):=by
 intro j s k H xs us Q I r h;obtain⟨p,ys,rfl,c,q⟩:=h;obtain⟨u,rfl,f⟩:=jZ r;cases f;have i:=dA;rcases c with c|c
 ·obtain⟨its,e,pl,g⟩:=I.list c;have d:=e.length;exact Calls.call_len_list pl.isList (by simp only[List.size_toArray] <;> omega) ⟨.int ys.length,H,I.tok _,⟨s.toks+1,by rw[yB,d]⟩,q⟩
 ·obtain⟨its,e,pl,g⟩:=I.tuple c;have d:=e.length;exact len_tuple pl (by simp only[List.size_toArray] <;> omega) ⟨.int ys.length,H,I.tok _,⟨s.toks+1,by rw[yB,d]⟩,q⟩
theorem Aa:lZ X (.builtin "len") (λxs H Q=>∃z,xs=[.str z]/\z.length<=sizeLine/\Q (.int z.length) H):=by
 intro e s f H xs us Q I r h;obtain⟨z,rfl,c,q⟩:=h;obtain⟨u,rfl,t,rfl⟩:=jZ r;have d:=dA;exact len_str ⋯ ⟨.int z.length,H,I.tok _,⟨_,rfl⟩,q⟩
theorem Qt:lZ X (.type "list") (λxs H Q=>∃p ys,xs=[.ref p]/\(SqL X.K H p ys\/SqT X.K H p ys)/\∀l,H l=none->Q (.ref l) (upd H l (.lst ys))):=by
 intro y s z H xs us Q I r h;obtain⟨p,ys,rfl,f,q⟩:=h;obtain⟨u,rfl,x⟩:=jZ r;cases x;have t:∀(its:LW),Vals ys its->ys.length<=sizeLine->∀(h':Heap)(c:Nat),(∀b v,s.heap.get? b=some v->h'.get? b=some v) ->
   h'.get? s.heap.objs.size=some {cls:=.type "list",dict:=none,data:=.seq its.toArray c,slots:=#[]}->EP X y z Q (.ref s.heap.objs.size) {s with heap:=h'}:=λits d i h' c g e =>
  ⟨.ref s.heap.objs.size,_,I.laid (t':=s.toks) g (zG _) (show mI X.prog X.w _ h' _ (.lst ys) from⟨i,its,c,d,e⟩),rfl,q _ (I.hok.fresh (zG _))⟩
 rcases f with f|f
 ·obtain⟨its,d,pl,i⟩:=I.list f;have w:=d.length;obtain⟨o,m,j,n,k⟩:=pl.isList;exact call_list_seq p (.inl rfl) m j k (λh' c g e=>t its d i h' c g e) (by simp only[List.size_toArray] <;> omega)
 ·obtain⟨its,d,pl,i⟩:=I.tuple f;have w:=d.length;obtain⟨o,m,j,n,k⟩:=pl;exact call_list_seq p (.inr rfl) m j k (λh' c g e=>t its d i h' c g e) (by simp only[List.size_toArray] <;> omega)
theorem Qs:lZ X (.type "tuple") (λxs H Q=>∃p ys,xs=[.ref p]/\((SqL X.K H p ys/\∀l,H l=none->Q (.ref l) (upd H l (.tup ys)))\/(SqT X.K H p ys/\Q (.ref p) H))):=by
 intro g s j H xs us Q I r h;obtain⟨p,ys,rfl,h⟩:=h;obtain⟨u,rfl,n⟩:=jZ r;cases n;rcases h with⟨c,q⟩|⟨c,q⟩
 ·obtain⟨its,d,pl,f⟩:=I.list c;have t:=d.length;refine call_tuple_list pl.isList (λh' k=>?_) (by simp only[List.size_toArray] <;> omega);have i:Inv X g j H {s with heap:=h'}:=I.kept (t':=s.toks) k;have m:Inv X g j (upd H h'.objs.size (.tup ys)) {s with heap:=h'.push {cls:=.type "tuple",data:=.seq its.toArray}}:=
   i.laid (t':=s.toks) (λb o e=>zC _ e) (zG _) (show mI X.prog X.w _ _ _ (.tup ys) from⟨f,its,d,IsTup.new _ _⟩)
  exact⟨.ref h'.objs.size,_,m,rfl,q _ (i.hok.fresh (zG _))⟩
 ·obtain⟨its,d,pl,f⟩:=I.tuple c;exact call_tuple_same pl ⟨.ref p,H,I,rfl,q⟩
def tyV(K:Frag)(T:String)(x:V)(H:Hp):Prop:=match x with
 |.str _=>T="str"
 |.int _=>T="int"
 | .ref p=>(T="list" /\ ∃xs,SqL K H p xs)\/(T="tuple" /\ ∃o,K.lookup p=some o/\o.cls=.type "tuple" /\ o.dict=none) \/
   (T="dict" /\ ((∃kvs,H p=some (.dK kvs))\/∃kvs,H p=some (.dT kvs)))\/(T="set" /\ ∃S n,H p=some (.set S n))
 |_=>False
theorem Gr{q:PN}{u:St}{H:Hp}{s:Shared}{T:String}{x:V}{v:Value}(I:Inv X q u H s)(r:RelV x v)(ty:tyV X.K T x H):
  s.TypeIs v T/\∀a,v=.ref a->∃k,s.heap.get? a=some k/\k.dict=none:=by
 cases x with
 |str z =>
  obtain⟨t,rfl⟩:=r;cases(show T="str" from ty);exact⟨oF s z t,λ_ e=>nomatch e⟩
 |int i =>
  obtain⟨t,rfl⟩:=r;cases(show T="int" from ty);exact⟨typeIs_int s i t,λ_ e=>nomatch e⟩
 | ref p =>
  cases r;rcases ty with⟨rfl,xs,l⟩|⟨rfl,o,d,m,j⟩|⟨rfl,d⟩|⟨rfl,S,n,d⟩
  ·obtain⟨its,_,pl,_⟩:=I.list l;refine⟨pl.isList.typeIs,λa e=>?_⟩;cases e;obtain⟨o,n,e,c,j,_⟩:=pl;exact⟨o,e,j⟩
  ·refine⟨⟨o,I.kIn p o d,m⟩,λa e=>?_⟩;cases e;exact⟨o,I.kIn _ o d,j⟩
  ·have z:∃o,s.heap.get? p=some o/\o.ExactDict:=by
    rcases d with⟨kvs,d⟩|⟨kvs,d⟩
    ·obtain⟨_,_,_,_,o,_,_,e,f,_⟩:=I.hok p _ d;exact⟨o,e,f⟩
    ·obtain⟨_,_,_,_,o,_,_,e,f,_⟩:=I.hok p _ d;exact⟨o,e,f⟩
   obtain⟨o,e,f⟩:=z;refine⟨⟨o,e,f.1⟩,λa g=>?_⟩;cases g;exact⟨o,e,f.2.1⟩
  ·obtain⟨o,_,_,_,e,f,_⟩:=I.hok p _ d;refine⟨⟨o,e,f.1⟩,λa g=>?_⟩;cases g;exact⟨o,e,f.2.1⟩
 |_=>exact False.elim ty
def tBM0(K:Frag)(T:String)(r:V->List V->Hp->VK->Prop)(to:TE):TE:=λσ H Q=>to σ H λx H1=>tyV K T x H1/\r x [] H1 Q
def tBM(K:Frag)(T:String)(r:V->List V->Hp->VK->Prop)(to:TE)(t:TA):TE:=λσ H Q=>to σ H λx H1=>tyV K T x H1/\t σ H1 λxs H2=>r x xs H2 Q
variable {o e:Expr} {es:List Expr} {to:TE} {t:TA} {name:Str} {apos cpos:Pos} {T id:String} {r:V->List V->Hp->VK->Prop}
theorem Qr(k:PlainAttrs T)(l:Slot T name id)(n:typeOf (.builtin id)=pure (.type "method_descriptor"))(m:MtR X id r)(w:PE X o to)
  (u:attributeBase o name X.env (eval o X.env)=eval o X.env:=by rfl)(y:(apos.endLine == cpos.line)=true:=by rfl):PE X (.Call (.Attribute o name apos) [] [] cpos) (tBM0 X.K T r to):=by
 intro f s g H Q I h;refine wpAny_Call_method0_late u y (thn (w f s g H _ I h) λv j⟨x,p,c,d,ty,i⟩=>?_);obtain⟨q,z⟩:=Gr c d ty;exact⟨T,id,k,l,n,q,z,sU rfl (PySem.evalArgs_none (m f j g p x [] v [] Q c d .nil i))⟩
theorem jS(m:PlainAttrs T)(k:Slot T name id)(w:typeOf (.builtin id)=pure (.type "method_descriptor"))(u:MtR X id r)(N:PE X o to)(z:PA X (e:: es) t)
  (M:attributeBase o name X.env (eval o X.env)=eval o X.env:=by rfl)
  (O:((backTo cpos (starEach (e:: es) X.env)).all (λx=>!x.1) && (backToKw cpos (keywordEach [] X.env)).all (λx=>x.1.isSome)
   && decide ((e:: es).length+([]:List Keyword).length+(if([]:List Keyword).isEmpty then 0 else 1)<30))=true:=by rfl)
  (D:(apos.endLine == cpos.line)=true:=by rfl)(n:starEach (e:: es) X.env=(false,eval e X.env):: starEach es X.env:=by rfl)(p:(backTo cpos (starEach es X.env)).any (·.1)=false:=by rfl):
  PE X (.Call (.Attribute o name apos) (e:: es) [] cpos) (tBM X.K T r to t):=by
 intro c s d H Q I h;refine wpAny_Call_method_late M O D rfl (thn (N c s d H _ I h) λv L⟨x,l,f,i,ty,j⟩=>?_);obtain⟨C,J⟩:=Gr f i ty;refine⟨T,id,m,k,w,C,J,?_⟩;have g:=z cpos c L d l _ f j;rw[n]at g ⊢;refine sU (by show(false || (backTo cpos (starEach es X.env)).any (·.1))=false;rw[p] <;> rfl) (tD ?_);exact thn g λus q⟨vs,K,F,G,y⟩=>u c q d K x vs v us Q F i G y
end
def MtM(X:Cx)(id:String)(r:V->List V->Hp->VK->Prop):Prop:=
 ∀(pins:PN)(s:Shared)(σ:St)(H:Hp)(x:V)(xs:List V)(v:Value)(us:LW)(Q:VK),Inv X pins σ H s->RelV x v->Vals xs us->r x xs H Q ->
  wpAny (model X.prog X.w) X.A (call (.builtin id) (v:: us)) (EP X pins σ Q) X.xe s
theorem Vals.one{x:V}{us:LW}(h:Vals [x] us):∃u,us=[u]/\RelV x u:=by
 cases h with|cons r h=>cases h;exact⟨_,rfl,r⟩
theorem Vals.two{x y:V}{us:LW}(h:Vals [x,y] us):∃u v,us=[u,v]/\RelV x u/\RelV y v:=by
 cases h with|cons r h=>obtain⟨v,rfl,q⟩:=Vals.one h;exact⟨_,_,rfl,r,q⟩
theorem Vals.zero:∀{us:LW},Vals [] us->us=[]
 |_,.nil=>rfl
theorem Vals.dropLast{xs:List V}{us:LW}(h:Vals xs us):Vals xs.dropLast us.dropLast:=by
 induction h with
 |nil=>exact .nil
 |cons r t a =>
  cases t with
  |nil=>exact .nil
  |cons q t'=>exact .cons r a
theorem Vals.rep{xs:List V}{us:LW}(h:Vals xs us):∀k:Nat,Vals (List.replicate k xs).flatten (List.replicate k us).flatten
 |0=>.nil
 |k+1=>by
  rw[vE,vE,sG,sG];exact Vals.append h (Vals.rep h k)
theorem Qq{c:Type}(l:List c):l.eraseIdx (l.length-1)=l.dropLast:=by
 induction l with
 |nil=>rfl
 | cons a r d =>
  cases r with
  |nil=>rfl
  | cons b r =>
   have e:(a:: b:: r).length-1=((b:: r).length-1)+1:=by
    have f:(a:: b:: r).length=r.length+2:=rfl;have g:(b:: r).length=r.length+1:=rfl;omega
   rw[e,List.eraseIdx_cons_succ,d]
   all_goals rfl
theorem Gq(its:LW):∀(k:Nat)(acc:LW),
  List.foldl (λb c=>b++c) acc.toArray (List.replicate k its.toArray)=(acc++(List.replicate k its).flatten).toArray
 |0,acc=>by simp
 | k+1,acc=>by
  have e:acc.toArray++its.toArray=(acc++its).toArray:=by simp
  have a:(acc++its)++(List.replicate k its).flatten=acc++(List.replicate (k+1) its).flatten:=by
   rw[vE,sG,yO]
  rw[←a,←Gq its k (acc++its),←e,vE,wB]
section
variable {X:Cx} {pins:PN} {σ:St} {H:Hp} {s:Shared} {l b:Addr} {xs ys zs:List V}
theorem Inv.lset{its its':LW}{n:Nat}{f:Array Value->Array Value}{t':Nat}(I:Inv X pins σ H s)(i:H l=some (.lst xs))
  (e:s.heap.get? l=some {cls:=.type "list",data:=.seq its.toArray n})(c:f its.toArray=its'.toArray)(j:Vals ys its')(d:ys.length<=sizeLine):
  Inv X pins σ (upd H l (.lst ys)) {s with heap:=s.heap.update l (Obj.mapSeq f),toks:=t'}:=by
 have q:=PySem.IsL.update e f;rw[c]at q;refine I.write (x:=l) (e:=l) (by rw[i];exact trivial) (.inl rfl) (λk u a g=>(vM s.heap (Obj.mapSeq f) (yI a)).trans g) ⟨_,q⟩ ?_;exact⟨d,its',_,j,q⟩
theorem Inv.lnew{its:LW}{t':Nat}(I:Inv X pins σ H s)(c:Vals ys its)(a:ys.length<=sizeLine):
  Inv X pins σ (upd H s.heap.objs.size (.lst ys)) {s with heap:=s.heap.push {cls:=.type "list",data:=.seq its.toArray},toks:=t'}:=
 I.laid (λ_ _ q=>zC _ q) (zG _) ⟨a,its,0,c,zS _ rfl⟩
theorem Inv.fresh(I:Inv X pins σ H s):H s.heap.objs.size=none:=I.hok.fresh (zG _)
theorem Inv.lstM(I:Inv X pins σ H s)(a:H l=some (.lst xs)):xs.length<=sizeLine/\∃(its:LW)(n:Nat),Vals xs its/\xs.length=its.length/\s.heap.get? l=some {cls:=.type "list",data:=.seq its.toArray n}:=by
 obtain⟨z,its,n,r,e⟩:=I.hok l _ a;exact⟨z,its,n,r,r.length,e⟩
theorem Qp{n:Nat}(h:n<=sizeLine):Builtin.List.listTooLong n=false:=by
 unfold Builtin.List.listTooLong;exact zI ⋯
end
section
variable {X:Cx}
def Qo:V->List V->Hp->VK->Prop:=λx vs H Q=>∃l xs y,x=.ref l/\vs=[y]/\H l=some (.lst xs)/\xs.length<sizeLine/\Q .non (upd H l (.lst (xs++[y])))
theorem iA:MtM X "list.append" Qo:=by
 intro i s f H x vs v us Q I c b h;obtain⟨l,xs,y,rfl,rfl,a,g,q⟩:=h;cases c;obtain⟨u,rfl,d⟩:=b.one;obtain⟨z,its,n,r,hl,e⟩:=I.lstM a;refine rY F.slot_list_append ⟨_,e,rfl⟩ F.entry_list_append (F.args_list_append_2 _ _) (PySem.list_append l its.toArray n u (by rw[yB];omega)) ⟨e,?_⟩;refine⟨.non,_,I.lset (its':=its++[u]) a e (by simp) (r.append (.cons d .nil)) ?_,rfl,q⟩;rw[yF,List.length_singleton];omega
def rPop:V->List V->Hp->VK->Prop:=λx vs H Q=>∃l xs y,x=.ref l/\vs=[]/\H l=some (.lst xs)/\xs[xs.length-1]?=some y/\Q y (upd H l (.lst xs.dropLast))
theorem Qn:MtM X "list.pop" rPop:=by
 intro m s k H x vs v us Q I g b h;obtain⟨l,xs,y,rfl,rfl,a,d,q⟩:=h;cases g;have c:=b.zero;subst c;obtain⟨z,its,n,r,hl,e⟩:=I.lstM a;obtain⟨u,i,j⟩:=r.get d;have f:its.toArray[its.toArray.size-1]?=some u:=by
  show its.toArray[its.length-1]?=some u;rw[←yS,←hl];exact i
 refine rY F.slot_list_pop ⟨_,e,rfl⟩ F.entry_list_pop (F.args_list_pop_1 _) (MeetsSeq.list_pop_last l its.toArray n u f (by rw[yB];omega)) ⟨e,?_⟩;refine⟨y,_,I.lset (its':=its.dropLast) a e ?_ r.dropLast ?_,j,q⟩
 ·show its.toArray.eraseIdxIfInBounds (its.toArray.size-1)=its.dropLast.toArray;rw[yB,List.eraseIdxIfInBounds_toArray,Qq]
 ·rw[List.length_dropLast];omega
def rCat:R2:=λx y H Q=>∃l b xs zs,x=.ref l/\y=.ref b/\H l=some (.lst xs)/\H b=some (.lst zs)/\xs.length+zs.length<=sizeLine/\∀p,H p=none->Q (.ref p) (upd H p (.lst (xs++zs)))
theorem Gp:OpR X (binaryOp .Add) rCat:=by
 intro w s C H x y v u Q I g d h;obtain⟨l,b,xs,zs,rfl,rfl,k,i,p,q⟩:=h;cases g;cases d;obtain⟨z,its,n,r,hl,e⟩:=I.lstM k;obtain⟨o,a,t,j,m,f⟩:=I.lstM i;refine PySem.P.add_list e f ?_ (by rw[yB,yB];omega);have c:its.toArray++a.toArray=(its++a).toArray:=by simp
 rw[c];exact⟨.ref _,_,I.lnew (t':=s.toks) (r.append j) (by rw[yF];omega),rfl,q _ I.fresh⟩
def rRep:R2:=λx y H Q=>∃l k xs,x=.ref l/\y=.int k/\H l=some (.lst xs)/\-(2^63)<=k/\k<2^63/\xs.length*k.toNat<=sizeLine /\
 ∀p,H p=none->Q (.ref p) (upd H p (.lst (List.replicate k.toNat xs).flatten))
theorem Qm{a:Type}(xs:List a)(k:Nat):(List.replicate k xs).flatten.length=k*xs.length:=by
 induction k with
 |zero=>simp
 |succ k b=>rw[vE,sG,yF,b,pM,Nat.add_comm]
theorem Ql:OpR X (binaryOp .Mult) rRep:=by
 intro M s L H x y v u Q I w J h;obtain⟨l,k,xs,rfl,rfl,G,p,f,d,q⟩:=h;cases w;obtain⟨t,rfl⟩:=J;obtain⟨z,its,n,r,hl,e⟩:=I.lstM G;have D:its.toArray.size*k.toNat<=sizeLine:=by rw[yB,←hl];exact d
 have C:¬ its.toArray.size*k.toNat > (2^63-1)/8:=by
  have:(sizeLine:Nat)<=(2^63-1)/8:=∅
  omega
 have g:¬ (!Builtin.List.listFitsIndex k)=true:=by
  rw[fitsIndex_both p f];exact zR
 have o:¬ Builtin.List.listTooLong (its.toArray.size*k.toNat)=true:=by
  rw[Qp D];exact zR
 have K:List.foldl (λb c=>b++c) #[] (List.replicate (if its.toArray.isEmpty=true then 0 else k.toNat) its.toArray)=(List.replicate k.toNat its).flatten.toArray:=by
  have j:∀m:Nat,List.foldl (λb c=>b++c) #[] (List.replicate m its.toArray)=(List.replicate m its).flatten.toArray:=λm=>by
   have:=Gq its m [];rw[rR]at this;exact this
  rw[j];cases its with
  |nil=>simp
  |cons a N=>rw[zD (by simp)]
 refine wpAny_binaryOp_repeat_ref (T:= "list") (U:= "int") ∅ ⟨_,e,rfl⟩ (λi=>typeIs_int i k t) noFill_list_mul F.fills_int_mul F.slot_int_rmul repeat_list F.slot_int_index.lookup
  (rY F.slot_int_rmul (typeIs_int s k t) F.entry_int_rmul (F.args_int_rmul_2 _ _) (int___rmul___int_list k t l its.toArray n)
   ⟨e,rfl,⟨_,e,rfl⟩,rY F.slot_list_mul ⟨_,e,rfl⟩ F.entry_list_mul (F.args_list_mul_2 _ _) (AutoListH.list___mul___list_int_3 l its.toArray n k t g C o) ⟨e,?_⟩⟩)
 rw[K];exact⟨.ref _,_,I.lnew (t':=s.toks) (r.rep k.toNat) (by rw[Qm,rX];exact d),rfl,q _ I.fresh⟩
end
section
variable {prog:Program} {w:World} {A:Around} {E:VP} {s:Shared}
set_option maxRecDepth 100000 in
end
end L2
namespace Att
open PySem PySem.W PySem.Calls PyProof.Rows
theorem Qk{P:Params}{h:Heap}:∀(ns:LI')(vs:LW),WellAll P h vs (ns.map WData.int)->IntsAre vs ns:=by
 intro ns
 induction ns with
 |nil =>
  intro vs w;rw[rS]at w;cases w;exact .nil
 | cons n ns c =>
  intro vs w;rw[zM]at w;cases w with
  |cons a b =>
   cases a;exact .cons _ _ (c _ b)
theorem Qj{l:OpenLaw}{n:Nat}(v:l.most=some n){P:Params}{h:Heap}{args:List WData}{vals:LW}
  (f:l.row.toRowW.claim.pre args=true)(m:WellAll P h vals args):
  ∃a vs ns,vals=[Value.ref a]/\args=[WData.list (ns.map WData.int)]/\h.get? a=some {cls:=.type "list",data:=.seq vs.toArray}/\IntsAre vs ns/\ns.length<=n:=by
 have o:WShape.hasAll [] args [.list .int]=true:=(pre_splitW f).1;have e:l.pre.holds [] {args:=args}=true:=(pre_splitW f).2;obtain⟨d,r,rfl,t,i⟩:=hasAllW_cons o;obtain rfl:=hasAllW_nil i;obtain⟨xs,rfl,g⟩:=hasW_list t;obtain⟨ns,rfl⟩:=items_int g;have j:ns.length<=n:=by
  unfold OpenLaw.pre at e;have b:(WTm.not (.lt (.lit (.int (n:Int))) (.len (.arg 0)))).holds [] {args:=[.list (ns.map .int)]}=true:=by
   have b:=(holds_andW e).1;rw[v]at b;exact b
  have c:=condW_of b (w_not (w_lt w_lit (w_len_list (w_arg rfl))));rw[yX]at c;refine Nat.le_of_not_lt λq=>?_;have k:(n:Int)<((ns.length:Nat):Int):=⋯
  first
   |(rw[zK k]at c;exact absurd c ∅)
   |(simp at c;omega)
 cases m with
 |cons w1 u =>
  cases u;cases w1 with
  |list w p=>exact⟨_,_,ns,rfl,rfl,w,Qk ns _ p,j⟩
theorem Qi(l:OpenLaw)(args:List WData):l.row.toRowW.claim.post args (.bool true) args=true:=
 postW_of (r:=l.row.toRowW) (X:=(true == true))
  (show WShape.has [] (.bool true) .bool=true by first|rfl|decide|simp[WShape.has,WShape.arms,WShape.armsAll])
  (show(WTm.eq .res (.lit (.bool true))).value [] {args:=args,res:=some (.bool true),after:=args}=some (.bool (true == true)) from w_eq_bool (w_res rfl) w_lit) rfl
section
variable {prog:Program} {w:World} {A:Around} {E:VP} {s:Shared} {K:Frag}
def v_l(h:Heap)(L d:Addr):PN:=(List.range h.objs.size).filterMap λa=>if a=L\/a=d then none else(h.get? a).map λo=>(a,o)
end
end Att
namespace L2
open PySem PySem.Spec PyProof.Rows
open PySem.W (Frag)
theorem Go:∀{vs:LW}{ns:LI'},IntsAre vs ns->Vals (ns.map V.int) vs
 |_,_,.nil=>.nil
 |_,_,.cons n t h=>.cons ⟨t,rfl⟩ (Go h)
def Only(H:Hp):Prop:=∀b,H b=none\/∃o xs,H b=some (.frz o (.lst xs))
theorem Qh{P:Program}{w:World}{K:Frag}{i C:MT}{D:CXT}{k:Nat}{y a:Addr}{R:FuncData}{x:Str}{F:Sp}{c:Shared}{vs:LW}{ns:LI'}
  (KX:K.In c.heap)(J:c.heap.Ns mainGlobals i)(f:c.heap.Ns builtinsNs C)(a1:∀x:Str,x≠"__name__" -> C x=bootBuiltins x)(W:c.heap.NoLimit)(a7:c.gens=#[])
  (l:c.heap.get? a=some {cls:=.type "list",data:=.seq vs.toArray})(hi:IntsAre vs ns)(hl:ns.length<=sizeLine)(hr:Room k callerA)
  (a2:∀base:Heap,K.In base->base.Ns mainGlobals i->FnOk P w K i base D k y R [x] F)(b0:∀(s:Shared)(u:Value),BindsTo s R ⟨[u],[]⟩ [(x,u)])
  (Z:∀H:Hp,Only H->SqL K H a (ns.map V.int)->F [.ref a] H (λv _=>v=.bl true) λ_ _ _=>False)
  (Y:∀H e g,D [] H c (λ_ _ _=>False) e g->False):
  codeAny (model P w) callerA (.call (.ref y) ⟨[.ref a],[]⟩) (λr g=>r=.ok (.ret (.bool true))/\OldK c.heap g.heap/\g.os=c.os/\AllBare g.gens) c:=by
 have M:=Go hi;have a5:=hi.length
 -- from an abstract heap in which nothing but the script may be tracked
 have G:∀H:Hp,Only H->SqL K H a (ns.map V.int)->HOk P w H c.heap->(∀b,H b≠none->b=a)->(H a≠none->K.lookup a=none) ->
   codeAny (model P w) callerA (.call (.ref y) ⟨[.ref a],[]⟩) (λr g=>r=.ok (.ret (.bool true))/\OldK c.heap g.heap/\g.os=c.os/\AllBare g.gens) c:=by
  intro H O a0 L S a8;have I:∀{b:Addr}{o:Obj},c.heap.get? b=some o->H b=none->(hidT c.heap H).get? b=some o:=λe n=>Ow e n;have b4:∀{b:Addr}{o:Obj}{es:Array DictEntry}{ep:Nat},c.heap.get? b=some o->o.data=.dict es ep->H b=none:=λ{b o es ep}e d=>by
   cases q:H b with
   |none=>rfl
   |some u =>
    have t:b=a:=S b (by rw[q];simp);subst t;rw[l]at e;cases e;have d':Data.seq vs.toArray _=Data.dict es ep:=d;cases d'
  have p:∀{b:Addr}{m:MT},c.heap.Ns b m->(hidT c.heap H).Ns b m:=λ{b m}⟨o,es,ep,e,d,r⟩=>⟨o,es,ep,I e (b4 e d),d,r⟩;have N:K.In (hidT c.heap H):=λb o e=>I (KX b o e) (by
   cases q:H b with
   |none=>rfl
   |some u =>
    have t:b=a:=S b (by rw[q];simp);subst t;rw[a8 (by rw[q];simp)]at e;cases e)
  have b7:Mod K i (hidT c.heap H):=⟨N,p J,⟨C,p f,a1⟩,let ⟨b6,a4,b5⟩:=W;⟨b6,p a4,b5⟩⟩;have X:Env0 P w K i (hidT c.heap H) callerA [] c H:=⟨rfl,b7,λb o e=>Ov e,rW (Ox _ _),trivial,λb f=>absurd (show b∈([]:LA) from f) (by simp),L,.of_eq a7⟩;refine wV ((a2 _ N (p J)).run callerA [] c H ⟨[.ref a],[]⟩ [.ref a] [.ref a] _ _ hr X (b0 c (.ref a)) (.cons rfl .nil) (Z H O a0)) λr g h=>?_;cases r with
  |error e=>exact(Y H e g h).elim
  | ok fl =>
   cases fl with
   |next=>exact False.elim h
   |brk=>exact False.elim h
   |cont=>exact False.elim h
   | ret u =>
    obtain⟨v,H',U,T,un,b1,a9,q⟩:=h;have b2:v=.bl true:=q;subst b2;obtain rfl:u=Value.bool true:=a9;refine⟨rfl,OldK.of_keep λb o e=>?_,U,T⟩;cases q:H b with
    |none=>exact un.keep b o e q (by intro z;exact absurd (show b∈([]:LA) from z) (by simp)) (by simp)
    |some u =>
     rcases O b with z|⟨b3,xs,z⟩
     ·rw[q]at z;cases z
     ·have a6:=un.frzs b b3 _ z;obtain⟨e1,_⟩:=L b _ z;obtain⟨a3,_⟩:=b1 b _ a6;rw[e]at e1;cases e1;exact a3
 cases hk:K.lookup a with
 |some o =>
  -- the script is one of the module's own objects
  have e:=KX a o hk;rw[l]at e;cases e;refine G (λ_=>none) (λ_=>.inl rfl) (.inr ⟨_,vs.toArray,_,hk,rfl,rfl,rfl,by rw[yB,a5];exact hl,by simpa using M⟩) (λb u z=>by have j:(none:Option HO)=some u:=z;cases j) (λb z=>absurd rfl z) λz=>absurd rfl z
 | none =>
  refine G (λb=>if b=a then some (.frz {cls:=.type "list",data:=.seq vs.toArray} (.lst (ns.map V.int))) else none) (λb=>?_) (.inl (.inr ⟨{cls:=.type "list",data:=.seq vs.toArray},zE rfl⟩)) (λb u z=>?_) (λb z=>?_) λ_=>hk
  ·by_cases f:b=a
   ·exact .inr ⟨_,_,zE f⟩
   ·exact .inl (zD f)
  ·by_cases f:b=a
   ·have j:=(zE f).symm.trans z;cases j;subst f;exact⟨l,by rw[yX];exact hl,vs,_,M,l⟩
   ·have j:=(zD f).symm.trans z;cases j
  ·by_cases f:b=a
   ·exact f
   ·exact absurd (zD f) z
abbrev KOf{K:Frag}{h:Heap}(_:K.In h):Frag:=K
def Bz(s:Stmt)(j:Nat):Stmt:=match s with
 |.ClassDef _ _ _ body _ _ _ _ _ _ _=>body.getD j (.Pass ⟨0,0,0,0⟩)
 |_=>.Pass ⟨0,0,0,0⟩
def iB(s:Stmt):Arguments:=match s with
 |.FunctionDef _ a _ _ _ _ _ _ _ _=>a
 |_=>{posonlyargs:=[],args:=[],vararg:=none,kwonlyargs:=[],kw_defaults:=[],kwarg:=none,defaults:=[]}
def kQ(s:Stmt):List Stmt:=match s with
 |.FunctionDef _ _ b _ _ _ _ _ _ _=>b
 |_=>[]
def nM(s:Stmt):Scope:=match s with
 |.FunctionDef _ _ _ _ _ _ sc _ _ _=>sc
 |_=>{kind:=.function,names:=[],isGenerator:=false,isCoroutine:=false}
abbrev CX0:CXT:=λ_ _ _ _ _ _=>False
abbrev E0:XK:=λ_ _ _=>False
theorem cR{X:Cx}:hZ CX0 X E0:=λ_ _ _ _ _ _ _ h=>h.elim
structure Fun(K:Frag)(x qual:Str)(st:Stmt)(f:Addr)(fd:FuncData):Prop where
 ex:∃(oc:Value)(od:Option Addr)(kV doc pm:Value)(an:Option Addr)(cdv ct:Value)(osl:Array (Option Value)),
  fd=PySem.W.fnOf x qual (iB st) (kQ st) (nM st) .none kV doc pm an cdv ct/\K.lookup f=some ⟨oc,od,.func fd,osl⟩/\PySem.W.codeIn K cdv qual=true
 kp:PySem.W.keepIn K (.ref f)=true
section
variable {P:Program} {w:World} {K:Frag} {mg:MT} {base:Heap}
theorem Fun.ok{x b:Str}{st:Stmt}{f:Addr}{c:FuncData}{N ps:List Str}{k:Nat}{a:Sp}(e:Fun K x b st f c)(S:nZ N ps (nM st))(len:∀vs H Q E,a vs H Q E->vs.length=ps.length)
  (d:∀(cdv:Value)(A:Around)(outer:List Env)(s:Shared)(H:Hp)(vs:List V)(Q:VK)(E:XK),Room k (A.deeper (envOfC b (nM st) s.heap.objs.size f cdv))->a vs H Q E ->
   ∃t,PSs (cxOf CX0 P w K mg base N b (nM st) f cdv A outer s H E).nox (kQ st) t/\t {nx:=λ_ H'=>Q .non H',rt:=Q} (start N vs) H):FnOk P w K mg base CX0 (k+1) f c ps a:=by
 obtain⟨l,o,kV,r,m,u,cdv,n,p,rfl,i,g⟩:=e.ex;refine Ak i g S len λA outer s H vs Q E hr j=>?_;obtain⟨t,h,q⟩:=d cdv A outer s H vs Q E hr j;exact⟨t,h.nox,q⟩
theorem Fun.binds{x g:Str}{st:Stmt}{f:Addr}{e:FuncData}{ps:List Str}(i:Fun K x g st f e)
  (h:∀(kV c a:Value)(d:Option Addr)(cdv b:Value)(us:LW),us.length=ps.length->bindArgs (PySem.W.fnOf x g (iB st) (kQ st) (nM st) .none kV c a d cdv b) ⟨us,[]⟩=pure (ps.zip us)):mZ K e ps []:=by
 obtain⟨j,l,kV,c,a,d,cdv,b,n,rfl,m,k⟩:=i.ex;exact .all (h kV c a d cdv b)
theorem fun_mk{x a:Str}{st:Stmt}{f:Addr}{i:Value}{j g:Option Addr}{m:Array (Option Value)}{kV e b cdv d:Value}(l:K.lookup f=some ⟨i,j,.func (PySem.W.fnOf x a (iB st) (kQ st) (nM st) .none kV e b g cdv d),m⟩)
  (c:PySem.W.codeIn K cdv a=true)(k:PySem.W.keepIn K (.ref f)=true):Fun K x a st f (PySem.W.fnOf x a (iB st) (kQ st) (nM st) .none kV e b g cdv d):=⟨⟨i,j,kV,e,b,g,cdv,d,m,rfl,l,c⟩,k⟩
end
theorem iQ{n:Nat}(h:n<=1000):n<sizeLine:=wC h ∅
section
variable {X:Cx}
theorem pv(i:Nat){x:Str}{a:Pos}(d:X.N[i]?=some x:=by rfl)(e:Vis X.env.scope x:=by first|exact Or.inl rfl|exact Or.inr (Or.inl rfl)|exact Or.inr (Or.inr rfl))(c:(x == ("__debug__" :Str))=false:=by decide)
  (b:(x == ("__classdict__" :Str))=false:=by decide):PE X (.Name x a) (tVar i):=Ot d e c b
end
theorem iteF{A B:Prop}(h:B):if false=true then A else B:=by
 rw[zD zR];exact h
theorem iteT{A B:Prop}(h:A):if true=true then A else B:=by
 rw[zE rfl];exact h
theorem ite2{c A B:Prop}[Decidable c](a:c->A)(b:¬ c->B):if c then A else B:=by
 by_cases h:c
 ·rw[zE h];exact a h
 ·rw[zD h];exact b h
def Same(H H':Hp):Prop:=∀b o,H b=some o->H' b=some o
theorem Same.refl(H:Hp):Same H H:=λ_ _ h=>h
theorem Same.trans{H d e:Hp}(a:Same H d)(b:Same d e):Same H e:=λc o h=>b c o (a c o h)
theorem Same.seq{K:Frag}{H H':Hp}{a:Addr}{xs:List V}(e:Same H H')(h:SqL K H a xs):SqL K H' a xs:=by
 rcases h with(h|⟨o,h⟩)|h
 ·exact .inl (.inl (e _ _ h))
 ·exact .inl (.inr ⟨o,e _ _ h⟩)
 ·exact .inr h
end L2
set_option maxHeartbeats 4000000
namespace L2
open PySem PySem.Spec PyProof.Rows
open PySem.W (Frag)
inductive E1{T0:Type}(P:T0->Prop):Prop
 |mk (x0:T0):P x0->E1 P
inductive E2{T0 T1:Type}(P:T0->T1->Prop):Prop
 |mk (x0:T0) (x1:T1):P x0 x1->E2 P
inductive E3{T0 T1 T2:Type}(P:T0->T1->T2->Prop):Prop
 |mk (x0:T0) (x1:T1) (x2:T2):P x0 x1 x2->E3 P
inductive E4{T0 T1 T2 T3:Type}(P:T0->T1->T2->T3->Prop):Prop
 |mk (x0:T0) (x1:T1) (x2:T2) (x3:T3):P x0 x1 x2 x3->E4 P
inductive E5{T0 T1 T2 T3 T4:Type}(P:T0->T1->T2->T3->T4->Prop):Prop
 |mk (x0:T0) (x1:T1) (x2:T2) (x3:T3) (x4:T4):P x0 x1 x2 x3 x4->E5 P
inductive E6{T0 T1 T2 T3 T4 T5:Type}(P:T0->T1->T2->T3->T4->T5->Prop):Prop
 |mk (x0:T0) (x1:T1) (x2:T2) (x3:T3) (x4:T4) (x5:T5):P x0 x1 x2 x3 x4 x5->E6 P
inductive E7{T0 T1 T2 T3 T4 T5 T6:Type}(P:T0->T1->T2->T3->T4->T5->T6->Prop):Prop
 |mk (x0:T0) (x1:T1) (x2:T2) (x3:T3) (x4:T4) (x5:T5) (x6:T6):P x0 x1 x2 x3 x4 x5 x6->E7 P
inductive E8{T0 T1 T2 T3 T4 T5 T6 T7:Type}(P:T0->T1->T2->T3->T4->T5->T6->T7->Prop):Prop
 |mk (x0:T0) (x1:T1) (x2:T2) (x3:T3) (x4:T4) (x5:T5) (x6:T6) (x7:T7):P x0 x1 x2 x3 x4 x5 x6 x7->E8 P
inductive E9{T0 T1 T2 T3 T4 T5 T6 T7 T8:Type}(P:T0->T1->T2->T3->T4->T5->T6->T7->T8->Prop):Prop
 |mk (x0:T0) (x1:T1) (x2:T2) (x3:T3) (x4:T4) (x5:T5) (x6:T6) (x7:T7) (x8:T8):P x0 x1 x2 x3 x4 x5 x6 x7 x8->E9 P
inductive A2(a b:Prop):Prop|mk:a->b->A2 a b
inductive A3(a b c:Prop):Prop|mk:a->b->c->A3 a b c
inductive A4(a b c d:Prop):Prop|mk:a->b->c->d->A4 a b c d
inductive A5(a b c d e:Prop):Prop|mk:a->b->c->d->e->A5 a b c d e
inductive A6(a b c d e f:Prop):Prop|mk:a->b->c->d->e->f->A6 a b c d e f
inductive A7(a b c d e f g:Prop):Prop|mk:a->b->c->d->e->f->g->A7 a b c d e f g
inductive A8(a b c d e f g h:Prop):Prop|mk:a->b->c->d->e->f->g->h->A8 a b c d e f g h
inductive A9(a b c d e f g h i:Prop):Prop|mk:a->b->c->d->e->f->g->h->i->A9 a b c d e f g h i
inductive A10(a b c d e f g h i j:Prop):Prop|mk:a->b->c->d->e->f->g->h->i->j->A10 a b c d e f g h i j
inductive A11(a b c d e f g h i j k:Prop):Prop|mk:a->b->c->d->e->f->g->h->i->j->k->A11 a b c d e f g h i j k
inductive A14(a b c d e f g h i j k l m n:Prop):Prop|mk:a->b->c->d->e->f->g->h->i->j->k->l->m->n->A14 a b c d e f g h i j k l m n
inductive A17(a b c d e f g h i j k l m n o p q:Prop):Prop|mk:a->b->c->d->e->f->g->h->i->j->k->l->m->n->o->p->q->A17 a b c d e f g h i j k l m n o p q
def clOf(env:Env):List (Str×NameKind)->List (Str×Addr)->List (Str×Addr)
 |[],cs=>cs
 |(n,k):: r,cs=>clOf env r (if k == .free then(n,(env.cells.lookup n).getD 0):: cs else cs)
theorem Gn{env:Env}{n:Str}{c:Addr}:∀{l:List (Str×NameKind)}{cs:List (Str×Addr)},(∀y∈l,y.2=.free->∃c,env.cells.lookup y.1=some c) ->
  (clOf env l cs).lookup n=some c->cs.lookup n=some c\/env.cells.lookup n=some c
 |[],_,_,h=>.inl h
 | (m,k):: r,cs,hl,h=>by
  have hr:∀y∈r,y.2=.free->∃c,env.cells.lookup y.1=some c:=λy d=>hl y (zN _ d);rcases Gn hr h with q|q
  ·by_cases a:(k == NameKind.free)=true
   ·rw[zE a]at q;obtain⟨g,e⟩:=hl (m,k) zV (by simpa using a);rw[xG]at q;cases hm:n == m with
    |true =>
     rw[hm]at q;have b:(env.cells.lookup m).getD 0=c:=yA q;have i:n=m:=by simpa using hm
     rw[e]at b;have f:g=c:=b;rw[i,e,f];exact .inr rfl
    |false =>
     rw[hm]at q;exact .inl q
   ·rw[zD a]at q;exact .inl q
  ·exact .inr q
theorem By{env:Env}{n:Str}:∀{l:List (Str×NameKind)}{cs:List (Str×Addr)},((n,NameKind.free)∈l\/∃c,cs.lookup n=some c)->∃c,(clOf env l cs).lookup n=some c
 |[],_,h=>by
  rcases h with h|h
  ·simp at h
  ·exact h
 | (m,k):: r,cs,h=>by
  refine By (l:=r) ?_
  by_cases a:(n,NameKind.free)∈r
  ·exact .inl a
  ·refine .inr ?_;rcases h with h|⟨c,h⟩
   ·rcases xC.mp h with e|e
    ·cases e;rw[zE ∅];exact⟨(env.cells.lookup n).getD 0,by rw[xG];simp⟩
    ·exact absurd e a
   ·by_cases b:(k == NameKind.free)=true
    ·rw[zE b,xG];cases hm:n == m with
     |true=>exact⟨_,rfl⟩
     |false=>exact⟨c,h⟩
    ·rw[zD b];exact⟨c,h⟩
theorem cS{b:Scope}{env:Env}(h:∀y∈b.names,y.2=.free->∃c,env.cells.lookup y.1=some c):closureFor b env=pure (clOf env b.names []):=by
 have go:∀(l:List (Str×NameKind))(cs:List (Str×Addr)),(∀y∈l,y.2=.free->∃c,env.cells.lookup y.1=some c) ->
   (forIn l cs (λ(x:Str×NameKind)(r:List (Str×Addr))=>if x.2 == NameKind.free then(do let a ←cellOf env x.1;pure (ForInStep.yield ((x.1,a):: r))) else(pure (ForInStep.yield r):Sem _)):Sem _)=pure (clOf env l cs):=by
  intro l
  induction l with
  |nil=>intro cs _;rfl
  | cons y r f =>
   intro cs hl;obtain⟨n,k⟩:=y;have hr:∀y∈r,y.2=.free->∃c,env.cells.lookup y.1=some c:=λy g=>hl y (zN _ g);rw[vW]
   by_cases d:(k == NameKind.free)=true
   ·obtain⟨c,e⟩:=hl (n,k) zV (by simpa using d);have e1:cellOf env n=pure c:=by unfold cellOf;rw[show env.cells.lookup n=some c from e]
    dsimp only;rw[zE d,e1];simp only[pure_bind];rw[f _ hr];show _=pure (clOf env r _);rw[zE d,show env.cells.lookup n=some c from e]
    all_goals rfl
   ·dsimp only;rw[zD d];simp only[pure_bind];rw[f _ hr];show _=pure (clOf env r _);rw[zD d]
 have e:closureFor b env=(forIn b.names ([]:List (Str×Addr)) (λ(x:Str×NameKind)(r:List (Str×Addr))=>if x.2 == NameKind.free then(do let a ←cellOf env x.1;pure (ForInStep.yield ((x.1,a):: r))) else(pure (ForInStep.yield r):Sem _)):Sem _):=by
  unfold closureFor
  first
   |rfl
   |(simp only[bind_pure];rfl)
   |(simp;done)
 rw[e];exact go _ _ h
theorem Gm{env:Env}:∀{b:List (Str×NameKind)}{x:Str},b.lookup x=some .free ->
  (b.map λ(n,k)=>if(k == NameKind.free && env.scope.kind == .function && env.kindOf n == some .cell) then(n,NameKind.cell) else(n,k)).lookup x=some .cell \/
  (b.map λ(n,k)=>if(k == NameKind.free && env.scope.kind == .function && env.kindOf n == some .cell) then(n,NameKind.cell) else(n,k)).lookup x=some .free
 |[],_,h=>by simp at h
 | (n,k):: r,x,h=>by
  have c:=@Gm env r x;cases hx:x == n with
  |true =>
   simp only[List.lookup_cons,hx]at h;cases h
   by_cases a:(NameKind.free == NameKind.free && env.scope.kind == .function && env.kindOf n == some .cell)=true
   ·refine .inl ?_;rw[zM];dsimp only;rw[zE a,xG,hx]
   ·refine .inr ?_;rw[zM];dsimp only;rw[zD a,xG,hx]
  |false =>
   simp only[List.lookup_cons,hx]at h;rw[zM];dsimp only
   by_cases a:(k == NameKind.free && env.scope.kind == .function && env.kindOf n == some .cell)=true
   ·rw[zE a,xG,hx];exact c h
   ·rw[zD a,xG,hx];exact c h
structure v_m(X:Cx)(scope:Scope)(x:Str)(fr:List (Str×Nat)):Prop where
 kind:scope.kind=.function
 cell:∀y∈scope.names,y.2≠.cell
 free:∀y∈scope.names,y.2=.free->X.env.kindOf y.1=some .cell\/X.env.kindOf y.1=some .free
 loc:∀y∈scope.names,y.2=.local->scope.names.lookup y.1=some .local
 name:scope.names.lookup x=some .local
 nd:(x:: fr.map (·.1)).Nodup
 fr:∀p∈fr,X.N[p.2]?=some p.1/\scope.names.lookup p.1=some .free
def lG(fr:List (Str×Nat))(σ:St):St:=fr.map λp=>σ.getD p.2 none
section
variable {X:Cx} {scope:Scope} {x:Str} {fr:List (Str×Nat)}
def Bx(i:Nat)(te:TE):TS:=λD σ H=>te σ H λv H1=>D.nx (σ.set i (some v)) H1
end
theorem mI.there{P:Program}{w:World}{H:Hp}{h:Heap}{a:Addr}{o:HO}(x:mI P w H h a o):∃b,h.get? a=some b:=by
 cases o with
 |lst xs=>obtain⟨_,_,_,_,e⟩:=x;exact⟨_,e⟩
 |tup xs=>obtain⟨_,_,_,b,e,_⟩:=x;exact⟨b,e⟩
 |dK kvs=>obtain⟨_,_,_,_,o,_,_,e,_⟩:=x;exact⟨_,e⟩
 |dT kvs=>obtain⟨_,_,_,_,o,_,_,e,_⟩:=x;exact⟨_,e⟩
 |set S n=>obtain⟨o,_,_,_,e,_⟩:=x;exact⟨_,e⟩
 |ins C d fs=>obtain⟨_,_,_,e,_⟩:=x;exact⟨_,e⟩
 |own y=>exact x
 |xd fs=>obtain⟨_,⟨_,_,_,e,_⟩,_⟩:=x;exact⟨_,e⟩
 |rng lo hi=>obtain⟨_,_,_,e⟩:=x;exact⟨_,e⟩
 |frz b u=>exact⟨_,x.1⟩
 |tbl ps=>exact⟨_,x⟩
 |met f y=>exact⟨_,x⟩
 |ext c=>exact x.2.1
abbrev Cov(fs:LA)(h₀:Heap)(H:Hp)(h B:Heap):Prop:=∀b o,h.get? b=some o->b∉fs->((∃o',h₀.get? b=some o')\/∃u,H b=some u)->B.get? b=some o
def FlyX(X:Cx)(pins:PN)(H:Hp)(e:Addr)(C:Value)(h:Heap):Prop:=∃B a0,Heap.FlyingW B X.stack e C a0 h/\Cov (frs X.stack) X.s₀.heap H h B/\∀p∈X.pn++pins,B.get? p.1=some p.2
def CX1(P:Program)(w:World):CXT:=λouter H s E ev s'=>∃e C H' B a0,ev=.ref e/\s'.os=s.os/\AllBare s'.gens/\Un (frs outer) [] H H' s.heap s'.heap/\HOk P w H' s'.heap /\
 Heap.FlyingW B outer e C a0 s'.heap/\Cov (frs outer) s.heap H' s'.heap B/\E C none H'
abbrev XE:=St->Value->Hp->Prop
def gY(X:Cx)(EX:XE):Prop:=∀(pins:PN)(σ:St)(H:Hp)(s:Shared)(e:Addr)(C:Value),Inv X pins σ H s->FlyX X pins H e C s.heap->EX σ C H->X.xe (.ref e) s
def Gk(X:Cx)(EX:XE):Prop:=∀(pins:PN)(σ:St)(H:Hp)(s:Shared)(h':Heap)(e:Addr)(C:Value)(vs:LW),Inv X pins σ H s->Heap.MadeExcOf s.heap h' e C vs->EX σ C H->X.xe (.ref e) {s with heap:=h'}
theorem cT{X:Cx}{F:PN}{M:St}{H:Hp}{s:Shared}{g B:Heap}(I:Inv X F M H s)(D:X.stack=X.env:: X.outer)(K:X.env.frame=some X.env.locals)(G:X.ex=[])
  (stay:B.StaysIn g)(sm:s.heap.UpToSlots g)(x:Cov (frs X.stack) X.s₀.heap H s.heap B):
  Un X.fs [] X.H₀ H X.s₀.heap g/\HOk X.prog X.w H g/\Cov X.fs X.s₀.heap H g B:=by
 have u:=I.base;rw[G]at u;have J:frs X.stack=X.env.locals:: X.fs:=by
  rw[D];unfold frs;rw[vG,K];rfl
 have l:∀b o,X.s₀.heap.get? b=some o->b∉X.fs->b∉frs X.stack:=λb o e c m=>by
  rw[J]at m;rcases xC.mp m with z|z
  ·exact absurd (zL (zJ e) I.ok.above) (by rw[z];exact yR _)
  ·exact c z
 have trk:∀b v,H b=some v->b∉frs X.stack:=λb v e m=>by
  have:=I.stkFree b m;rw[e]at this;cases this
 have j:∀b o,s.heap.get? b=some o->b∉frs X.stack->((∃f,X.s₀.heap.get? b=some f)\/∃v,H b=some v)->g.get? b=some o:=λb o e c r=>stay b o (x b o e c r);have y:∀b,b∈X.fs->∀o,s.heap.get? b=some o->∃p,g.get? b=some {o with slots:=p}:=λb c o e=>by
  obtain⟨_,f,d,C⟩:=I.funs.mem c;rw[e]at d;cases d;exact sm b o e C
 refine⟨⟨λb o e n c k=>?_,λb o e n c k=>?_,u.free,λb o e k=>?_,u.tups,u.frzs,u.tbls⟩,λa o t=>?_,λb o e c r=>?_⟩
 ·exact j b o (u.keep b o e n c k) (l b o e c) (.inl ⟨o,e⟩)
 ·obtain⟨p,e1⟩:=u.slot b o e n c k;obtain⟨L,w⟩:=y b c _ e1;exact⟨L,w⟩
 ·obtain⟨i,e1⟩:=u.there b o e k
  by_cases c:b∈X.fs
  ·obtain⟨p,w⟩:=y b c _ e1;exact⟨_,w⟩
  ·exact⟨i,j b i e1 (l b o e c) (.inl ⟨o,e⟩)⟩
 ·refine(I.hok a o t).stay (λb v c q=>?_) (λ_ q=>q) λ_ _ q=>q;rcases c with c|c
  ·subst c;exact j b v q (trk b o t) (.inr ⟨o,t⟩)
  ·exact j b v q (trk b _ c) (.inr ⟨_,c⟩)
 ·rcases r with⟨f,d⟩|⟨v,d⟩
  ·obtain⟨i,e1⟩:=u.there b f d (by simp);have q:=j b i e1 (l b f d c) (.inl ⟨f,d⟩);rw[e]at q;cases q;exact x b o e1 (l b f d c) (.inl ⟨f,d⟩)
  ·obtain⟨i,e1⟩:=(I.hok b v d).there;have q:=j b i e1 (trk b v d) (.inr ⟨v,d⟩);rw[e]at q;cases q;exact x b o e1 (trk b v d) (.inr ⟨v,d⟩)
section
variable {P:Program} {w:World} {K:Frag} {mg:MT} {base:Heap} {N:List Str} {qual:Str} {scope:Scope} {f:Addr} {cd:Value} {A:Around} {outer:List Env} {s₀:Shared} {H₀:Hp} {E:XK}
theorem Bw:gY (cxOf (CX1 P w) P w K mg base N qual scope f cd A outer s₀ H₀ E) (λ_ C H=>E C none H):=by
 intro j k H s e C I c g;obtain⟨B,a0,fl,b,_⟩:=c;refine wpAny_leaves_onW I.ok.frames rfl fl λi a sm=>?_;obtain⟨un,ok,d⟩:=cT I rfl rfl rfl a.1 sm b;exact⟨e,C,H,B,a0,rfl,I.os,I.bare,un,ok,a,d,g⟩
theorem iC:Gk (cxOf (CX1 P w) P w K mg base N qual scope f cd A outer s₀ H₀ E) (λ_ C H=>E C none H):=by
 intro p r H s h' e C vs I M m;have g:=I.stack;have i:=PySem.W.funFrames_hide (as:=frs (cxOf (CX1 P w) P w K mg base N qual scope f cd A outer s₀ H₀ E).stack) g (λenv d a j=>oU.mpr ⟨env,d,j⟩);refine wpAny_leaves_madeW (s:={s with heap:=h'}) (h:=s.heap) I.ok.frames rfl (λb o q=>uL _ q) i M λn t c _ _ sm=>?_;obtain⟨un,ok,l⟩:=cT I rfl rfl rfl c.1 ((Heap.UpToSlots.of_keeps M.keeps).trans sm) λb o q k _=>tO _ q k;exact⟨e,C,H,_,_,rfl,I.os,I.bare,un,ok,c,l,m⟩
end
section
variable {X:Cx} {EX:XE} {k:Nat} {f:Addr} {fd:FuncData} {ps:List Str} {sp:Sp} {dvs:List V} {ds:LW} {x:Str} {p pos:Pos} {e:Expr} {es:List Expr} {t:TA}
def cU(sp:Sp)(dvs:List V)(EX:XE)(t:TA):TE:=λσ H Q=>t σ H λvs H1=>sp (vs++dvs) H1 Q λC _ H'=>EX σ C H'
theorem Qg{d:PN}{c:St}{H:Hp}{s:Shared}{Q:VK}{us:LW}{vs:List V}(m:FnOk X.prog X.w X.K X.mg X.base (CX1 X.prog X.w) k f fd ps sp)(hr:Room k X.A)(i:mZ X.K fd ps ds)(M:Vals dvs ds)(O:gY X EX)
  (K:X.ex=[])(I:Inv X d c H s)(r:Vals vs us)(h:sp (vs++dvs) H Q λC _ H'=>EX c C H'):wpAny (model X.prog X.w) X.A (call (.ref f) us) (EP X d c Q) X.xe s:=by
 have v:Vals (vs++dvs) (us++ds):=r.append M;have hl:(us++ds).length=ps.length:=by rw[←v.length];exact m.len _ _ _ _ h
 refine uC (wV (m.run X.A X.stack s H ⟨us,[]⟩ (us++ds) (vs++dvs) Q _ hr I.env0 (i s us I.kIn hl) v h) λr n a=>?_);cases r with
 | error S =>
  obtain⟨e,C,H',B,a0,rfl,D,y,un,ok,fl,w,q⟩:=a;have l:Inv X d c H' n:=I.call' D un ok y λb z=>absurd z (by simp);refine O d c H' n e C l ⟨B,a0,fl,λb o e1 i g=>w b o e1 i ?_,λp j=>?_⟩ q
  ·rcases g with⟨P,G⟩|g
   ·obtain⟨N,L⟩:=I.base.there b P G (by rw[K];simp);exact .inl ⟨N,L⟩
   ·exact .inr g
  ·obtain⟨e1,R,ne,F,_⟩:=l.pin p j;refine w p.1 p.2 e1 (λJ=>?_) (.inl ⟨_,(I.pin p j).1⟩);rcases xC.mp (I.stkSub p.1 J) with z|z
   ·exact ne z
   ·exact F z
 |ok fl =>
  cases fl with
  |ret u=>exact I.after a
  |next=>exact False.elim a
  |brk=>exact False.elim a
  |cont=>exact False.elim a
theorem cV(b:FnOk X.prog X.w X.K X.mg X.base (CX1 X.prog X.w) k f fd ps sp)(hr:Room k X.A)(o:Gl X x)(g:X.mg x=some (.ref f))(w:PySem.W.keepIn X.K (.ref f)=true)(l:mZ X.K fd ps ds)(n:Vals dvs ds)(d:gY X EX)
  (m:PA X (e:: es) t)(i:X.ex=[]:=by rfl)(u:(x == ("__debug__" :Str))=false:=by decide)(j:starEach (e:: es) X.env=(false,eval e X.env):: starEach es X.env:=by rfl)(c:(backTo pos (starEach es X.env)).any (·.1)=false:=by rfl):
  PE X (.Call (.Name x p) (e:: es) [] pos) (cU sp dvs EX t):=by
 intro v s y H Q I h;refine wK (jI I o g ?_ u);refine vP (h₀:=X.base) I.ok.mod.kin w (thn (m pos v s y H _ I h) λus z⟨vs,C,a,r,q⟩=>⟨a.kIn,?_⟩) j c;exact Qg b hr l n d i a r q
theorem dE{P:Program}{w:World}{Y:Cx}:hZ (CX1 P w) Y E0:=λ_ _ _ _ _ _ _ h=>by
 obtain⟨_,_,_,_,_,_,_,_,_,_,_,_,q⟩:=h;exact q.elim
end
theorem Qf{K:Frag}{h:Heap}{C:Addr}{e:LW}{newId:String}(KX:K.In h)(a:PySem.W.excIn K C e newId=true):
  ∃bm N nm c bs b sn sub ab col dd k0 k1 k2 k3 k5 mN,h.get? C=some (excClassObj nm c C N bs bm b sn sub ab col dd k0 k1 k2 k3 k5 newId)/\h.Ns N mN/\mN "__init__"=none/\OwnTail h e bm:=by
 revert a
 unfold PySem.W.excIn;split
 ·next dd t d n =>
  split
  ·next g bm k0 k1 k2 k3 j k5 i es =>
   intro a;simp only[Bool.and_eq_true,beq_iff_eq,Bool.not_eq_true']at a;obtain⟨⟨⟨⟨⟨e1,k⟩,m⟩,q⟩,f⟩,w⟩:=a;subst e1 k;cases t with
   | mk nm bs v ns c b sn sub ab col o =>
    have p:v=Value.ref g:: bm:=i;have u:o=false:=m;subst p u;have r:d=#[k0,k1,k2,k3,some (Value.builtin j),k5]:=by
     cases d with
     |mk l=>exact wG Array.mk es
    subst r;exact⟨bm,ns,nm,c,bs,b,sn,sub,ab,col,dd,k0,k1,k2,k3,k5,_,KX _ _ n,pN (qO KX f),PySem.W.nsMap_none_of_in KX f w,PySem.W.tail_of_in KX q⟩
  ·intro z;cases z
 ·intro z;cases z
section
variable {X:Cx} {EX:XE} {C:Addr} {x:Str} {np cpos pos:Pos} {e₀:Expr} {rest:List Expr} {t:TA} {bmB:LW} {B newId initId:String}
def kK(C:Addr)(EX:XE)(t:TA):TS:=λ_ σ H=>t σ H λvs H1=>vs.length<=sizeLine/\EX σ (.ref C) H1
theorem iD(j:X.calm=true)(J:Gk X EX)(v:Gl X x)(n:X.mg x=some (.ref C))(K:PySem.W.excIn X.K C bmB newId=true)(c:ExcBaseFacts B newId initId bmB)(p:PA X (e₀:: rest) t)
  (w:(x == ("__debug__" :Str))=false:=by decide)(f:starEach (e₀:: rest) X.env=(false,eval e₀ X.env):: starEach rest X.env:=by rfl)(G:(backTo cpos (starEach rest X.env)).any (·.1)=false:=by rfl):
  PS X (.Raise (some (.Call (.Name x np) (e₀:: rest) [] cpos)) none pos) (kK C EX t):=by
 intro b s g H D I h;obtain⟨bm,N,nm,q,bs,y,sn,sub,ab,col,dd,k0,k1,k2,k3,k5,mN,l,k,i,T⟩:=Qf I.mod.kin K;have u:(backTo cpos (starEach (e₀:: rest) X.env)).any (·.1)=false:=by
  rw[f];show(false || (backTo cpos (starEach rest X.env)).any (·.1))=false;rw[G];rfl
 refine wpAny_Raise_call_subT (C:=C) (nm:=nm) (q:=q) (N:=N) (bs:=bs) (bm:=bm) (hdct:=y) (sn:=sn) (sub:=sub) (ab:=ab) (col:=col) (dd:=dd) (k0:=k0) (k1:=k1) (k2:=k2) (k3:=k3) (k5:=k5) c (mN:=mN) (T.hasType c.hasBase) (I.ok.hd j) u i
  (jI I v n ⟨rfl,?_⟩ w)
 have d:=p cpos b s g H _ I h;rw[f]at d ⊢;refine tD (thn d λus m⟨vs,F,a,r,z,o⟩=>⟨rfl,?_,a.bk _ _ l,k.keeps a.bk,T.keeps a.bk,λh' e M=>J b g F m h' e _ us a M o⟩);show us.length<=sizeLine;rw[←r.length];exact z
end
section
variable {X:Cx} {pins:PN} {σ:St} {H:Hp} {s:Shared}
theorem Inv.flown{h' B:Heap}(I:Inv X pins σ H s)(q:X.stack=X.env:: X.outer)(C:X.env.frame=some X.env.locals)(f:X.ex=[])(stay:B.StaysIn h')(sm:s.heap.UpToSlots h')(j:Cov (frs X.stack) X.s₀.heap H s.heap B)
  (t:∀p∈X.pn++pins,B.get? p.1=some p.2):Inv X pins σ H {s with heap:=h'}:=by
 obtain⟨un,ok,_⟩:=cT I q C f stay sm j;have a:∀c v,s.heap.IsCell c v->h'.IsCell c v:=λc v⟨o,e,d⟩=>by
  obtain⟨D,g⟩:=sm c o e λvs z=>by rw[d]at z;cases z
  exact⟨_,g,d⟩
 refine⟨I.ok,I.os,I.bare,by rw[f];exact un,?_,λx c e=>?_,I.free,I.freeC,λp b=>?_,ok,I.len⟩
 ·obtain⟨m,w,hl⟩:=I.loc;refine⟨m,sm.ns w,λi x v e1 n y=>?_⟩;obtain⟨u,r,l⟩:=hl i x v e1 n y;refine⟨u,r,?_⟩;rcases l with l|⟨k,c,e,z⟩
  ·exact .inl l
  ·exact .inr ⟨k,c,e,a c _ z⟩
 ·obtain⟨v,z⟩:=I.cell x c e;exact⟨v,a c v z⟩
 ·obtain⟨_,r⟩:=I.pin p b;exact⟨stay _ _ (t p b),r⟩
def dF(e:Addr)(C:Value):HO:=.ext λh=>∃o,h.get? e=some o/\o.cls=C
theorem Inv.trackE{e:Addr}{C:Value}{f:Obj}{vs:Array Value}(I:Inv X pins σ H s)(i:s.heap.get? e=some f)(F:f.cls=C)(t:f.data=.fields vs)(K:H e=none)(L:X.s₀.heap.get? e=none)(J:∀p∈X.pn++pins,p.1≠e):
  Inv X pins σ (upd H e (dF e C)) s:=by
 have ne:∀b u,H b=some u->b≠e:=λb u q z=>by rw[z,K]at q;cases q
 have y:X.env.locals≠e:=λz=>by
  obtain⟨m,⟨o,es,ep,g,d,_⟩,_⟩:=I.loc;rw[z,i]at g;cases g;rw[t]at d;cases d
 have D:∀x c,X.env.cells.lookup x=some c->c≠e:=λx c q z=>by
  obtain⟨v,o,g,d⟩:=I.cell x c q;rw[z,i]at g;cases g;rw[t]at d;cases d
 have u:=I.base;refine⟨I.ok,I.os,I.bare,⟨u.keep,u.slot,λb o q n w=>?_,u.there,λb xs q=>?_,λb o v q=>?_,λb ps q=>?_⟩,I.loc,I.cell,?_,λx c q=>?_,λp l=>?_,λa o q=>?_,I.len⟩
 ·rw[nN (λz=>by rw[z,L]at q;cases q)];exact u.free b o q n w
 ·have:=u.tups b xs q;rw[nN (ne _ _ this)];exact this
 ·have:=u.frzs b o v q;rw[nN (ne _ _ this)];exact this
 ·obtain⟨m,e1⟩:=u.tbls b ps q;exact⟨m,by rw[nN (ne _ _ e1)];exact e1⟩
 ·rw[nN y];exact I.free
 ·rw[nN (D x c q)];exact I.freeC x c q
 ·obtain⟨e1,G,r⟩:=I.pin p l;exact⟨e1,by rw[nN (J p l)];exact G,r⟩
 ·by_cases j:a=e
  ·subst j;rw[nK]at q;cases q;exact⟨⟨f,i,F⟩,⟨f,i⟩,λN M⟨o,e1,r⟩k=>⟨o,k o e1,r⟩⟩
  ·rw[nN j]at q;exact(I.hok a o q).stay (λ_ _ _ z=>z) (λb z=>by rw[nN (ne _ _ z)];exact z) λb xs z=>by rw[nN (ne _ _ z)];exact z
theorem Inv.unbind{h':Heap}{m:MT}{u:Option Value}{i:Nat}{n:Str}(I:Inv X pins σ H s)(R:X.N.Nodup)(hi:X.N[i]?=some n)(hl:X.env.scope.names.lookup n=some .local)
  (T:s.heap.Ns X.env.locals m)(P:h'.Ns X.env.locals (λx=>if x=n then u else m x))(C:Heap.SameBut X.env.locals s.heap h')(N:∀(j:Nat) x v,X.N[j]?=some x->σ[j]?=some (some v)->Vis X.env.scope x->∃u,RelV v u/\Look X.env s.heap m x u):
  Inv X pins (σ.set i none) H {s with heap:=h'}:=by
 obtain⟨U,V,Y,W,_⟩:=id T;have D:∀b o,X.s₀.heap.get? b=some o->b≠X.env.locals:=λb o e=>zX (zL (zJ e) I.ok.above);have t:∀b o,b≠X.env.locals->s.heap.get? b=some o->h'.get? b=some o:=λb o d e=>(C.2 b d).trans e;have J:∀b v,H b=some v->b≠X.env.locals:=λb v e z=>by rw[z,I.free]at e;cases e
 have f:=I.base;refine⟨I.ok,I.os,I.bare,⟨λb o e n d g=>t b o (D b o e) (f.keep b o e n d g),λb o e n d g=>?_,f.free,λb o e g=>?_,f.tups,f.frzs,f.tbls⟩,⟨_,P,λj x v e1 y O=>?_⟩,λx c e=>?_,I.free,I.freeC,λp M=>?_,λa o e=>?_,by simpa using I.len⟩
 ·obtain⟨K,e1⟩:=f.slot b o e n d g;exact⟨K,t b _ (D b o e) e1⟩
 ·obtain⟨F,e1⟩:=f.there b o e g;exact⟨F,t b F (D b o e) e1⟩
 ·have G:j≠i:=λz=>by
   subst z;have S:j<σ.length:=by rw[I.len];exact(nB.mp hi).1
   rw[vN S]at y;cases y
  rw[rK (yI G)]at y;have g:x≠n:=λz=>G (Ax R e1 (z ▸ hi));obtain⟨w,r,l⟩:=N j x v e1 y O;refine⟨w,r,?_⟩;rcases l with⟨k,e⟩|⟨k,c,e,z⟩
  ·exact .inl ⟨k,by simp[g,e]⟩
  ·exact .inr ⟨k,c,e,z.sameBut C (I.cne x c e)⟩
 ·obtain⟨v,z⟩:=I.cell x c e;exact⟨v,z.sameBut C (I.cne x c e)⟩
 ·obtain⟨e1,L,ne,r⟩:=I.pin p M;exact⟨t _ _ ne e1,L,ne,r⟩
 ·refine(I.hok a o e).stay (λb v d q=>t b v ?_ q) (λ_ q=>q) λ_ _ q=>q;rcases d with d|d
  ·rw[d];exact J a o e
  ·exact J b _ d
end
abbrev Cx.body(X:Cx)(pn:PN)(E:VP):Cx:={X with pn:=pn,xe:=E}
abbrev Cx.suite(X:Cx)(e:Addr):Cx:={X with A:=X.A.mark (some (.ref e)),calm:=false,xe:=λ_ _=>False}
section
variable {X:Cx} {pins pins':PN} {σ:St} {H:Hp} {s:Shared} {E:VP} {e:Addr}
theorem Inv.intry(I:Inv X pins σ H s):Inv (X.body (X.pn++pins) E) [] σ H s:=
 ⟨⟨I.ok.mod,I.ok.kind,I.ok.glob,I.ok.blt,I.ok.above,I.ok.inj,I.ok.has,I.ok.cab,I.ok.hd,I.ok.frames,I.ok.stk,I.ok.exf,I.ok.bs,I.ok.bsz,I.ok.noex,I.ok.exfs,I.ok.funs,I.ok.frf⟩,
  I.os,I.bare,I.base,I.loc,I.cell,I.free,I.freeC,λp a=>I.pin p (by simpa using a),I.hok,I.len⟩
theorem Inv.offtry(I:Inv (X.body (X.pn++pins) E) pins' σ H s):Inv X pins σ H s:=
 ⟨⟨I.ok.mod,I.ok.kind,I.ok.glob,I.ok.blt,I.ok.above,I.ok.inj,I.ok.has,I.ok.cab,I.ok.hd,I.ok.frames,I.ok.stk,I.ok.exf,I.ok.bs,I.ok.bsz,I.ok.noex,I.ok.exfs,I.ok.funs,I.ok.frf⟩,
  I.os,I.bare,I.base,I.loc,I.cell,I.free,I.freeC,λp a=>I.pin p (xE _ a),I.hok,I.len⟩
theorem Inv.insuite(I:Inv X pins σ H s):Inv (X.suite e) pins σ H s:=
 ⟨⟨I.ok.mod,I.ok.kind,I.ok.glob,I.ok.blt,I.ok.above,I.ok.inj,I.ok.has,I.ok.cab,(λz=>by cases z),I.ok.frames,I.ok.stk,I.ok.exf,I.ok.bs,I.ok.bsz,I.ok.noex,I.ok.exfs,I.ok.funs,I.ok.frf⟩,
  I.os,I.bare,I.base,I.loc,I.cell,I.free,I.freeC,I.pin,I.hok,I.len⟩
theorem Inv.offsuite(I:Inv (X.suite e) pins σ H s)(ok:X.Ok):Inv X pins σ H s:=
 ⟨ok,I.os,I.bare,I.base,I.loc,I.cell,I.free,I.freeC,I.pin,I.hok,I.len⟩
theorem SP.offtry{D:Ends}{f:Flow}(h:SP (X.body (X.pn++pins) E) [] D f s):SP X pins D f s:=by
 cases f with
 |next=>obtain⟨a,H',b,q⟩:=h;exact⟨a,H',b.offtry,q⟩
 |brk=>obtain⟨a,H',b,q⟩:=h;exact⟨a,H',b.offtry,q⟩
 |cont=>obtain⟨a,H',b,q⟩:=h;exact⟨a,H',b.offtry,q⟩
 |ret u=>obtain⟨v,a,H',b,r,q⟩:=h;exact⟨v,a,H',b.offtry,r,q⟩
end
def Ends.gone(D:Ends)(i:Nat):Ends:={nx:=λσ H=>D.nx (σ.set i none) H,rt:=D.rt,bk:=λσ H=>D.bk (σ.set i none) H,ct:=λσ H=>D.ct (σ.set i none) H}
def tTry(K:Frag)(C0:Addr)(i:Nat)(tb:XE->TS)(ts:TS):TS:=λD σ H =>
 tb (λσ' C H'=>PySem.W.exmOne K C (.ref C0)=some true/\∀e,H' e=none->ts (D.gone i) (σ'.set i (some (.ref e))) (upd H' e (dF e C))) D σ H
section
variable {X:Cx} {C0:Addr} {x n:Str} {np hpos pos:Pos} {i:Nat} {body suite:List Stmt} {b₀:Stmt} {tb:XE->TS} {ts:TS}
theorem Qe{j:PN}{D:Ends}{f:Flow}{s:Shared}{e:Addr}(ok:X.Ok)(p:X.N.Nodup)(hi:X.N[i]?=some n)(hl:X.env.scope.names.lookup n=some .local)(h:SP (X.suite e) j (D.gone i) f s):
  wpAny (model X.prog X.w) X.A (do bindName X.env n .none;unbindBehindTheSuite X.env n hpos) (λ_ b=>SP X j D f b) X.xe s:=by
 have F:(X.env.scope.kind == .class || (X.env.scope.kind == .module && X.env.locals != X.env.globals))=false:=by rw[ok.kind];rfl
 have g:∀(a:St)(H':Hp),Inv (X.suite e) j a H' s->∀(R:Shared->Prop),(∀b,Inv X j (a.set i none) H' b->R b) ->
   wpAny (model X.prog X.w) X.A (do bindName X.env n .none;unbindBehindTheSuite X.env n hpos) (λ_ b=>R b) X.xe s:=by
  intro a H' c R C;have t:=c.offsuite ok;refine zA (oC (gP (v:=.non) t p hi (.inl hl) rfl (λN o=>?_) (.inr hl)));obtain⟨m,w,k⟩:=o.loc;have K:i<a.length:=by rw[t.len];exact(nB.mp hi).1
  obtain⟨u,M,I⟩:=k i n .non hi (vN K) (.inl hl);have L:m n=some u:=by
   rcases I with⟨_,z⟩|⟨z,_⟩
   ·exact z
   ·rcases z with z|z <;> (have y:X.env.scope.names.lookup n=_:=z;rw[hl]at y;cases y)
  unfold unbindBehindTheSuite;refine sW (zU (wpAny_unbindName_local hl w L F λh' v J G=>?_) (λ_ _ q=>q) λ_ _ q=>xO q);refine C _ ?_;have l:=o.unbind p hi hl w J G k;rw[List.set_set]at l;exact l
 cases f with
 |next=>obtain⟨a,H',c,q⟩:=h;exact g a H' c _ λb d=>⟨_,H',d,q⟩
 |brk=>obtain⟨a,H',c,q⟩:=h;exact g a H' c _ λb d=>⟨_,H',d,q⟩
 |cont=>obtain⟨a,H',c,q⟩:=h;exact g a H' c _ λb d=>⟨_,H',d,q⟩
 |ret u=>obtain⟨v,a,H',c,r,q⟩:=h;exact g a H' c _ λb d=>⟨v,_,H',d,r,q⟩
theorem Qd(d:X.stack=X.env:: X.outer)(r:X.env.frame=some X.env.locals)(R:X.ex=[])(T:X.N.Nodup)(hi:X.N[i]?=some n)(hl:X.env.scope.names.lookup n=some .local)
  (b5:Gl X x)(l:X.mg x=some (.ref C0))(c9:∀M E P,gY (X.body M E) P->PSs (X.body M E) body (tb P))(a9:∀e,PSs (X.suite e) (b₀:: suite) ts)
  (b6:(x == ("__debug__" :Str))=false:=by decide):PS X (.Try body [.ExceptHandler (some (.Name x np)) (some n) (b₀:: suite) hpos] [] [] pos) (tTry X.K C0 i tb ts):=by
 intro a s d1 H D I h;refine wpAny_Try_except (zU (c9 (X.pn++a) (λt b7=>wpAny (model X.prog X.w) X.A (noteFrame t X.env) (λ_ b2=>wpAny (model X.prog X.w) X.A (setFlight t none) (λ_ Z =>
  wpAny (model X.prog X.w) X.A (handleBy t X.env [.ExceptHandler (some (.Name x np)) (some n) (b₀:: suite) hpos]) (SP X a D) X.xe Z) X.xe b2) X.xe b7) _ ?_ [] s d1 H D I.intry h) (λf c q=>?_) λ_ _ q=>q)
 ·-- an exception arrives
  intro d5 g H' c e C b1 b0 c0;obtain⟨c1,c7⟩:=c0;have F:Inv X a g H' c:=b1.offtry;obtain⟨B,a0,fl,j,a4⟩:=b0;have G:Heap.FlyingW B (X.env:: X.outer) e C a0 c.heap:=d ▸ fl;have c2:X.A.frames=some (X.env:: X.outer):=I.ok.frames.trans (by rw[d]);have K:∀p∈X.pn++a,B.get? p.1=some p.2:=λp k=>a4 p (xE _ k)
  -- where e lies
  have m:∀b o,B.get? b=some o->b≠e:=λb o q z=>by have:=G.2.1;rw[←z,q]at this;cases this
  obtain⟨d2,a1,J,d7,a5,_⟩:=G.first;have S:e∉frs X.stack:=λl=>by
   obtain⟨_,o,W,a2⟩:=F.stack.mem l;rw[J]at W;cases W;exact a2 a1 a5
  have V:H' e=none:=by
   cases q:H' e with
   |none=>rfl
   |some v=>exact absurd rfl (m e _ (j e _ J S (.inr ⟨v,q⟩)))
  have c4:X.s₀.heap.get? e=none:=by
   cases q:X.s₀.heap.get? e with
   |none=>rfl
   |some o=>exact absurd rfl (m e _ (j e _ J S (.inl ⟨o,q⟩)))
  refine pQ c2 r G λd3 c5 N=>?_;refine oH c5 λw y O=>?_;have U:Inv X a g H' {c with heap:=w}:=F.flown d r R y.1 (N.trans O) j K;have a6:Inv (X.suite e) a g H' {c with heap:=w}:=U.insuite;obtain⟨d6,a8,b8⟩:=y.there;refine wpAny_handleBy_cons (codeAny_handlers_test (jI (X:=X.suite e) a6 b5 l ?_ b6)) (by intro q;cases q);have Y:PySem.W.Looks (model X.prog X.w) w (typeOf (.ref e)) C:=by
   rw[←b8];exact(rB a8).andThen .now
  refine(PySem.W.exm_one U.kIn Y c1).here ?_;show codeAny _ _ _ _ _;refine codeAny_handlers_suite_as ?_;refine lands_againW y λc3 L d0=>?_;have b3:Inv X a g H' {c with heap:=c3}:=F.flown d r R L.1 ((N.trans O).trans d0) j K;obtain⟨d8,vs,c8,a3,b9,_⟩:=L.first;have c6:=b3.trackE c8 a3 b9 V c4 λp k=>m _ _ (K p k);refine gP (X:=X.suite e) c6.insuite T hi (.inl hl) (show RelV (.ref e) (.ref e) from rfl) (λb4 a7=>?_) (.inr hl);refine zU (a9 e a b4 _ _ _ a7 (c7 e V)) (λf d4 q=>?_) λ_ _ q=>q.elim;exact Qe I.ok T hi hl q
 ·cases f with
  |next=>exact uM (SP.offtry q)
  |brk=>exact SP.offtry q
  |cont=>exact SP.offtry q
  |ret u=>exact SP.offtry q
end
section
variable {X:Cx}
theorem mK:OpR X (binaryOp .Mult) (rI (λi j=>IntMulOk i j) λi j=>.int (i*j)):=opI λ_ _ _ _ _ _ _ a q=>mul_int q a
def iS(_ j:Int):Prop:=j≠0/\j.natAbs.log2<9000
theorem lD:OpR X (binaryOp .FloorDiv) (rI iS λi j=>.int (i.fdiv j)):=opI λ_ _ _ _ _ _ _ a q=>floordiv_int a.1 q (.inl (PyProof.noPylong_of_log2 a.2))
end
mutual
inductive Dt(K:Frag)(H:Hp):V->PyData->Prop
 |non:Dt K H .non .none
 |bl (b):Dt K H (.bl b) (.bool b)
 |int (i):Dt K H (.int i) (.int i)
 |str (x):Dt K H (.str x) (.str x)
 |lst {a xs ds}:SqL K H a xs->Dts K H xs ds->Dt K H (.ref a) (.list ds)
 |tup {a xs ds}:SqT K H a xs->Dts K H xs ds->Dt K H (.ref a) (.tuple ds)
inductive Dts(K:Frag)(H:Hp):List V->List PyData->Prop
 |nil:Dts K H [] []
 |cons {x xs d ds}:Dt K H x d->Dts K H xs ds->Dts K H (x:: xs) (d:: ds)
end
theorem Dts.ints{K:Frag}{H:Hp}:∀(ns:LI'),Dts K H (ns.map V.int) (ns.map PyData.int)
 |[]=>.nil
 |n:: r=>.cons (.int n) (Dts.ints r)
section
variable {X:Cx} {pins:PN} {σ:St} {H:Hp} {s:Shared}
mutual
theorem Dt.reads(I:Inv X pins σ H s):∀{x:V}{d:PyData}{u:Value},Dt X.K H x d->RelV x u->∃as,Reads s.heap u d as
 |_,_,_,.non,r=>by cases(show _=Value.none from r);exact⟨_,.none⟩
 |_,_,_,.bl b,r=>by cases(show _=Value.bool b from r);exact⟨_,.bool b⟩
 |_,_,_,.int i,r=>by obtain⟨t,e⟩:=(show∃t,_=Value.int i t from r);cases e;exact⟨_,.int i t⟩
 |_,_,_,.str x,r=>by obtain⟨t,e⟩:=(show∃t,_=Value.str x t from r);cases e;exact⟨_,.str x t⟩
 |_,_,_,.lst (a:=a) h f,r=>by
  cases(show _=Value.ref a from r);obtain⟨its,g,⟨o,n,e,c,_,dd⟩,_⟩:=I.list h;obtain⟨as,q⟩:=Dts.reads I f g;exact⟨_,.list e c dd (by simpa using q)⟩
 |_,_,_,.tup (a:=a) h f,r=>by
  cases(show _=Value.ref a from r);obtain⟨its,g,⟨o,e,c,n,dd⟩,_⟩:=I.tuple h;obtain⟨as,q⟩:=Dts.reads I f g;exact⟨_,.tuple e c dd (by simpa using q)⟩
theorem Dts.reads(I:Inv X pins σ H s):∀{xs:List V}{ds:List PyData}{us:LW},Dts X.K H xs ds->Vals xs us->∃as,ReadsAll s.heap us ds as
 |_,_,_,.nil,r=>by cases r;exact⟨_,.nil⟩
 | _,_,_,.cons h t,r=>by
  cases r with
  |cons d a =>
   obtain⟨as,b⟩:=Dt.reads I h d;obtain⟨bs,c⟩:=Dts.reads I t a;exact⟨_,.cons b c⟩
end
end
section
variable {X:Cx}
def rEqD(K:Frag):R2:=λx y H Q=>∃d d',Dt K H x d/\Dt K H y d'/\SeqAt.shaped d=true/\SeqAt.shaped d'=true/\SeqAt.noMix d d'=true/\Q (.bl (same d d')) H
def rNeD(K:Frag):R2:=λx y H Q=>∃d d',Dt K H x d/\Dt K H y d'/\SeqAt.shaped d=true/\SeqAt.shaped d'=true/\SeqAt.noMix d d'=true/\Q (.bl (!same d d')) H
theorem Gj(g:X.A.units+64<cLine):OpR X (compareOp .NotEq) (rNeD X.K):=by
 intro m s n H x y v u Q I f c h;obtain⟨d,d',e,l,a,b,j,q⟩:=h;obtain⟨as,k⟩:=e.reads I f;obtain⟨bs,i⟩:=l.reads I c;exact ne_dataH_same k i a b g j ⟨.bl (!same d d'),H,I,rfl,q⟩
end
structure cW(K:Frag)(C:Addr):Prop where
 ga:PySem.W.findIn K (.ref C) "__getattribute__"=some (some (.builtin "BaseException.__getattribute__"))
 gt:PySem.W.findIn K (.ref C) "__getattr__"=some none
 ca:PySem.W.findIn K (.ref C) "__class__"=some (some (.builtin "object.__class__"))
 cg:PySem.W.specialIn K (.builtin "object.__class__") "__get__"=some (some (.builtin "getset_descriptor.__get__"))
 tk:PySem.W.takesIn K (.builtin "object.__class__")=some true
 ob:PySem.W.mroIn K C (.type "object")=some true
 bx:PySem.W.mroIn K C (.type "BaseException")=some true
 cl:(PySem.W.clsIn K C).isSome=true
theorem Qb{prog:Program}{w:World}{A:Around}{E:VP}{s:Shared}{K:Frag}{x C:Addr}{Q:Option Value->Shared->Prop}(a:cW K C)(KX:K.In s.heap)(e:∃o,s.heap.get? x=some o/\o.cls=.ref C)
  (h:Q (some (.ref C)) {s with toks:=s.toks+1}):wpAny (model prog w) A (getAttr? (.ref x) "__class__") Q E s:=by
 obtain⟨hh,g,d,t,z⟩:=s;obtain⟨o,e,b⟩:=e;have c:PySem.W.Looks (model prog w) hh (typeOf (.ref x)) (.ref C):=b ▸ (rB e).andThen .now;have p:=uB (M:=model prog w) KX a.ga;have k:=uB (M:=model prog w) KX a.gt;have i:=uB (M:=model prog w) KX a.ca;have m:=PySem.W.looks_specialIn (M:=model prog w) KX a.cg;have r:=PySem.W.looks_takesIn (M:=model prog w) KX a.tk;have n:=qD (M:=model prog w) KX a.ob;have v:=qD (M:=model prog w) KX a.bx;unfold getAttr? getAttrBy? getAttrBy;refine zA (wpAny_mkText (zA (wZ (yL (zA (c.at (zA (p.at ?_))))))));show wpAny _ _ (getAttrByItsOwn _ _ _ _ _ _) _ _ _;unfold getAttrByItsOwn;refine zA (show wpAny _ _ (hookBefore (.ref C)) _ _ _ from k.at ?_);refine zA (wZ (yL ?_));show wpAny _ _ (boundAndCalled _ _ _) _ _ _;unfold boundAndCalled;rw[PySem.F.attr_ValueError.ga.bind (.ref x)];refine zA (zB (uC ?_));refine tI PySem.F.attr_ValueError.ga.plain PySem.F.entry_bexc_ga ?_;have u:builtinKind "BaseException.__getattribute__"=some .slot:=nofun
 have f:splitId "BaseException.__getattribute__"=some ("BaseException","__getattribute__"):=nofun
 have y:=PySem.F.args_bexc_ga (.ref x) (.str "__class__" t);have l:PySem.W.Looks (model prog w) hh (isInstance (.ref x) (.type "BaseException")) true:=c.andThen v;show wpAny _ _ (checkBuiltinCall "BaseException.__getattribute__" ⟨[.ref x,.str "__class__" t],[]⟩) _ _ _;simp only[checkBuiltinCall,u,f];refine zA (l.at ?_)
 repeat wp_step
 rw[b];refine i.at ?_;refine zA (show wpAny _ _ (Builtin.ObjectAttr.getOf (some (.builtin "object.__class__"))) _ _ _ from m.at ?_);have q:PySem.W.Looks (model prog w) hh (Builtin.ObjectAttr.dataDescriptor? (some (.builtin "object.__class__")) (some (.builtin "getset_descriptor.__get__"))) (some (.builtin "getset_descriptor.__get__",.builtin "object.__class__")):=r.andThen .now;refine zA (q.at ?_)
 repeat wp_step
 have j:PySem.W.Looks (model prog w) hh (isInstance (.ref x) (.type "object")) true:=c.andThen n;refine tI PySem.W.KF.slot_gs.plain PySem.W.KF.entry_gs (PySem.W.KF.slot_gs.check _ _ _ _ _ _ _ _ PySem.W.KF.type_class (PySem.W.KF.args_gs _ _ _) ?_)
 (unfold Builtin.«getset_descriptor.__get__» Builtin.Getset_descriptor.descrGet;rw[PySem.W.dga_obj];refine zA (zB ?_))
 (unfold Builtin.Getset_descriptor.descrGetter Builtin.Getset_descriptor.descrCheckInstance Builtin.Getset_descriptor.descrNameAndClass;simp only[PySem.W.KF.owner_class])
 refine zA (zA (zB (zA (j.at (zB ?_)))))
 repeat wp_step
 refine⟨qL _ (nofun),tU PySem.W.KF.entry_class ?_⟩
 (unfold Builtin.«object.__class__» shownTypeOf;repeat wp_step)
 rw[b];exact zB (zB h)
theorem Qa{K:Frag}{x C:Addr}(a:cW K C):PySem.W.KitX K (.ref x) (.ref C) (λh=>∃o,h.get? x=some o/\o.cls=.ref C) where
 ty:=λM h _⟨o,g,c⟩=>c ▸ (rB g).andThen .now
 it:=λM h KX _=>by
  have q:=a.cl;unfold PySem.W.clsIn at q;split at q
  ·next b =>
   intro l t r m k z
   (unfold isType loadHead;exact zA (pW (k _ _ (KX _ _ b)) (zB z)))
  ·cases q
 ne:=λh d dd its n j KX i=>by
  have q:=a.cl;refine Bool.eq_false_iff.mpr λz=>?_;have e:C=d:=Value.ref.inj (oO.mp z);subst e;unfold PySem.W.clsIn at q;split at q
  ·next b=>exact absurd ((KX _ _ b).symm.trans i) (by intro f;cases f)
  ·cases q
 ca:=λKX p k=>Qb a KX p k
inductive TyX(K:Frag)(H:Hp):V->Value->Prop where
 |ty {x:V} {t:Value} (h:TyOf K H x t):TyX K H x t
 |exc {e C:Addr} (h:H e=some (dF e (.ref C))) (F:cW K C):TyX K H (.ref e) (.ref C)
 |tupS {a:Addr} {xs:List V} (h:SqT K H a xs):TyX K H (.ref a) (.type "tuple")
def clsV:V->Value
 |.ty n=>.type n
 |.ref a=>.ref a
 |_=>.none
def Gi:V->Bool
 |.ty _=>true
 |.ref _=>true
 |_=>false
def rIsi(K:Frag):List V->Hp->VK->Prop:=λvs H Q=>∃x c t b,vs=[x,c]/\TyX K H x t/\Gi c=true/\PySem.W.kitOne K t (clsV c)=some b/\Q (.bl b) H
theorem gD{X:Cx}:lZ X (.builtin "isinstance") (rIsi X.K):=by
 intro n s r H xs us Q I g h;obtain⟨x,c,t,b,rfl,ty,k,e,q⟩:=h;obtain⟨u,w,rfl,d,m⟩:=g.two;have j:w=clsV c:=by
  cases c <;> first|exact m|cases k
 subst j;have a:∀tk,EP X n r Q (.bool b) {s with toks:=tk}:=λtk=>⟨.bl b,H,I.tok tk,rfl,q⟩;cases ty with
 |ty h=>exact Po I d h e a
 |exc h i =>
  obtain rfl:u=_:=d;obtain⟨f,_,_⟩:=(show mI X.prog X.w H s.heap _ (dF _ _) from I.hok _ _ h);exact xP (Qa i) I.kIn f e (λz=>nomatch z) a
 |tupS h =>
  obtain rfl:u=_:=d;obtain⟨its,_,⟨o,l,p,_⟩,_⟩:=I.tuple h;exact xP PySem.W.kitx_tuple I.kIn ⟨o,l,p⟩ e (λz=>nomatch z) a
structure jB(k:Nat)(A:Around):Prop where
 dp:A.depth+3*k+5<recursionLimit
 un:A.units+16*k+200<cLine
theorem Room.a{k:Nat}{A:Around}(r:Room k A):jB k A:=⟨r.dp,r.un⟩
theorem jB.mono{j k:Nat}{A:Around}(r:jB k A)(h:j<=k):jB j A:=⟨by have:=r.dp;omega,by have:=r.un;omega⟩
theorem jB.deeper{k:Nat}{A:Around}(r:jB (k+1) A)(env:Env):jB k (A.deeper env):=
 ⟨by have:=r.dp;show A.depth+1+3*k+5<_;omega,by have:=r.un;show A.units+3+16*k+200<_;omega⟩
theorem jB.mark{k:Nat}{A:Around}(r:jB k A)(v:Option Value):jB k (A.mark v):=⟨r.dp,r.un⟩
structure cX(P:Program)(w:World)(K:Frag)(mg:MT)(base:Heap)(k:Nat)(f:Addr)(fd:FuncData)(ps:List Str)(sp:Sp):Prop where
 len:∀vs H Q E,sp vs H Q E->vs.length=ps.length
 run:∀(A:Around)(outer:List Env)(s:Shared)(H:Hp)(args:Args)(us:LW)(vs:List V)(Q:VK)(E:XK),jB k A->Env0 P w K mg base A outer s H->BindsTo s fd args (ps.zip us)->Vals vs us->sp vs H Q E ->
  codeAny (model P w) A (.call (.ref f) args) (CR CX0 outer P w H s Q E) s
abbrev cxA(P:Program)(w:World)(K:Frag)(mg:MT)(base:Heap)(N:List Str)(qual:Str)(scope:Scope)(f:Addr)(cd:Value)(A:Around)(outer:List Env)(s:Shared)(H:Hp)(E:XK):Cx:=
 {cxOf CX0 P w K mg base N qual scope f cd A outer s H E with calm:=false,xe:=λ_ _=>False}
section
variable {P:Program} {w:World} {K:Frag} {mg:MT} {base:Heap}
theorem Fun.okA{x g:Str}{st:Stmt}{f:Addr}{C:FuncData}{N ps:List Str}{k:Nat}{j:Sp}(D:Fun K x g st f C)(S:nZ N ps (nM st))(len:∀vs H Q E,j vs H Q E->vs.length=ps.length)
  (O:∀(cdv:Value)(A:Around)(outer:List Env)(s:Shared)(H:Hp)(vs:List V)(Q:VK)(E:XK),jB k (A.deeper (envOfC g (nM st) s.heap.objs.size f cdv))->j vs H Q E ->
   ∃t,PSs (cxA P w K mg base N g (nM st) f cdv A outer s H E) (kQ st) t/\t {nx:=λ_ H'=>Q .non H',rt:=Q} (start N vs) H):cX P w K mg base (k+1) f C ps j:=by
 obtain⟨Y,a5,kV,a6,a4,a3,cdv,a1,a2,rfl,J,F⟩:=D.ex;refine⟨len,λA outer s H a0 us vs Q E hr c W r p=>?_⟩;have hl:=len _ _ _ _ p;have l:∀b o,base.get? b=some o->s.heap.get? b=some o:=λb o e=>(c.bs b o e).1;have X:∀y∈ps.zip us,(nM st).names.lookup y.1=some .local\/((nM st).names.lookup y.1=some .cell/\((cellsFrom (s.heap.objs.size+1) (nM st).names []).lookup y.1).isSome=true):=λ⟨n,v⟩T=>by
  rcases S.par n (tP T).1 with q|q
  ·exact .inl q
  ·exact .inr ⟨q,sK _ _ _ (.inl q)⟩
 refine codeAny_call_function (by have:=hr.dp;omega) (c.mod.kin.keeps l _ _ J) rfl S.co S.gen rfl (PySem.W.codeRec_of (c.mod.kin.keeps l) F) (W _ _ _ _ ?_);refine wpAny_newFunctionEnv_cells S.kind X λenv U m x=>?_;subst U;refine⟨(c.mod.nolimit.keeps l).keeps x.toInCall.keep,codeAny_func ?_⟩;obtain⟨t,M,R⟩:=O cdv A outer s H vs Q E (hr.deeper _) p;have a:Inv (cxOf CX0 P w K mg base N g (nM st) f cdv {A with handled:=none} outer s H E) [] (start N vs) H m:=
  Gx S rfl (⟨c.frames,c.mod,c.bs,c.bsz,c.funs,c.frf,c.hok,c.bare⟩:Env0 P w K mg base {A with handled:=none} outer s H) hl r x
 have I:Inv (cxA P w K mg base N g (nM st) f cdv A outer s H E) [] (start N vs) H m:=
  ⟨⟨a.ok.mod,a.ok.kind,a.ok.glob,a.ok.blt,a.ok.above,a.ok.inj,a.ok.has,a.ok.cab,(λz=>by cases z),Around.frames_deeper c.frames,a.ok.stk,a.ok.exf,a.ok.bs,a.ok.bsz,a.ok.noex,a.ok.exfs,a.ok.funs,a.ok.frf⟩,
   a.os,a.bare,a.base,a.loc,a.cell,a.free,a.freeC,a.pin,a.hok,a.len⟩
 refine zU (M [] m (start N vs) H _ I R) (λfl Z i=>?_) λ_ _ z=>z.elim;cases fl with
 |ret u=>obtain⟨v,G,H',d,L,q⟩:=i;exact⟨v,H',d.os,d.bare,d.base,d.hok,L,q⟩
 |next=>obtain⟨G,H',d,q⟩:=i;exact⟨.non,H',d.os,d.bare,d.base,d.hok,rfl,q⟩
 |brk=>obtain⟨_,_,_,q⟩:=i;exact q.elim
 |cont=>obtain⟨_,_,_,q⟩:=i;exact q.elim
end
section
variable {X:Cx} {k:Nat} {f:Addr} {fd:FuncData} {ps:List Str} {sp:Sp} {dvs:List V} {ds:LW} {x:Str} {p pos:Pos} {e:Expr} {es:List Expr} {t:TA}
theorem Rz(g:cX X.prog X.w X.K X.mg X.base k f fd ps sp)(hr:jB k X.A)(w:Gl X x)(j:X.mg x=some (.ref f))(C:PySem.W.keepIn X.K (.ref f)=true)(n:mZ X.K fd ps ds)(v:Vals dvs ds)
  (o:PA X (e:: es) t)(y:(x == ("__debug__" :Str))=false:=by decide)(l:starEach (e:: es) X.env=(false,eval e X.env):: starEach es X.env:=by rfl)(i:(backTo pos (starEach es X.env)).any (·.1)=false:=by rfl):
  PE X (.Call (.Name x p) (e:: es) [] pos) (kP sp dvs E0 t):=by
 intro z s D H Q I h;refine wK (jI I w j ?_ y);refine vP (h₀:=X.base) I.ok.mod.kin C (thn (o pos z s D H _ I h) λus c⟨vs,m,b,r,q⟩=>⟨b.kIn,?_⟩) l i;have d:Vals (vs++dvs) (us++ds):=r.append v;have hl:(us++ds).length=ps.length:=by rw[←d.length];exact g.len _ _ _ _ q
 refine uC (wV (g.run X.A X.stack c m ⟨us,[]⟩ (us++ds) (vs++dvs) Q E0 hr b.env0 (n c us b.kIn hl) d q) λr F a=>?_);cases r with
 |error e=>exact False.elim a
 |ok fl =>
  cases fl with
  |ret u=>exact b.after a
  |next=>exact False.elim a
  |brk=>exact False.elim a
  |cont=>exact False.elim a
end
section
variable {X:Cx}
theorem jC:OpR X (compareOp .Eq) (rI0 λi j=>.bl (decide (i=j))):=opB0 λi j _ _ _ _ _ q=>eq_int (by rw[Bool.beq_eq_decide_eq];exact q)
theorem jK:OpR X (compareOp .NotEq) (rI0 λi j=>.bl (!decide (i=j))):=opB0 λi j _ _ _ _ _ q=>ne_int (by rw[bne,Bool.beq_eq_decide_eq];exact q)
theorem PS.nox{st:Stmt}{t:TS}(h:PS X.nox st t):PS X st t:=λb s c H D I a =>
 zU (h b s c H D (I.wish _) a) (λ_ _ q=>q.unwish) λ_ _ z=>z.elim
end
section
variable {P:Program} {w:World} {K:Frag} {mg:MT} {base:Heap}
theorem Fun.okX{x b:Str}{st:Stmt}{f:Addr}{c:FuncData}{N ps:List Str}{k:Nat}{a:Sp}(e:Fun K x b st f c)(S:nZ N ps (nM st))(len:∀vs H Q E,a vs H Q E->vs.length=ps.length)
  (d:∀(cdv:Value)(A:Around)(outer:List Env)(s:Shared)(H:Hp)(vs:List V)(Q:VK)(E:XK),Room k (A.deeper (envOfC b (nM st) s.heap.objs.size f cdv))->a vs H Q E ->
   ∃t,PSs (cxOf (CX1 P w) P w K mg base N b (nM st) f cdv A outer s H E) (kQ st) t/\t {nx:=λ_ H'=>Q .non H',rt:=Q} (start N vs) H):FnOk P w K mg base (CX1 P w) (k+1) f c ps a:=by
 obtain⟨l,o,kV,q,m,r,cdv,n,p,rfl,i,g⟩:=e.ex;exact Ak i g S len λA outer s H vs Q E hr j=>d cdv A outer s H vs Q E hr j
end
end L2
namespace Att
open PySem PySem.W PySem.Calls PyProof.Rows
theorem Gh:∀ns:LI',ofPys (ns.map PyData.int)=ns.map WData.int
 |[]=>rfl
 |n:: r=>by
  show ofPy (.int n):: ofPys (r.map PyData.int)=_;rw[Gh r];rfl
theorem Ry{ns:LI'}(h:(WData.list (ns.map WData.int)).layable=true):∀n∈ns,Builtin.Int.intBits n<=1048576:=λn b=>by
 have e:ofPy (.list (ns.map PyData.int))=WData.list (ns.map WData.int):=by
  show WData.list (ofPys (ns.map PyData.int))=_;rw[Gh]
 have a:PySem.Spec.Shape.has (.list .int) (.list (ns.map PyData.int))=true:=by
  simp[PySem.Spec.Shape.has]
 exact intBits_le_of_item b (layable0_of_all (lay0_ofPy (s:=.list .int) rfl a (by rw[e];exact h)))
theorem attach_callB{l:OpenLaw}{n:Nat}{q:Program}{t:List Str}{k:(MT)->Heap->Prop}{p:World->Heap->Prop}{d:DefRec}(T:l.most=some n)(K:d.params.defaults=[])
  (call:∀(w:World)(j b:Shared)(e i:MT)(g:Addr)(a:Addr)(vs:LW)(ns:LI'),Ground q t [] k w j e i b.heap->p w b.heap->e d.name=some (.ref g) ->
   b.heap.get? a=some {cls:=.type "list",data:=.seq vs.toArray}->IntsAre vs ns->ns.length<=n->(∀m∈ns,Builtin.Int.intBits m<=1048576)->b.gens=#[] ->
   codeAny (model l.prog w) callerA (.call (.ref g) ⟨[.ref a],[]⟩) (λr c=>r=.ok (.ret (.bool true))/\OldK b.heap c.heap/\c.os=b.os/\AllBare c.gens) b):
  WalkO q t k p l.row.toRowW d [] (λf vs=>PySem.call f vs):=by
 intro w j b e i G I g o Y Z a2 L kV a0 W U u S F V vals as M y a1 v X;obtain rfl:L=.none:=Dflts.none u K;obtain rfl:kV=.none:=Dflts.noKw u;obtain⟨a,vs,ns,rfl,rfl,x,C,P⟩:=Qj T M v;have R:=Ry (layableW_arg y _ zV);refine enter_call (wV (call w j b e i g a vs ns G I S x C P R F) λr c O=>?_);obtain⟨rfl,N,J,z⟩:=O;exact⟨.inl ⟨.bool true,.bool true,[],rfl,λ_=>rfl,.bool true,Qi l _,λ_=>⟨List.Pairwise.nil,λ_ D=>(nomatch D)⟩⟩,N,J,z⟩
end Att
namespace L2
open PySem PySem.Spec PyProof.Rows
open PySem.W (Frag)
def Gg(K:Frag):Sp:=λvs H Q _=>∃(a:Addr)(ns:LI'),vs=[.ref a]/\SqL K H a (ns.map V.int)/\ns.length<=63/\(∀m∈ns,Builtin.Int.intBits m<=1048576)/\∀H',Q (.bl true) H'
theorem walkB{l:PySem.W.OpenLaw}{k:Nat}{q:Program}{v:List Str}{o:(MT)->Heap->Prop}{i:World->Heap->Prop}{d:DefRec}{K:Params->Frag}{x:Str}
  (M:l.most=some 63)(D:d.params.defaults=[])(hr:Room k callerA)(n:∀(w:World)(h:Heap),i w h->(K w.params).In h)
  (r:∀(w:World)(b:MT)(c:Addr)(h:Heap),(K w.params).In h->h.Ns mainGlobals b->b d.name=some (.ref c) ->
   ∃g:FuncData,(∀(s:Shared)(u:Value),BindsTo s g ⟨[u],[]⟩ [(x,u)])/\∀base:Heap,(K w.params).In base->base.Ns mainGlobals b->FnOk l.prog w (K w.params) b base CX0 k c g [x] (Gg (K w.params))):
  PySem.W.WalkO q v o i l.row.toRowW d [] (λf vs=>PySem.call f vs):=by
 refine Att.attach_callB M D λw R O b P c a vs ns G C J m t j L y=>?_;have KX:=n w _ C;obtain⟨g,F,I⟩:=r w b c _ KX G.T.g J;exact Qh KX G.T.g G.T.b G.T.builtins G.T.nolimit y m t (yH j ∅) hr I F (λH _ p=>⟨a,ns,rfl,p,j,L,λ_=>rfl⟩) λH e N z=>z
theorem lO{d:TI}{g:TG}{tb:TS}{D:Ends}{a:St}{H:Hp}(h:∀B:TS,B=tb->d a H λb k=>∃c:Nat->Nat->St->Hp->Prop,(∃m,c 0 m a k)/\∀i m a H,c i m a H ->
  (b.stop i H/\D.nx a H)\/(b.go i H/\∃N:St->Hp->Prop,(∀e H',N e H'->∃f,f<m/\c (i+1) f e H')/\∀x H',b.yld i H x H'->g x a H' λj l=>B {D with nx:=N,ct:=N,bk:=D.nx} j l)):tFor d g tb D a H:=h _ rfl
theorem Bv{c:TT}{tb:TS}{D:Ends}{a:St}{H:Hp}(h:∀B:TS,B=tb->∃d:Nat->St->Hp->Prop,(∃m,d m a H)/\∀m a H,d m a H ->
  c a H λb e=>if b=true then∃N:St->Hp->Prop,(∀f H',N f H'->∃g,g<m/\d g f H')/\B {D with nx:=N,ct:=N,bk:=D.nx} a e else D.nx a e):Fp c tb D a H:=h _ rfl
theorem st{t u:TS}{D:Ends}{b:St}{H:Hp}(h:∀a:St->Hp->Prop,a=u D->t {D with nx:=a} b H):tSeq t u D b H:=h _ rfl
section
variable {g:Int->Int->V} {C:Int->Int->Prop} {f:Int->V} {i j:Int} {H:Hp} {Q:VK}
theorem u_f:rI0 g (.int i) (.int j) H Q=Q (g i j) H:=propext ⟨λ⟨_,_,e1,a,q⟩=>by cases e1;cases a;exact q,λq=>⟨_,_,rfl,rfl,q⟩⟩
theorem u_X:rI C g (.int i) (.int j) H Q=(C i j/\Q (g i j) H):=propext ⟨λ⟨_,_,e1,a,q⟩=>by cases e1;cases a;exact q,λq=>⟨_,_,rfl,rfl,q⟩⟩
theorem u_Y:rU f (.int i) H Q=Q (f i) H:=propext ⟨λ⟨_,e1,q⟩=>by cases e1;exact q,λq=>⟨_,rfl,q⟩⟩
end
theorem Same.new{H:Hp}{a:Addr}{o:HO}(h:H a=none):Same H (upd H a o):=λb u e=>by rw[nN (mX e h)];exact e
theorem Same.over{H c:Hp}{a:Addr}{o:HO}(h:H a=none)(s:Same H c):Same H (upd c a o):=λb u e=>by rw[nN (mX e h)];exact s b u e
theorem Same.tup{K:Frag}{H H':Hp}{a:Addr}{xs:List V}(e:Same H H')(h:SqT K H a xs):SqT K H' a xs:=by
 rcases h with(h|⟨o,h⟩)|h
 ·exact .inl (.inl (e _ _ h))
 ·exact .inl (.inr ⟨o,e _ _ h⟩)
 ·exact .inr h
section
variable {K:Frag} {a b:Addr} {xs:List V} {te:TE} {fr:List (Str×Nat)} {σ:St} {H:Hp} {Q:VK}
def v_n(H:Hp)(a:Addr)(R:Nat->V->Prop)(i:Nat)(H1:Hp):Prop:=Same H H1/\∃ys:List V,H1 a=some (.lst ys)/\ys.length=i/\∀j y,ys[j]?=some y->R j y
end
theorem kR{b a:Type}{ys:List a}{xs:List b}{f:b->a}(hl:ys.length=xs.length)(h:∀(j:Nat)(y:a),ys[j]?=some y->∃x,xs[j]?=some x/\y=f x):ys=xs.map f:=by
 refine tK (by simpa using hl) λi d k=>?_;obtain⟨x,e1,c⟩:=h i ys[i] (by simp[d]);obtain⟨g,e⟩:=nB.mp e1;rw[tE,c,e]
def lP(sc scope:Scope):Scope:={scope with names:=scope.names.map λ(n,k)=>if(k == .free && sc.kind == .function && sc.names.lookup n == some .cell) then(n,.cell) else(n,k)}
theorem Gf{a sc:Scope}{env:Env}(h:env.scope=sc):relabel a env=lP sc a:=by subst h;rfl
theorem dG:∀(a:List (Str×NameKind))(n:Nat)(acc:List (Str×Addr)),cellsFrom n a acc=cellsFrom n a []++acc
 |[],_,_=>rfl
 |(x,k):: r,n,acc=>by
  unfold cellsFrom;split
  ·rw[dG r (n+1) ((x,n):: acc),dG r (n+1) [(x,n)],yO];rfl
  ·exact dG r n acc
theorem Bu{y:Str}{b:Addr}:∀{a:List (Str×NameKind)}{n:Nat}{acc:List (Str×Addr)},(y,b)∈cellsFrom n a acc->(y,b)∈acc\/(y,NameKind.cell)∈a
 |[],_,_,h=>.inl h
 | (x,k):: r,n,acc,h=>by
  unfold cellsFrom at h;split at h
  ·rename_i c;rcases Bu h with q|q
   ·rcases xC.mp q with e|e
    ·have d:k=.cell:=by simpa using c
     cases e;exact .inr (by rw[d];exact zV)
    ·exact .inl e
   ·exact .inr (zN _ q)
  ·rcases Bu h with q|q
   ·exact .inl q
   ·exact .inr (zN _ q)
theorem dH{y:Str}:∀{a:List (Str×NameKind)}{n:Nat}{acc:List (Str×Addr)},((y,NameKind.cell)∈a\/∃b,acc.lookup y=some b)->∃b,(cellsFrom n a acc).lookup y=some b
 |[],_,_,h=>by
  rcases h with h|h
  ·simp at h
  ·exact h
 | (x,k):: r,n,acc,h=>by
  unfold cellsFrom;split
  ·rename_i c;refine dH ?_;rcases h with h|⟨b,h⟩
   ·rcases xC.mp h with e|e
    ·cases e;exact .inr ⟨n,by rw[xG];simp⟩
    ·exact .inl e
   ·rw[xG];cases hx:y == x with
    |true=>exact .inr ⟨n,rfl⟩
    |false=>exact .inr ⟨b,h⟩
  ·rename_i c;refine dH ?_;rcases h with h|h
   ·rcases xC.mp h with e|e
    ·cases e;simp at c
    ·exact .inl e
   ·exact .inr h
theorem Bt{env:Env}{q:NameKind}:∀{f:List (Str×NameKind)}{x:Str},
  (f.map λ(n,k)=>if(k == NameKind.free && env.scope.kind == .function && env.kindOf n == some .cell) then(n,NameKind.cell) else(n,k)).lookup x=some q ->
  (q=.cell\/q=.free)->(x,NameKind.free)∈f\/(x,NameKind.cell)∈f
 |[],_,h,_=>by simp at h
 | (n,k):: r,x,h,c=>by
  have g:=@Bt env q r x;rw[zM]at h;dsimp only at h
  by_cases d:(k == NameKind.free && env.scope.kind == .function && env.kindOf n == some .cell)=true
  ·rw[zE d,xG]at h;cases hx:x == n with
   | true =>
    have b:x=n:=by simpa using hx
    have a:k=.free:=by
     have:=(zQ _ _ ▸ ((zQ _ _ ▸ d).1)).1;simpa using this
    rw[b,a];exact .inl zV
   |false =>
    rw[hx]at h;exact(g h c).imp (zN _) (zN _)
  ·rw[zD d,xG]at h;cases hx:x == n with
   |true =>
    rw[hx]at h;have b:x=n:=by simpa using hx
    have a:k=q:=yA h;rcases c with e|e
    ·rw[b,a,e];exact .inr zV
    ·rw[b,a,e];exact .inl zV
   |false =>
    rw[hx]at h;exact(g h c).imp (zN _) (zN _)
theorem Ge{b:Type}{x:Str}{k k':b}:∀{l:List (Str×b)},(l.map (·.1)).Nodup->(x,k)∈l->(x,k')∈l->k=k'
 |(n,q):: r,d,h,h'=>by
  obtain⟨c,f⟩:=rL.mp d;rcases xC.mp h with e|e <;> rcases xC.mp h' with a|a
  ·cases e;cases a;rfl
  ·cases e;exact absurd (oR.mpr ⟨_,a,rfl⟩) c
  ·cases a;exact absurd (oR.mpr ⟨_,e,rfl⟩) c
  ·exact Ge f e a
theorem Gc{M:Model}{A:Around}{E:VP}{s:Shared}{a:Scope}{d:Addr}{b:List (Str×Addr)}{e:Str}{c:Option Addr}{f:Value}{env:Env}{bl:Addr}{Q:Env->Shared->Prop}
  (h:Q (newEnv a s.heap.objs.size d (cellsFrom (s.heap.objs.size+1) a.names b) e c f (some env) bl) {s with heap:=pushCells (s.heap.push {cls:=.type "dict",data:=.dict #[]}) a.names}):
  wpAny M A (newFunctionEnv a d b [] e c f (some env) bl) Q E s:=by
 simp only[newFunctionEnv,Option.isSome_some,if_true];refine zA (wpAny_alloc ?_);refine zA (wpAny_layCells _ (λname g cells=>by cases hkc:g == NameKind.cell <;> simp[hkc]) _ _ _ _ ?_);rw[show({s with heap:=s.heap.push {cls:=.type "dict",data:=.dict #[]}}:Shared).heap.objs.size=s.heap.objs.size+1 from xM ..];exact zB h
def mT(X:Cx)(scope:Scope)(N:List Str)(s:Shared)(H:Hp)(fp:LA):Cx:=
 {X with N:=N,s₀:=s,H₀:=H,env:=compEnvC scope (cellsFrom (s.heap.objs.size+1) scope.names (clOf X.env scope.names [])) s.heap.objs.size X.env,outer:=X.stack,ex:=fp,fn:=λy=>scope.names.lookup y == some .cell,pn:=[],xe:=λ_ _=>False}
structure kS(X:Cx)(sc scope:Scope)(xs:List Str)(fr:List (Str×Nat)):Prop where
 hsc:X.env.scope=sc
 kind:scope.kind=.function
 nn:(scope.names.map (·.1)).Nodup
 free:∀y∈scope.names,y.2=.free->sc.names.lookup y.1=some .cell\/sc.names.lookup y.1=some .free
 loc:∀y∈scope.names,y.2=.local->scope.names.lookup y.1=some .local
 fr:∀p∈fr,X.N[p.2]?=some p.1/\scope.names.lookup p.1=some .free
section
variable {X:Cx} {sc scope:Scope} {xs:List Str} {fr:List (Str×Nat)}
theorem kS.free'(c:kS X sc scope xs fr):∀y∈scope.names,y.2=.free->X.env.kindOf y.1=some .cell\/X.env.kindOf y.1=some .free:=λy b a=>by
 unfold Env.kindOf;rw[c.hsc];exact c.free y b a
theorem kS.cells{d:PN}{e:St}{H:Hp}{s:Shared}(c:kS X sc scope xs fr)(I:Inv X d e H s):∀y∈scope.names,y.2=.free->∃c,X.env.cells.lookup y.1=some c:=
 λy b a=>I.ok.has y.1 (c.free' y b a)
theorem kS.was{a:PN}{d:St}{H:Hp}{s:Shared}(c:kS X sc scope xs fr)(I:Inv X a d H s){y:Str}{b:Addr}(h:(clOf X.env scope.names []).lookup y=some b):X.env.cells.lookup y=some b:=by
 rcases Gn (c.cells I) h with q|q
 ·simp at q
 ·exact q
theorem fS{a:List (Str×NameKind)}{n:Nat}{d:List (Str×Addr)}{y:Str}{b:Addr}(h:(cellsFrom n a d).lookup y=some b):(cellsFrom n a []).lookup y=some b\/((cellsFrom n a []).lookup y=none/\d.lookup y=some b):=by
 rw[dG,List.lookup_append]at h;cases q:(cellsFrom n a []).lookup y with
 |none=>rw[q]at h;exact .inr ⟨rfl,h⟩
 |some c=>rw[q]at h;exact .inl h
theorem Gb{x:PN}{l:St}{H:Hp}{s:Shared}{L:LA}(c:kS X sc scope xs fr)(I:Inv X x l H s)
  (C:∀b∈L,FpOk X x H b/\∃o,s.heap.get? b=some o):
  Inv (mT X scope (xs++fr.map (·.1)) s H L) [] (xs.map (λ_=>none)++lG fr l) H {s with heap:=pushCells (s.heap.push {cls:=.type "dict",data:=.dict #[]}) scope.names}:=by
 have k:∀b o,s.heap.get? b=some o->(pushCells (s.heap.push {cls:=.type "dict",data:=.dict #[]}) scope.names).get? b=some o:=λb o e=>rN _ _ b o (zC _ e);have M:(pushCells (s.heap.push {cls:=.type "dict",data:=.dict #[]}) scope.names).Ns s.heap.objs.size (λ_=>none):=(Heap.Ns.new s.heap (.type "dict")).keeps (rN _ _);have ok:=cellsFrom_ok scope.names (s.heap.push {cls:=.type "dict",data:=.dict #[]}) (s.heap.objs.size+1) [] ⟨λ_ _ d=>(nomatch d),List.Pairwise.nil⟩ (by rw[xM];exact zG _);rw[xM]at ok;have t:Inv X x l H {s with heap:=pushCells (s.heap.push {cls:=.type "dict",data:=.dict #[]}) scope.names}:=I.kept (t':=s.toks) k;generalize hh:pushCells (s.heap.push {cls:=.type "dict",data:=.dict #[]}) scope.names=N at k M ok t;have F:∀{y:Str}{b:Nat},(clOf X.env scope.names []).lookup y=some b->b<s.heap.objs.size:=λ{y b}e=>by
  obtain⟨v,z⟩:=I.cell y b (c.was I e);exact z.lt
 have own:∀{y:Str}{b:Nat},(cellsFrom (s.heap.objs.size+1) scope.names []).lookup y=some b->N.IsCell b none/\s.heap.objs.size+1<=b:=λ{y b}e=>ok.empty y b (mem_of_lookup e);refine⟨⟨I.ok.mod,c.kind,I.ok.glob,I.ok.blt,zG _,λy z b r a=>?_,λy m=>?_,λy b T r=>?_,I.ok.hd,I.ok.frames,.inl rfl,λb n=>?_,λb o e=>?_,?_,λb o e n=>?_,λb n U=>?_,?_,λb n=>?_⟩,
  rfl,I.bare,Un.kept k,⟨_,M,λi y v r a a3=>?_⟩,λy b h=>?_,?_,λy b h=>?_,λp P=>absurd (show p∈([]:PN) from P) (by simp),t.hok,?_⟩
 ·rcases fS r with e1|⟨_,e1⟩ <;> rcases fS a with f|⟨_,f⟩
  ·exact name_of_addr ok.apart (mem_of_lookup e1) (mem_of_lookup f)
  ·exact absurd (zL (F f) (pE (own e1).2)) (yR _)
  ·exact absurd (zL (F e1) (pE (own f).2)) (yR _)
  ·exact I.ok.inj y z b (c.was I e1) (c.was I f)
 ·show∃b,(cellsFrom (s.heap.objs.size+1) scope.names (clOf X.env scope.names [])).lookup y=some b;have d:(y,NameKind.free)∈scope.names\/(y,NameKind.cell)∈scope.names:=by
   rcases m with m|m
   ·exact Bt m (.inl rfl)
   ·exact Bt m (.inr rfl)
  rcases d with d|d
  ·exact dH (.inr (By (.inl d)))
  ·exact dH (.inl d)
 ·have m:scope.names.lookup y=some .cell:=by
   have S:(scope.names.lookup y == some NameKind.cell)=true:=T;simpa using S
  rcases fS r with e1|⟨e1,_⟩
  ·have:=(own e1).2;show s.heap.objs.size<=b;omega
  ·obtain⟨D,e⟩:=dH (n:=s.heap.objs.size+1) (acc:=[]) (.inl (mem_of_lookup m));rw[e1]at e;cases e
 ·obtain⟨⟨_,_,_,_,a1,_⟩,o,e⟩:=C b n;refine⟨zX (zJ e),λy D h=>?_⟩;rcases fS h with e1|⟨_,e1⟩
  ·exactλz=>absurd (zL (zJ e) (pE (z ▸ (own e1).2))) (yR _)
  ·exact a1 y D (c.was I e1)
 ·exact I.bs b o e
 ·exact yH I.ok.bsz I.sz
 ·obtain⟨⟨_,_,_,a0,_,_⟩,_⟩:=C b n;rcases a0 with z|z
  ·exact I.ok.noex b o e z
  ·exact absurd (zL (zJ e) (yH I.ok.bsz z)) (yR _)
 ·obtain⟨⟨_,R,Z,_,_,_⟩,_⟩:=C b n;rcases xC.mp (I.stkSub b U) with z|z
  ·exact R z
  ·exact Z z
 ·exact I.stack
 ·exact I.stkFree b n
 ·have g:(xs++fr.map (·.1))[i]?=some y:=r
  by_cases hi:i<xs.length
  ·rw[yP (by simpa using hi),zO]at a;cases q:xs[i]? with
   |none=>rw[q]at a;cases a
   |some z=>rw[q]at a;cases yA a
  ·rw [yD ⋯]at g;rw[yD (by simpa using hi),yX]at a;generalize i-xs.length=j at g a;rw[zO]at g;unfold lG at a;rw[zO]at a;cases e:fr[j]? with
   |none=>rw[e]at g;cases g
   | some p =>
    rw[e]at g a;have e1:p.1=y:=yA g;have f:l.getD p.2 none=some v:=yA a;obtain⟨O,G⟩:=c.fr p (yG e);have V:l[p.2]?=some (some v):=by
     rw[tM]at f;cases q:l[p.2]? with
     |none=>rw[q]at f;cases f
     |some o=>rw[q]at f;have Y:o=some v:=f;rw[Y]
    subst e1;have d:(p.1,NameKind.free)∈scope.names:=vH G;have kd:=c.free' _ d rfl;obtain⟨a4,_,hl⟩:=t.loc;obtain⟨u,a2,W⟩:=hl p.2 p.1 v O V (.inr kd);refine⟨u,a2,.inr ⟨Gm G,?_⟩⟩;rcases W with⟨k1,_⟩|⟨_,b,q,z⟩
    ·rcases kd with kd|kd <;> (rw[kd]at k1;cases k1)
    ·obtain⟨D,J⟩:=By (env:=X.env) (l:=scope.names) (cs:=[]) (.inl d);have K:=c.was I J;rw[q]at K;cases K;refine⟨b,?_,z⟩;show(cellsFrom (s.heap.objs.size+1) scope.names (clOf X.env scope.names [])).lookup p.1=some b;rw[dG,List.lookup_append];cases w:(cellsFrom (s.heap.objs.size+1) scope.names []).lookup p.1 with
     |none=>exact J
     |some b2 =>
      rcases Bu (mem_of_lookup w) with w|w
      ·simp at w
      ·cases Ge c.nn d w
 ·rcases fS h with e1|⟨_,e1⟩
  ·exact⟨none,(own e1).1⟩
  ·exact t.cell y b (c.was I e1)
 ·exact I.hok.fresh (zG _)
 ·rcases fS h with e1|⟨_,e1⟩
  ·exact I.hok.fresh (by have:=(own e1).2;omega)
  ·exact t.freeC y b (c.was I e1)
 ·show(xs.map (λ_=>none)++lG fr l).length=(xs++fr.map (·.1)).length;simp[lG]
end
abbrev TOx:=St->Hp->(Option V->Hp->Prop)->Prop
def tEl(te:TE):TOx:=λσ H Q=>te σ H λy H'=>Q (some y) H'
def fT(tc:TT)(te:TE):TOx:=λσ H Q=>tc σ H λb H1=>if b=true then te σ H1 (λy H'=>Q (some y) H') else Q none H1
def iU(elt:Expr)(ifs:List Expr)(env:Env)(M:Model)(A:Around)(Q:Option Value->Shared->Prop)(E:VP)(s:Shared):Prop:=
 match ifs with
 |[]=>wpAny M A (eval elt env) (λx s1=>Q (some x) s1) E s
 |[c]=>wpAny M A (isTrue c env (eval c env)) (λb s1=>if b=true then wpAny M A (eval elt env) (λx s2=>Q (some x) s2) E s1 else Q none s1) E s
 |_=>False
def POx(X:Cx)(elt:Expr)(ifs:List Expr)(t:TOx):Prop:=∀(pins:PN)(s:Shared)(σ:St)(H:Hp)(Q:Option V->Hp->Prop),Inv X pins σ H s->t σ H Q ->
 iU elt ifs X.env (model X.prog X.w) X.A (λo s'=>∃v H',Inv X pins σ H' s'/\(match o,v with|some u,some y=>RelV y u|none,none=>True|_,_=>False)/\Q v H') X.xe s
theorem jL{X:Cx}{a:Expr}{te:TE}(h:PE X a te):POx X a [] (tEl te):=λg s i H Q I c =>
 thn (h g s i H _ I c) λu j⟨y,d,e,f,b⟩=>⟨some y,d,e,f,b⟩
theorem Rx{X:Cx}{g c:Expr}{d:TT}{te:TE}(o:PT X c d)(h:PE X g te):POx X g [c] (fT d te):=λi s j H Q I l=>by
 refine thn (o i s j H _ I l) λb k⟨e,f,a⟩=>?_;cases b with
 |true =>
  rw[zE rfl]at a ⊢;exact thn (h i k j e _ f a) λu r⟨y,q,n,p,m⟩=>⟨some y,q,n,p,m⟩
 |false =>
  rw[zD zR]at a ⊢;exact⟨none,e,f,trivial,a⟩
theorem Rv{prog:Program}{w:World}{A:Around}{R:Result->Shared->Prop}{s:Shared}{e a g:Expr}{l:List Expr}{k:Scope}{i:Pos}{d acc:Value}{env:Env}(I:Nat->Shared->Prop)
  (K:∀n s,I n s->wpAny (model prog w) A (pyNext d) (λr q=>match r with
   |none=>R (.ok .next) q
   | some v=>wpAny (model prog w) A (letOwnedTupleGo a d v) (λ_ y=>wpAny (model prog w) A (assign a env v) (λ_ t=>iU e l env (model prog w) A (λo p=>match o with
     |some x=>wpAny (model prog w) A (call (.builtin "list.append") [acc,x]) (λ_ C=>∃m,m<n/\I m C) (λ_ _=>False) p
     |none=>∃m,m<n/\I m p)
     (λ_ _=>False) t) (λ_ _=>False) y) (λ_ _=>False) q) (λ_ _=>False) s)
  (n:Nat)(h:I n s)(u:l.length<=1):
  codeAny (model prog w) A (.compLoop (.ListComp e [⟨a,g,l,0⟩] k i) 0 d acc env) R s:=by
 refine codeAny_loop rfl I (λn s J=>?_) n h;show wpAny _ _ ((compTurn (.ListComp e [⟨a,g,l,0⟩] k i) 0 d acc env).onRaise (λx=>do noteFrame x env;theTreesLotGoes x)) _ _ s;refine wpAny_noted ?_;have T:=K n s J
 match l,u,T with
 | [],_,T =>
  rw[compTurn_list1];refine zA (xO (zA (zU T (λr q j=>?_) λ_ _ h'=>h'.elim)));cases r with
  |none=>exact zB j
  | some v =>
   refine zA (zU j (λ_ y D=>?_) λ_ _ h'=>h'.elim);exact zA (zU D (λ_ t F=>zA (zA (zU (show wpAny _ _ _ _ _ _ from F) (λx p f=>zA (zU f
    (λ_ C z=>zB (zB ⟨rfl,z⟩)) λ_ _ h'=>h'.elim)) λ_ _ h'=>h'.elim))) λ_ _ h'=>h'.elim)
 | [c],_,T =>
  have e1:compTurn (.ListComp e [⟨a,g,[c],0⟩] k i) 0 d acc env=(standAt g.pos >>= λ_=>pyNext d >>= λr=>match r with
   |none=>pure (.done .next)
   | some v=>letOwnedTupleGo a d v >>= λ_=>assign a env v >>= λ_=>isTrue c env (eval c env) >>= λok =>
    (if ok=true then(eval e env >>= λx=>call (.builtin "list.append") [acc,x] >>= λ_=>pure ()) >>= λ_=>again (.compLoop (.ListComp e [⟨a,g,[c],0⟩] k i) 0 d acc env)
     else again (.compLoop (.ListComp e [⟨a,g,[c],0⟩] k i) 0 d acc env))):=by
   unfold compTurn;simp only[List.forIn_cons,List.forIn_nil,if_true,bind_assoc,pure_bind,List.getElem?_cons_zero];rfl
  rw[e1];refine zA (xO (zA (zU T (λr q j=>?_) λ_ _ h'=>h'.elim)));cases r with
  |none=>exact zB j
  | some v =>
   refine zA (zU j (λ_ y D=>?_) λ_ _ h'=>h'.elim);refine zA (zU D (λ_ t F=>zA (zU (show wpAny _ _ _ _ _ _ from F) (λb p f=>?_) λ_ _ h'=>h'.elim)) λ_ _ h'=>h'.elim);cases b with
   |true =>
    rw[zE rfl]at f ⊢;exact zA (zA (zU f (λx C z=>zA (zU z (λ_ L G=>zB (zB ⟨rfl,G⟩)) λ_ _ h'=>h'.elim)) λ_ _ h'=>h'.elim))
   |false =>
    rw[zD zR]at f ⊢;exact zB ⟨rfl,f⟩
 |_:: _:: _,u,T =>
  exact absurd u (by simp)
def Ru(a:Addr)(N:Hp->Prop):Option V->Hp->Prop
 |some y,H=>∃zs,H a=some (.lst zs)/\zs.length<sizeLine/\N (upd H a (.lst (zs++[y])))
 |none,H=>N H
abbrev kL(J:It)(g:TG)(tt:TOx)(n:Nat)(fr:List (Str×Nat))(σ:St)(a:Addr)(H:Hp)(Q:VK):Prop:=
 ∃ W:Nat->Nat->Hp->Prop,(∃m,W 0 m (upd H a (.lst [])))/\∀i m H2,W i m H2->(J.stop i H2/\Q (.ref a) H2) \/
  (J.go i H2/\∃N:Hp->Prop,(∀H',N H'->∃m',m'<m/\W (i+1) m' H')/\∀(ys:St) x H3,ys.length=n->J.yld i H2 x H3 ->
   g x (ys++lG fr σ) H3 λσ4 H4=>(∃ys':St,ys'.length=n/\σ4=ys'++lG fr σ)/\tt σ4 H4 (Ru a N))
def kG(wi:TI)(g:TG)(tt:TOx)(n:Nat)(fr:List (Str×Nat)):TE:=λσ H Q=>wi σ H λJ H1=>∀a,H1 a=none->kL J g tt n fr σ a H1 Q
section
variable {X:Cx} {sc scope:Scope} {xs:List Str} {fr:List (Str×Nat)} {elt tg iter:Expr} {ifs:List Expr} {g:TG} {tt:TOx}
theorem Ga{F:PN}{D:St}{H:Hp}{s:Shared}{a8:Pos}{c6:It}{k:LA}{a1:Addr}{R:Nat->Heap->Prop}{Q:VK}{RR:Value->Addr->Result->Shared->Prop}{E:VP}
  (c:kS X sc scope xs fr)(c0:X.calm=true)(S:ifs.length<=1)(I:Inv X F D H s)(T:Turn X.prog X.w X.K tg c6 k a1 R)(b8:R 0 s.heap)(a0:∀b∈k,FpOk X F H b)
  (d6:∀(v:Shared)(G:Hp)(k:LA),(mT X scope (xs++fr.map (·.1)) v G k).env.scope=lP sc scope->PG (mT X scope (xs++fr.map (·.1)) v G k) tg g)
  (g7:∀(v:Shared)(G:Hp)(k:LA),(mT X scope (xs++fr.map (·.1)) v G k).env.scope=lP sc scope->POx (mT X scope (xs++fr.map (·.1)) v G k) elt ifs tt)
  (f8:∀a,H a=none->kL c6 g tt xs.length fr D a H Q)
  (e7:∀a C H' t m,t.heap.Ns C m->Inv X F D H' t->FpOk X F H' C->Q (.ref a) H'->RR (.ref a) C (.ok .next) t):
  wpAny (model X.prog X.w) X.A (newList []) (λacc v=>wpAny (model X.prog X.w) X.A (newFunctionEnv scope X.env.globals (clOf X.env scope.names []) [] X.env.qual none .none (some X.env)) (λcenv g6 =>
   codeAny (model X.prog X.w) X.A (.compStart (.ListComp elt [⟨tg,iter,ifs,0⟩] scope a8) 0 (.ref a1) acc {cenv with scope:=relabel scope X.env}) (RR acc cenv.locals) g6) E v) E s:=by
 obtain⟨d1,⟨f0,w0⟩,f9⟩:=f8 s.heap.objs.size I.fresh;refine xB (Gc ?_);have c3:Inv X F D (upd H s.heap.objs.size (.lst [])) {s with heap:=s.heap.push {cls:=.type "list",dict:=none,data:=.seq ([]:LW).toArray}}:=I.lnew (ys:=[]) (its:=[]) (t':=s.toks) .nil (zZ _);have U:∀b o,s.heap.get? b=some o->(s.heap.push {cls:=.type "list",dict:=none,data:=.seq ([]:LW).toArray}).get? b=some o:=λb o e=>zC _ e;have b9:Un (frs X.stack) k H (upd H s.heap.objs.size (.lst [])) s.heap (s.heap.push {cls:=.type "list",dict:=none,data:=.seq ([]:LW).toArray}):=Un.laid U (zG _) I.fresh;dsimp only;generalize hH2:s.heap.push {cls:=.type "list",dict:=none,data:=.seq ([]:LW).toArray}=l at c3 U b9 ⊢;have hsz:s.heap.objs.size<=l.objs.size:=by rw[←hH2,xM];exact uO _
 have b5:∀b∈k,∃o,s.heap.get? b=some o:=λb j=>let ⟨o,e,_⟩:=T.obj _ _ b8 b j;⟨o,e⟩
 have g2:∀b∈k,b≠s.heap.objs.size:=λb j=>let ⟨_,e⟩:=b5 b j;zX (zJ e)
 have b4:∀b∈k,FpOk X F (upd H s.heap.objs.size (.lst [])) b/\∃o,l.get? b=some o:=λb j=>by
  obtain⟨o,e⟩:=b5 b j;exact⟨⟨by rw[nN (g2 b j)];exact(a0 b j).1,(a0 b j).2⟩,o,U b o e⟩
 have a5:=Gb c c3 b4;have f1:∀b o,l.get? b=some o->(pushCells (l.push {cls:=.type "dict",data:=.dict #[]}) scope.names).get? b=some o:=λb o e=>rN _ _ b o (zC _ e);have b6:R 0 (pushCells (l.push {cls:=.type "dict",data:=.dict #[]}) scope.names):=T.keep 0 _ _ b8 λb j o e=>f1 b o (U b o e);have d0:∀(v:Shared)(G:Hp)(k:LA),(mT X scope (xs++fr.map (·.1)) v G k).env.scope=lP sc scope:=λ_ _ _=>Gf c.hsc;have Y:∀{H':Hp},(∀b∈k,H' b=none)->∀b∈k,FpOk (mT X scope (xs++fr.map (·.1)) {s with heap:=l} (upd H s.heap.objs.size (.lst [])) k) [] H' b:=λg8 b j=>by
  obtain⟨e1,f5⟩:=a5.ok.exf b j;exact⟨g8 b j,e1,a5.ok.exfs b j,.inl j,f5,λp f2=>absurd (show p∈([]:PN) from f2) (by simp)⟩
 have c8:codeAny (model X.prog X.w) X.A (.compLoop (.ListComp elt [⟨tg,iter,ifs,0⟩] scope a8) 0 (.ref a1) (.ref s.heap.objs.size) (compEnvC scope (cellsFrom (l.objs.size+1) scope.names (clOf X.env scope.names [])) l.objs.size X.env))
   (RR (.ref s.heap.objs.size) l.objs.size) {s with heap:=pushCells (l.push {cls:=.type "dict",data:=.dict #[]}) scope.names}:=by
  refine Rv (λn t=>∃i,∃ys:St,∃H',ys.length=xs.length/\Inv (mT X scope (xs++fr.map (·.1)) {s with heap:=l} (upd H s.heap.objs.size (.lst [])) k) [] (ys++lG fr D) H' t/\R i t.heap/\(∀b∈k,H' b=none)/\d1 i n H')
   ?_ f0 ⟨0,xs.map λ_=>none,_,by simp,a5,b6,λb j=>(b4 b j).1.1,w0⟩ S
  rintro n c7 ⟨i,ys,P,d5,c9,c1,b0,g5⟩;rcases f9 i n P g5 with⟨stop,e2⟩|⟨go,N,f7,step⟩
  ·refine thn (T.done (mT X scope (xs++fr.map (·.1)) {s with heap:=l} (upd H s.heap.objs.size (.lst [])) k) rfl rfl rfl c0 i [] c7 _ P (λ_ _=>False) c9 (Y b0) c1 stop) λr a3⟨hr,J⟩=>?_;subst hr;obtain⟨e3,d8,_⟩:=J.loc;have Z:Inv X F D P a3:=I.call' J.os (b9.trans J.base) J.hok J.bare λb j=>let f:=a0 b j;⟨f.2.2.2.1,f.2.1,f.2.2.2.2.1,f.2.2.2.2.2⟩
   exact e7 _ _ P a3 e3 d8 Z (I.fpOk hsz J.free) e2
  ·refine thn (T.item (mT X scope (xs++fr.map (·.1)) {s with heap:=l} (upd H s.heap.objs.size (.lst [])) k) rfl rfl rfl c0 i [] c7 _ P (λ_ _=>False) c9 (Y b0) c1 go) λr a3⟨u,hr,f3⟩=>?_;subst hr;refine thn f3 λ_ b1⟨y,c4,Z,f6,e9,W,e6⟩=>?_;have d2:=Z.pinned (Y e6) (T.obj _ _ W);refine thn (d6 _ _ _ (d0 _ _ _) _ b1 _ c4 y u _ d2 f6 (step ys y c4 d5 e9)) λ_ g0⟨g9,d4,e0,⟨b7,d3,g1⟩,g4⟩=>?_;subst g1;have b2:∀(K:Shared)(w:Hp),Inv (mT X scope (xs++fr.map (·.1)) {s with heap:=l} (upd H s.heap.objs.size (.lst [])) k) ([]++fP k b1.heap) (b7++lG fr D) w K->N w ->
     ∃m,m<n/\∃i,∃ys:St,∃H',ys.length=xs.length/\Inv (mT X scope (xs++fr.map (·.1)) {s with heap:=l} (upd H s.heap.objs.size (.lst [])) k) [] (ys++lG fr D) H' K/\R i K.heap/\(∀b∈k,H' b=none)/\d1 i m H':=by
    intro K w O a6;obtain⟨e5,g3,d7⟩:=f7 w a6;refine⟨e5,g3,i+1,b7,w,d3,O.unpinned,T.keep _ _ _ W λb j o e=>(O.pin (b,o) (yC _ (yC _ (fQ j e)))).1,λb j=>?_,d7⟩;obtain⟨o,e,d⟩:=T.obj _ _ W b j;exact(O.pin (b,o) (yC _ (yC _ (fQ j e)))).2.1
   have e8:=g7 _ _ _ (d0 _ _ _) _ g0 _ d4 _ e0 g4;have mono:∀{Q a7:Option Value->Shared->Prop}{E:VP}{t:Shared}{env:Env},(∀o V,Q o V->a7 o V)->iU elt ifs env (model X.prog X.w) X.A Q E t->iU elt ifs env (model X.prog X.w) X.A a7 E t:=by
    intro Q a7 E t env a2 L;unfold iU at L ⊢
    match ifs,S,L with
    |[],_,L=>exact zU L (λx V q=>a2 _ _ q) λ_ _ e=>e
    |[c],_,L =>
     refine zU L (λb V q=>?_) λ_ _ e=>e;split at q
     ·rename_i j;rw[zE j];exact zU q (λx h0 q=>a2 _ _ q) λ_ _ e=>e
     ·rename_i j;rw[zD j];exact a2 _ _ q
    |_:: _:: _,S,_=>exact absurd S (by simp)
   refine mono (λo c5⟨M,c2,a9,a4,b3⟩=>?_) e8;cases o with
   |none =>
    cases M with
    |none=>exact b2 c5 c2 a9 b3
    |some z=>exact a4.elim
   | some d9 =>
    cases M with
    |none=>exact a4.elim
    |some M =>
     obtain⟨zs,e4,hl,f4⟩:=b3;exact thn (iA _ c5 _ c2 (.ref s.heap.objs.size) [M] (.ref s.heap.objs.size) [d9] (λ_ w=>N w) a9 rfl (.cons a4 .nil) ⟨_,zs,M,rfl,rfl,e4,hl,f4⟩) λ_ K⟨_,w,O,_,a6⟩=>b2 K w O a6
 exact codeAny_compStart_list c8 (T.self _ 0 _ _ _ b6 c8)
variable {wi:TI}
theorem gE{n:Pos}(c:kS X sc scope xs fr)(p:X.calm=true)(hi:PI X tg iter wi)
  (z:∀(i:Shared)(j:Hp)(d:LA),(mT X scope (xs++fr.map (·.1)) i j d).env.scope=lP sc scope->PG (mT X scope (xs++fr.map (·.1)) i j d) tg g)
  (M:∀(i:Shared)(j:Hp)(d:LA),(mT X scope (xs++fr.map (·.1)) i j d).env.scope=lP sc scope->POx (mT X scope (xs++fr.map (·.1)) i j d) elt ifs tt)
  (y:ifs.length<=1:=by exact uU rfl)(t:∀x,foldedSetIterable iter X.env x=pure x:=by intro _;rfl):PE X (.ListComp elt [⟨tg,iter,ifs,0⟩] scope n) (kG wi g tt xs.length fr):=by
 intro k s l H Q I h;rw[eval_ListComp];refine wpAny_comprehension_free (use:=none) rfl t (cS (c.cells I)) c.kind c.loc (thn (hi k s l H _ I h) λv Y w=>thn w λS R J=>?_);obtain⟨V,d,U,P,W,e,F,T,G,r,L⟩:=J;subst e;refine Ga (RR:=λacc C=>compPost (model X.prog X.w) X.A X.xe none (EP X k l Q) acc C) c p y F T G r z M L ?_;intro a C H' u m O K f q;exact⟨m,O,λh' D=>⟨.ref a,H',K.turned (t':=u.toks) (λb o N e=>(D.2 b N).trans e) f.1 f.2.1 f.2.2.2.1 f.2.2.2.2.1 f.2.2.2.2.2,rfl,q⟩⟩
theorem Bs{p u d:Pos}{y:Str}{i:Nat}(c:kS X sc scope xs fr)(G:X.calm=true)(W:X.N.Nodup)(a1:X.N[i]?=some y)(hl:X.env.scope.names.lookup y=some .local)(hi:PI X tg iter wi)
  (R:∀(k:Shared)(n:Hp)(j:LA),(mT X scope (xs++fr.map (·.1)) k n j).env.scope=lP sc scope->PG (mT X scope (xs++fr.map (·.1)) k n j) tg g)
  (a2:∀(k:Shared)(n:Hp)(j:LA),(mT X scope (xs++fr.map (·.1)) k n j).env.scope=lP sc scope->POx (mT X scope (xs++fr.map (·.1)) k n j) elt ifs tt)
  (a3:swapsWith (.ListComp elt [⟨tg,iter,ifs,0⟩] scope p) (some (.Name y d)) u.line X.env=pure true:=by rfl)
  (P:ifs.length<=1:=by exact uU rfl)(M:∀x,foldedSetIterable iter X.env x=pure x:=by intro _;rfl):PS X (.Assign [.Name y d] (.ListComp elt [⟨tg,iter,ifs,0⟩] scope p) u) (Bx i (kG wi g tt xs.length fr)):=by
 intro r s w H D I h;rw[exec_Assign_Name_used _ _ _ _ a3];refine zA (xO (zA ?_));show wpAny _ _ (do let _ ←comprehension (.ListComp elt [⟨tg,iter,ifs,0⟩] scope p) scope X.env _ (newList []) false (eval iter X.env) (some (assign (.Name y d) X.env))) _ _ s;refine zA (zU (wpAny_comprehension_free (use:=some (assign (.Name y d) X.env)) (Q:=λ_ l=>SP X r D .next l) rfl M (cS (c.cells I)) c.kind c.loc
  (thn (hi r s w H _ I h) λv b2 O=>thn O λa8 a7 Y=>?_)) (λ_ l Z=>zB (zB Z)) λ_ _ e=>e)
 obtain⟨b0,j,a9,a6,b1,e,U,T,V,J,a0⟩:=Y;subst e;refine Ga (RR:=λacc C=>compPost (model X.prog X.w) X.A X.xe (some (assign (.Name y d) X.env)) (λ_ l=>SP X r D .next l) acc C) (Q:=λv F=>D.nx (w.set i (some v)) F) c G P U T V J R a2 a0 ?_;intro a C H' l m a4 K f q;show wpAny _ _ (assign (.Name y d) X.env (.ref a)) _ _ _;refine qZ (Aw K W a1 (.inl hl) (show RelV (.ref a) (.ref a) from rfl) (λz N⟨b,L,t⟩=>?_) (.inr hl));have a5:C≠b:=by
  rcases t with e|e
  ·rw[e];exact f.2.1
  ·exact yI (f.2.2.2.2.1 y b e)
 refine⟨m,a4.sameBut L a5,λh' S=>?_⟩;exact⟨_,H',N.turned (t':=z.toks) (λb o t e=>(S.2 b t).trans e) f.1 f.2.1 f.2.2.2.1 f.2.2.2.2.1 f.2.2.2.2.2,q⟩
end
def cY(sc:Scope)(N:List Str)(scope:Scope)(fr:List (Str×Nat)):Bool:=
 decide (scope.kind=.function) && decide ((scope.names.map (·.1)).Nodup) && decide (∀y∈scope.names,y.2=.free->sc.names.lookup y.1=some .cell\/sc.names.lookup y.1=some .free) &&
 decide (∀y∈scope.names,y.2=.local->scope.names.lookup y.1=some .local) && decide (∀p∈fr,N[p.2]?=some p.1/\scope.names.lookup p.1=some .free)
theorem jD{X:Cx}{sc a:Scope}{N xs:List Str}{fr:List (Str×Nat)}(c:X.env.scope=sc)(g:X.N=N)(h:cY sc N a fr=true):kS X sc a xs fr:=by
 unfold cY at h;simp only[Bool.and_eq_true,decide_eq_true_eq]at h;obtain⟨⟨⟨⟨e1,b⟩,e⟩,d⟩,f⟩:=h;subst g;exact⟨c,e1,b,e,d,f⟩
def cZ(sc:Scope)(N:List Str)(i:Nat)(x:Str):Bool:=decide (N.Nodup) && decide (N[i]?=some x) && (decide (sc.names.lookup x=some .local))
theorem jM{X:Cx}{sc:Scope}{N:List Str}{i:Nat}{x:Str}{a:Pos}(b:X.env.scope=sc)(c:X.N=N)(h:cZ sc N i x=true):PG X (.Name x a) (nS i):=by
 unfold cZ at h;simp only[Bool.and_eq_true,decide_eq_true_eq]at h;subst b c;exact mM h.1.1 h.1.2 (.inl h.2) (.inr h.2)
theorem dI{X:Cx}{sc:Scope}{N:List Str}{i:Nat}{x:Str}{b:Pos}(c:X.env.scope=sc)(d:X.N=N)(h:(decide (N.Nodup) && decide (N[i]?=some x) && (decide (sc.names.lookup x=some .cell)))=true)(a:X.fn x=true):PG X (.Name x b) (nS i):=by
 simp only[Bool.and_eq_true,decide_eq_true_eq]at h;subst c d;exact mM h.1.1 h.1.2 (.inr h.2) (.inl a)
def SqB(b:Bool)(K:Frag)(H:Hp)(a:Addr)(xs:List V):Prop:=match b with|false=>SqL K H a xs|true=>SqT K H a xs
def ItB(b:Bool)(h:Heap)(it a:Addr)(i:Nat):Prop:=match b with|false=>h.IsListIter it a i|true=>h.IsTupleIter it a i
def seqB(b:Bool)(h:Heap)(a:Addr)(its:Array Value):Prop:=match b with|false=>h.IsList a its|true=>h.IsTuple a its
def nmB(b:Bool):String:=match b with|false => "list_iterator" |true => "tuple_iterator"
theorem ItB.at{b:Bool}{h h':Heap}{c a:Addr}{i:Nat}(x:ItB b h c a i)(e:∀o,h.get? c=some o->h'.get? c=some o):ItB b h' c a i:=by
 cases b
 ·exact Heap.IsListIter.at x e
 ·exact Heap.IsTupleIter.at x e
theorem seqB.at{b:Bool}{h h':Heap}{a:Addr}{its:Array Value}(x:seqB b h a its)(e:∀o,h.get? a=some o->h'.get? a=some o):seqB b h' a its:=by
 cases b
 ·exact Heap.IsList.at x e
 ·obtain⟨o,c,r⟩:=x;exact⟨o,e o c,r⟩
theorem ItB.lt{b:Bool}{h:Heap}{f a:Addr}{i:Nat}(x:ItB b h f a i):∃o,h.get? f=some o/\∀v,o.data≠.cell v:=by
 cases b
 ·obtain⟨o,e,c,d⟩:=x;exact⟨o,e,λv z=>by rw[d]at z;cases z⟩
 ·obtain⟨o,e,c,d⟩:=x;exact⟨o,e,λv z=>by rw[d]at z;cases z⟩
section
variable {prog:Program} {w:World} {A:Around} {E:VP} {s:Shared}
theorem Rt{a t:Addr}{i:Nat}{items}{x:Value}{Q:VP}(d:s.heap.IsTupleIter a t i)(l:s.heap.IsTuple t items)(f:items[i]?=some x)
  (k:∀h',h'.IsTupleIter a t (i+1)->Heap.SameBut a s.heap h'->Q x {s with heap:=h'}):wpAny (model prog w) A (Builtin.SmallTypes.nextOf (.ref a)) Q E s:=by
 obtain⟨o,c,g,b⟩:=id d;obtain⟨m,e,_,n,j⟩:=l;unfold Builtin.SmallTypes.nextOf;refine zA (wD (name:=Str.ofString "__next__") d.typeIs vX
  (xX vX d.typeIs F.entry_tuple_iterator_next ?_ (F.args_tuple_iterator_next_1 _)))
 show wpAny _ _ (field (.ref a) 0 >>= _) _ _ s;refine zA (xL c b (x:=.ref t) rfl ?_);show wpAny _ _ (if(Value.ref t == Value.none)=true then _ else _) _ _ s;rw[zD (show¬ ((Value.ref t == Value.none)=true) from zR)];show wpAny _ _ (field (.ref a) 1 >>= _) _ _ s;refine zA (xL c b (x:=.int i 0) rfl ?_);show wpAny _ _ (seqItems? (.ref t) >>= _) _ _ s;refine zA (wN e j ?_);simp only[Int.toNat_natCast,f];refine zA (uT c b (by simp) (zB ⟨x,rfl,zB (k _ ?_ (vF ..))⟩));exact⟨_,wH _ c (rH (vR b _)),(Obj.cls_mapFields ..).trans g,by
  rw[vR b];simp[rawInt]⟩
theorem Rr{a t:Addr}{i:Nat}{items}{Q:VP}(hh:A.handled=none)(b:s.heap.IsTupleIter a t i)(l:s.heap.IsTuple t items)(g:items[i]?=none)
  (j:∀h' e,Heap.ExtBut a s.heap h'->(∃o,h'.get? e=some o/\o.cls=.type "StopIteration")->E (.ref e) {s with heap:=h'}):wpAny (model prog w) A (Builtin.SmallTypes.nextOf (.ref a)) Q E s:=by
 obtain⟨o,d,m,c⟩:=id b;obtain⟨n,f,_,p,k⟩:=l;unfold Builtin.SmallTypes.nextOf;refine zA (wD (name:=Str.ofString "__next__") b.typeIs vX
  (xX vX b.typeIs F.entry_tuple_iterator_next ?_ (F.args_tuple_iterator_next_1 _)))
 show wpAny _ _ (field (.ref a) 0 >>= _) _ _ s;refine zA (xL d c (x:=.ref t) rfl ?_);show wpAny _ _ (if(Value.ref t == Value.none)=true then _ else _) _ _ s;rw[zD (show¬ ((Value.ref t == Value.none)=true) from zR)];show wpAny _ _ (field (.ref a) 1 >>= _) _ _ s;refine zA (xL d c (x:=.int i 0) rfl ?_);show wpAny _ _ (seqItems? (.ref t) >>= _) _ _ s;refine zA (wN f k ?_);simp only[Int.toNat_natCast,g];refine zA (wM (zA (uT d c (by simp) ?_)));show wpAny _ _ (newExc (.type "StopIteration") [] >>= _) _ _ _;refine zA ?_;simp only[newExc,newTuple];refine zA (xB ?_ (by size_fits));refine zA (m:=firstArgMember _ _) (wpAny_of_eq (a:=Value.none) (by first|rfl|(simp only[firstArgMember];rfl)) ?_);refine xB ?_ (by size_fits);simp only[raiseNew];refine zA (wpAny_handled ?_)
 first|rw[show A.in1.handled=none from hh]|rw[hh]
 refine zA (zB (wpAny_throw ?_));exact j _ _ (((vF ..).extBut.push _).push _) ⟨_,zS _ rfl,rfl⟩
theorem bD{b:Bool}{a l:Addr}{i:Nat}{items:Array Value}{x:Value}{Q:VP}(c:ItB b s.heap a l i)(hl:seqB b s.heap l items)(d:items[i]?=some x)
  (e:∀h',ItB b h' a l (i+1)->Heap.SameBut a s.heap h'->Q x {s with heap:=h'}):wpAny (model prog w) A (Builtin.SmallTypes.nextOf (.ref a)) Q E s:=by
 cases b
 ·exact wpAny_nextOf_list_item c hl d e
 ·exact Rt c hl d e
theorem Br{b:Bool}{a l:Addr}{i:Nat}{items:Array Value}{Q:VP}(hh:A.handled=none)(c:ItB b s.heap a l i)(hl:seqB b s.heap l items)(d:items[i]?=none)
  (f:∀h' e,Heap.ExtBut a s.heap h'->(∃o,h'.get? e=some o/\o.cls=.type "StopIteration")->E (.ref e) {s with heap:=h'}):wpAny (model prog w) A (Builtin.SmallTypes.nextOf (.ref a)) Q E s:=by
 cases b
 ·exact wpAny_nextOf_list_end hh c hl d f
 ·exact Rr hh c hl d f
theorem Hz{b:Bool}{l:Addr}{items:Array Value}{Q:VP}(hl:seqB b s.heap l items)
  (a:Q (.ref s.heap.objs.size) {s with heap:=s.heap.push {cls:=.type (nmB b),data:=.fields #[.ref l,.int 0 0]}}):wpAny (model prog w) A (pyIter (.ref l)) Q E s:=by
 cases b
 ·exact uP hl a
 ·exact uJ hl a
theorem Hy{b:Bool}{h:Heap}{l:Addr}:ItB b (h.push {cls:=.type (nmB b),data:=.fields #[.ref l,.int 0 0]}) h.objs.size l 0:=by
 cases b
 ·exact⟨_,zS _ rfl,rfl,rfl⟩
 ·exact⟨_,zS _ rfl,rfl,rfl⟩
theorem Hx(b:Bool)(hh:A.handled=none)(a l:Addr)(f:l≠a)(items:Array Value):
  Draws prog w A a [a,l] items.size (λi v=>items[i]?=some v) (λi h=>ItB b h a l i/\seqB b h l items) where
 live:=λ_ _ st=>let ⟨o,g,_⟩:=st.1.lt;⟨o,g⟩
 frame:=λ_ _ _ st d=>⟨st.1.at λo e=>d a (by simp) o e,st.2.at λo e=>d l (by simp) o e⟩
 item:=λi s Q E hi st m=>by
  refine bD st.1 st.2 (x:=items[i]) (by simp[hi]) λh' j c=>?_;exact m _ h' s.toks (by simp[hi]) ⟨j,st.2.at λo e=>(c.2 l f).trans e⟩ c
 done:=λs Q E st k=>Br hh st.1 st.2 (by simp) k
theorem Rq{b1 b2:Bool}{z TI TO g f l1 l2:Addr}{k1 k2:Nat}{xs ys:Array Value}{x y a b:Value}{Q:Option Value->Shared->Prop}(D:ZipApart z TI TO g f l1 l2)
  (m:IsZip s.heap z TI TO .none)(V:IsPair s.heap TI (.ref g) (.ref f))(W:IsPair s.heap TO a b)
  (X:ItB b1 s.heap g l1 k1)(a5:ItB b2 s.heap f l2 k2)(b3:seqB b1 s.heap l1 xs)(a6:seqB b2 s.heap l2 ys)(a9:xs[k1]?=some x)(b0:ys[k2]?=some y)
  (b5:∀h',IsZip h' z TI TO (rawInt s.heap.objs.size)->IsPair h' TO x y->ItB b1 h' g l1 (k1+1)->ItB b2 h' f l2 (k2+1)->IsPair h' s.heap.objs.size x y->h'.objs.size=s.heap.objs.size+1 ->
   (∀c o,c≠z->c≠TO->c≠g->c≠f->s.heap.get? c=some o->h'.get? c=some o)->Q (some (.ref s.heap.objs.size)) {s with heap:=h'}):
  wpAny (model prog w) A (pyNext (.ref z)) Q E s:=by
 have M:s.TypeIs (.ref z) "zip" := ⟨_,m,rfl⟩;unfold pyNext;refine zA (wZ (wD (name:=Str.ofString "__next__") M rZ (xX rZ M F.entry_zip_next ?_ (F.args_zip_next_1 _))));show wpAny _ _ (field (.ref z) 2 >>= _) _ _ _;refine zA (xL m rfl (x:=.bool false) rfl ?_);show wpAny _ _ (field (.ref z) 3 >>= _) _ _ _;refine zA (xL m rfl (x:=.ref TI) rfl ?_);refine zA (wN V rfl ?_);show wpAny _ _ (Builtin.SmallTypes.ownedTupleIsFree (.ref z) >>= _) _ _ _;refine zA ?_;unfold Builtin.SmallTypes.ownedTupleIsFree;refine zA (xL m rfl (x:=.none) rfl (zB ?_));simp only[if_true];refine zA (wM ?_);refine zA (xL m rfl (x:=.ref TO) rfl ?_);refine zA (vO m (by simp) λU v i=>?_);replace v:IsZip U z TI TO .ellipsis:=v;refine zA ?_;simp only[List.zipIdx_cons,List.zipIdx_nil,List.forIn_cons,List.forIn_nil];refine zA (zA (sW ?_));show wpAny _ _ (Builtin.SmallTypes.nextOf (.ref g) >>= _) _ _ _;refine zA (bD (X.at λo e=>i.extBut _ _ D.i1z e) (b3.at λo e=>i.extBut _ _ D.l1z e) a9 λb4 a1 l=>zB ?_);have O:IsPair b4 TO a b:=l.extBut _ _ D.TOi1 (i.extBut _ _ D.TOz W);refine zA (wN O rfl ?_);refine zA (rP O λZ J k=>?_);replace J:IsPair Z TO x b:=J;refine zA (pU (zB ?_));refine zA (zA (sW ?_));show wpAny _ _ (Builtin.SmallTypes.nextOf (.ref f) >>= _) _ _ _;refine zA (bD (a5.at λo e=>k.extBut _ _ D.TOi2.symm (l.extBut _ _ D.i12.symm (i.extBut _ _ D.i2z e)))
  (a6.at λo e=>k.extBut _ _ D.l2TO (l.extBut _ _ D.l2i1 (i.extBut _ _ D.l2z e))) b0 λa4 a3 q=>zB ?_)
 have T:IsPair a4 TO x b:=q.extBut _ _ D.TOi2 J;refine zA (wN T rfl ?_);refine zA (rP T λd u n=>?_);replace u:IsPair d TO x y:=u;refine zA (pU (zB (zB ?_)));refine zA (wN u rfl ?_);refine zA (oA ?_);have hsz:d.objs.size=s.heap.objs.size:=by rw[n.1,q.1,k.1,l.1,i.1]
 have N:IsZip d z TI TO .ellipsis:=n.extBut _ _ D.TOz.symm (q.extBut _ _ D.i2z.symm (k.extBut _ _ D.TOz.symm (l.extBut _ _ D.i1z.symm v)));have a7:∀c o,c≠z->c≠TO->c≠g->c≠f->s.heap.get? c=some o->d.get? c=some o:=λc o j t L G e =>
  n.extBut _ _ t (q.extBut _ _ G (k.extBut _ _ t (l.extBut _ _ L (i.extBut _ _ j e))))
 have Y:ItB b1 d g l1 (k1+1):=a1.at λo e=>n.extBut _ _ D.TOi1.symm (q.extBut _ _ D.i12 (k.extBut _ _ D.TOi1.symm e));have a2:ItB b2 d f l2 (k2+1):=a3.at λo e=>n.extBut _ _ D.TOi2.symm e;have R:z<d.objs.size:=zJ N;show wpAny _ _ (Builtin.SmallTypes.ownedTupleHandOut (.ref z) (.ref d.objs.size) >>= _) _ _ _;refine zA ?_;unfold Builtin.SmallTypes.ownedTupleHandOut;have a0:IsZip (d.push {cls:=.type "tuple",data:=.seq #[x,y]}) z TI TO .ellipsis:=zC _ N;refine zA (vO a0 (by simp) λa8 C K=>?_);replace C:IsZip a8 z TI TO (rawInt d.objs.size):=C;refine vO C (by simp) λp r I=>?_;replace r:IsZip p z TI TO (rawInt d.objs.size):=r;have up:∀c o,c≠z->d.get? c=some o->p.get? c=some o:=λc o j e=>I.extBut _ _ j (K.extBut _ _ j (zC _ e));have P:IsPair p d.objs.size x y:=I.extBut _ _ (rT R) (K.extBut _ _ (rT R) (zS _ rfl));have S:p.objs.size=d.objs.size+1:=by rw[I.1,K.1,xM]
 rw[hsz]at r P S;refine zB ⟨_,rfl,zB ?_⟩;show Q (some (.ref d.objs.size)) _;rw[hsz];exact b5 p r (up _ _ D.TOz u) (Y.at λo e=>up _ o D.i1z e) (a2.at λo e=>up _ o D.i2z e) P S λc o j t L G e=>up c o j (a7 c o j t L G e)
theorem Rp{b1 b2:Bool}{z TI TO n l l1 l2:Addr}{k1 k2:Nat}{xs ys:Array Value}{a b:Value}{Q:Option Value->Shared->Prop}(hh:A.handled=none)(D:ZipApart z TI TO n l l1 l2)
  (j:IsZip s.heap z TI TO .none)(R:IsPair s.heap TI (.ref n) (.ref l))(S:IsPair s.heap TO a b)
  (K:ItB b1 s.heap n l1 k1)(Y:ItB b2 s.heap l l2 k2)(N:seqB b1 s.heap l1 xs)(Z:seqB b2 s.heap l2 ys)(T:xs[k1]?=none\/ys[k2]?=none)
  (O:∀h',(∀c o,c≠z->c≠TO->c≠n->c≠l->s.heap.get? c=some o->h'.get? c=some o)->Q none {s with heap:=h'}):wpAny (model prog w) A (pyNext (.ref z)) Q E s:=by
 have C:s.TypeIs (.ref z) "zip" := ⟨_,j,rfl⟩;unfold pyNext;refine zA (wZ (wD (name:=Str.ofString "__next__") C rZ (xX rZ C F.entry_zip_next (Q:=_) ?_ (F.args_zip_next_1 _))));show wpAny _ _ (field (.ref z) 2 >>= _) _ _ _;refine zA (xL j rfl (x:=.bool false) rfl ?_);show wpAny _ _ (field (.ref z) 3 >>= _) _ _ _;refine zA (xL j rfl (x:=.ref TI) rfl ?_);refine zA (wN R rfl ?_);show wpAny _ _ (Builtin.SmallTypes.ownedTupleIsFree (.ref z) >>= _) _ _ _;refine zA ?_;unfold Builtin.SmallTypes.ownedTupleIsFree;refine zA (xL j rfl (x:=.none) rfl (zB ?_));simp only[if_true];refine zA (wM ?_);refine zA (xL j rfl (x:=.ref TO) rfl ?_);refine zA (vO j (by simp) λP p d=>?_);replace p:IsZip P z TI TO .ellipsis:=p;refine zA ?_;simp only[List.zipIdx_cons,List.zipIdx_nil,List.forIn_cons,List.forIn_nil];refine zA (zA (sW ?_));show wpAny _ _ (Builtin.SmallTypes.nextOf (.ref n) >>= _) _ _ _;cases hx:xs[k1]? with
 |none =>
  refine zA (Br hh (K.at λo e=>d.extBut _ _ D.i1z e) (N.at λo e=>d.extBut _ _ D.l1z e) hx λv e f t=>?_);obtain⟨u,i,m⟩:=t;have G:IsZip v z TI TO .ellipsis:=f _ _ D.i1z.symm p;have q:e≠z:=λx=>by subst x;rw[G]at i;cases i;simp at m
  refine vO G (by simp) λL _ g=>?_;refine zA (uE (T:= "StopIteration") (b:=true) ⟨u,g.extBut _ _ q i,m⟩ pY ?_);exact zB (O L λc o k _ r _ x=>g.extBut _ _ k (f _ _ r (d.extBut _ _ k x)))
 | some x =>
  have a0:ys[k2]?=none:=by rcases T with h|h;rw[hx]at h;cases h;exact h
  refine zA (bD (K.at λo e=>d.extBut _ _ D.i1z e) (N.at λo e=>d.extBut _ _ D.l1z e) hx λv a2 f=>zB ?_);have J:IsPair v TO a b:=f.extBut _ _ D.TOi1 (d.extBut _ _ D.TOz S);refine zA (wN J rfl ?_);refine zA (rP J λL a1 g=>?_);refine zA (pU (zB ?_));refine zA (zA (sW ?_));show wpAny _ _ (Builtin.SmallTypes.nextOf (.ref l) >>= _) _ _ _;refine zA (Br hh (Y.at λo e=>g.extBut _ _ D.TOi2.symm (f.extBut _ _ D.i12.symm (d.extBut _ _ D.i2z e)))
   (Z.at λo e=>g.extBut _ _ D.l2TO (f.extBut _ _ D.l2i1 (d.extBut _ _ D.l2z e))) a0 λX e M t=>?_)
  obtain⟨u,i,m⟩:=t;have I:IsZip X z TI TO .ellipsis:=M _ _ D.i2z.symm (g.extBut _ _ D.TOz.symm (f.extBut _ _ D.i1z.symm p));have q:e≠z:=λx=>by subst x;rw[I]at i;cases i;simp at m
  refine vO I (by simp) λV _ y=>?_;refine zA (uE (T:= "StopIteration") (b:=true) ⟨u,y.extBut _ _ q i,m⟩ pY ?_);exact zB (O V λc o k U r W x=>y.extBut _ _ k (M _ _ W (g.extBut _ _ U (f.extBut _ _ r (d.extBut _ _ k x)))))
end
abbrev zB1(b1:Bool)(h:Heap)(l1:Addr):Heap:=h.push {cls:=.type (nmB b1),data:=.fields #[.ref l1,.int 0 0]}
abbrev zB2(b1 b2:Bool)(h:Heap)(l1 l2:Addr):Heap:=(zB1 b1 h l1).push {cls:=.type (nmB b2),data:=.fields #[.ref l2,.int 0 0]}
abbrev zB3(b1 b2:Bool)(h:Heap)(l1 l2:Addr):Heap:=(zB2 b1 b2 h l1 l2).push {cls:=.type "tuple",data:=.seq #[.ref h.objs.size,.ref (zB1 b1 h l1).objs.size]}
abbrev zB4(b1 b2:Bool)(h:Heap)(l1 l2:Addr):Heap:=(zB3 b1 b2 h l1 l2).push {cls:=.type "tuple",data:=.seq #[.none,.none]}
abbrev zB5(b1 b2:Bool)(h:Heap)(l1 l2:Addr):Heap:=(zB4 b1 b2 h l1 l2).push {cls:=.type "zip",data:=.fields #[.none,.bool false,.bool false,.ref (zB2 b1 b2 h l1 l2).objs.size,.ref (zB3 b1 b2 h l1 l2).objs.size]}
theorem Ro(b1 b2:Bool)(l1 l2:Addr)(xs ys:Array Value):
  Meets (Builtin.«zip.__new__» ⟨[.type "zip",.ref l1,.ref l2],[]⟩) (λ_ R s=>seqB b1 s.heap l1 xs/\seqB b2 s.heap l2 ys /\
   R (.ok (.ret (.ref (zB4 b1 b2 s.heap l1 l2).objs.size))) {s with heap:=zB5 b1 b2 s.heap l1 l2}):=
 .of_wp λprog w A R s h=>by
  obtain⟨b,g,d,tk,a⟩:=s;obtain⟨j,c,h⟩:=h;have k:=sub_zip;have i:seqB b1 (Shared.heap ⟨b,g,d,tk,a⟩) l1 xs:=j;have f:seqB b2 (Shared.heap ⟨b.push {cls:=.type (nmB b1),data:=.fields #[.ref l1,.int 0 0]},g,d,tk,a⟩) l2 ys:=c.at λo e=>zC _ e
  wp_walk using Hz i,Hz f
  exact⟨_,rfl,h⟩
theorem Rn{prog:Program}{w:World}{A:Around}{E:VP}{s:Shared}{b1 b2:Bool}{l1 l2:Addr}{xs ys:Array Value}{Q:VP}(p:seqB b1 s.heap l1 xs)(m:seqB b2 s.heap l2 ys)
  (h:∀h',IsZip h' (s.heap.objs.size+4) (s.heap.objs.size+2) (s.heap.objs.size+3) .none->IsPair h' (s.heap.objs.size+2) (.ref s.heap.objs.size) (.ref (s.heap.objs.size+1)) ->
   IsPair h' (s.heap.objs.size+3) .none .none->ItB b1 h' s.heap.objs.size l1 0->ItB b2 h' (s.heap.objs.size+1) l2 0 ->
   (∀c o,s.heap.get? c=some o->h'.get? c=some o)->Q (.ref (s.heap.objs.size+4)) {s with heap:=h'}):
  wpAny (model prog w) A (call (.type "zip") [.ref l1,.ref l2]) Q E s:=by
 refine callType_new F.called_zip ∅ (F.typeCall_zip_2 _ _) (F.newCall_zip_2 _ _) (λq=>F.args_object_init_3 q _ _) F.entry_zip_new
  (Ro b1 b2 l1 l2 xs ys) ⟨p,m,?_⟩
 have b:(zB1 b1 s.heap l1).objs.size=s.heap.objs.size+1:=xM ..;have g:(zB2 b1 b2 s.heap l1 l2).objs.size=s.heap.objs.size+2:=by rw[xM,b]
 have d:(zB3 b1 b2 s.heap l1 l2).objs.size=s.heap.objs.size+3:=by rw[xM,g]
 have k:(zB4 b1 b2 s.heap l1 l2).objs.size=s.heap.objs.size+4:=by rw[xM,d]
 have a:(zB5 b1 b2 s.heap l1 l2).get? (zB4 b1 b2 s.heap l1 l2).objs.size=some _:=zS _ rfl;have l:(zB5 b1 b2 s.heap l1 l2).get? (zB3 b1 b2 s.heap l1 l2).objs.size=some _:=zC _ (zS _ rfl);have i:(zB5 b1 b2 s.heap l1 l2).get? (zB2 b1 b2 s.heap l1 l2).objs.size=some _:=zC _ (zC _ (zS _ rfl));have f:∀c o,(zB2 b1 b2 s.heap l1 l2).get? c=some o->(zB5 b1 b2 s.heap l1 l2).get? c=some o:=λc o e=>zC _ (zC _ (zC _ e));have j:ItB b2 (zB5 b1 b2 s.heap l1 l2) (zB1 b1 s.heap l1).objs.size l2 0:=Hy.at λo e=>f _ o e;have n:ItB b1 (zB5 b1 b2 s.heap l1 l2) s.heap.objs.size l1 0:=Hy.at λo e=>f _ o (zC _ e);show _/\_;rw[g,d,k]at a;rw[b,g]at i;rw[d]at l;rw[b]at j;rw[k];exact⟨⟨_,a,rfl⟩,h _ a i l n j λc o x=>f c o (zC _ (zC _ x))⟩
section
variable {X:Cx} {pins:PN} {σ:St} {H:Hp} {s:Shared} {h':Heap}
theorem Inv.seqB{b:Bool}{a:Addr}{xs:List V}(I:Inv X pins σ H s)(h:SqB b X.K H a xs):∃its:LW,Vals xs its/\L2.seqB b s.heap a its.toArray:=by
 cases b
 ·obtain⟨its,c,p,_⟩:=I.list h;exact⟨its,c,p.isList⟩
 ·obtain⟨its,c,p,_⟩:=I.tuple h;exact⟨its,c,p⟩
theorem Inv.seqB_inj{b:Bool}{a:Addr}{xs ys:List V}(I:Inv X pins σ H s)(h:SqB b X.K H a xs)(c:SqB b X.K H a ys):xs=ys:=by
 cases b
 ·exact I.list_inj h c
 ·exact I.tuple_inj h c
theorem Inv.seq_ne{b:Bool}{a f:Addr}{xs:List V}(I:Inv X pins σ H s)(h:SqB b X.K H a xs)(d:FpOk X pins H f):a≠f:=by
 have i:∀u,Rd H a u->a≠f:=λu r z=>by
  subst z;rcases r with r|⟨o,r⟩ <;> (rw[d.1]at r;cases r)
 have g:∀o,X.K.lookup a=some o->a≠f:=λo e z=>by
  subst z;have q:=I.mod.kin a o e;rcases d.2.2.2.1 with w|w
  ·exact I.ok.noex _ _ q w
  ·exact absurd (zL (zJ q) (yH I.ok.bsz w)) (yR _)
 cases b
 ·rcases h with h|⟨o,its,n,c,_⟩
  ·exact i _ h
  ·exact g _ c
 ·rcases h with h|⟨o,its,n,c,_⟩
  ·exact i _ h
  ·exact g _ c
theorem Inv.turnedNew{f:LA}{n:Addr}{u:HO}{t':Nat}(I:Inv X pins σ H s)(i:∀b∈f,FpOk X pins H b)(k:∀b o,b∉f->s.heap.get? b=some o->h'.get? b=some o)(l:s.heap.objs.size<=n)
  (new:mI X.prog X.w (upd H n u) h' n u):Inv X pins σ (upd H n u) {s with heap:=h',toks:=t'}:=by
 have d:=I.hok.fresh l;have j:∀b v,H b=some v->b∉f:=λb v e z=>by rw[(i b z).1]at e;cases e
 have C:X.env.locals∉f:=λz=>(i _ z).2.1 rfl;refine I.step (g':=s.gens) (d':=s.drawn) (ch:=f) (λb g=>?_) (λb o _ _ a e _=>k b o a e) (λb o _ _ a e _=>⟨o.slots,k b o a e⟩) (λb o _ e z=>?_)
  (λb o a e=>⟨o,k b o a e⟩) (λb xs e=>?_) (λb o v e=>?_) (λb ps e=>⟨#[],?_⟩) (λm w=>?_) (λb v e=>?_) I.bare
 ·obtain⟨G,p,J,t,y,F⟩:=i b g;exact⟨t,p,y,F⟩
 ·rw[nN (zX (zL (zJ e) l))];exact z
 ·rw[nN (mX e d)];exact e
 ·rw[nN (mX e d)];exact e
 ·rw[nN (mX e d),e];simp
 ·obtain⟨o,es,ep,D,r⟩:=w;exact⟨o,es,ep,k _ o C D,r⟩
 ·by_cases g:b=n
  ·subst g;rw[nK]at e;cases e;exact new
  ·rw[nN g]at e;refine(I.hok b v e).stay (λc x a q=>k c x ?_ q) (λc q=>by rw[nN (mX q d)];exact q) λc xs q=>by rw[nN (mX q d)];exact q
   rcases a with z|z
   ·rw[z];exact j b v e
   ·exact j c _ z
theorem Inv.turnedL{d:LA}{t':Nat}(I:Inv X pins σ H s)(f:∀b∈d,FpOk X pins H b)(k:∀b o,b∉d->s.heap.get? b=some o->h'.get? b=some o):Inv X pins σ H {s with heap:=h',toks:=t'}:=by
 have g:∀b v,H b=some v->b∉d:=λb v e z=>by rw[(f b z).1]at e;cases e
 have t:X.env.locals∉d:=λz=>(f _ z).2.1 rfl;refine I.step (g':=s.gens) (d':=s.drawn) (ch:=d) (λb p=>?_) (λb o _ _ a e _=>k b o a e) (λb o _ _ a e _=>⟨o.slots,k b o a e⟩) (λb o _ e z=>z)
  (λb o a e=>⟨o,k b o a e⟩) (λb xs e=>e) (λb o v e=>e) (λb ps e=>⟨#[],by rw[e];simp⟩) (λm l=>?_) (λb v e=>?_) I.bare
 ·obtain⟨y,i,C,j,n,w⟩:=f b p;exact⟨j,i,n,w⟩
 ·obtain⟨o,es,ep,u,r⟩:=l;exact⟨o,es,ep,k _ o t u,r⟩
 ·refine(I.hok b v e).stay (λc x a q=>k c x ?_ q) (λc q=>q) λc xs q=>q;rcases a with z|z
  ·rw[z];exact g b v e
  ·exact g c _ z
end
def Itz(K:Frag)(b1:Bool)(l1:Addr)(b2:Bool)(l2:Addr):It:=
  ⟨λi H=>∃xs ys x y,SqB b1 K H l1 xs/\SqB b2 K H l2 ys/\xs[i]?=some x/\ys[i]?=some y,
   λi H v H'=>∃p x y,v=.ref p/\H p=none/\H'=upd H p (.tup [x,y])/\(∀xs,SqB b1 K H l1 xs->xs[i]?=some x)/\∀ys,SqB b2 K H l2 ys->ys[i]?=some y,
   λi H=>∃xs ys,SqB b1 K H l1 xs/\SqB b2 K H l2 ys/\(xs[i]?=none\/ys[i]?=none)⟩
theorem Hw{xs:List V}{its:LW}{i:Nat}(r:Vals xs its):xs[i]?=none->its.toArray[i]?=none:=λh=>by
 have:=r.none_of h;simpa using this
theorem Rm{P:Program}{w:World}{K:Frag}{es:List Expr}{k:Nat}{c5:Pos}{b1 b2:Bool}{z TI TO g d l1 l2:Addr}(S:[z,TI,TO,g,d].Nodup):
  Turn P w K (.Tuple es k c5) (Itz K b1 l1 b2 l2) [z,TI,TO,g,d] z (λi h=>IsZip h z TI TO .none/\IsPair h TI (.ref g) (.ref d)/\(∃a b,IsPair h TO a b)/\ItB b1 h g l1 i/\ItB b2 h d l2 i) where
 mem:=by simp
 obj:=λi h⟨C,m,⟨a,b,p⟩,r,u⟩c M=>by
  simp only[List.mem_cons,List.not_mem_nil,or_false]at M;rcases M with e|e|e|e|e <;> subst e
  ·exact⟨_,C,λv q=>by have O:Data.fields _=Data.cell v:=q;cases O⟩
  ·exact⟨_,m,λv q=>by have O:Data.seq _ _=Data.cell v:=q;cases O⟩
  ·exact⟨_,p,λv q=>by have O:Data.seq _ _=Data.cell v:=q;cases O⟩
  ·exact r.lt
  ·exact u.lt
 keep:=λi h h'⟨C,m,⟨a,b,p⟩,r,u⟩N=>⟨N z (by simp) _ C,N TI (by simp) _ m,⟨a,b,N TO (by simp) _ p⟩,r.at λo e=>N g (by simp) o e,u.at λo e=>N d (by simp) o e⟩
 item:=by
  intro X a0 b4 a4 M i c0 s c4 H E I t st a3;subst a0 b4 a4;obtain⟨C,m,⟨a,b,p⟩,r,u⟩:=st;obtain⟨xs,ys,x,y,G,J,e1,c1⟩:=a3;obtain⟨c8,b8,W⟩:=I.seqB G;obtain⟨d5,a9,b3⟩:=I.seqB J;obtain⟨b9,d1,d3⟩:=b8.get e1;obtain⟨c2,d2,d0⟩:=a9.get c1;have l:∀f∈[z,TI,TO,g,d],l1≠f:=λf F=>I.seq_ne G (t f F);have n:∀f∈[z,TI,TO,g,d],l2≠f:=λf F=>I.seq_ne J (t f F);simp only[List.nodup_cons,List.mem_cons,List.not_mem_nil,or_false,not_or,List.nodup_nil,and_true,not_false_eq_true]at S;obtain⟨⟨a7,a8,b5,Y⟩,⟨b6,V,Z⟩,⟨a1,b7⟩,a6⟩:=S;have D:ZipApart z TI TO g d l1 l2:=⟨yI a7,yI a8,yI b5,yI Y,b6,V,Z,a1,b7,a6,l z (by simp),l TO (by simp),l g (by simp),l d (by simp),n z (by simp),n TO (by simp),n g (by simp),n d (by simp)⟩;refine Rq D C m p r u W b3 (x:=b9) (y:=c2) (by simpa using d1) (by simpa using d2) λh' e0 c7 d6 d8 c9 e3 T=>⟨_,rfl,?_⟩;refine wpAny_letOwnedTupleGo_zip e0 λa2 c6 L=>?_;have up:∀c o,c∉[z,TI,TO,g,d]->s.heap.get? c=some o->a2.get? c=some o:=λc o j e=>by
   simp only[List.mem_cons,List.not_mem_nil,or_false,not_or]at j;obtain⟨R,d4,b0,a5,U⟩:=j;exact L.extBut _ _ R (T c o R b0 a5 U e)
  have c3:s.heap.objs.size≠z:=rT (zJ C);have new:mI X.prog X.w (upd H s.heap.objs.size (.tup [x,y])) a2 s.heap.objs.size (.tup [x,y]):=
   ⟨by show 2<=sizeLine;decide,[b9,c2],.cons d3 (.cons d0 .nil),⟨_,L.extBut _ _ c3 c9,rfl,_,rfl⟩⟩
  have d9:Inv X c0 c4 (upd H s.heap.objs.size (.tup [x,y])) {s with heap:=a2}:=I.turnedNew (t':=s.toks) t up (zG _) new;refine⟨.ref s.heap.objs.size,_,d9,rfl,⟨_,x,y,rfl,I.fresh,rfl,λe4 q=>by rw[I.seqB_inj q G];exact e1,λe2 q=>by rw[I.seqB_inj q J];exact c1⟩,⟨c6,L.extBut _ _ D.TIz (T _ _ D.TIz D.TITO D.TIi1 D.TIi2 m),⟨_,_,L.extBut _ _ D.TOz c7⟩,d6.at λo e=>L.extBut _ _ D.i1z e,d8.at λo e=>L.extBut _ _ D.i2z e⟩,λc j=>?_⟩;have d7:=(t c j).1;rw[nN]
  ·exact d7
  ·intro e;subst e;simp only[List.mem_cons,List.not_mem_nil,or_false]at j;rcases j with e|e|e|e|e
   ·exact c3 e
   ·exact absurd (zJ m) (by rw[←e];exact yR _)
   ·exact absurd (zJ p) (by rw[←e];exact yR _)
   ·obtain⟨o,q,_⟩:=r.lt;exact absurd (zJ q) (by rw[←e];exact yR _)
   ·obtain⟨o,q,_⟩:=u.lt;exact absurd (zJ q) (by rw[←e];exact yR _)
 done:=by
  intro X a0 b4 a4 M i c0 s c4 H E I t st a3;subst a0 b4 a4;obtain⟨C,m,⟨a,b,p⟩,r,u⟩:=st;obtain⟨xs,ys,G,J,e1⟩:=a3;obtain⟨c8,b8,W⟩:=I.seqB G;obtain⟨d5,a9,b3⟩:=I.seqB J;have l:∀f∈[z,TI,TO,g,d],l1≠f:=λf F=>I.seq_ne G (t f F);have n:∀f∈[z,TI,TO,g,d],l2≠f:=λf F=>I.seq_ne J (t f F);simp only[List.nodup_cons,List.mem_cons,List.not_mem_nil,or_false,not_or,List.nodup_nil,and_true,not_false_eq_true]at S;obtain⟨⟨a7,a8,b5,Y⟩,⟨b6,V,Z⟩,⟨a1,b7⟩,a6⟩:=S;have D:ZipApart z TI TO g d l1 l2:=⟨yI a7,yI a8,yI b5,yI Y,b6,V,Z,a1,b7,a6,l z (by simp),l TO (by simp),l g (by simp),l d (by simp),n z (by simp),n TO (by simp),n g (by simp),n d (by simp)⟩;refine Rp (I.ok.hd M) D C m p r u W b3 (e1.imp (Hw b8) (Hw a9)) λh' T=>⟨rfl,I.turnedL (t':=s.toks) t λc o j e=>?_⟩;simp only[List.mem_cons,List.not_mem_nil,or_false,not_or]at j;obtain⟨R,d4,b0,a5,U⟩:=j;exact T c o R b0 a5 U e
 self:=λ_ _ _ _ _ st h=>wpAny_pyIter_zip st.1 h
section
variable {X:Cx}
def iZip(K:Frag)(ta:TA):TI:=λσ H R=>ta σ H λvs H1=>∃b1 b2 l1 l2,vs=[.ref l1,.ref l2]/\(∃xs,SqB b1 K H1 l1 xs)/\(∃ys,SqB b2 K H1 l2 ys)/\R (Itz K b1 l1 b2 l2) H1
theorem Bq{a b:Expr}{m:TA}{es:List Expr}{k:Nat}{x p l:Pos}(L:Gl X "zip")(F:X.mg "zip"=none)(K:PA X [a,b] m)(M:bootBuiltins "zip"=some (.type "zip"):=by decide +kernel)
  (D:starEach [a,b] X.env=[(false,eval a X.env),(false,eval b X.env)]:=by rfl)(o:starEach [b] X.env=[(false,eval b X.env)]:=by rfl):
  PI X (.Tuple es k x) (.Call (.Name "zip" p) [a,b] [] l) (iZip X.K m):=by
 intro z s U H R I h;refine Call_ (fN I L F M (vQ (thn (K l z s U H _ I h) λus d⟨vs,w,f,T,g⟩=>?_) (by rw[D,o]) (by rw[o];rfl)));obtain⟨b1,b2,l1,l2,e,⟨xs,g⟩,⟨ys,G⟩,q⟩:=g;subst e;cases T with
 | cons r i =>
  cases i with
  | cons N i =>
   cases i;cases r;cases N;obtain⟨V,Y,J⟩:=f.seqB g;obtain⟨W,v2,S⟩:=f.seqB G;refine Rn J S λh' u v O P y C=>?_;refine wpAny_pyIter_zip u ?_;have lt:∀j,j<=4->d.heap.objs.size<=d.heap.objs.size+j:=λj _=>pL _ _;refine⟨d.heap.objs.size+4,[d.heap.objs.size+4,d.heap.objs.size+2,d.heap.objs.size+3,d.heap.objs.size,d.heap.objs.size+1],_,_,w,rfl,f.kept (t':=d.toks) C,Rm (b1:=b1) (b2:=b2) (l1:=l1) (l2:=l2) ?_,⟨u,v,⟨_,_,O⟩,P,y⟩,λc n=>?_,q⟩
   ·simp
   ·have t:d.heap.objs.size<=c:=by
     simp only[List.mem_cons,List.not_mem_nil,or_false]at n;rcases n with e|e|e|e|e <;> subst e <;> first|exact zG _|exact pL _ _
    exact f.fpOk t (f.hok.fresh t)
end
open AutoSeq1 (wpAny_loadPart')
set_option maxRecDepth 100000 in
theorem Rl(l:Addr)(items:Array Value)(n:Nat)(i:Option Addr)(b:Array (Option Value)):
  Meets (Builtin.«enumerate.__new__» ⟨[.type "enumerate",.ref l],[]⟩) (λ_ R s=>s.heap.get? l=some {cls:=.type "tuple",dict:=i,data:=.seq items n,slots:=b} /\
   R (.ok (.ret (.ref (s.heap.push {cls:=.type "tuple_iterator",data:=.fields #[.ref l,.int 0 0]}).objs.size)))
    {s with heap:=(s.heap.push {cls:=.type "tuple_iterator",data:=.fields #[.ref l,.int 0 0]}).push {cls:=.type "enumerate",data:=.fields #[.none,.bool false,.ref s.heap.objs.size,rawInt 0,.none,.none]}}):=
 .of_wp λprog w A R s h=>by
  obtain⟨f,g,d,tk,e⟩:=s;obtain⟨hl,h⟩:=h;have j:=sub_enumerate;have a:Heap.IsTuple (Shared.heap ⟨f,g,d,tk,e⟩) l items:=⟨_,hl,rfl,n,rfl⟩
  wp_walk using uK hl
  refine wpAny_stack_any λst=>zB ?_;split
  ·rename_i c _ _ _ _ _;cases(c == Value.type "enumerate")
   ·wp_walk using uK hl,uJ a
    exact⟨_,rfl,h⟩
   ·wp_walk using uK hl,uJ a
    exact⟨_,rfl,h⟩
  ·wp_walk using uK hl,uJ a
   exact⟨_,rfl,h⟩
theorem Rk{prog:Program}{w:World}{A:Around}{E:VP}{s:Shared}{b:Bool}{l:Addr}{items:Array Value}{Q:VP}(e:seqB b s.heap l items)
  (h:∀h',IsEnum h' (s.heap.objs.size+1) s.heap.objs.size 0 .none->ItB b h' s.heap.objs.size l 0 ->
   (∀b o,s.heap.get? b=some o->h'.get? b=some o)->Q (.ref (s.heap.objs.size+1)) {s with heap:=h'}):
  wpAny (model prog w) A (call (.type "enumerate") [.ref l]) Q E s:=by
 cases b
 ·exact call_enumerate_list e λh' m k r j=>h h' m k j
 ·obtain⟨⟨c,p,dt,i⟩,hl,a,n,d⟩:=e;replace a:c=.type "tuple" := a;replace d:dt=.seq items n:=d;subst a d;refine callType_new F.called_enumerate ∅ (F.typeCall_enumerate_1 _) (F.newCall_enumerate_1 _) (λq=>F.args_object_init_2 q _) F.entry_enumerate_new
   (Rl l items n p i) ⟨hl,?_⟩
  have g:(s.heap.push {cls:=.type "tuple_iterator",data:=.fields #[.ref l,.int 0 0]}).objs.size=s.heap.objs.size+1:=xM ..;show _/\_;rw[g];have f:IsEnum ((s.heap.push {cls:=.type "tuple_iterator",data:=.fields #[.ref l,.int 0 0]}).push
    {cls:=.type "enumerate",data:=.fields #[.none,.bool false,.ref s.heap.objs.size,rawInt 0,.none,.none]}) (s.heap.objs.size+1) s.heap.objs.size 0 .none:=by
   have:=zS (s.heap.push {cls:=.type "tuple_iterator",data:=.fields #[.ref l,.int 0 0]})
    (o:={cls:=.type "enumerate",data:=.fields #[.none,.bool false,.ref s.heap.objs.size,rawInt 0,.none,.none]}) rfl
   rw[g]at this;exact this
  refine⟨⟨_,f,rfl⟩,h _ f ⟨_,zC _ (zS _ rfl),rfl,rfl⟩ λb o x=>zC _ (zC _ x)⟩
def Ite(K:Frag)(b:Bool)(l:Addr):It:=
  ⟨λi H=>∃xs x,SqB b K H l xs/\xs[i]?=some x,
   λi H v H'=>∃p x,v=.ref p/\H p=none/\H'=upd H p (.tup [.int i,x])/\∀xs,SqB b K H l xs->xs[i]?=some x,
   λi H=>∃xs,SqB b K H l xs/\xs.length=i⟩
theorem Rj{P:Program}{w:World}{K:Frag}{es:List Expr}{k:Nat}{Y:Pos}{b:Bool}{e a l:Addr}(M:e≠a):
  Turn P w K (.Tuple es k Y) (Ite K b l) [e,a] e (λi h=>(∃r,IsEnum h e a i r)/\ItB b h a l i) where
 mem:=by simp
 obj:=λi h⟨⟨r,j⟩,g⟩c p=>by
  simp only[List.mem_cons,List.not_mem_nil,or_false]at p;rcases p with e|e <;> subst e
  ·exact⟨_,j,λv q=>by have a6:Data.fields _=Data.cell v:=q;cases a6⟩
  ·exact g.lt
 keep:=λi h h'⟨⟨r,j⟩,g⟩V=>⟨⟨r,V e (by simp) _ j⟩,g.at λo q=>V a (by simp) o q⟩
 item:=by
  intro X t O J p i T s W H E I y st G;subst t O J;obtain⟨⟨r,j⟩,g⟩:=st;obtain⟨xs,x,m,e1⟩:=G;obtain⟨n,R,D⟩:=I.seqB m;obtain⟨S,U,a2⟩:=R.get e1;have C:∀f∈[e,a],l≠f:=λf N=>I.seq_ne m (y f N);have a9:i<n.toArray.size:=by
   have:=(nB.mp U).1;simpa using this
  refine wpAny_pyNext_enum_itemD (Hx b (show X.A.in1.handled=none from I.ok.hd p) a l (C a (by simp)) n.toArray) j ⟨g,D⟩ a9 M (λq=>?_) λu h' tk t b1 a0 a4 b2 a1=>⟨_,rfl,?_⟩
  ·simp only[List.mem_cons,List.not_mem_nil,or_false]at q;rcases q with q|q
   ·exact M q
   ·exact C e (by simp) q.symm
  have a3:u=S:=by
   have:n.toArray[i]?=some S:=by simpa using U
   rw[this]at t;exact(yA t).symm
  subst a3;refine wpAny_letOwnedTupleGo_enum b1 λF Z L=>?_;have ne:s.heap.objs.size≠e:=rT (zJ j);have up:∀c o,c∉[e,a]->s.heap.get? c=some o->F.get? c=some o:=λc o d q=>by
   simp only[List.mem_cons,List.not_mem_nil,or_false,not_or]at d;exact L.extBut _ _ d.1 (a1 c o d.1 d.2 q)
  have new:mI X.prog X.w (upd H s.heap.objs.size (.tup [.int i,x])) F s.heap.objs.size (.tup [.int i,x]):=
   ⟨by show 2<=sizeLine;decide,[.int i tk,u],.cons ⟨tk,rfl⟩ (.cons a2 .nil),⟨_,L.extBut _ _ ne a4,rfl,_,rfl⟩⟩
  have a7:Inv X T W (upd H s.heap.objs.size (.tup [.int i,x])) {s with heap:=F,toks:=tk+1}:=I.turnedNew (t':=tk+1) y up (zG _) new;refine⟨.ref s.heap.objs.size,_,a7,rfl,⟨_,x,rfl,I.fresh,rfl,λb3 q=>by rw[I.seqB_inj q m];exact e1⟩,⟨⟨u,by simpa using Z⟩,a0.1.at λo q=>L.extBut _ _ (yI M) q⟩,λc d=>?_⟩;have a5:=(y c d).1;rw[nN]
  ·exact a5
  ·intro z;subst z;simp only[List.mem_cons,List.not_mem_nil,or_false]at d;rcases d with z|z
   ·exact ne z
   ·obtain⟨o,q,_⟩:=g.lt;exact absurd (zJ q) (by rw[←z];exact yR _)
 done:=by
  intro X t O J p i T s W H E I y st G;subst t O J;obtain⟨⟨r,j⟩,g⟩:=st;obtain⟨xs,m,e1⟩:=G;obtain⟨n,R,D⟩:=I.seqB m;have C:∀f∈[e,a],l≠f:=λf N=>I.seq_ne m (y f N);have a8:n.toArray.size=i:=by rw[yB,←R.length,e1]
  refine wpAny_pyNext_enum_endD (Hx b (show X.A.in1.handled=none from I.ok.hd p) a l (C a (by simp)) n.toArray) j ⟨by rw[a8];exact g,D⟩ λh' b0=>⟨rfl,I.turnedL (t':=s.toks) y λc o d q=>?_⟩;simp only[List.mem_cons,List.not_mem_nil,or_false,not_or]at d;exact b0 c o d.2 q
 self:=λ_ _ _ _ _ st h=>let ⟨⟨_,q⟩,_⟩:=st;wpAny_pyIter_enum q h
section
variable {X:Cx}
def fU(K:Frag)(ta:TA):TI:=λσ H R=>ta σ H λvs H1=>∃b l,vs=[.ref l]/\(∃xs,SqB b K H1 l xs)/\R (Ite K b l) H1
theorem dJ{a:Expr}{j:TA}{es:List Expr}{k:Nat}{v p i:Pos}(G:Gl X "enumerate")(z:X.mg "enumerate"=none)(D:PA X [a] j)(J:bootBuiltins "enumerate"=some (.type "enumerate"):=by decide +kernel)
  (y:starEach [a] X.env=[(false,eval a X.env)]:=by rfl):
  PI X (.Tuple es k v) (.Call (.Name "enumerate" p) [a] [] i) (fU X.K j):=by
 intro w s L H R I h;refine Call_ (fN I G z J (vQ (thn (D i w s L H _ I h) λus d⟨vs,u,f,K,g⟩=>?_) y rfl));obtain⟨b,l,e,⟨xs,g⟩,q⟩:=g;subst e;cases K with
 | cons r F =>
  cases F;cases r;obtain⟨M,N,C⟩:=f.seqB g;refine Rk C λh' o t x=>?_;refine wpAny_pyIter_enum o ?_;refine⟨d.heap.objs.size+1,[d.heap.objs.size+1,d.heap.objs.size],_,_,u,rfl,f.kept (t':=d.toks) x,Rj (b:=b) (l:=l) (by simp),⟨⟨_,o⟩,t⟩,λc m=>?_,q⟩;have n:d.heap.objs.size<=c:=by
   simp only[List.mem_cons,List.not_mem_nil,or_false]at m;rcases m with e|e <;> subst e <;> first|exact zG _|exact pL _ _
  exact f.fpOk n (f.hok.fresh n)
theorem Hv:∀{ns:LI'}{its:LW},Vals (ns.map V.int) its->∃xs:List (Int×Tok),its=xs.map (λp=>Value.int p.1 p.2)/\xs.map (·.1)=ns
 |[],_,.nil=>⟨[],rfl,rfl⟩
 |n:: r,_,.cons ⟨t,h⟩ q=>by
  obtain⟨xs,e1,a⟩:=Hv (ns:=r) q;exact⟨(n,t):: xs,by rw[h,e1];rfl,by rw[zM,a]⟩
theorem Ri(c:X.calm=true):lZ X (.builtin "sum") (λxs H Q=>∃(p:Addr)(ns:LI'),xs=[.ref p]/\SqL X.K H p (ns.map V.int)/\Q (.int ns.sum) H):=by
 intro i s j H xs us Q I r h;obtain⟨p,ns,rfl,a,q⟩:=h;obtain⟨u,rfl,e⟩:=jZ r;cases e;obtain⟨its,b,pl,g⟩:=I.list a;obtain⟨ps,e1,d⟩:=Hv b;have hl:s.heap.IsList p (intItems ps.toArray):=by
  have:=pl.isList;rw[e1]at this;simpa [intItems]using this
 refine sum_intListG (I.ok.hd c) hl λh' tk t' f=>⟨.int ns.sum,H,I.kept (t':=tk) f,⟨t',?_⟩,q⟩;rw[preSum_eq,wF (by simp)];simp[d]
end
theorem SqB.or{b:Bool}{K:Frag}{H:Hp}{a:Addr}{xs:List V}(h:SqB b K H a xs):SqL K H a xs\/SqT K H a xs:=by
 cases b
 ·exact .inl h
 ·exact .inr h
theorem SqB.up{b:Bool}{K:Frag}{H H':Hp}{a:Addr}{xs:List V}(h:SqB b K H a xs)(s:Same H H'):SqB b K H' a xs:=by
 cases b
 ·exact s.seq h
 ·exact s.tup h
theorem SqB.lst{K:Frag}{H:Hp}{a:Addr}{xs:List V}(h:H a=some (.lst xs)):SqB false K H a xs:=SqL.of h
theorem SqB.tup{K:Frag}{H:Hp}{a:Addr}{xs:List V}(h:H a=some (.tup xs)):SqB true K H a xs:=SqT.of h
def Its(K:Frag)(b:Bool)(a:Addr):It:=match b with|false=>Itl K a|true=>Itt K a
theorem Its.go{K:Frag}{b:Bool}{a:Addr}{xs:List V}{x:V}{i:Nat}{H:Hp}(h:SqB b K H a xs)(e:xs[i]?=some x):(Its K b a).go i H:=by
 cases b
 ·exact⟨xs,x,h,e⟩
 ·exact⟨xs,x,h,e⟩
theorem Its.stop{K:Frag}{b:Bool}{a:Addr}{xs:List V}{i:Nat}{H:Hp}(h:SqB b K H a xs)(e:xs.length<=i):(Its K b a).stop i H:=by
 cases b
 ·exact⟨xs,h,e⟩
 ·exact⟨xs,h,e⟩
theorem Its.yld{K:Frag}{b:Bool}{a:Addr}{xs:List V}{i:Nat}{H H':Hp}{x:V}(h:SqB b K H a xs)(y:(Its K b a).yld i H x H'):H'=H/\xs[i]?=some x:=by
 cases b
 ·exact⟨y.1,y.2 xs h⟩
 ·exact⟨y.1,y.2 xs h⟩
section
variable {X:Cx}
def iSeq(K:Frag)(tl:TE):TI:=λσ H R=>tl σ H λx H1=>∃b a,x=.ref a/\(∃xs,SqB b K H1 a xs)/\R (Its K b a) H1
theorem lH{m l:Expr}{j:TE}(hl:PE X l j):PI X m l (iSeq X.K j):=by
 intro u s w H R I h;refine thn (hl u s w H _ I h) λv c⟨x,i,d,t,k⟩=>?_;obtain⟨b,a,e,⟨xs,g⟩,q⟩:=k;subst e;cases t;cases b
 ·obtain⟨its,n,p,r⟩:=d.list g;refine uP p.isList ?_;refine⟨c.heap.objs.size,[c.heap.objs.size],_,_,i,rfl,d.kept (t':=c.toks) λb o e=>zC _ e,Oi a _,⟨_,zS _ rfl,rfl,rfl⟩,λb f=>?_,q⟩;have e:b=c.heap.objs.size:=by simpa using f
  subst e;exact d.fpOk (zG _) (d.hok.fresh (zG _))
 ·obtain⟨its,n,p,r⟩:=d.tuple g;refine uJ (show c.heap.IsTuple a its.toArray from p) ?_;refine⟨c.heap.objs.size,[c.heap.objs.size],_,_,i,rfl,d.kept (t':=c.toks) λb o e=>zC _ e,Oh a _,⟨_,zS _ rfl,rfl,rfl⟩,λb f=>?_,q⟩;have e:b=c.heap.objs.size:=by simpa using f
  subst e;exact d.fpOk (zG _) (d.hok.fresh (zG _))
def rIxB(K:Frag):R2:=λx y H Q=>E5 λ(b:Bool)(p:Addr)(xs:List V)(i:Int)(v:V)=>A5 (x=.ref p) (y=.int i) (SqB b K H p xs) (atI xs i=some v) (Q v H)
theorem ix_B:IxR X (rIxB X.K):=by
 intro l c k s m H x y v u Q I f j h;obtain⟨b,p,xs,i,g,e1,d,a,e,q⟩:=h;cases b
 ·exact Pa l c k s m H x y v u Q I f j ⟨p,xs,i,g,e1,d,a,e,q⟩
 ·exact Qz l c k s m H x y v u Q I f j ⟨p,xs,i,g,e1,d,a,e,q⟩
def dL(K:Frag):List V->Hp->VK->Prop:=λxs H Q=>E3 λ(b:Bool)(p:Addr)(ys:List V)=>A3 (xs=[.ref p]) (SqB b K H p ys) (Q (.int ys.length) H)
theorem Rh:lZ X (.builtin "len") (dL X.K):=by
 intro c s d H xs us Q I r h;obtain⟨b,p,ys,e,a,q⟩:=h;exact Qu c s d H xs us Q I r ⟨p,ys,e,a.or,q⟩
def Bp(K:Frag):List V->Hp->VK->Prop:=λxs H Q=>∃b p ys,xs=[.ref p]/\SqB b K H p ys/\∀l,H l=none->Q (.ref l) (upd H l (.lst ys))
theorem bE:lZ X (.type "list") (Bp X.K):=by
 intro c s d H xs us Q I r h;obtain⟨b,p,ys,e,a,q⟩:=h;exact Qt c s d H xs us Q I r ⟨p,ys,e,a.or,q⟩
def dM(K:Frag):List V->Hp->VK->Prop:=λxs H Q=>∃p ys,xs=[.ref p]/\((SqL K H p ys/\∀l,H l=none->Q (.ref l) (upd H l (.tup ys)))\/(SqT K H p ys/\Q (.ref p) H))
theorem gF:lZ X (.type "tuple") (dM X.K):=Qs
end
theorem Rg{K:Frag}{b:Bool}{a:Addr}{xs:List V}{g:TG}{tb:TS}{D:Ends}{c:St}{H:Hp}(d:Nat->St->Hp->Prop)(k:d 0 c H)(hl:∀i c H,i<=xs.length->d i c H->SqB b K H a xs)
  (l:∀i x c H,xs[i]?=some x->d i c H->g x c H λe j=>tb {D with nx:=d (i+1),ct:=d (i+1),bk:=D.nx} e j)(o:∀c H,d xs.length c H->D.nx c H):
  ∃f:Nat->Nat->St->Hp->Prop,(∃m,f 0 m c H)/\∀i m c H,f i m c H ->
   ((Its K b a).stop i H/\D.nx c H)\/((Its K b a).go i H/\∃N:St->Hp->Prop,(∀n H',N n H'->∃p,p<m/\f (i+1) p n H')/\∀x H',(Its K b a).yld i H x H'->g x c H' λe j=>tb {D with nx:=N,ct:=N,bk:=D.nx} e j):=by
 cases b
 ·exact Od d k hl l o
 ·exact Oc d k hl l o
theorem Rf{K:Frag}{b:Bool}{a:Addr}{xs:List V}{g:TG}{tb:TS}{D:Ends}{c:St}{H:Hp}(d:Nat->St->Hp->Prop)(u:d 0 c H)(hl:∀i c H,i<=xs.length->d i c H->SqB b K H a xs)
  (v:∀i x p c H,xs[i]?=some x->d i c H->H p=none->g (.ref p) c (upd H p (.tup [.int i,x])) λf l=>tb {D with nx:=d (i+1),ct:=d (i+1),bk:=D.nx} f l)(z:∀c H,d xs.length c H->D.nx c H):
  ∃k:Nat->Nat->St->Hp->Prop,(∃m,k 0 m c H)/\∀i m c H,k i m c H ->
   ((Ite K b a).stop i H/\D.nx c H)\/((Ite K b a).go i H/\∃N:St->Hp->Prop,(∀j H',N j H'->∃o,o<m/\k (i+1) o j H')/\∀x H',(Ite K b a).yld i H x H'->g x c H' λf l=>tb {D with nx:=N,ct:=N,bk:=D.nx} f l):=by
 refine⟨λi m c H=>m=xs.length-i/\i<=xs.length/\d i c H,⟨xs.length,by simp,zZ _,u⟩,?_⟩;rintro i m c H ⟨rfl,hi,p⟩;have q:=hl i c H hi p
 by_cases n:i<xs.length
 ·refine .inr ⟨⟨xs,xs[i],q,by simp[n]⟩,d (i+1),λj H' t=>⟨xs.length-(i+1),⋯,rfl,n,t⟩,λx H' y=>?_⟩;obtain⟨r,x,rfl,hr,rfl,w⟩:=y;exact v i x r c H (w xs q) p hr
 ·have e:i=xs.length:=⋯
  subst e;exact .inl ⟨⟨xs,q,rfl⟩,z c H p⟩
theorem Re{K:Frag}{b1 b2:Bool}{d c:Addr}{xs ys:List V}{g:TG}{tb:TS}{D:Ends}{a:St}{H:Hp}(b:Nat->St->Hp->Prop)(v:b 0 a H)(I:xs.length=ys.length)(hl:∀i a H,i<=xs.length->b i a H->SqB b1 K H d xs/\SqB b2 K H c ys)
  (w:∀i x y p a H,xs[i]?=some x->ys[i]?=some y->b i a H->H p=none->g (.ref p) a (upd H p (.tup [x,y])) λj n=>tb {D with nx:=b (i+1),ct:=b (i+1),bk:=D.nx} j n)(C:∀a H,b xs.length a H->D.nx a H):
  ∃o:Nat->Nat->St->Hp->Prop,(∃m,o 0 m a H)/\∀i m a H,o i m a H ->
   ((Itz K b1 d b2 c).stop i H/\D.nx a H)\/((Itz K b1 d b2 c).go i H/\∃N:St->Hp->Prop,(∀l H',N l H'->∃t,t<m/\o (i+1) t l H')/\∀x H',(Itz K b1 d b2 c).yld i H x H'->g x a H' λj n=>tb {D with nx:=N,ct:=N,bk:=D.nx} j n):=by
 refine⟨λi m a H=>m=xs.length-i/\i<=xs.length/\b i a H,⟨xs.length,by simp,zZ _,v⟩,?_⟩;rintro i m a H ⟨rfl,hi,p⟩;obtain⟨f,k⟩:=hl i a H hi p
 by_cases q:i<xs.length
 ·refine .inr ⟨⟨xs,ys,xs[i],ys[i],f,k,by simp[q],by simp⟩,b (i+1),λl H' u=>⟨xs.length-(i+1),⋯,rfl,q,u⟩,λx H' y=>?_⟩;obtain⟨r,x,z,rfl,hr,rfl,F,G⟩:=y;exact w i x z r a H (F xs f) (G ys k) p hr
 ·have e:i=xs.length:=⋯
  subst e;exact .inl ⟨⟨xs,ys,f,k,.inl (by simp)⟩,C a H p⟩
def jE(a:Addr)(H H':Hp):Prop:=∀b o,b≠a->H b=some o->H' b=some o
theorem Same.x{a:Addr}{H H':Hp}(s:Same H H'):jE a H H':=λb o _ e=>s b o e
section
variable {J:It} {g:TG} {tt:TOx} {te:TE} {n:Nat} {fr:List (Str×Nat)} {σ:St} {a:Addr} {H:Hp} {Q:VK} {K:Frag}
theorem Hu(len:Nat)(P:Nat->List V->Hp->Prop)(u:H a=none)(R:len<=1000)(D:P 0 [] (upd H a (.lst [])))
  (hl:∀i zs c,P i zs c->zs.length<=i)(mono:∀i zs c d,P i zs c->jE a c d->P i zs d)
  (I:∀i c,i<len->Same H c->J.go i c)(F:∀c,Same H c->J.stop len c)
  (N:∀i c zs,i<len->Same H c->c a=some (.lst zs)->P i zs c->∀(ys:St) x r,ys.length=n->J.yld i c x r->∀C:Option V->Hp->Prop,
   (∀y d,Same c d->P (i+1) (zs++[y]) d->C (some y) d)->(∀d,Same c d->P (i+1) zs d->C none d) ->
   g x (ys++lG fr σ) r λw L=>(∃v:St,v.length=n/\w=v++lG fr σ)/\tt w L C)
  (G:∀c ys,Same H c->c a=some (.lst ys)->P len ys c->Q (.ref a) c):kL J g tt n fr σ a H Q:=by
 refine⟨λi m c=>m=len-i/\i<=len/\Same H c/\∃zs,c a=some (.lst zs)/\P i zs c,⟨len,by simp,Nat.zero_le _,Same.new u,[],nK,D⟩,?_⟩;rintro i m c ⟨rfl,hi,f,zs,k,p⟩
 by_cases l:i<len
 ·refine .inr ⟨I i c l f,λH'=>i+1<=len/\Same H H'/\∃zs,H' a=some (.lst zs)/\P (i+1) zs H',λH' q=>⟨len-(i+1),⋯,rfl,q⟩,λys x r z M=>?_⟩;refine N i c zs l f k p ys x r z M _ (λy d j t=>?_) λd j t=>?_
  ·refine⟨zs,j _ _ k,iQ (by have:=hl i zs c p;omega),l,Same.over u (f.trans j),_,nK,mono _ _ _ _ t λb o O e=>?_⟩;rw[nN O];exact e
  ·exact⟨l,f.trans j,zs,j _ _ k,t⟩
 ·have e:i=len:=⋯
  subst e;exact .inl ⟨F c f,G c zs f k p⟩
theorem dN(len:Nat)(R:Nat->V->Hp->Prop)(v:H a=none)(P:len<=1000)(mono:∀i y b c,R i y b->jE a b c->R i y c)
  (G:∀i b,i<len->Same H b->J.go i b)(w:∀b,Same H b->J.stop len b)
  (N:∀i b zs,i<len->Same H b->b a=some (.lst zs)->∀(ys:St) x d,ys.length=n->J.yld i b x d->∀l:VK,(∀y c,Same b c->R i y c->l y c) ->
   g x (ys++lG fr σ) d λm L=>(∃k:St,k.length=n/\m=k++lG fr σ)/\te m L l)
  (F:∀b ys,Same H b->b a=some (.lst ys)->ys.length=len->(∀j y,ys[j]?=some y->R j y b)->Q (.ref a) b):kL J g (tEl te) n fr σ a H Q:=by
 refine Hu len (λi zs b=>zs.length=i/\∀j y,zs[j]?=some y->R j y b) v P ⟨rfl,λj y e=>by simp at e⟩ (λi zs b p=>rW p.1) (λi zs b c p s=>⟨p.1,λj y e=>mono _ _ _ _ (p.2 j y e) s⟩) G w ?_ λb ys s e p=>F b ys s e p.1 p.2;intro i b zs hi I o p ys x d t M C O _;refine N i b zs hi I o ys x d t M _ λy c f r=>O y c f ⟨by simp[p.1],λj z e=>?_⟩
 by_cases D:j<zs.length
 ·rw[yP D]at e;exact mono _ _ _ _ (p.2 j z e) f.x
 ·rw[yD ⋯]at e;have q:j-zs.length=0:=by
   by_cases u:j-zs.length=0
   ·exact u
   ·rw[List.getElem?_eq_none (by simp;omega)]at e;cases e
  rw[q]at e;cases yA e;have:j=i:=by have:=p.1;omega
  rw[this];exact r
theorem kM{b:Bool}{l:Addr}{xs:List V}(R:Nat->V->Hp->Prop)(t:H a=none)(f:SqB b K H l xs)(v:xs.length<=1000)(mono:∀i y c d,R i y c->jE a c d->R i y d)
  (r:∀i x c zs,xs[i]?=some x->Same H c->c a=some (.lst zs)->∀e:VK,(∀y d,Same c d->R i y d->e y d)->te (some x:: lG fr σ) c e)
  (w:∀c ys,Same H c->c a=some (.lst ys)->ys.length=xs.length->(∀j y,ys[j]?=some y->R j y c)->Q (.ref a) c):kL (Its K b l) (nS 0) (tEl te) 1 fr σ a H Q:=by
 refine dN xs.length R t v mono (λi c hi s=>Its.go (f.up s) (x:=xs[i]) (by simp[hi])) (λc s=>Its.stop (f.up s) (zG _)) ?_ w;intro i c zs hi k p ys x C m q e z;obtain⟨e1,u⟩:=Its.yld (f.up k) q;subst e1
 match ys,m with
 |[o],_=>exact⟨⟨[some x],rfl,rfl⟩,r i x C zs u k p e z⟩
theorem iE{lo:Int}{len:Nat}(R:Nat->V->Hp->Prop)(p:H a=none)(r:len<=1000)(mono:∀i y b c,R i y b->jE a b c->R i y c)
  (m:∀(i:Nat) b zs,i<len->Same H b->b a=some (.lst zs)->∀d:VK,(∀y c,Same b c->R i y c->d y c)->te (some (.int (lo+i)):: lG fr σ) b d)
  (t:∀b ys,Same H b->b a=some (.lst ys)->ys.length=len->(∀j y,ys[j]?=some y->R j y b)->Q (.ref a) b):kL (Itr lo len) (nS 0) (tEl te) 1 fr σ a H Q:=by
 refine dN len R p r mono (λi b hi s=>hi) (λb s=>zG _) ?_ t;intro i b zs hi f k ys x v e l d u;obtain⟨e1,q⟩:=l;subst e1 q
 match ys,e with
 |[o],_=>exact⟨⟨[_],rfl,rfl⟩,m i v zs hi f k d u⟩
theorem Ht{b1 b2:Bool}{l1 l2:Addr}{xs ys:List V}(R:Nat->V->Hp->Prop)(w:H a=none)(k:SqB b1 K H l1 xs)(f:SqB b2 K H l2 ys)(L:xs.length=ys.length)(G:xs.length<=1000)(mono:∀i y b c,R i y b->jE a b c->R i y c)
  (F:∀i x y b zs,xs[i]?=some x->ys[i]?=some y->Same H b->b a=some (.lst zs)->∀d:VK,(∀y c,Same b c->R i y c->d y c)->te (some x:: some y:: lG fr σ) b d)
  (z:∀b zs,Same H b->b a=some (.lst zs)->zs.length=xs.length->(∀j y,zs[j]?=some y->R j y b)->Q (.ref a) b):
  kL (Itz K b1 l1 b2 l2) (gTup K 2 (lM (nS 0) (lM (nS 1) gNil))) (tEl te) 2 fr σ a H Q:=by
 refine dN xs.length R w G mono (λi b hi s=>⟨xs,ys,xs[i],ys[i],k.up s,f.up s,by simp[hi],by simp⟩) (λb s=>⟨xs,ys,k.up s,f.up s,.inl (by simp)⟩) ?_ z;intro i b zs hi l q t x M v m d C;obtain⟨p,x,y,rfl,e,rfl,D,m⟩:=m;refine⟨p,[x,y],rfl,SqT.of nK,rfl,x,[y],rfl,y,[],rfl,rfl,?_⟩
 match t,v with
 |[o,I],_ =>
  refine⟨⟨[some x,some y],rfl,rfl⟩,F i x y _ zs (D xs (k.up l)) (m ys (f.up l)) (l.trans (Same.new e)) (Same.new e _ _ q) d λy c u r=>C y c ((Same.new e).trans u) r⟩
theorem Rc{b:Bool}{l:Addr}{xs:List V}(R:Nat->V->Hp->Prop)(w:H a=none)(k:SqB b K H l xs)(I:xs.length<=1000)(mono:∀i y c d,R i y c->jE a c d->R i y d)
  (G:∀i x c zs,xs[i]?=some x->Same H c->c a=some (.lst zs)->∀e:VK,(∀y d,Same c d->R i y d->e y d)->te (some (.int i):: some x:: lG fr σ) c e)
  (z:∀c zs,Same H c->c a=some (.lst zs)->zs.length=xs.length->(∀j y,zs[j]?=some y->R j y c)->Q (.ref a) c):
  kL (Ite K b l) (gTup K 2 (lM (nS 0) (lM (nS 1) gNil))) (tEl te) 2 fr σ a H Q:=by
 refine dN xs.length R w I mono (λi c hi s=>⟨xs,xs[i],k.up s,by simp[hi]⟩) (λc s=>⟨xs,k.up s,rfl⟩) ?_ z;intro i c zs hi m q t x M v D e C;obtain⟨p,x,rfl,f,rfl,F⟩:=D;refine⟨p,[.int i,x],rfl,SqT.of nK,rfl,_,[x],rfl,x,[],rfl,rfl,?_⟩
 match t,v with
 |[o,L],_ =>
  refine⟨⟨[some (.int i),some x],rfl,rfl⟩,G i x _ zs (F xs (k.up m)) (m.trans (Same.new f)) (Same.new f _ _ q) e λy d u r=>C y d ((Same.new f).trans u) r⟩
end
def MatB(b1 b2:Bool)(K:Frag)(H:Hp)(a:Addr)(rows:List (LI')):Prop:=∃ps:LA,SqB b1 K H a (ps.map V.ref)/\ps.length=rows.length/\∀(i:Nat)(p:Addr)(r:LI'),ps[i]?=some p->rows[i]?=some r->SqB b2 K H p (r.map V.int)
theorem MatB.up{b1 b2:Bool}{K:Frag}{H H':Hp}{a:Addr}{b:List (LI')}(h:MatB b1 b2 K H a b)(s:Same H H'):MatB b1 b2 K H' a b:=let ⟨ps,e,f,c⟩:=h;⟨ps,e.up s,f,λi p r e1 d=>(c i p r e1 d).up s⟩
def RowR(a:Addr)(f:Nat->LI')(j:Nat)(y:V)(H:Hp):Prop:=∃p,y=.ref p/\p≠a/\H p=some (.lst ((f j).map V.int))
theorem RowR.mono{a:Addr}{f:Nat->LI'}(i:Nat)(y:V)(b c:Hp)(h:RowR a f i y b)(s:jE a b c):RowR a f i y c:=let ⟨p,e,n,q⟩:=h;⟨p,e,n,s _ _ n q⟩
def iT:Nat->PyData->Bool
 |_,.int _=>true
 |n+1,.list xs=>xs.all (iT n)
 |n+1,.tuple xs=>xs.all (iT n)
 |_,_=>false
theorem iV:∀(n:Nat)(d:PyData),iT n d=true->d.canLay0=true/\d.depth<=n
 |0,.int _,_=>by simp[PyData.canLay0,PyData.depth]
 |n+1,.int _,_=>by simp[PyData.canLay0,PyData.depth]
 | n+1,.list xs,h=>by
  have all:∀ys:List PyData,ys.all (iT n)=true->PyData.canLayAll0 ys=true/\PyData.depthAll ys<=n:=by
   intro ys
   induction ys with
   |nil=>intro _;simp[PyData.canLayAll0,PyData.depthAll]
   |cons y r b =>
    intro a;rw[xF,zQ]at a;have c:=iV n y a.1;have e:=b a.2;simp only[PyData.canLayAll0,PyData.depthAll,Bool.and_eq_true];exact⟨⟨c.1,e.1⟩,⋯⟩
  have:=all xs (by simpa [iT]using h);simp only[PyData.canLay0,PyData.depth];exact⟨this.1,⋯⟩
 | n+1,.tuple xs,h=>by
  have all:∀ys:List PyData,ys.all (iT n)=true->PyData.canLayAll0 ys=true/\PyData.depthAll ys<=n:=by
   intro ys
   induction ys with
   |nil=>intro _;simp[PyData.canLayAll0,PyData.depthAll]
   |cons y r b =>
    intro a;rw[xF,zQ]at a;have c:=iV n y a.1;have e:=b a.2;simp only[PyData.canLayAll0,PyData.depthAll,Bool.and_eq_true];exact⟨⟨c.1,e.1⟩,⋯⟩
  have:=all xs (by simpa [iT]using h);simp only[PyData.canLay0,PyData.depth];exact⟨this.1,⋯⟩
theorem Bo:∀(n:Nat)(d d':PyData),iT n d=true->iT n d'=true->SeqAt.noMix d d'=true:=by
 intro n
 induction n with
 |zero=>intro d d' h h';cases d <;> simp[iT]at h <;> cases d' <;> simp[iT]at h' <;> simp[SeqAt.noMix]
 | succ n c =>
  have all:∀ys zs:List PyData,ys.all (iT n)=true->zs.all (iT n)=true->SeqAt.noMixAll ys zs=true:=by
   intro ys
   induction ys with
   |nil=>intro zs _ _;cases zs <;> simp[SeqAt.noMixAll]
   | cons y r e =>
    intro zs a b;cases zs with
    |nil=>simp[SeqAt.noMixAll]
    |cons z t =>
     rw[xF,zQ]at a b;simp only[SeqAt.noMixAll,Bool.and_eq_true];exact⟨c y z a.1 b.1,e t a.2 b.2⟩
  intro d d' h h';cases d <;> simp only[iT,Bool.false_eq_true]at h <;> cases d' <;> simp only[iT,Bool.false_eq_true]at h' <;> simp only[SeqAt.noMix]
  ·exact all _ _ h h'
  ·exact all _ _ h h'
theorem Bn:∀(n:Nat)(d d':PyData),iT n d=true->iT n d'=true->(same d d'=true↔d=d'):=by
 intro n
 induction n with
 |zero=>intro d d' h h';cases d <;> simp[iT]at h <;> cases d' <;> simp[iT]at h' <;> simp[same]
 | succ n c =>
  have all:∀ys zs:List PyData,ys.all (iT n)=true->zs.all (iT n)=true->(sameAll ys zs=true↔ys=zs):=by
   intro ys
   induction ys with
   |nil=>intro zs _ _;cases zs <;> simp[sameAll]
   | cons y r e =>
    intro zs a b;cases zs with
    |nil=>simp[sameAll]
    |cons z t =>
     rw[xF,zQ]at a b;simp only[sameAll,Bool.and_eq_true,List.cons.injEq];rw[c y z a.1 b.1,e t a.2 b.2]
  intro d d' h h';cases d <;> simp only[iT,Bool.false_eq_true]at h <;> cases d' <;> simp only[iT,Bool.false_eq_true]at h' <;> simp only[same,beq_iff_eq,PyData.int.injEq,PyData.list.injEq,PyData.tuple.injEq,reduceCtorEq,Bool.false_eq_true]
  ·exact all _ _ h h'
  ·exact all _ _ h h'
theorem Hs{n:Nat}{d:PyData}(a:n<=64)(h:iT n d=true):SeqAt.shaped d=true:=by
 have:=iV n d h;unfold SeqAt.shaped;rw[zQ];exact⟨this.1,zK ⋯⟩
section
variable {K:Frag} {H:Hp} {x y:V} {d d':PyData} {Q:VK}
theorem Rb(n:Nat)(f:n<=64)(g:Dt K H x d)(i:Dt K H y d')(c:iT n d=true)(a:iT n d'=true){b:Bool}(j:b=true↔d=d')(q:Q (.bl (!b)) H):rNeD K x y H Q:=by
 refine⟨d,d',g,i,Hs f c,Hs f a,Bo n d d' c a,?_⟩;have:=Bn n d d' c a;have e:same d d'=b:=by
  cases hs:same d d' <;> cases b <;> simp_all
 rw[e];exact q
end
def seqD(b:Bool)(ds:List PyData):PyData:=match b with|false=>.list ds|true=>.tuple ds
def fV(b:Bool)(ns:LI'):PyData:=seqD b (ns.map PyData.int)
def matD(b1 b2:Bool)(rows:List (LI')):PyData:=seqD b1 (rows.map (fV b2))
theorem Hr{b:Bool}{xs ys:List PyData}:seqD b xs=seqD b ys↔xs=ys:=by cases b <;> simp[seqD]
theorem Bm{a c:Type}{f:a->c}(b:∀x y,f x=f y->x=y):∀{xs ys:List a},xs.map f=ys.map f↔xs=ys
 |[],[]=>by simp
 |[],_:: _=>by simp
 |_:: _,[]=>by simp
 |x:: r,y:: t=>by
  rw[zM,zM,yY,yY,Bm b];exact⟨λh=>⟨b _ _ h.1,h.2⟩,λh=>⟨by rw[h.1],h.2⟩⟩
theorem Hq{b:Bool}{ns ms:LI'}:fV b ns=fV b ms↔ns=ms:=by
 unfold fV;rw[Hr,Bm λx y h=>by injection h]
theorem Ra{b1 b2:Bool}{A B:List (LI')}:matD b1 b2 A=matD b1 b2 B↔A=B:=by
 unfold matD;rw[Hr,Bm λx y h=>Hq.mp h]
theorem Dt.seqB{b:Bool}{K:Frag}{H:Hp}{a:Addr}{xs:List V}{ds:List PyData}(h:SqB b K H a xs)(c:Dts K H xs ds):Dt K H (.ref a) (seqD b ds):=by
 cases b
 ·exact .lst h c
 ·exact .tup h c
theorem Dt.intsB{b:Bool}{K:Frag}{H:Hp}{a:Addr}{ns:LI'}(h:SqB b K H a (ns.map V.int)):Dt K H (.ref a) (fV b ns):=Dt.seqB h (Dts.ints ns)
theorem Dt.matB{b1 b2:Bool}{K:Frag}{H:Hp}{a:Addr}{b:List (LI')}(h:MatB b1 b2 K H a b):Dt K H (.ref a) (matD b1 b2 b):=by
 obtain⟨ps,e,c,d⟩:=h;refine Dt.seqB e ?_;clear e
 induction ps generalizing b with
 |nil =>
  cases b with
  |nil=>exact .nil
  |cons r t=>simp at c
 | cons p ps f =>
  cases b with
  |nil=>simp at c
  |cons r t =>
   refine .cons (Dt.intsB (d 0 p r rfl rfl)) (f (by simpa using c) λi q z e1 g=>d (i+1) q z (by simpa using e1) (by simpa using g))
section
variable {wi:TI} {g:TG} {tt:TOx} {te:TE} {tc:TT} {n:Nat} {fr:List (Str×Nat)} {σ:St} {H:Hp} {Q:VK}
theorem mQ(h:∀B:TE,B=te->wi σ H λc b=>∀a,b a=none->kL c g (tEl B) n fr σ a b Q):kG wi g (tEl te) n fr σ H Q:=h _ rfl
theorem Sz(h:∀(C:TT)(B:TE),C=tc->B=te->wi σ H λc b=>∀a,b a=none->kL c g (fT C B) n fr σ a b Q):kG wi g (fT tc te) n fr σ H Q:=h _ _ rfl rfl
end
def seqO(b:Bool)(xs:List V):HO:=match b with|false=>.lst xs|true=>.tup xs
def rSlB(K:Frag):V->Option Int->Option Int->Hp->VK->Prop:=λx lo hi H Q=>∃b a xs,x=.ref a/\SqB b K H a xs /\
 (b=true->¬ (HT.sIx xs.length 0 lo=0/\HT.sIx xs.length xs.length hi=xs.length))/\∀p,H p=none->Q (.ref p) (upd H p (seqO b (cutV xs lo hi)))
theorem sl_B{X:Cx}:SlR X (rSlB X.K):=by
 intro l s m H x v k i lo hi d Q I j f pl g h;obtain⟨b,a,xs,e,c,n,q⟩:=h;cases b
 ·exact Qw l s m H x v k i lo hi d Q I j f pl g ⟨a,xs,e,c,q⟩
 ·exact Pe l s m H x v k i lo hi d Q I j f pl g ⟨a,xs,e,c,n rfl,q⟩
def MatL(H:Hp)(a:Addr)(rows:List (LI')):Prop:=∃ps:LA,H a=some (.lst (ps.map V.ref))/\ps.length=rows.length/\∀(i:Nat)(p:Addr)(r:LI'),ps[i]?=some p->rows[i]?=some r->p≠a/\H p=some (.lst (r.map V.int))
theorem MatL.b{K:Frag}{H:Hp}{a:Addr}{b:List (LI')}(h:MatL H a b):MatB false false K H a b:=let ⟨ps,e,f,c⟩:=h;⟨ps,SqB.lst e,f,λi p r e1 d=>SqB.lst (c i p r e1 d).2⟩
theorem MatL.up{H H':Hp}{a:Addr}{c:List (LI')}(h:MatL H a c)(s:Same H H'):MatL H' a c:=let ⟨ps,e,f,b⟩:=h;⟨ps,s _ _ e,f,λi p r e1 d=>⟨(b i p r e1 d).1,s _ _ (b i p r e1 d).2⟩⟩
theorem MatL.of{H:Hp}{a:Addr}{f:Nat->LI'}{ys:List V}(h:H a=some (.lst ys))(hr:∀(j:Nat) y,ys[j]?=some y->RowR a f j y H):MatL H a ((List.range ys.length).map f):=by
 have g:∃ps:LA,ys=ps.map V.ref:=by
  clear h;have:∀(zs:List V)(k:Nat),(∀(j:Nat) y,zs[j]?=some y->RowR a f (j+k) y H)->∃ps:LA,zs=ps.map V.ref:=by
   intro zs
   induction zs with
   |nil=>intro k _;exact⟨[],rfl⟩
   | cons z r d =>
    intro k c;obtain⟨p,e,_⟩:=c 0 z rfl;obtain⟨ps,b⟩:=d (k+1) λj y q=>by
     have:=c (j+1) y (by simpa using q)
     rwa[tN,Nat.add_comm 1 k]at this
    exact⟨p:: ps,by rw[e,b];rfl⟩
  exact this ys 0 hr
 obtain⟨ps,rfl⟩:=g;refine⟨ps,h,by simp,λi p r e1 b=>?_⟩;obtain⟨l,e,n,q⟩:=hr i (.ref p) (by simp[e1]);cases e;have hi:i<ps.length:=(nB.mp e1).1;have:r=f i:=by
  rw[zO,yX,yV hi]at b;exact(yA b).symm
 rw[this];exact⟨n,q⟩
theorem MatL.app{H:Hp}{l p:Addr}{M:List (LI')}{r:LI'}(h:MatL H l M)(f:H p=some (.lst (r.map V.int)))(ne:p≠l):∃xs,H l=some (.lst xs)/\xs.length=M.length/\MatL (upd H l (.lst (xs++[.ref p]))) l (M++[r]):=by
 obtain⟨ps,d,b,c⟩:=h;refine⟨_,d,by simp[b],ps++[p],by rw[nK];simp,by simp[b],λi q z e1 a=>?_⟩
 by_cases hi:i<ps.length
 ·rw[yP hi]at e1;rw[yP ⋯]at a;obtain⟨n,w⟩:=c i q z e1 a;exact⟨n,by rw[nN n];exact w⟩
 ·have e:i=ps.length:=by
   have:=(nB.mp e1).1;simp at this;omega
  subst e;rw[yD (zG _)]at e1;rw[b,yD (zG _)]at a;simp at e1 a;subst e1 a;exact⟨ne,by rw[nN ne];exact f⟩
theorem MatB.row{b1 b2:Bool}{K:Frag}{H:Hp}{a:Addr}{b:List (LI')}(h:MatB b1 b2 K H a b){i:Nat}{r:LI'}(e:b[i]?=some r):∃ps:LA,∃p,SqB b1 K H a (ps.map V.ref)/\(ps.map V.ref)[i]?=some (.ref p)/\(ps.map V.ref).length=b.length/\SqB b2 K H p (r.map V.int):=by
 obtain⟨ps,c,f,d⟩:=h;have hi:i<ps.length:=by have:=(nB.mp e).1;omega
 exact⟨ps,ps[i],c,by simp[hi],by simp[f],d i _ r (by simp[hi]) e⟩
theorem MatB.walk{b1 b2:Bool}{K:Frag}{H:Hp}{a:Addr}{b:List (LI')}(h:MatB b1 b2 K H a b):∃xs:List V,SqB b1 K H a xs/\xs.length=b.length/\∀(i:Nat) x,xs[i]?=some x->∃p r,x=.ref p/\b[i]?=some r/\SqB b2 K H p (r.map V.int):=by
 obtain⟨ps,d,f,c⟩:=h;refine⟨_,d,by simp[f],λi x e=>?_⟩;rw[zO]at e;cases q:ps[i]? with
 |none=>rw[q]at e;cases e
 |some p =>
  rw[q]at e;have hi:i<b.length:=by have:=(nB.mp q).1;omega
  exact⟨p,b[i],(yA e).symm,by simp[hi],c i p _ q (by simp[hi])⟩
theorem kH{a:Type}{xs:List a}{k:Nat}{x:a}{i:Int}(h:xs[k]?=some x)(hi:i=k):atI xs i=some x:=by
 subst hi;exact Pc h
theorem gZ{ns:LI'}{i:Nat}{x:V}(h:(ns.map V.int)[i]?=some x):∃n,ns[i]?=some n/\x=.int n:=by
 rw[zO]at h;cases e:ns[i]? with
 |none=>rw[e]at h;cases h
 |some n=>rw[e]at h;exact⟨n,rfl,(yA h).symm⟩
theorem fW{ns:LI'}{i:Nat}{n:Int}(h:ns[i]?=some n):(ns.map V.int)[i]?=some (.int n):=by rw[zO,h];rfl
theorem Sy{ns:LI'}{k:Nat}{n:Int}(h:ns[k]?=some n):ns.getD k 0=n:=by rw[tM,h];rfl
theorem Bl{ns:LI'}{k:Nat}(h:k<ns.length):ns[k]?=some (ns.getD k 0):=by simp[h]
theorem getD_mem{ns:LI'}{k:Nat}(h:k<ns.length):ns.getD k 0∈ns:=by
 rw[show ns.getD k 0=ns[k] by simp[h]];exact wS h
def colI(k:Nat)(rows:List (LI')):LI':=rows.map λr=>r.getD k 0
def dotI(ms ns:LI'):Int:=(List.zipWith (·*·) ms ns).sum
def bF(w:Nat)(rows:List (LI')):List (LI'):=(List.range w).map λk=>colI k rows
def mulM(w:Nat)(A B:List (LI')):List (LI'):=A.map λr=>(List.range w).map λk=>dotI r (colI k B)
section
variable {K:Frag} {g:TG} {tb:TS} {σ:St} {H:Hp} {nx:St->Hp->Prop} {rt:VK}
abbrev bH(J:It)(g:TG)(tb:TS)(nx:St->Hp->Prop)(rt:VK)(σ:St)(H:Hp):Prop:=∃W:Nat->Nat->St->Hp->Prop,(∃m,W 0 m σ H)/\∀i m σ H,W i m σ H ->
 (J.stop i H/\nx σ H)\/(J.go i H/\∃N:St->Hp->Prop,(∀σ' H',N σ' H'->∃m',m'<m/\W (i+1) m' σ' H')/\∀x H',J.yld i H x H'->g x σ H' λσ2 H2=>tb {nx:=N,rt:=rt,bk:=nx,ct:=N} σ2 H2)
theorem gG{lo:Int}{n:Nat}(a:Nat->St->Hp->Prop)(c:a 0 σ H)
  (d:∀i σ H,i<n->a i σ H->g (.int (lo+i)) σ H λb f=>tb {nx:=a (i+1),rt:=rt,bk:=nx,ct:=a (i+1)} b f)(e:∀σ H,a n σ H->nx σ H):bH (Itr lo n) g tb nx rt σ H:=
 Ob (D:={nx:=nx,rt:=rt,bk:=nx,ct:=nx}) a c d e
theorem fA{b:Bool}{a:Addr}{xs:List V}(c:Nat->St->Hp->Prop)(e:c 0 σ H)(hl:∀i σ H,i<=xs.length->c i σ H->SqB b K H a xs)
  (f:∀i x σ H,xs[i]?=some x->c i σ H->g x σ H λd k=>tb {nx:=c (i+1),rt:=rt,bk:=nx,ct:=c (i+1)} d k)(j:∀σ H,c xs.length σ H->nx σ H):bH (Its K b a) g tb nx rt σ H:=
 Rg (D:={nx:=nx,rt:=rt,bk:=nx,ct:=nx}) c e hl f j
theorem Bk{b:Bool}{a:Addr}{xs:List V}(c:Nat->St->Hp->Prop)(e:c 0 σ H)(hl:∀i σ H,i<=xs.length->c i σ H->SqB b K H a xs)
  (f:∀i x p σ H,xs[i]?=some x->c i σ H->H p=none->g (.ref p) σ (upd H p (.tup [.int i,x])) λd k=>tb {nx:=c (i+1),rt:=rt,bk:=nx,ct:=c (i+1)} d k)(j:∀σ H,c xs.length σ H->nx σ H):bH (Ite K b a) g tb nx rt σ H:=
 Rf (D:={nx:=nx,rt:=rt,bk:=nx,ct:=nx}) c e hl f j
end
theorem Sx{b1 b2:Bool}{K:Frag}{H:Hp}{a:Addr}{b:List (LI')}{i k:Nat}{r:LI'}{x:Int}{I c:Int}{Q:VK}(h:MatB b1 b2 K H a b)(e:b[i]?=some r)(g:r[k]?=some x)(hi:I=i)(j:c=k)(q:Q (.int x) H):
  rIxB K (.ref a) (.int I) H λv d=>rIxB K v (.int c) d Q:=by
 obtain⟨ps,p,k1,k2,k3,f⟩:=h.row e;exact⟨b1,a,_,_,_,rfl,rfl,k1,kH k2 hi,b2,p,_,_,_,rfl,rfl,f,kH (fW g) j,q⟩
theorem Sw{b1 b2:Bool}{K:Frag}{H:Hp}{a:Addr}{b:List (LI')}{i:Nat}{r:LI'}{I:Int}{Q:VK}(h:MatB b1 b2 K H a b)(e:b[i]?=some r)(hi:I=i)(q:∀p,SqB b2 K H p (r.map V.int)->Q (.ref p) H):
  rIxB K (.ref a) (.int I) H Q:=by
 obtain⟨ps,p,k1,k2,k3,c⟩:=h.row e;exact⟨b1,a,_,_,_,rfl,rfl,k1,kH k2 hi,q p c⟩
theorem bI{b1 b2:Bool}{K:Frag}{H:Hp}{a:Addr}{b:List (LI')}{Q:VK}(h:MatB b1 b2 K H a b)(q:Q (.int b.length) H):dL K [.ref a] H Q:=by
 obtain⟨ps,c,d,e⟩:=h;refine⟨b1,a,_,rfl,c,?_⟩;rw[yX,d];exact q
theorem bJ{b:Bool}{K:Frag}{H:Hp}{a:Addr}{ns:LI'}{Q:VK}(h:SqB b K H a (ns.map V.int))(q:Q (.int ns.length) H):dL K [.ref a] H Q:=by
 refine⟨b,a,_,rfl,h,?_⟩;rw[yX];exact q
def Itq(lo st:Int)(n:Nat):It:=⟨λi _=>i<n,λi H x H'=>H'=H/\x=.int (lo+i*st),λi _=>n<=i⟩
def kA(a:Addr)(H:Hp)(zs:List V)(M:List (LI')):Prop:=∃ps:LA,zs=ps.map V.ref/\ps.length=M.length/\∀(j:Nat)(p:Addr)(r:LI'),ps[j]?=some p->M[j]?=some r->p≠a/\H p=some (.lst (r.map V.int))
theorem kA.nil{a:Addr}{H:Hp}:kA a H [] []:=⟨[],rfl,rfl,λj p r e=>by simp at e⟩
theorem kA.len{a:Addr}{H:Hp}{zs:List V}{M:List (LI')}(h:kA a H zs M):zs.length=M.length:=let ⟨ps,e,l,_⟩:=h;by rw[e,yX,l]
theorem kA.mono{a:Addr}{H H':Hp}{zs:List V}{M:List (LI')}(h:kA a H zs M)(s:jE a H H'):kA a H' zs M:=let ⟨ps,e,l,q⟩:=h;⟨ps,e,l,λj p r e1 b=>⟨(q j p r e1 b).1,s _ _ (q j p r e1 b).1 (q j p r e1 b).2⟩⟩
theorem kA.snoc{a p:Addr}{H:Hp}{zs:List V}{M:List (LI')}{r:LI'}(h:kA a H zs M)(ne:p≠a)(f:H p=some (.lst (r.map V.int))):kA a H (zs++[.ref p]) (M++[r]):=by
 obtain⟨ps,rfl,c,d⟩:=h;refine⟨ps++[p],by simp,by simp[c],λi q z e1 b=>?_⟩
 by_cases hi:i<ps.length
 ·rw[yP hi]at e1;rw[yP ⋯]at b;exact d i q z e1 b
 ·have e:i=ps.length:=by
   have:=(nB.mp e1).1;simp at this;omega
  subst e;rw[yD (zG _)]at e1;rw[c,yD (zG _)]at b;simp at e1 b;subst e1 b;exact⟨ne,f⟩
theorem kA.mat{a:Addr}{H:Hp}{zs:List V}{M:List (LI')}(h:H a=some (.lst zs))(r:kA a H zs M):MatL H a M:=by
 obtain⟨ps,rfl,c,b⟩:=r;exact⟨ps,h,c,b⟩
theorem Ho(ns:LI')(lo hi:Option Int):cutV (ns.map V.int) lo hi=((ns.drop (HT.sIx ns.length 0 lo)).take (HT.sIx ns.length ns.length hi-HT.sIx ns.length 0 lo)).map V.int:=by
 unfold cutV;rw[yX,List.map_take,List.map_drop]
theorem Sv{ns:LI'}{k:Nat}(h:k<=ns.length):cutV (ns.map V.int) none (some (k:Int))=(ns.take k).map V.int:=by
 rw[Ho,HT.sIx_none,HT.sIx_nat,pR h];simp
theorem Su{ns:LI'}{k:Nat}(h:k<=ns.length):cutV (ns.map V.int) (some (k:Int)) none=(ns.drop k).map V.int:=by
 rw[Ho,HT.sIx_none,HT.sIx_nat,pR h,wF (by simp)]
section
variable {K:Frag} {H:Hp} {a a1:Addr} {M:List (LI')} {σ:St} {Q:VK} {b1 b2:Bool}
def MatT(H:Hp)(a:Addr)(rows:List (LI')):Prop:=∃ps:LA,H a=some (.lst (ps.map V.ref))/\ps.length=rows.length/\∀(i:Nat)(p:Addr)(r:LI'),ps[i]?=some p->rows[i]?=some r->H p=some (.tup (r.map V.int))
theorem Ss(G:MatB b1 false K H a M)(hl:M.length<=1000)(N:H a1=none)(O:∀b,Same H b->MatT b a1 M->Q (.ref a1) b):kL (Its K b1 a) (nS 0) (tEl (tCB (dM K) (mG (tVar 0) tNil))) 1 [] σ a1 H Q:=by
 obtain⟨xs,F,R,w⟩:=G.walk;refine kM (λj y b=>∃p r,y=.ref p/\M[j]?=some r/\p≠a1/\b p=some (.tup (r.map V.int))) N F ⋯ (λi y b W⟨p,r,e1,c,d,f⟩s=>⟨p,r,e1,c,d,s _ _ d f⟩) ?_ ?_
 ·intro i x b zs D g u U J;obtain⟨p,r,rfl,C,v⟩:=w i x D;exact⟨_,rfl,p,_,rfl,.inl ⟨v.up g,λl n=>J _ _ (Same.new n) ⟨l,r,rfl,C,yI (mX u n),nK⟩⟩⟩
 ·intro b ys g e1 m k;have I:∃ps:LA,ys=ps.map V.ref:=by
   clear e1 m;have:∀(zs:List V),(∀(j:Nat) y,zs[j]?=some y->∃p:Addr,y=.ref p)->∃ps:LA,zs=ps.map V.ref:=by
    intro zs
    induction zs with
    |nil=>intro _;exact⟨[],rfl⟩
    |cons z r L =>
     intro o;obtain⟨p,e⟩:=o 0 z rfl;obtain⟨ps,c⟩:=L λj y q=>o (j+1) y (by simpa using q);exact⟨p:: ps,by rw[e,c];rfl⟩
   exact this ys λj y e=>let ⟨p,r,e1,_⟩:=k j y e;⟨p,e1⟩
  obtain⟨ps,rfl⟩:=I;refine O b g ⟨ps,e1,by simp at m;omega,λi p r c d=>?_⟩;obtain⟨S,T,f,t,_,P⟩:=k i (.ref p) (by simp[c]);cases f;rw[d]at t;cases t;exact P
theorem MatT.tuple{l:Addr}(h:MatT H a M)(hl:H l=none):∃zs,H a=some (.lst zs)/\MatB true true K (upd H l (.tup zs)) l M:=by
 obtain⟨ps,c,e,b⟩:=h;exact⟨_,c,ps,SqB.tup nK,e,λi p r e1 d=>SqB.tup (Same.new hl _ _ (b i p r e1 d))⟩
end
theorem Bj{X:Cx}{x:Str}{v:V}{b:Pos}(a:Gl X x)(h:∃u,X.mg x=some u/\RelV v u)(c:(x == ("__debug__" :Str))=false:=by decide):PE X (.Name x b) (tC v):=by
 obtain⟨u,e,r⟩:=h;exact gT a e r c
def MkI(te:TE)(n:Int):Prop:=∀σ H Q,Q (.int n) H->te σ H Q
def MkIs(ta:TA)(ns:LI'):Prop:=∀σ H Q,Q (ns.map V.int) H->ta σ H Q
def MkR(te:TE)(ns:LI'):Prop:=∀σ H Q,(∀p H',Same H H'->H p=none->H' p=some (.lst (ns.map V.int))->Q (.ref p) H')->te σ H Q
def MkRs(ta:TA)(M:List (LI')):Prop:=∀σ H Q,(∀ps H',Same H H'->RefRowsN H H' ps M->Q (ps.map V.ref) H')->ta σ H Q
where RefRowsN (H H':Hp) (ps:LA) (M:List (LI')):Prop:=ps.length=M.length/\∀(j:Nat)(p:Addr)(r:LI'),ps[j]?=some p->M[j]?=some r->H' p=some (.lst (r.map V.int))
def MkM(te:TE)(M:List (LI')):Prop:=∀σ H Q,(∀p H',Same H H'->H p=none->MatL H' p M->Q (.ref p) H')->te σ H Q
def Mats(H:Hp)(p:Addr)(Ms:List (List (LI'))):Prop:=∃ps:LA,H p=some (.lst (ps.map V.ref))/\ps.length=Ms.length/\∀(i:Nat)(q:Addr)(M:List (LI')),ps[i]?=some q->Ms[i]?=some M->MatL H q M
def MkMs(ta:TA)(Ms:List (List (LI'))):Prop:=∀σ H Q,(∀(ps:LA) H',Same H H'->ps.length=Ms.length->(∀(i:Nat)(q:Addr)(M:List (LI')),ps[i]?=some q->Ms[i]?=some M->MatL H' q M)->Q (ps.map V.ref) H')->ta σ H Q
def MatD(H0 H:Hp)(a:Addr)(rows:List (LI')):Prop:=∃ps:LA,H a=some (.lst (ps.map V.ref))/\ps.length=rows.length/\ps.Nodup/\∀(i:Nat)(p:Addr)(r:LI'),ps[i]?=some p->rows[i]?=some r->p≠a/\H0 p=none/\H p=some (.lst (r.map V.int))
def isList:Expr->Bool
 |.List _ _=>true
 |_=>false
section
variable {X:Cx}
theorem Bi:∀{bs:List Bool}{its:LW},Vals (bs.map V.bl) its->∀(i:Nat)(v:Value),its[i]?=some v->∃b,bs[i]?=some b/\v=.bool b
 |[],_,.nil,i,v,e=>by simp at e
 |b:: r,_,.cons h q,i,v,e=>by
  cases i with
  |zero=>simp at e;subst e;exact⟨b,rfl,h⟩
  |succ i=>simpa using Bi (bs:=r) q i v (by simpa using e)
theorem Hn:∀bs:List Bool,((List.range bs.length).any λi=>(bs[i]?).getD false)=bs.any id
 |[]=>rfl
 |b:: bs=>by
  have a:=Hn bs;rw[zT,List.range_succ_eq_map,qU,qU,List.any_map];show(b || _)=(b || _);congr 1
theorem Sr(k:X.calm=true):lZ X (.builtin "any") (λxs H Q=>∃(p:Addr)(bs:List Bool),xs=[.ref p]/\SqL X.K H p (bs.map V.bl)/\Q (.bl (bs.any id)) H):=by
 intro z s C H xs us Q I r h;obtain⟨p,bs,rfl,d,q⟩:=h;obtain⟨u,rfl,l⟩:=jZ r;cases l;obtain⟨its,a,pl,y⟩:=I.list d;have hl:s.heap.IsList p its.toArray:=pl.isList;have f:p<s.heap.objs.size:=by obtain⟨_,e,_⟩:=hl;exact zJ e
 have m:its.toArray.size=bs.length:=by
  have:=a.length;simpa using this.symm
 refine call_any_walk (uP hl ?_);refine⟨s.heap.objs.size,[s.heap.objs.size,p],[s.heap.objs.size],its.toArray.size,_,_,λi=>(bs[i]?).getD false,rfl,Walks.list (A:=X.A.in1) (I.ok.hd k) _ p (zX f) its.toArray,
  ⟨⟨_,zS _ rfl,rfl,rfl⟩,hl.push _⟩,λi v o w t j c=>?_,λh' tk n=>?_⟩
 ·obtain⟨b,e,rfl⟩:=Bi a i v (by simpa using j);simp only[e,Option.getD_some]at c;exact vY c
 ·rw[m,Hn bs];refine⟨.bl (bs.any id),H,I.kept (t':=tk) λb x e=>n b x (λg=>by rw[oQ.mp g]at e;exact yR _ (zJ e)) (zC _ e),rfl,q⟩
end
section
variable {prog:Program} {w:World} {A:Around} {E:VP} {s:Shared}
theorem So{env:Env}{a:List Expr}{e}{b:Pos}{t:Addr}{items:Array Value}{Q:Unit->Shared->Prop}(hh:A.handled=none)(f:s.heap.IsList t items)
  (c:(assignEach a env).length=items.size)(d:(assignEach a env).findIdx? (·.1)=none)
  (h:∀h',Heap.ExtBut s.heap.objs.size s.heap h'->wpAny (model prog w) A (assignInOrder ((assignEach a env).map (·.2)) items.toList) Q E {s with heap:=h'}):
  wpAny (model prog w) A (assign (.Tuple a e b) env (.ref t)) Q E s:=by
 rw[assign_Tuple];refine zA (xO ?_);unfold unpack;rw[c,d];exact zA (yL (PySem.W.kun_itemsOf hh f h))
end
section
variable {X:Cx} {pos:Pos}
def Sn(K:Frag)(n:Nat)(t:TGs):TG:=λv σ H Q=>∃b a xs,v=.ref a/\SqB b K H a xs/\xs.length=n/\t xs σ H Q
theorem Hm{es:List Expr}{k:Nat}{t:TGs}{n:Nat}(j:X.calm=true)(h:PGs X es t)
  (m:(assignEach es X.env).length=n:=by rfl)(l:(assignEach es X.env).findIdx? (·.1)=none:=by rfl):PG X (.Tuple es k pos) (Sn X.K n t):=by
 intro d s f H v u Q I r c;obtain⟨b,a,xs,e1,g,hl,c⟩:=c;cases b with
 |true=>exact jY j h m l d s f H v u Q I r ⟨a,xs,e1,g,hl,c⟩
 |false =>
  subst e1;cases r;obtain⟨its,i,pl,w⟩:=I.list g;refine So (I.ok.hd j) pl.isList (by simp[m,←hl,i.length]) l λh' p=>?_;have q:Inv X d f H {s with heap:=h'}:=I.kept (t':=s.toks) λb o e=>p b o (zX (zJ e)) e;exact h d _ f H xs _ Q q (by simpa using i) c
end
section
variable {prog:Program} {w:World} {A:Around} {E:VP} {s:Shared}
set_option maxRecDepth 100000 in
end
def Hl(K:Frag)(C0:Addr)(tb:XE->TS)(ts:TS):TS:=λD σ H =>
 tb (λσ' C H'=>PySem.W.exmOne K C (.ref C0)=some true/\ts D σ' H') D σ H
section
variable {X:Cx} {C0:Addr} {x:Str} {np hpos pos:Pos} {body suite:List Stmt} {b₀:Stmt} {tb:XE->TS} {ts:TS}
theorem SP.offsuite{c:PN}{D:Ends}{f:Flow}{s:Shared}{e:Addr}(ok:X.Ok)(h:SP (X.suite e) c D f s):SP X c D f s:=by
 cases f with
 |next=>obtain⟨a,H',b,q⟩:=h;exact⟨a,H',b.offsuite ok,q⟩
 |brk=>obtain⟨a,H',b,q⟩:=h;exact⟨a,H',b.offsuite ok,q⟩
 |cont=>obtain⟨a,H',b,q⟩:=h;exact⟨a,H',b.offsuite ok,q⟩
 |ret u=>obtain⟨v,a,H',b,r,q⟩:=h;exact⟨v,a,H',b.offsuite ok,r,q⟩
theorem Sl(c:X.stack=X.env:: X.outer)(g:X.env.frame=some X.env.locals)(r:X.ex=[])
  (U:Gl X x)(R:X.mg x=some (.ref C0))(a6:∀l E o,gY (X.body l E) o->PSs (X.body l E) body (tb o))(N:∀e,PSs (X.suite e) (b₀:: suite) ts)
  (V:(x == ("__debug__" :Str))=false:=by decide):PS X (.Try body [.ExceptHandler (some (.Name x np)) none (b₀:: suite) hpos] [] [] pos) (Hl X.K C0 tb ts):=by
 intro a s a9 H D I h;refine wpAny_Try_except (zU (a6 (X.pn++a) (λi W=>wpAny (model X.prog X.w) X.A (noteFrame i X.env) (λ_ S=>wpAny (model X.prog X.w) X.A (setFlight i none) (λ_ G =>
  wpAny (model X.prog X.w) X.A (handleBy i X.env [.ExceptHandler (some (.Name x np)) none (b₀:: suite) hpos]) (SP X a D) X.xe G) X.xe S) X.xe W) _ ?_ [] s a9 H D I.intry h) (λf b q=>?_) λ_ _ q=>q)
 ·intro b2 d H' b e C O P Z;obtain⟨a1,a3⟩:=Z;have w:Inv X a d H' b:=O.offtry;obtain⟨B,a0,fl,t,J⟩:=P;have a8:Heap.FlyingW B (X.env:: X.outer) e C a0 b.heap:=c ▸ fl;have a2:X.A.frames=some (X.env:: X.outer):=I.ok.frames.trans (by rw[c]);have y:∀p∈X.pn++a,B.get? p.1=some p.2:=λp K=>J p (xE _ K);refine pQ a2 g a8 λb0 a4 m=>?_;refine oH a4 λj k n=>?_;have v:Inv X a d H' {b with heap:=j}:=w.flown c g r k.1 (m.trans n) t y;have L:Inv (X.suite e) a d H' {b with heap:=j}:=v.insuite;obtain⟨b3,M,Y⟩:=k.there;refine wpAny_handleBy_cons (codeAny_handlers_test (jI (X:=X.suite e) L U R ?_ V)) (by intro q;cases q);have F:PySem.W.Looks (model X.prog X.w) j (typeOf (.ref e)) C:=by
   rw[←Y];exact(rB M).andThen .now
  refine(PySem.W.exm_one v.kIn F a1).here ?_;show codeAny _ _ _ _ _;refine codeAny_handlers_suite ?_;refine lands_againW k λa5 z a7=>?_;have T:Inv X a d H' {b with heap:=a5}:=w.flown c g r z.1 ((m.trans n).trans a7) t y;refine zU (N e a _ _ _ _ T.insuite a3) (λf b1 q=>?_) λ_ _ q=>q.elim;exact SP.offsuite I.ok q
 ·cases f with
  |next=>exact uM (SP.offtry q)
  |brk=>exact SP.offtry q
  |cont=>exact SP.offtry q
  |ret u=>exact SP.offtry q
end
open Builtin Builtin.Str
section
variable {X:Cx}
theorem Bh:∀{xs:List Str}{us:LW},Vals (xs.map V.str) us->∃l:List (Str×Tok),us=strValues l/\l.map (·.1)=xs
 |[],us,r=>by have e:=r.zero;exact⟨[],e,rfl⟩
 | x:: xs,us,r=>by
  cases r with
  |cons a b =>
   obtain⟨t,rfl⟩:=a;obtain⟨l,rfl,e⟩:=Bh b;exact⟨(x,t):: l,rfl,by rw[zM,e]⟩
def Bg(K:Frag):V->List V->Hp->VK->Prop:=λx vs H Q=>∃(b:Bool)(u:Str)(p:Addr)(xs:List Str),x=.str u/\vs=[.ref p]/\SqB b K H p (xs.map V.str)/\JoinOk u xs=true/\Q (.str (Txt.join u xs)) H
theorem Bf:MtM X "str.join" (Bg X.K):=by
 intro C s D H x vs v us Q I j g h;obtain⟨b,u,p,xs,rfl,rfl,c,d,q⟩:=h;obtain⟨t,rfl⟩:=j;obtain⟨z,rfl,f⟩:=g.one;cases f;have a:=d;unfold JoinOk at a;rw[wY]at a;cases b with
 |false =>
  obtain⟨its,r,pl,w⟩:=I.list c;obtain⟨l,rfl,e⟩:=Bh r;subst e;exact rY F.slot_str_join (oF _ _ _) F.entry_str_join (F.args_str_join_2 _ _) (meets_str_join_list u t p l a) ⟨pl.isList,post_join l ⟨joinFit_length a,λt' k=>⟨.str _,H,I.tok _,⟨_,rfl⟩,q⟩⟩⟩
 |true =>
  obtain⟨its,r,pl,w⟩:=I.tuple c;obtain⟨l,rfl,e⟩:=Bh r;subst e;obtain⟨o,y,i,n,m⟩:=pl;exact rY F.slot_str_join (oF _ _ _) F.entry_str_join (F.args_str_join_2 _ _) (meets_str_join_tuple u t p l a) ⟨⟨o,n,y,i,m⟩,post_join l ⟨joinFit_length a,λt' k=>⟨.str _,H,I.tok _,⟨_,rfl⟩,q⟩⟩⟩
theorem Sk:∀(bs:List Bool),(List.range bs.length).all (λi=>(bs[i]?).getD false)=bs.all id:=by
 intro bs;rw[tQ,wI,wI];constructor
 ·intro h b a;obtain⟨i,hi,e⟩:=uI a;have:=h i (oZ.mpr hi);simpa [hi,e]using this
 ·intro h i hi;have hi':=oZ.mp hi;have:=h _ (wS hi');simpa [hi']using this
theorem Sj(k:X.calm=true):lZ X (.builtin "all") (λxs H Q=>∃(p:Addr)(bs:List Bool),xs=[.ref p]/\SqL X.K H p (bs.map V.bl)/\Q (.bl (bs.all id)) H):=by
 intro z s C H xs us Q I r h;obtain⟨p,bs,rfl,d,q⟩:=h;obtain⟨u,rfl,l⟩:=jZ r;cases l;obtain⟨its,a,pl,y⟩:=I.list d;have hl:s.heap.IsList p its.toArray:=pl.isList;have f:p<s.heap.objs.size:=by obtain⟨_,e,_⟩:=hl;exact zJ e
 have m:its.toArray.size=bs.length:=by
  have:=a.length;simpa using this.symm
 refine call_all_walk (uP hl ?_);refine⟨s.heap.objs.size,[s.heap.objs.size,p],[s.heap.objs.size],its.toArray.size,_,_,λi=>(bs[i]?).getD false,rfl,Walks.list (A:=X.A.in1) (I.ok.hd k) _ p (zX f) its.toArray,
  ⟨⟨_,zS _ rfl,rfl,rfl⟩,hl.push _⟩,λi v o w t j c=>?_,λh' tk n=>?_⟩
 ·obtain⟨b,e,rfl⟩:=Bi a i v (by simpa using j);simp only[e,Option.getD_some]at c;exact vY c
 ·rw[m,Sk bs];refine⟨.bl (bs.all id),H,I.kept (t':=tk) λb x e=>n b x (λg=>by rw[oQ.mp g]at e;exact yR _ (zJ e)) (zC _ e),rfl,q⟩
def Itx(x:Str):It:=⟨λi _=>i<x.cps.size,λi H y H'=>H'=H/\∃c,x.cps[i]?=some c/\y=.str ⟨#[c]⟩,λi _=>x.cps.size<=i⟩
theorem Si{P:Program}{w:World}{K:Frag}{R:Expr}(x:Str)(t:Tok)(a:Addr)(ty:String)(m:ty="str_ascii_iterator" \/ ty="str_iterator"):Turn P w K R (Itx x) [a] a (λi h=>h.IsStrIter a ty x t i) where
 mem:=by simp
 obj:=λi h st b f=>by
  have e:b=a:=by simpa using f
  subst e;obtain⟨o,e,c,d⟩:=st;exact⟨o,e,λv z=>by rw[d]at z;cases z⟩
 keep:=λi h h' st k=>by
  obtain⟨o,e,c,d⟩:=st;exact⟨o,k a (by simp) o e,c,d⟩
 item:=by
  intro X F N J C i D s O H E I n st G;subst F N J;have L:i<x.cps.size:=G;obtain⟨c,g⟩:∃c,x.cps[i]?=some c:=⟨_,tR L⟩;obtain⟨l,j,W,p,q,r⟩:=n a (by simp);have U:∀h',h'.IsStrIter a ty x t (i+1)->Heap.SameBut a s.heap h'->∃u,some (Value.str ⟨#[c]⟩ s.toks)=some u /\
   wpAny (model X.prog X.w) X.A (letOwnedTupleGo R (.ref a) u) (λ_ S=>∃y H',Inv X D O H' S/\RelV y u/\(Itx x).yld i H y H'/\S.heap.IsStrIter a ty x t (i+1)/\∀b∈[a],H' b=none) E {s with heap:=h',toks:=s.toks+1}:=λh' T Y=>by
   have Z:Inv X D O H {s with heap:=h',toks:=s.toks+1}:=I.turned (t':=s.toks+1) (λb o f e=>(Y.2 b f).trans e) l j p q r;obtain⟨o,e,V,d⟩:=id T;refine⟨_,rfl,cL (s:={s with heap:=h',toks:=s.toks+1}) e V d (by rcases m with rfl|rfl <;> decide) ⟨.str ⟨#[c]⟩,H,Z,⟨_,rfl⟩,⟨rfl,c,g,rfl⟩,T,λb f=>(n b f).1⟩⟩
  rcases m with rfl|rfl
  ·exact wpAny_pyNext_ascii_item st g U
  ·exact wpAny_pyNext_wide_item st g U
 done:=by
  intro X F N J C i D s O H E I n st G;subst F N J;have L:x.cps.size<=i:=G;have g:x.cps[i]?=none:=sJ L;obtain⟨l,j,W,p,q,r⟩:=n a (by simp);rcases m with rfl|rfl
  ·exact wpAny_pyNext_ascii_end (I.ok.hd C) st g λh' M=>⟨rfl,I.turned (t':=s.toks) (λb o f e=>M b o f e) l j p q r⟩
  ·exact wpAny_pyNext_wide_end (I.ok.hd C) st g λh' M=>⟨rfl,I.turned (t':=s.toks) (λb o f e=>M b o f e) l j p q r⟩
 self:=λ_ _ _ _ _ st h=>by
  rcases m with rfl|rfl
  ·exact wpAny_pyIter_striter_ascii st h
  ·exact wpAny_pyIter_striter_wide st h
def iStr(tl:TE):TI:=λσ H R=>tl σ H λx H1=>∃z,x=.str z/\R (Itx z) H1
theorem Sh{d l:Expr}{g:TE}(hl:PE X l g):PI X d l (iStr g):=by
 intro i s j H R I h;refine thn (hl i s j H _ I h) λv a⟨x,n,c,r,k⟩=>?_;obtain⟨z,rfl,q⟩:=k;obtain⟨t,rfl⟩:=r;have f:∀ty,(ty="str_ascii_iterator" \/ ty="str_iterator")->PIE X i j d R (.ref a.heap.objs.size) {a with heap:=a.heap.push {cls:=.type ty,data:=.fields #[.str z t,.int 0 0]}}:=λty m=>by
  refine⟨a.heap.objs.size,[a.heap.objs.size],_,_,n,rfl,c.kept (t':=a.toks) λb o e=>zC _ e,Si z t _ ty m,⟨_,zS _ rfl,rfl,rfl⟩,λb p=>?_,q⟩;have e:b=a.heap.objs.size:=by simpa using p
  subst e;exact c.fpOk (zG _) (c.hok.fresh (zG _))
 cases ha:z.cps.all (· <128)
 ·exact wpAny_pyIter_wide ha (f _ (.inr rfl))
 ·exact wpAny_pyIter_ascii ha (f _ (.inl rfl))
end
section
variable {fr:List (Str×Nat)} {σ:St} {a:Addr} {H:Hp} {Q:VK} {te:TE}
theorem Sg{z:Str}(R:Nat->V->Hp->Prop)(p:H a=none)(t:z.cps.size<=1000)(mono:∀i y b d,R i y b->jE a b d->R i y d)
  (m:∀(i:Nat) c b zs,z.cps[i]?=some c->Same H b->b a=some (.lst zs)->∀e:VK,(∀y d,Same b d->R i y d->e y d)->te (some (.str ⟨#[c]⟩):: lG fr σ) b e)
  (r:∀b ys,Same H b->b a=some (.lst ys)->ys.length=z.cps.size->(∀j y,ys[j]?=some y->R j y b)->Q (.ref a) b):kL (Itx z) (nS 0) (tEl te) 1 fr σ a H Q:=by
 refine dN z.cps.size R p t mono (λi b hi s=>hi) (λb s=>zG _) ?_ r;intro i b zs hi f k ys x v g l e u;obtain⟨e1,c,n,q⟩:=l;subst e1 q
 match ys,g with
 |[o],_=>exact⟨⟨[_],rfl,rfl⟩,m i c v zs n f k e u⟩
end
theorem Dts.strs{K:Frag}{H:Hp}:∀(xs:List Str),Dts K H (xs.map V.str) (xs.map PyData.str)
 |[]=>.nil
 |x:: r=>.cons (.str x) (Dts.strs r)
theorem Hk:∀xs:List Str,(∀x∈xs,PyData.strOk x=true)->PyData.canLayAll0 (xs.map PyData.str)=true/\PyData.depthAll (xs.map PyData.str)<=0
 |[],_=>by simp[PyData.canLayAll0,PyData.depthAll]
 |x:: r,h=>by
  have k:=Hk r λy a=>h y (zN _ a);simp only[List.map_cons,PyData.canLayAll0,PyData.depthAll,Bool.and_eq_true];exact⟨⟨by simp[PyData.canLay0,h x List.mem_cons_self],k.1⟩,by have:=k.2;simp[PyData.depth];omega⟩
theorem Hj:∀xs:List Str,SeqAt.noMixAll (xs.map PyData.str) (xs.map PyData.str)=true
 |[]=>by simp[SeqAt.noMixAll]
 |x:: r=>by
  simp only[List.map_cons,SeqAt.noMixAll,Bool.and_eq_true];exact⟨by simp[SeqAt.noMix],Hj r⟩
theorem Hi:∀xs:List Str,sameAll (xs.map PyData.str) (xs.map PyData.str)=true
 |[]=>by simp[sameAll]
 |x:: r=>by
  simp only[List.map_cons,sameAll,Bool.and_eq_true];exact⟨by simp[same],Hi r⟩
theorem Sf{K:Frag}{H:Hp}{p q:Addr}{xs:List Str}{Q:VK}(d:∀x∈xs,PyData.strOk x=true)(b:H p=some (.tup (xs.map V.str)))(c:H q=some (.tup (xs.map V.str)))(k:Q (.bl false) H):rNeD K (.ref p) (.ref q) H Q:=by
 have a:SeqAt.shaped (PyData.tuple (xs.map PyData.str))=true:=by
  unfold SeqAt.shaped;obtain⟨k1,k2⟩:=Hk xs d;rw[zQ];refine⟨by simp only[PyData.canLay0];exact k1,zK ?_⟩;simp only[PyData.depth];omega
 refine⟨.tuple (xs.map PyData.str),.tuple (xs.map PyData.str),.tup (SqT.of b) (Dts.strs xs),.tup (SqT.of c) (Dts.strs xs),a,a,by simp only[SeqAt.noMix];exact Hj xs,?_⟩;have e:same (PyData.tuple (xs.map PyData.str)) (PyData.tuple (xs.map PyData.str))=true:=by simp only[same];exact Hi xs
 rw[e];exact k
theorem Hh{base h h':Heap}:∀{l:List Env},h.FunFrames base l->(∀env∈l,∀a,env.frame=some a->h'.get? a=h.get? a)->h'.FunFrames base l
 |[],_,_=>trivial
 |env:: _,⟨j,⟨L,o,b,g,i,f⟩,hr⟩,c=>⟨j,⟨L,o,b,g,(c env (.head _) L b).trans i,f⟩,Hh hr λe d=>c e (.tail _ d)⟩
theorem Se{X:Cx}{F:PN}{N:St}{H:Hp}{s:Shared}{g B:Heap}(I:Inv X F N H s)(D:X.stack=X.env:: X.outer)(L:X.env.frame=some X.env.locals)(G:X.ex=[])
  (stay:B.StaysIn g)(K:∀b,b∈X.fs->∀o,s.heap.get? b=some o->(∀vs,o.data≠.fields vs)->∃k,g.get? b=some {o with slots:=k})(x:Cov (frs X.stack) X.s₀.heap H s.heap B):
  Un X.fs [] X.H₀ H X.s₀.heap g/\HOk X.prog X.w H g/\Cov X.fs X.s₀.heap H g B:=by
 have u:=I.base;rw[G]at u;have J:frs X.stack=X.env.locals:: X.fs:=by
  rw[D];unfold frs;rw[vG,L];rfl
 have m:∀b o,X.s₀.heap.get? b=some o->b∉X.fs->b∉frs X.stack:=λb o e c p=>by
  rw[J]at p;rcases xC.mp p with z|z
  ·exact absurd (zL (zJ e) I.ok.above) (by rw[z];exact yR _)
  ·exact c z
 have trk:∀b v,H b=some v->b∉frs X.stack:=λb v e p=>by
  have:=I.stkFree b p;rw[e]at this;cases this
 have j:∀b o,s.heap.get? b=some o->b∉frs X.stack->((∃f,X.s₀.heap.get? b=some f)\/∃v,H b=some v)->g.get? b=some o:=λb o e c r=>stay b o (x b o e c r);have y:∀b,b∈X.fs->∀o,s.heap.get? b=some o->∃k,g.get? b=some {o with slots:=k}:=λb c o e=>by
  obtain⟨_,f,d,C⟩:=I.funs.mem c;rw[e]at d;cases d;exact K b c o e C
 refine⟨⟨λb o e n c l=>?_,λb o e n c l=>?_,u.free,λb o e l=>?_,u.tups,u.frzs,u.tbls⟩,λa o t=>?_,λb o e c r=>?_⟩
 ·exact j b o (u.keep b o e n c l) (m b o e c) (.inl ⟨o,e⟩)
 ·obtain⟨k,e1⟩:=u.slot b o e n c l;obtain⟨M,w⟩:=y b c _ e1;exact⟨M,w⟩
 ·obtain⟨i,e1⟩:=u.there b o e l
  by_cases c:b∈X.fs
  ·obtain⟨k,w⟩:=y b c _ e1;exact⟨_,w⟩
  ·exact⟨i,j b i e1 (m b o e c) (.inl ⟨o,e⟩)⟩
 ·refine(I.hok a o t).stay (λb v c q=>?_) (λ_ q=>q) λ_ _ q=>q;rcases c with c|c
  ·subst c;exact j b v q (trk b o t) (.inr ⟨o,t⟩)
  ·exact j b v q (trk b _ c) (.inr ⟨_,c⟩)
 ·rcases r with⟨f,d⟩|⟨v,d⟩
  ·obtain⟨i,e1⟩:=u.there b f d (by simp);have q:=j b i e1 (m b f d c) (.inl ⟨f,d⟩);rw[e]at q;cases q;exact x b o e1 (m b f d c) (.inl ⟨f,d⟩)
  ·obtain⟨i,e1⟩:=(I.hok b v d).there;have q:=j b i e1 (trk b v d) (.inr ⟨v,d⟩);rw[e]at q;cases q;exact x b o e1 (trk b v d) (.inr ⟨v,d⟩)
def bK(X:Cx)(EX:Value->Hp->Prop):Prop:=X.stack=X.env:: X.outer/\X.env.frame=some X.env.locals/\X.ex=[] /\
 ∀(pins:PN)(σ:St)(H:Hp)(s:Shared)(h2 B:Heap)(e:Addr)(C a0:Value),Inv X pins σ H s ->
  (∀b,b∈X.fs->∀o,s.heap.get? b=some o->(∀vs,o.data≠.fields vs)->∃sl,h2.get? b=some {o with slots:=sl}) ->
  Heap.HeldW B X.stack e C a0 X.env.locals h2->Cov (frs X.stack) X.s₀.heap H s.heap B->EX C H->X.xe (.ref e) {s with heap:=h2}
section
variable {P:Program} {w:World} {K:Frag} {mg:MT} {base:Heap} {N:List Str} {qual:Str} {scope:Scope} {f:Addr} {cd:Value} {A:Around} {outer:List Env} {s₀:Shared} {H₀:Hp} {E:XK}
theorem Hg:bK (cxOf (CX1 P w) P w K mg base N qual scope f cd A outer s₀ H₀ E) (λC H=>E C none H):=by
 refine⟨rfl,rfl,rfl,?_⟩;intro t u H s d B e C a0 I p c g n;show wpAny _ _ (leaving _ (.ref e)) _ _ _;unfold leaving;refine zA (wpAny_noteFrame_againW rfl c.2.2.2 ?_);refine oH (s:={s with heap:=d}) c λr fl sm=>?_;obtain⟨k1,k2,⟨_,_,k3⟩,i⟩:=fl;obtain⟨un,ok,l⟩:=Se I rfl rfl rfl k1 (λb j o e a=>by
  obtain⟨q,e1⟩:=p b j o e a;obtain⟨m,k⟩:=sm b _ e1 a;exact⟨m,k⟩) g
 exact⟨e,C,H,B,a0,rfl,I.os,I.bare,un,ok,⟨k1,k2,k3,i⟩,l,n⟩
end
section
variable {M:Model} {A:Around} {E:VP} {s:Shared} {env:Env}
theorem Sd{base:Heap}{l:List Env}{e L:Addr}{v a0:Value}{Q:Unit->Shared->Prop}(R:Heap.HeldW base l e v a0 L s.heap)
  (h:∀h',Heap.HeldW base l e v a0 L h'->s.heap.UpToSlots h'->Q () {s with heap:=h'}):wpAny M A (setFlight (.ref e) (some L)) Q E s:=by
 obtain⟨z,x,hl,C,vs,T,D,ts,u,w,r,n,k,m,i,g,y⟩:=R;have t:3<ts.size:=(Array.getElem?_eq_some_iff.mp y).1;have d:∀b,b≠T->(s.heap.update T (Obj.mapFields (·.setIfInBounds 3 ((some L).elim Value.none λf=>rawInt f)))).get? b=s.heap.get? b:=
  λb a=>vM _ _ (yI a)
 have p:∀b o,s.heap.get? b=some o->(∀vs,o.data≠.fields vs)->b≠T:=λb o a c q=>by
  rw[q,i]at a;injection a with a;subst a;exact c ts g
 unfold setFlight;refine zA (xL u r n ?_);rw[zE (show(Value.ref T != Value.none)=true from by simp)];refine uT i g t (h _ ⟨λb o j=>(d b λq=>by rw[q,k]at j;cases j).trans (z b o j),x,
  hl.of_keeps λb o a c=>⟨o,(d b (p b o a c)).trans a,rfl⟩,?_⟩ λb o a c=>⟨o.slots,(d b (p b o a c)).trans a⟩)
 exact⟨C,vs,T,_,_,(d e (yI m)).trans u,w,r,n,k,m,wH _ i (rH (vR g _)),vR g _,by simp[t]⟩
theorem Sc{base:Heap}{l:List Env}{e L:Addr}{a a0:Value}{i:String}{Q:VP}(d:env.frame=some L)(R:Heap.HeldW base l e a a0 L s.heap)
  (h:∀h',Heap.HeldW base l e a a0 L h'->s.heap.UpToSlots h'->E (.ref e) {s with heap:=h'}):wpAny M A (PySem.passOn i (.ref e) env:Sem Value) Q E s:=by
 have c:=R;obtain⟨w,t,hl,p,vs,T,m,ts,b,v,g,f,o,q,k,n,j⟩:=R;unfold PySem.passOn;refine zA (xL b g f ?_);rw[zD (by simp)];rw[d];refine zA (Sd c λh' r u=>?_);exact wpAny_throw (h h' r u)
end
theorem Sb{prog:Program}{w:World}{A:Around}{R:Result->Shared->Prop}{s:Shared}{e a g:Expr}{p:List Expr}{k:Scope}{i:Pos}{d acc:Value}{env:Env}(I:Nat->Shared->Prop)
  (L:∀n s,I n s->wpAny (model prog w) A (pyNext d) (λr t=>match r with
   |none=>R (.ok .next) t
   | some v=>wpAny (model prog w) A (letOwnedTupleGo a d v) (λ_ z=>wpAny (model prog w) A (assign a env v) (λ_ u=>iU e p env (model prog w) A (λo q=>match o with
     |some x=>wpAny (model prog w) A (call (.builtin "list.append") [acc,x]) (λ_ D=>∃m,m<n/\I m D) (notedBy (model prog w) A env λx l=>R (.error x) l) q
     |none=>∃m,m<n/\I m q)
     (notedBy (model prog w) A env λx l=>R (.error x) l) u) (notedBy (model prog w) A env λx l=>R (.error x) l) z) (λ_ _=>False) t) (λ_ _=>False) s)
  (n:Nat)(h:I n s)(y:p.length<=1):
  codeAny (model prog w) A (.compLoop (.ListComp e [⟨a,g,p,0⟩] k i) 0 d acc env) R s:=by
 refine codeAny_loop rfl I (λn s K=>?_) n h;show wpAny _ _ ((compTurn (.ListComp e [⟨a,g,p,0⟩] k i) 0 d acc env).onRaise (λx=>do noteFrame x env;theTreesLotGoes x)) _ _ s;refine wpAny_noted ?_;have T:=L n s K
 match p,y,T with
 | [],_,T =>
  rw[compTurn_list1];refine zA (xO (zA (zU T (λr t j=>?_) λ_ _ h'=>h'.elim)));cases r with
  |none=>exact zB j
  | some v =>
   refine zA (zU j (λ_ z F=>?_) λ_ _ h'=>h'.elim);exact zA (zU F (λ_ u G=>zA (zA (zU (show wpAny _ _ _ _ _ _ from G) (λx q f=>zA (zU f
    (λ_ D C=>zB (zB ⟨rfl,C⟩)) λ_ _ h'=>h')) λ_ _ h'=>h'))) λ_ _ h'=>h')
 | [c],_,T =>
  have e1:compTurn (.ListComp e [⟨a,g,[c],0⟩] k i) 0 d acc env=(standAt g.pos >>= λ_=>pyNext d >>= λr=>match r with
   |none=>pure (.done .next)
   | some v=>letOwnedTupleGo a d v >>= λ_=>assign a env v >>= λ_=>isTrue c env (eval c env) >>= λok =>
    (if ok=true then(eval e env >>= λx=>call (.builtin "list.append") [acc,x] >>= λ_=>pure ()) >>= λ_=>again (.compLoop (.ListComp e [⟨a,g,[c],0⟩] k i) 0 d acc env)
     else again (.compLoop (.ListComp e [⟨a,g,[c],0⟩] k i) 0 d acc env))):=by
   unfold compTurn;simp only[List.forIn_cons,List.forIn_nil,if_true,bind_assoc,pure_bind,List.getElem?_cons_zero];rfl
  rw[e1];refine zA (xO (zA (zU T (λr t j=>?_) λ_ _ h'=>h'.elim)));cases r with
  |none=>exact zB j
  | some v =>
   refine zA (zU j (λ_ z F=>?_) λ_ _ h'=>h'.elim);refine zA (zU F (λ_ u G=>zA (zU (show wpAny _ _ _ _ _ _ from G) (λb q f=>?_) λ_ _ h'=>h')) λ_ _ h'=>h');cases b with
   |true =>
    rw[zE rfl]at f ⊢;exact zA (zA (zU f (λx D C=>zA (zU C (λ_ M J=>zB (zB ⟨rfl,J⟩)) λ_ _ h'=>h')) λ_ _ h'=>h'))
   |false =>
    rw[zD zR]at f ⊢;exact zB ⟨rfl,f⟩
 |_:: _:: _,y,T =>
  exact absurd y (by simp)
section
variable {M:Model} {A:Around} {E:VP} {s:Shared} {env:Env}
def iF(M:Model)(A:Around)(E:VP)(RO:Value->Addr->Shared->Prop)(acc:Value)(cenv:Env)(r:Result)(s':Shared):Prop:=
 match r with
 |.ok _=>RO acc cenv.locals s'
 |.error x=>∃m,s'.heap.Ns cenv.locals m/\∀h',Heap.SameBut cenv.locals s'.heap h'->∀cenv':Env,cenv'.frame=cenv.frame->wpAny M A (PySem.passOn "comprehension.variables-let-go" x cenv':Sem Value) (λ_ _=>False) E {s' with heap:=h'}
theorem Hf{e:Expr}{scope:Scope}{F:Pos}{t first:Sem Value}{g:Comprehension}{gs:List Comprehension}{p:List (Str×Addr)}{use:Option (Value->Sem Unit)}
  {Q:VP}
  (O:clausesOf e=g:: gs)(J:∀x,foldedSetIterable g.iter env x=pure x)(R:closureFor scope env=pure p)
  (n:scope.kind=.function)(K:∀x∈scope.names,x.2=.local->scope.names.lookup x.1=some .local)
  (h:wpAny M A first (λx v=>wpAny M A (pyIter x) (λw q=>wpAny M A t (λacc o =>
   wpAny M A (newFunctionEnv scope env.globals p [] env.qual none .none (some env)) (λcenv z =>
    codeAny M A (.compStart e 0 w acc {cenv with scope:=relabel scope env}) (iF M A E (λa C d=>compPost M A E use Q a C (.ok .next) d) acc cenv) z) E o) E q) E v) E s):
  wpAny M A (comprehension e scope env F t false first use) Q E s:=by
 unfold comprehension;rw[R,O];refine zA (zU h (λx v I=>zA (xO (zA (wpAny_of_eq (J x) (zA (yL (zU I (λw q P =>
  wpAny_standIf (zA (zU P (λacc o L=>zA (zB (zA (zU L (λcenv z N=>?_) λ_ _ h'=>h')))) λ_ _ h'=>h')))
   λ_ _ h'=>h'))))))) λ_ _ h'=>h')
 dsimp only;have i:∀x∈(scope.names.filter λx=>(x.2 == .local || x.2 == .cell) && x.1 != (".0" :Str)).reverse,x.2=.local ->
   Env.kindOf {cenv with scope:=relabel scope env} x.1=some .local:=λx k hl=>lookup_relabel_local (K x (List.mem_filter.mp (oS.mp k)).1 hl)
 refine yL (zA (wZ (yL (wpAny_run (wV N λr d hr=>?_)))));cases r with
 | ok f =>
  cases use with
  |none =>
   obtain⟨m,c,hr⟩:=hr;exact zA (yL (pJ (cenv:={cenv with scope:=relabel scope env}) n _ d m i c λh' D _ b=>zB (hr h' b)))
  | some u =>
   refine zA (wM (zA (yL (zU hr (λ_ G l=>?_) λ_ _ h'=>h'))));obtain⟨m,c,l⟩:=l;exact zA (pJ (cenv:={cenv with scope:=relabel scope env}) n _ G m (λx k hl=>by
    rcases oW.mp k with j|j
    ·exact i x (List.mem_of_mem_drop j) hl
    ·exact i x (rM j) hl) c λh' D _ b=>zB (l h' b))
 |error x =>
  obtain⟨m,c,hr⟩:=hr;exact zA (yL (pJ (cenv:={cenv with scope:=relabel scope env}) n _ d m i c λh' D _ b=>zU (hr h' b _ rfl) (λ_ _ f=>f.elim) λ_ _ y=>y))
end
def mU(X:Cx)(scope:Scope)(N:List Str)(s:Shared)(H:Hp)(fp:LA)(XE:VP):Cx:={mT X scope N s H fp with xe:=XE}
theorem Inv.xe{X:Cx}{a:Scope}{N:List Str}{c:Shared}{d:Hp}{b:LA}{e:PN}{f:St}{H:Hp}{s:Shared}(XE:VP)(I:Inv (mT X a N c d b) e f H s):Inv (mU X a N c d b XE) e f H s:=
 ⟨⟨I.ok.mod,I.ok.kind,I.ok.glob,I.ok.blt,I.ok.above,I.ok.inj,I.ok.has,I.ok.cab,I.ok.hd,I.ok.frames,I.ok.stk,I.ok.exf,I.ok.bs,I.ok.bsz,I.ok.noex,I.ok.exfs,I.ok.funs,I.ok.frf⟩,
  I.os,I.bare,I.base,I.loc,I.cell,I.free,I.freeC,I.pin,I.hok,I.len⟩
abbrev Cov2(fs ex:LA)(h₀:Heap)(H:Hp)(h B:Heap):Prop:=∀b o,h.get? b=some o->b∉fs->((b∉ex/\∃o',h₀.get? b=some o')\/∃u,H b=some u)->B.get? b=some o
def fX(X:Cx)(EX:Value->Hp->Prop):Prop:=∀(pins:PN)(σ:St)(H:Hp)(s:Shared)(e:Addr)(C:Value)(B:Heap)(a0:Value),Inv X pins σ H s->Heap.FlyingW B X.stack e C a0 s.heap ->
 Cov2 (frs X.stack) X.ex X.s₀.heap H s.heap B->EX C H->X.xe (.ref e) s
section
variable {X:Cx} {sc scope:Scope} {xs:List Str} {fr:List (Str×Nat)} {elt tg iter:Expr} {ifs:List Expr} {g:TG} {tt:TOx} {EX:Value->Hp->Prop} {RO:Value->Addr->Shared->Prop}
theorem He{G:PN}{D:St}{H:Hp}{s:Shared}{d1:Pos}{f5:It}{l:LA}{b6:Addr}{a4:Nat->Heap->Prop}{Q:VK}{E:VP}
  (c:kS X sc scope xs fr)(a7:X.calm=true)(c6:bK X EX)(a6:ifs.length<=1)(I:Inv X G D H s)(T:Turn X.prog X.w X.K tg f5 l b6 a4)(e6:a4 0 s.heap)(W:∀b∈l,FpOk X G H b)
  (g7:∀(v:Shared)(K:Hp)(l:LA)(XE:VP),(mU X scope (xs++fr.map (·.1)) v K l XE).env.scope=lP sc scope->PG (mU X scope (xs++fr.map (·.1)) v K l XE) tg g)
  (a5:∀(v:Shared)(K:Hp)(l:LA)(XE:VP),(mU X scope (xs++fr.map (·.1)) v K l XE).env.scope=lP sc scope->fX (mU X scope (xs++fr.map (·.1)) v K l XE) EX->POx (mU X scope (xs++fr.map (·.1)) v K l XE) elt ifs tt)
  (k5:∀a,H a=none->kL f5 g tt xs.length fr D a H Q)
  (i2:∀a C H' t m,t.heap.Ns C m->Inv X G D H' t->FpOk X G H' C->Q (.ref a) H'->RO (.ref a) C t):
  wpAny (model X.prog X.w) X.A (newList []) (λacc v=>wpAny (model X.prog X.w) X.A (newFunctionEnv scope X.env.globals (clOf X.env scope.names []) [] X.env.qual none .none (some X.env)) (λcenv m0 =>
   codeAny (model X.prog X.w) X.A (.compStart (.ListComp elt [⟨tg,iter,ifs,0⟩] scope d1) 0 (.ref b6) acc {cenv with scope:=relabel scope X.env}) (iF (model X.prog X.w) X.A X.xe RO acc cenv) m0) E v) E s:=by
 obtain⟨f9,⟨i9,w0⟩,k8⟩:=k5 s.heap.objs.size I.fresh;refine xB (Gc ?_);have f2:Inv X G D (upd H s.heap.objs.size (.lst [])) {s with heap:=s.heap.push {cls:=.type "list",dict:=none,data:=.seq ([]:LW).toArray}}:=I.lnew (ys:=[]) (its:=[]) (t':=s.toks) .nil (zZ _);have R:∀b o,s.heap.get? b=some o->(s.heap.push {cls:=.type "list",dict:=none,data:=.seq ([]:LW).toArray}).get? b=some o:=λb o e=>zC _ e;have c2:Un (frs X.stack) l H (upd H s.heap.objs.size (.lst [])) s.heap (s.heap.push {cls:=.type "list",dict:=none,data:=.seq ([]:LW).toArray}):=Un.laid R (zG _) I.fresh;dsimp only;generalize hH2:s.heap.push {cls:=.type "list",dict:=none,data:=.seq ([]:LW).toArray}=j at f2 R c2 ⊢;have hsz:s.heap.objs.size<=j.objs.size:=by rw[←hH2,xM];exact uO _
 have e0:∀b∈l,∃o,s.heap.get? b=some o:=λb k=>let ⟨o,e,_⟩:=T.obj _ _ e6 b k;⟨o,e⟩
 have l3:∀b∈l,b≠s.heap.objs.size:=λb k=>let ⟨_,e⟩:=e0 b k;zX (zJ e)
 have d9:∀b∈l,FpOk X G (upd H s.heap.objs.size (.lst [])) b/\∃o,j.get? b=some o:=λb k=>by
  obtain⟨o,e⟩:=e0 b k;exact⟨⟨by rw[nN (l3 b k)];exact(W b k).1,(W b k).2⟩,o,R b o e⟩
 have k0:=Gb c f2 d9;have j5:∀b o,j.get? b=some o->(pushCells (j.push {cls:=.type "dict",data:=.dict #[]}) scope.names).get? b=some o:=λb o e=>rN _ _ b o (zC _ e);have e3:a4 0 (pushCells (j.push {cls:=.type "dict",data:=.dict #[]}) scope.names):=T.keep 0 _ _ e6 λb k o e=>j5 b o (R b o e);have f8:∀(v:Shared)(K:Hp)(l:LA)(XE:VP),(mU X scope (xs++fr.map (·.1)) v K l XE).env.scope=lP sc scope:=λ_ _ _ _=>Gf c.hsc;obtain⟨XE,e7⟩:∃XE:VP,XE=notedBy (model X.prog X.w) X.A (compEnvC scope (cellsFrom (j.objs.size+1) scope.names (clOf X.env scope.names [])) j.objs.size X.env) (λx t=>iF (model X.prog X.w) X.A X.xe RO (.ref s.heap.objs.size) (newEnv scope j.objs.size X.env.globals (cellsFrom (j.objs.size+1) scope.names (clOf X.env scope.names [])) X.env.qual none .none (some X.env) X.env.builtins) (.error x) t):=⟨_,rfl⟩;have c5:=k0.xe XE;have j3:fX (mU X scope (xs++fr.map (·.1)) {s with heap:=j} (upd H s.heap.objs.size (.lst [])) l XE) EX:=by
  obtain⟨a8,b5,e9,c6⟩:=c6;intro m8 m4 w L e C B a0 J fl i8 i6;obtain⟨b8,b3,_⟩:=J.loc;have V:Inv X G D w L:=I.call' J.os (c2.trans J.base) J.hok J.bare λb k=>let f:=W b k;⟨f.2.2.2.1,f.2.1,f.2.2.2.2.1,f.2.2.2.2.2⟩
  show XE (.ref e) L;rw[e7];show wpAny _ _ (noteFrame (.ref e) X.env) _ _ L;refine pQ (I.ok.frames.trans (by rw[a8])) b5 (a8 ▸ fl) λe8 k7 e2=>?_;obtain⟨c3,l7,h0,h4,a9,l2,j2⟩:=b3;obtain⟨m6,b9⟩:=e2 j.objs.size c3 h4 (λvs z=>by rw[a9]at z;cases z);refine⟨b8,⟨_,l7,h0,b9,a9,l2,j2⟩,λh' a1 m9 i5=>?_⟩;obtain⟨g1,i0,h9,h6,vs,T,l5,ts,a5,j9,d8,i3,j7,j8,b1,f7,k3⟩:=k7;have ne:e≠j.objs.size:=λz=>by
   rw[z,b9]at a5;cases a5;have a2:c3.data=.fields vs:=d8;rw[a9]at a2;cases a2
  have j1:T≠j.objs.size:=λz=>by
   rw[z,b9]at b1;cases b1;have a2:c3.data=.fields ts:=f7;rw[a9]at a2;cases a2
  have e5:∀b∈frs X.stack,b≠j.objs.size:=λb k z=>by
   obtain⟨_,o,l0,_⟩:=I.stack.mem k;exact absurd (zL (zJ l0) hsz) (by rw[z];exact yR _)
  have c7:Heap.StaysIn (PySem.W.hideAll B [j.objs.size]) B:=λb o q=>uL _ q;have h8:Heap.HeldW (PySem.W.hideAll B [j.objs.size]) X.stack e C a0 X.env.locals h':=by
   refine⟨λb o q=>?_,PySem.W.fresh_of_stays c7 i0,Hh (PySem.W.funFrames_base c7 (a8 ▸ h9)) λenv g9 a g5=>a1.2 a (e5 a (oU.mpr ⟨env,g9,g5⟩)),h6,vs,T,l5,ts,(a1.2 e ne).trans a5,j9,d8,i3,PySem.W.fresh_of_stays c7 j7,j8,(a1.2 T j1).trans b1,f7,k3⟩;have O:b≠j.objs.size:=λz=>by
    rw[z,tH _ (by simp)]at q;cases q
   exact(a1.2 b O).trans (g1 b o (uL _ q))
  refine Sc (i5.trans b5) h8 λk6 l8 m1=>?_;refine c6 G D w L k6 _ e C a0 V (λb k o e1 d3=>?_) l8 (λb o e1 k a7=>?_) i6
  ·obtain⟨m3,S⟩:=e2 b o e1 d3;have O:b≠j.objs.size:=e5 b (by
    rw[a8];unfold frs;rw[vG,b5];exact zN _ k)
   obtain⟨j0,g6⟩:=m1 b _ ((a1.2 b O).trans S) d3;exact⟨j0,g6⟩
  ·have O:b≠j.objs.size/\((b∉l/\∃d0,j.get? b=some d0)\/∃u,w b=some u):=by
    rcases a7 with⟨d0,a3⟩|⟨u,a3⟩
    ·obtain⟨c4,S⟩:=I.base.there b d0 a3 (by rw[e9];simp);refine⟨λz=>?_,.inl ⟨λj4=>?_,c4,R b c4 S⟩⟩
     ·exact absurd (zJ (R b c4 S)) (by rw[z];exact yR _)
     ·have:=(W b j4).2.2.2.1;rw[e9]at this;rcases this with z|z
      ·simp at z
      ·exact absurd (zJ a3) (Nat.not_lt.mpr z)
    ·refine⟨λz=>?_,.inr ⟨u,a3⟩⟩;have:w j.objs.size=none:=J.free;rw[←z,a3]at this;cases this
   exact tO _ (i8 b o e1 k O.2) (by simp[O.1])
 subst e7;have b4:∀{H':Hp},(∀b∈l,H' b=none)->∀b∈l,FpOk (mU X scope (xs++fr.map (·.1)) {s with heap:=j} (upd H s.heap.objs.size (.lst [])) l (notedBy (model X.prog X.w) X.A (compEnvC scope (cellsFrom (j.objs.size+1) scope.names (clOf X.env scope.names [])) j.objs.size X.env) (λx t=>iF (model X.prog X.w) X.A X.xe RO (.ref s.heap.objs.size) (newEnv scope j.objs.size X.env.globals (cellsFrom (j.objs.size+1) scope.names (clOf X.env scope.names [])) X.env.qual none .none (some X.env) X.env.builtins) (.error x) t))) [] H' b:=λm2 b k=>by
  obtain⟨e1,S⟩:=c5.ok.exf b k;exact⟨m2 b k,e1,c5.ok.exfs b k,.inl k,S,λp j6=>absurd (show p∈([]:PN) from j6) (by simp)⟩
 have f6:codeAny (model X.prog X.w) X.A (.compLoop (.ListComp elt [⟨tg,iter,ifs,0⟩] scope d1) 0 (.ref b6) (.ref s.heap.objs.size) (compEnvC scope (cellsFrom (j.objs.size+1) scope.names (clOf X.env scope.names [])) j.objs.size X.env))
   (iF (model X.prog X.w) X.A X.xe RO (.ref s.heap.objs.size) (newEnv scope j.objs.size X.env.globals (cellsFrom (j.objs.size+1) scope.names (clOf X.env scope.names [])) X.env.qual none .none (some X.env) X.env.builtins)) {s with heap:=pushCells (j.push {cls:=.type "dict",data:=.dict #[]}) scope.names}:=by
  refine Sb (λn t=>∃i,∃ys:St,∃H',ys.length=xs.length/\Inv (mU X scope (xs++fr.map (·.1)) {s with heap:=j} (upd H s.heap.objs.size (.lst [])) l (notedBy (model X.prog X.w) X.A (compEnvC scope (cellsFrom (j.objs.size+1) scope.names (clOf X.env scope.names [])) j.objs.size X.env) (λx t=>iF (model X.prog X.w) X.A X.xe RO (.ref s.heap.objs.size) (newEnv scope j.objs.size X.env.globals (cellsFrom (j.objs.size+1) scope.names (clOf X.env scope.names [])) X.env.qual none .none (some X.env) X.env.builtins) (.error x) t))) [] (ys++lG fr D) H' t/\a4 i t.heap/\(∀b∈l,H' b=none)/\f9 i n H')
   ?_ i9 ⟨0,xs.map λ_=>none,_,by simp,c5,e3,λb k=>(d9 b k).1.1,w0⟩ a6
  rintro n L ⟨i,ys,w,g4,J,f0,d4,l9⟩;rcases k8 i n w l9 with⟨stop,h3⟩|⟨go,N,k4,step⟩
  ·refine thn (T.done (mU X scope (xs++fr.map (·.1)) {s with heap:=j} (upd H s.heap.objs.size (.lst [])) l (notedBy (model X.prog X.w) X.A (compEnvC scope (cellsFrom (j.objs.size+1) scope.names (clOf X.env scope.names [])) j.objs.size X.env) (λx t=>iF (model X.prog X.w) X.A X.xe RO (.ref s.heap.objs.size) (newEnv scope j.objs.size X.env.globals (cellsFrom (j.objs.size+1) scope.names (clOf X.env scope.names [])) X.env.qual none .none (some X.env) X.env.builtins) (.error x) t))) rfl rfl rfl a7 i [] L _ w (λ_ _=>False) J (b4 d4) f0 stop) λr c0⟨hr,M⟩=>?_;subst hr;obtain⟨b8,b3,_⟩:=M.loc;have V:Inv X G D w c0:=I.call' M.os (c2.trans M.base) M.hok M.bare λb k=>let f:=W b k;⟨f.2.2.2.1,f.2.1,f.2.2.2.2.1,f.2.2.2.2.2⟩
   exact i2 _ _ w c0 b8 b3 V (I.fpOk hsz M.free) h3
  ·refine thn (T.item (mU X scope (xs++fr.map (·.1)) {s with heap:=j} (upd H s.heap.objs.size (.lst [])) l (notedBy (model X.prog X.w) X.A (compEnvC scope (cellsFrom (j.objs.size+1) scope.names (clOf X.env scope.names [])) j.objs.size X.env) (λx t=>iF (model X.prog X.w) X.A X.xe RO (.ref s.heap.objs.size) (newEnv scope j.objs.size X.env.globals (cellsFrom (j.objs.size+1) scope.names (clOf X.env scope.names [])) X.env.qual none .none (some X.env) X.env.builtins) (.error x) t))) rfl rfl rfl a7 i [] L _ w (λ_ _=>False) J (b4 d4) f0 go) λr c0⟨u,hr,e8⟩=>?_;subst hr;refine thn e8 λ_ d5⟨y,f3,V,k2,i7,b2,i1⟩=>?_;have g0:=V.pinned (b4 i1) (T.obj _ _ b2);refine thn (g7 _ _ _ _ (f8 _ _ _ _) _ d5 _ f3 y u _ g0 k2 (step ys y f3 g4 i7)) λ_ k9⟨m5,g3,h2,⟨e4,g2,l1⟩,l6⟩=>?_;subst l1;have d6:∀(P:Shared)(F:Hp),Inv (mU X scope (xs++fr.map (·.1)) {s with heap:=j} (upd H s.heap.objs.size (.lst [])) l (notedBy (model X.prog X.w) X.A (compEnvC scope (cellsFrom (j.objs.size+1) scope.names (clOf X.env scope.names [])) j.objs.size X.env) (λx t=>iF (model X.prog X.w) X.A X.xe RO (.ref s.heap.objs.size) (newEnv scope j.objs.size X.env.globals (cellsFrom (j.objs.size+1) scope.names (clOf X.env scope.names [])) X.env.qual none .none (some X.env) X.env.builtins) (.error x) t))) ([]++fP l d5.heap) (e4++lG fr D) F P->N F ->
     ∃m,m<n/\∃i,∃ys:St,∃H',ys.length=xs.length/\Inv (mU X scope (xs++fr.map (·.1)) {s with heap:=j} (upd H s.heap.objs.size (.lst [])) l (notedBy (model X.prog X.w) X.A (compEnvC scope (cellsFrom (j.objs.size+1) scope.names (clOf X.env scope.names [])) j.objs.size X.env) (λx t=>iF (model X.prog X.w) X.A X.xe RO (.ref s.heap.objs.size) (newEnv scope j.objs.size X.env.globals (cellsFrom (j.objs.size+1) scope.names (clOf X.env scope.names [])) X.env.qual none .none (some X.env) X.env.builtins) (.error x) t))) [] (ys++lG fr D) H' P/\a4 i P.heap/\(∀b∈l,H' b=none)/\f9 i m H':=by
    intro P F Z c8;obtain⟨h7,l4,g8⟩:=k4 F c8;refine⟨h7,l4,i+1,e4,F,g2,Z.unpinned,T.keep _ _ _ b2 λb k o e=>(Z.pin (b,o) (yC _ (yC _ (fQ k e)))).1,λb k=>?_,g8⟩;obtain⟨o,e,d⟩:=T.obj _ _ b2 b k;exact(Z.pin (b,o) (yC _ (yC _ (fQ k e)))).2.1
   have i4:=a5 _ _ _ _ (f8 _ _ _ _) j3 _ k9 _ g3 _ h2 l6;have mono:∀{Q c9:Option Value->Shared->Prop}{E:VP}{t:Shared}{env:Env},(∀o b0,Q o b0->c9 o b0)->iU elt ifs env (model X.prog X.w) X.A Q E t->iU elt ifs env (model X.prog X.w) X.A c9 E t:=by
    intro Q c9 E t env b7 U;unfold iU at U ⊢
    match ifs,a6,U with
    |[],_,U=>exact zU U (λx b0 q=>b7 _ _ q) λ_ _ e=>e
    |[c],_,U =>
     refine zU U (λb b0 q=>?_) λ_ _ e=>e;split at q
     ·rename_i k;rw[zE k];exact zU q (λx m7 q=>b7 _ _ q) λ_ _ e=>e
     ·rename_i k;rw[zD k];exact b7 _ _ q
    |_:: _:: _,a6,_=>exact absurd a6 (by simp)
   refine mono (λo f4⟨Y,f1,d2,c1,d7⟩=>?_) i4;cases o with
   |none =>
    cases Y with
    |none=>exact d6 f4 f1 d2 d7
    |some z=>exact c1.elim
   | some h1 =>
    cases Y with
    |none=>exact c1.elim
    |some Y =>
     obtain⟨zs,h5,hl,k1⟩:=d7;exact thn (iA _ f4 _ f1 (.ref s.heap.objs.size) [Y] (.ref s.heap.objs.size) [h1] (λ_ F=>N F) d2 rfl (.cons c1 .nil) ⟨_,zs,Y,rfl,rfl,h5,hl,k1⟩) λ_ P⟨_,F,Z,_,c8⟩=>d6 P F Z c8
 exact codeAny_compStart_list f6 (T.self _ 0 _ _ _ e3 f6)
variable {wi:TI}
theorem Sa{p:Pos}(c:kS X sc scope xs fr)(r:X.calm=true)(t:bK X EX)(hi:PI X tg iter wi)
  (D:∀(i:Shared)(j:Hp)(d:LA)(XE:VP),(mU X scope (xs++fr.map (·.1)) i j d XE).env.scope=lP sc scope->PG (mU X scope (xs++fr.map (·.1)) i j d XE) tg g)
  (N:∀(i:Shared)(j:Hp)(d:LA)(XE:VP),(mU X scope (xs++fr.map (·.1)) i j d XE).env.scope=lP sc scope->fX (mU X scope (xs++fr.map (·.1)) i j d XE) EX->POx (mU X scope (xs++fr.map (·.1)) i j d XE) elt ifs tt)
  (z:ifs.length<=1:=by exact uU rfl)(w:∀x,foldedSetIterable iter X.env x=pure x:=by intro _;rfl):PE X (.ListComp elt [⟨tg,iter,ifs,0⟩] scope p) (kG wi g tt xs.length fr):=by
 intro l s n H Q I h;rw[eval_ListComp];refine Hf (use:=none) rfl w (cS (c.cells I)) c.kind c.loc (thn (hi l s n H _ I h) λv Z y=>thn y λU S L=>?_);obtain⟨W,d,V,R,Y,e,G,T,J,u,M⟩:=L;subst e;refine He (RO:=λa C k=>compPost (model X.prog X.w) X.A X.xe none (EP X l n Q) a C (.ok .next) k) c r t z G T J u D N M ?_;intro a C H' k m P K f q;refine⟨m,P,λh' F=>?_⟩;exact⟨.ref a,H',K.turned (t':=k.toks) (λb o O e=>(F.2 b O).trans e) f.1 f.2.1 f.2.2.2.1 f.2.2.2.2.1 f.2.2.2.2.2,rfl,q⟩
theorem Tz{p u l:Pos}{y:Str}{i:Nat}(c:kS X sc scope xs fr)(G:X.calm=true)(J:bK X EX)(Y:X.N.Nodup)(a2:X.N[i]?=some y)(hl:X.env.scope.names.lookup y=some .local)(hi:PI X tg iter wi)
  (S:∀(k:Shared)(n:Hp)(j:LA)(XE:VP),(mU X scope (xs++fr.map (·.1)) k n j XE).env.scope=lP sc scope->PG (mU X scope (xs++fr.map (·.1)) k n j XE) tg g)
  (a3:∀(k:Shared)(n:Hp)(j:LA)(XE:VP),(mU X scope (xs++fr.map (·.1)) k n j XE).env.scope=lP sc scope->fX (mU X scope (xs++fr.map (·.1)) k n j XE) EX->POx (mU X scope (xs++fr.map (·.1)) k n j XE) elt ifs tt)
  (a4:swapsWith (.ListComp elt [⟨tg,iter,ifs,0⟩] scope p) (some (.Name y l)) u.line X.env=pure true:=by rfl)
  (R:ifs.length<=1:=by exact uU rfl)(N:∀x,foldedSetIterable iter X.env x=pure x:=by intro _;rfl):PS X (.Assign [.Name y l] (.ListComp elt [⟨tg,iter,ifs,0⟩] scope p) u) (Bx i (kG wi g tt xs.length fr)):=by
 intro r s w H D I h;rw[exec_Assign_Name_used _ _ _ _ a4];refine zA (xO (zA ?_));show wpAny _ _ (do let _ ←comprehension (.ListComp elt [⟨tg,iter,ifs,0⟩] scope p) scope X.env _ (newList []) false (eval iter X.env) (some (assign (.Name y l) X.env))) _ _ s;refine zA (zU (Hf (use:=some (assign (.Name y l) X.env)) (Q:=λ_ d=>SP X r D .next d) rfl N (cS (c.cells I)) c.kind c.loc
  (thn (hi r s w H _ I h) λv b3 P=>thn P λa9 a8 Z=>?_)) (λ_ d a0=>zB (zB a0)) λ_ _ e=>e)
 obtain⟨b1,j,b0,a7,b2,e,V,T,W,L,a1⟩:=Z;subst e;refine He (RO:=λa C d=>compPost (model X.prog X.w) X.A X.xe (some (assign (.Name y l) X.env)) (λ_ d=>SP X r D .next d) a C (.ok .next) d) (Q:=λv F=>D.nx (w.set i (some v)) F) c G J R V T W L S a3 a1 ?_;intro a C H' d m a5 K f q;show wpAny _ _ (assign (.Name y l) X.env (.ref a)) _ _ _;refine qZ (Aw K Y a2 (.inl hl) (show RelV (.ref a) (.ref a) from rfl) (λz O⟨b,M,t⟩=>?_) (.inr hl));have a6:C≠b:=by
  rcases t with e|e
  ·rw[e];exact f.2.1
  ·exact yI (f.2.2.2.2.1 y b e)
 refine⟨m,a5.sameBut M a6,λh' U=>?_⟩;exact⟨_,H',O.turned (t':=z.toks) (λb o t e=>(U.2 b t).trans e) f.1 f.2.1 f.2.2.2.1 f.2.2.2.2.1 f.2.2.2.2.2,q⟩
end
section
variable {X:Cx} {EX:Value->Hp->Prop} {k:Nat} {f:Addr} {fd:FuncData} {ps:List Str} {sp:Sp} {dvs:List V} {ds:LW} {x:Str} {p pos:Pos} {e:Expr} {es:List Expr} {t:TA}
theorem Ty{c:PN}{d:St}{H:Hp}{s:Shared}{Q:VK}{us:LW}{vs:List V}(j:FnOk X.prog X.w X.K X.mg X.base (CX1 X.prog X.w) k f fd ps sp)(hr:Room k X.A)(i:mZ X.K fd ps ds)(F:Vals dvs ds)(K:fX X EX)
  (I:Inv X c d H s)(r:Vals vs us)(h:sp (vs++dvs) H Q λC _ H'=>EX C H'):wpAny (model X.prog X.w) X.A (call (.ref f) us) (EP X c d Q) X.xe s:=by
 have m:Vals (vs++dvs) (us++ds):=r.append F;have hl:(us++ds).length=ps.length:=by rw[←m.length];exact j.len _ _ _ _ h
 refine uC (wV (j.run X.A X.stack s H ⟨us,[]⟩ (us++ds) (vs++dvs) Q _ hr I.env0 (i s us I.kIn hl) m h) λr l a=>?_);cases r with
 |error M =>
  obtain⟨e,C,H',B,a0,rfl,v,n,un,ok,fl,G,q⟩:=a;have w:Inv X c d H' l:=I.call' v un ok n λb z=>absurd z (by simp);refine K c d H' l e C B a0 w fl (λb o e1 i g=>G b o e1 i ?_) q;rcases g with⟨nx,L,y⟩|g
  ·obtain⟨J,D⟩:=I.base.there b L y nx;exact .inl ⟨J,D⟩
  ·exact .inr g
 |ok fl =>
  cases fl with
  |ret u=>exact I.after a
  |next=>exact False.elim a
  |brk=>exact False.elim a
  |cont=>exact False.elim a
theorem Hd(b:FnOk X.prog X.w X.K X.mg X.base (CX1 X.prog X.w) k f fd ps sp)(hr:Room k X.A)(n:Gl X x)(g:X.mg x=some (.ref f))(v:PySem.W.keepIn X.K (.ref f)=true)(j:mZ X.K fd ps ds)(m:Vals dvs ds)(d:fX X EX)
  (l:PA X (e:: es) t)(o:(x == ("__debug__" :Str))=false:=by decide)(i:starEach (e:: es) X.env=(false,eval e X.env):: starEach es X.env:=by rfl)(c:(backTo pos (starEach es X.env)).any (·.1)=false:=by rfl):
  PE X (.Call (.Name x p) (e:: es) [] pos) (cU sp dvs (λ_ C H=>EX C H) t):=by
 intro u s w H Q I h;refine wK (jI I n g ?_ o);refine vP (h₀:=X.base) I.ok.mod.kin v (thn (l pos u s w H _ I h) λus y⟨vs,z,a,r,q⟩=>⟨a.kIn,?_⟩) i c;exact Ty b hr j m d a r q
end
def qVar(i:Nat):TE:=λσ H Q=>match σ[i]? with
 |some (some v)=>Q v H
 |_=>False
theorem Tx{i:Nat}{a:St}{H:Hp}{Q:VK}(h:qVar i a H Q):tVar i a H Q:=by
 unfold qVar at h;split at h
 ·next v e=>exact⟨v,e,h⟩
 ·exact h.elim
theorem pq{X:Cx}(i:Nat){x:Str}{a:Pos}(e:X.N[i]?=some x:=by rfl)(c:Vis X.env.scope x:=by first|exact Or.inl rfl|exact Or.inr (Or.inl rfl)|exact Or.inr (Or.inr rfl))(d:(x == ("__debug__" :Str))=false:=by decide)
  (b:(x == ("__classdict__" :Str))=false:=by decide):PE X (.Name x a) (qVar i):=λf s g H Q I q=>pv i e c d b f s g H Q I (Tx q)
section
variable {X:Cx} {e:Expr} {ta:TE} {pos p p':Pos} {i:Int} {j:Nat}
theorem nU(a:PE X e ta):PE X (e.Subscript (.Constant (.int i) j p') pos) (tOp (rIxB X.K) ta (tC (.int i))):=lC ix_B a nI (λ_ _=>rfl)
theorem jN(m:X.mg "len"=none)(a:PE X e ta)(g:Gl X "len" := by rfl)(b:starEach [e] X.env=(false,eval e X.env):: starEach [] X.env:=by rfl):PE X (.Call (.Name "len" p) [e] [] pos) (tCB (dL X.K) (mG ta tNil)):=lA Rh g m (nofun) (nD a nE b) ∅ ∅ b rfl
end
section
variable {X:Cx} {sc scope:Scope} {fr:List (Str×Nat)} {x:Str} {px:Pos} {iter elt:Expr} {wi:TI} {te:TE} {N:List Str}
theorem kB{g:Pos}(m:X.env.scope=sc)(n:X.N=N)(o:cY sc N scope fr=true)(l:X.calm=true)(k:cZ (lP sc scope) ([x]++fr.map (·.1)) 0 x=true)(hi:PI X (.Name x px) iter wi)
  (j:∀(e:Shared)(c:Hp)(f:LA),(mT X scope ([x]++fr.map (·.1)) e c f).env.scope=lP sc scope->PE (mT X scope ([x]++fr.map (·.1)) e c f) elt te)(i:∀x,foldedSetIterable iter X.env x=pure x:=by intro _;rfl):PE X (.ListComp elt [⟨.Name x px,iter,[],0⟩] scope g) (kG wi (nS 0) (tEl te) 1 fr):=
 gE (xs:=[x]) (jD m n o) l hi (λ_ _ _ h=>jM (i:=0) h rfl k) (λa b d h=>jL (j a b d h)) (zZ _) i
theorem Hc{c e k:Pos}{y:Str}{i:Nat}(q:X.env.scope=sc)(u:X.N=N)(v:cY sc N scope fr=true)(o:X.calm=true)(t:X.N.Nodup)(m:X.N[i]?=some y)(hl:X.env.scope.names.lookup y=some .local)(p:cZ (lP sc scope) ([x]++fr.map (·.1)) 0 x=true)(hi:PI X (.Name x px) iter wi)
  (n:∀(j:Shared)(f:Hp)(g:LA),(mT X scope ([x]++fr.map (·.1)) j f g).env.scope=lP sc scope->PE (mT X scope ([x]++fr.map (·.1)) j f g) elt te)
  (r:swapsWith (.ListComp elt [⟨.Name x px,iter,[],0⟩] scope c) (some (.Name y k)) e.line X.env=pure true:=by rfl)(l:∀x,foldedSetIterable iter X.env x=pure x:=by intro _;rfl):PS X (.Assign [.Name y k] (.ListComp elt [⟨.Name x px,iter,[],0⟩] scope c) e) (Bx i (kG wi (nS 0) (tEl te) 1 fr)):=
 Bs (xs:=[x]) (jD q u v) o t m hl hi (λ_ _ _ h=>jM (i:=0) h rfl p) (λa b d h=>jL (n a b d h)) r (zZ _) l
end
structure FunT(K:Frag)(mg:MT)(x:Str)(st:Stmt)(f:Addr)(fd:FuncData)(ps:List Str):Prop extends Fun K x x st f fd where
 m:mg x=some (.ref f)
 b:mZ K fd ps []
section
variable {X:Cx} {k:Nat} {f:Addr} {fd:FuncData} {ps:List Str} {sp:Sp} {x:Str} {st:Stmt} {p pos:Pos} {e:Expr} {es:List Expr} {t:TA}
theorem nW(b:FnOk X.prog X.w X.K X.mg X.base CX0 k f fd ps sp)(hr:Room k X.A)(c:FunT X.K X.mg x st f fd ps)(g:PA X (e:: es) t)(i:Gl X x:=by rfl)(j:(x == ("__debug__" :Str))=false:=by decide)
  (d:starEach (e:: es) X.env=(false,eval e X.env):: starEach es X.env:=by rfl)(a:(backTo pos (starEach es X.env)).any (·.1)=false:=by rfl):PE X (.Call (.Name x p) (e:: es) [] pos) (kP sp [] E0 t):=dD b hr i c.m c.kp c.b .nil cR g j d a
end
instance decPD:DecidableEq PyData:=λ_ _=>Classical.propDecidable _
def tT:Nat->PyData->Bool
 |_,.int _=>true
 |n+1,.tuple xs=>xs.all (tT n)
 |_,_=>false
theorem fB:∀(n:Nat)(d:PyData),tT n d=true->iT n d=true:=by
 intro n
 induction n with
 |zero=>intro d h;cases d <;> simp[tT]at h <;> simp[iT]
 |succ n b =>
  intro d h;cases d <;> simp[tT]at h
  ·simp[iT]
  ·simp only[iT,List.all_eq_true];exactλx a=>b x (h x a)
mutual
def iG:PyData->Int
 |.int i=>hashInt i
 |.tuple xs=>reduceHash (Builtin.Tuple.tupleHashOf (dO xs))
 |_=>0
def dO:List PyData->LI'
 |[]=>[]
 |d:: ds=>iG d:: dO ds
end
mutual
def iH:PyData->Nat
 |.tuple xs=>fC xs+1
 |_=>1
def fC:List PyData->Nat
 |[]=>0
 |d:: ds=>iH d+fC ds
end
section
variable {prog:Program} {w:World} {E:VP}
theorem Tw(n:Nat)(f:∀{A:Around}{s:Shared}{v:Value}{d:PyData}{as:LA}{Q:Int->Shared->Prop},tT n d=true->Reads s.heap v d as->A.units+n<cLine->Q (iG d) {s with toks:=s.toks+iH d}->wpAny (model prog w) A (pyHash v) Q E s):
  ∀(xs:List PyData)(vs:LW)(as:LA)(A:Around)(s:Shared)(b:Array Int)(Q:Array Int->Shared->Prop),xs.all (tT n)=true->ReadsAll s.heap vs xs as->A.units+n<cLine ->
  (∀a:Array Int,a.toList=b.toList++dO xs->Q a {s with toks:=s.toks+fC xs}) ->
  wpAny (model prog w) A (forIn vs b λx r=>do let h ←pyHash x;pure PUnit.unit;pure (ForInStep.yield (r.push h))) Q E s:=by
 intro xs
 induction xs with
 |nil =>
  intro vs as A s b Q _ r _ h;cases r;exact zB (h b (by simp[dO]))
 | cons d ds g =>
  intro vs as A s b Q c r e h;cases r with
  |cons k j =>
   rw[xF,zQ]at c;rw[vW];refine zA (zA (f c.1 k e ?_));refine zA (zB (zB ?_));refine g _ _ A {s with toks:=s.toks+iH d} (b.push (iG d)) Q c.2 j e λa i=>?_;have:=h a (by rw[i];simp[dO]);rw[show s.toks+fC (d:: ds)=s.toks+iH d+fC ds by simp[fC,Nat.add_assoc]]at this;exact this
theorem Tv:∀(n:Nat){A:Around}{s:Shared}{v:Value}{d:PyData}{as:LA}{Q:Int->Shared->Prop},tT n d=true->Reads s.heap v d as->A.units+n<cLine->Q (iG d) {s with toks:=s.toks+iH d}->wpAny (model prog w) A (pyHash v) Q E s:=by
 intro n
 induction n with
 |zero =>
  intro A s v d as Q c r i h;cases r <;> simp[tT]at c;exact pI (by simpa [iG,iH]using h)
 | succ n f =>
  intro A s v d as Q c r i h;cases r <;> simp only[tT,Bool.false_eq_true]at c
  case int=>exact pI (by simpa [iG,iH]using h)
  case tuple a o vs m xs hg hc hd hr =>
   unfold pyHash;refine PySem.W.pyHash_slot (T:= "tuple") ⟨_,hg,hc⟩ PySem.F.slot_tuple_hash PySem.F.entry_tuple_hash (PySem.F.args_tuple_hash_1 _) (beq_builtin_none _) (.inr ⋯) ?_;show wpAny _ _ (Builtin.Tuple.tupleItemsOf (.ref a) >>= _) _ _ s;refine zA (qM hg hd ?_);refine zA ?_;rw[←Array.forIn_toList];refine Tw n f xs vs.toList _ A.in1 s #[] _ c hr (by show A.units+1+n<cLine;omega) λb g=>?_;show wpAny _ _ (retInt (Builtin.Tuple.tupleHashOf b.toList)) _ _ _;rw[g];refine zA (wpAny_mkInt (zB ⟨_,_,rfl,?_⟩));have e:s.toks+fC xs+1=s.toks+iH (.tuple xs):=by simp[iH,Nat.add_assoc]
   simp only[iG]at h;rw[←e]at h;exact h
theorem Tu:∀(n m:Nat),n<m->∀{A:Around}{s:Shared}{v:Value}{d:PyData}{as:LA}{Q:Bool->Shared->Prop},tT n d=true->Reads s.heap v d as->Q true s->wpAny (model prog w) A (eqIsQuiet m v) Q E s:=by
 intro n
 induction n with
 |zero =>
  intro m _ A s v d as Q b r h;cases r <;> simp[tT]at b;rw[eqIsQuiet_byValue _ rfl];exact zB h
 | succ n p =>
  intro m x A s v d as Q b r h;cases r <;> simp only[tT,Bool.false_eq_true]at b
  case int=>rw[eqIsQuiet_byValue _ rfl];exact zB h
  case tuple a o vs k xs hg hc hd hr =>
   obtain⟨m,rfl⟩:∃j,m=j+1:=⟨m-1,⋯⟩;have g:s.TypeIs (.ref a) "tuple" := ⟨o,hg,hc⟩;unfold eqIsQuiet;refine zA (wpAny_specialOf g PySem.F.slot_tuple_eq.lookup ?_);show wpAny _ _ (isInstance (.ref a) (.type "tuple") >>= _) _ _ s;refine zA (uE g isSubtype_tuple_tuple ?_);simp only[Bool.not_true,Bool.false_eq_true,if_false];refine zA (wN hg hd ?_);refine zA ?_;show wpAny _ _ (forIn vs _ _) _ _ s;rw[←Array.forIn_toList];refine wpAny_forIn_list _ (λrest q e=>q.1=none/\e=s/\∃ys bs,ys.all (tT n)=true/\ReadsAll s.heap rest ys bs) _ ?_ ?_ _ _ ⟨rfl,rfl,xs,_,b,hr⟩
   ·rintro u rest q e ⟨c,rfl,ys,bs,f,t⟩;cases t with
    |cons l i =>
     rw[xF,zQ]at f;refine zA (p m ⋯ f.1 l ?_);simp only[Bool.not_true,Bool.false_eq_true,if_false];exact zB ⟨rfl,rfl,_,_,f.2,i⟩
   ·rintro⟨l,i⟩ e ⟨c,rfl,_⟩;simp only at c;subst c;exact zB h
end
theorem Tt{h h':Heap}{x:Addr}{c:Obj}{es:Array DictEntry}{ep:Nat}(f:h.get? x=some c)(l:c.data=.dict es ep)(e:Heap.SameBut x h h'):∀(n:Nat){v:Value}{d:PyData}{as:LA},tT n d=true->Reads h v d as->Reads h' v d as:=by
 intro n
 induction n with
 |zero =>
  intro v d as b r;cases r <;> simp[tT]at b;exact .int _ _
 | succ n g =>
  have all:∀(xs:List PyData)(vs:LW)(as:LA),xs.all (tT n)=true->ReadsAll h vs xs as->ReadsAll h' vs xs as:=by
   intro xs
   induction xs with
   |nil=>intro vs as _ r;cases r;exact .nil
   | cons d ds i =>
    intro vs as b r;cases r with
    |cons p m =>
     rw[xF,zQ]at b;exact .cons (g b.1 p) (i _ _ b.2 m)
  intro v d as b r;cases r <;> simp only[tT,Bool.false_eq_true]at b
  case int=>exact .int _ _
  case tuple a o vs k xs hg hc hdd hr =>
   have j:a≠x:=by
    rintro rfl;rw[f]at hg;cases hg;rw[l]at hdd;cases hdd
   exact .tuple ((e.2 a j).trans hg) hc hdd (all _ _ _ b hr)
def isT(h:Heap)(d:PyData)(a:Addr):Prop:=tT 4 d=true/\∃as,Reads h (.ref a) d as
def kU(prog:Program)(w:World):HeapKind prog w PyData where
 is:=isT
 hash:=iG
 draws:=iH
 room:=λA=>A.units+8<cLine
 inj:=λ{h a x y}hx hy=>by
  obtain⟨t1,as,r1⟩:=hx;obtain⟨t2,bs,r2⟩:=hy;exact PySem.SeqAt.Reads.unique _ _ _ _ _ (iV 4 _ (fB 4 _ t1)).1 r1 r2
 keeps:=λ{h h' k a x o es ep}hk hx hd hs=>⟨hk.1,let ⟨as,r⟩:=hk.2;⟨as,Tt hx hd hs 4 hk.1 r⟩⟩
 pyHash:=λ{A E s k a Q}hu hk h=>let ⟨as,r⟩:=hk.2;Tv 4 hk.1 r ⋯ h
 eqBool:=λ{A E s x y a b Q}hu hx hy h=>by
  obtain⟨t1,as,r1⟩:=hx;obtain⟨t2,bs,r2⟩:=hy;have i1:=fB 4 _ t1;have i2:=fB 4 _ t2;have l1:=iV 4 _ i1;have l2:=iV 4 _ i2;refine PySem.SeqAt.eqBoolOverData _ _ _ _ _ _ _ _ _ _ _ _ r1 r2 l1.1 l2.1 ⋯ ?_;rw[←SeqAt.same_eq_eqv _ _ (Bo 4 _ _ i1 i2)];have e:=Bn 4 _ _ i1 i2
  by_cases z:x=y
  ·rw[zK z]at h;rw[e.mpr z];exact h
  ·rw[zI z]at h;have:same x y=false:=by
    cases q:same x y with
    |false=>rfl
    |true=>exact absurd (e.mp q) z
   rw[this];exact h
 quiet:=λ{A E s k a Q}hk h=>let ⟨as,r⟩:=hk.2;Tu 4 8 ∅ hk.1 r h
def mV(a:Addr)(xs:List (PyData×Addr×Value)):HO:=.ext λh=>∃o es ep,h.get? a=some o/\o.ExactDict/\o.data=.dict es ep/\es.toList=xs.map λx=>⟨iG x.1,.ref x.2.1,x.2.2⟩
theorem Be{o:Option V}{u:Option Value}(h:RelO o u):o.isSome=u.isSome:=by
 cases o <;> cases u <;> first|rfl|exact h.elim
def vT(kvs:List (PyData×V))(k:PyData):Option V:=(kvs.find? λkv=>decide (kv.1=k)).map (·.2)
def pT(kvs:List (PyData×V))(k:PyData)(v:V):List (PyData×V):=if(vT kvs k).isSome=true then kvs.map (λkv=>if kv.1=k then(kv.1,v) else kv) else kvs++[(k,v)]
theorem iI{p:PyData×V}{r:List (PyData×V)}{k:PyData}(e:p.1=k):vT (p:: r) k=some p.2:=by simp[vT,List.find?_cons,e]
theorem iJ{p:PyData×V}{r:List (PyData×V)}{k:PyData}(e:¬ p.1=k):vT (p:: r) k=vT r k:=by simp[vT,List.find?_cons,e]
abbrev KP(K:Frag)(H:Hp):List (PyData×V)->List (PyData×Addr×Value)->Prop:=Paired λp q=>p.1=q.1/\(tT 4 p.1=true/\Dt K H (.ref q.2.1) p.1)/\RelV p.2 q.2.2
structure DTr(K:Frag)(H:Hp)(a:Addr)(kvs:List (PyData×V)):Prop where
 len:kvs.length<=sizeLine
 sys:(a == sysModules)=false
 ex:∃xs,H a=some (mV a xs)/\(xs.map (·.1)).Nodup/\KP K H kvs xs
theorem KP.val{K:Frag}{H:Hp}{kvs:List (PyData×V)}{xs:List (PyData×Addr×Value)}(r:KP K H kvs xs)(k:PyData):RelO (vT kvs k) ((atKey xs k).map (·.2)):=by
 induction r with
 |nil=>exact True.intro
 | @cons p q ps a h t f =>
  obtain⟨c,_,g⟩:=h
  by_cases e:p.1=k
  ·have b:atKey (q:: a) k=some q.2:=by simp[atKey,List.find?_cons,c.symm.trans e]
   rw[iI e,b];exact g
  ·have d:¬ q.1=k:=λz=>e (c.trans z);have b:atKey (q:: a) k=atKey a k:=by simp[atKey,List.find?_cons,d]
   rw[iJ e,b];exact f
theorem KP.put{K:Frag}{H:Hp}{kvs:List (PyData×V)}{xs:List (PyData×Addr×Value)}(r:KP K H kvs xs)(k:PyData){b:Addr}{y:V}{u:Value}(tk:tT 4 k=true)(i:Dt K H (.ref b) k)(c:RelV y u):KP K H (pT kvs k y) (storedH xs k b u):=by
 have e:(vT kvs k).isSome=(atKey xs k).isSome:=by rw[Be (r.val k),sF]
 unfold pT storedH;rw[e]
 by_cases q:(atKey xs k).isSome=true
 ·rw[zE q,zE q];clear e q
  induction r with
  |nil=>exact .nil
  |@cons p q ps j h t g =>
   rw[zM,zM];refine .cons ?_ g;obtain⟨a,d,f⟩:=h;unfold putAt
   by_cases e:p.1=k
   ·rw[zE e,zE (a.symm.trans e)];exact⟨a,d,c⟩
   ·rw[zD e,zD (λz=>e (a.trans z))];exact⟨a,d,f⟩
 ·rw[zD q,zD q];exact Paired.snoc r ⟨rfl,⟨tk,i⟩,c⟩
theorem jF{K:Frag}{H H':Hp}(i:∀b xs,SqT K H b xs->SqT K H' b xs):∀(n:Nat){x:V}{d:PyData},tT n d=true->Dt K H x d->Dt K H' x d:=by
 intro n
 induction n with
 |zero =>
  intro x d h r;cases r <;> simp[tT]at h;exact .int _
 | succ n c =>
  have all:∀(ds:List PyData)(xs:List V),ds.all (tT n)=true->Dts K H xs ds->Dts K H' xs ds:=by
   intro ds
   induction ds with
   |nil=>intro xs _ r;cases r;exact .nil
   | cons d ds e =>
    intro xs h r;cases r with
    |cons g f =>
     rw[xF,zQ]at h;exact .cons (c h.1 g) (e _ h.2 f)
  intro x d h r;cases r <;> simp only[tT,Bool.false_eq_true]at h
  case int=>exact .int _
  case tup a xs ds hq hr=>exact .tup (i _ _ hq) (all _ _ h hr)
theorem Hb{K:Frag}{H:Hp}{a:Addr}{o:HO}(c:∀xs,¬ Rd H a (.tup xs)):∀b xs,SqT K H b xs->SqT K (upd H a o) b xs:=λb xs h=>by
 rcases h with h|h
 ·have ne:b≠a:=λe=>c xs (e ▸ h);rcases h with h|⟨d,h⟩
  ·exact .inl (.inl (by rw[nN ne];exact h))
  ·exact .inl (.inr ⟨d,by rw[nN ne];exact h⟩)
 ·exact .inr h
theorem KP.keeps{K:Frag}{H H':Hp}{kvs:List (PyData×V)}{xs:List (PyData×Addr×Value)}(r:KP K H kvs xs)(a:∀b ys,SqT K H b ys->SqT K H' b ys):KP K H' kvs xs:=
 Paired.mapP r λ_ _ z=>⟨z.1,⟨z.2.1.1,jF a 4 z.2.1.1 z.2.1.2⟩,z.2.2⟩
theorem kC{K:Frag}{H H':Hp}(s:Same H H'):∀b xs,SqT K H b xs->SqT K H' b xs:=λb xs h=>by
 rcases h with(h|⟨o,h⟩)|h
 ·exact .inl (.inl (s _ _ h))
 ·exact .inl (.inr ⟨o,s _ _ h⟩)
 ·exact .inr h
theorem DTr.up{K:Frag}{H H':Hp}{a:Addr}{kvs:List (PyData×V)}(h:DTr K H a kvs)(s:Same H H'):DTr K H' a kvs:=by
 obtain⟨l,y,xs,e,n,r⟩:=h;exact⟨l,y,xs,s _ _ e,n,r.keeps (kC s)⟩
section
variable {X:Cx} {pins:PN} {σ:St} {H:Hp} {s:Shared} {a:Addr}
theorem fD{k:PyData}{b:Addr}(I:Inv X pins σ H s)(tk:tT 4 k=true)(c:Dt X.K H (.ref b) k):(kU X.prog X.w).is s.heap k b:=⟨tk,c.reads I rfl⟩
theorem fY{kvs:List (PyData×V)}(I:Inv X pins σ H s)(g:DTr X.K H a kvs):∃xs,H a=some (mV a xs)/\KP X.K H kvs xs/\s.heap.DictOfH (kU X.prog X.w) a xs:=by
 obtain⟨_,_,xs,e,n,r⟩:=g;obtain⟨⟨o,es,ep,j,k,d,f⟩,_⟩:=(show mI X.prog X.w H s.heap a (mV a xs) from I.hok a _ e);refine⟨xs,e,r,o,es,ep,j,k,d,f,λx b=>?_,n⟩;have all:∀{l:List (PyData×V)}{m:List (PyData×Addr×Value)},KP X.K H l m->∀x∈m,(kU X.prog X.w).is s.heap x.1 x.2.1:=by
  intro l m q
  induction q with
  |nil=>intro x b;exact nomatch b
  |@cons p q ps u c t i =>
   intro x b;rcases xC.mp b with e|b
   ·subst e;rw[←c.1];exact fD I c.2.1.1 c.2.1.2
   ·exact i x b
 exact all r x b
end
def iW(K:Frag):R2:=λx y H Q=>∃a kvs b k v,x=.ref a/\y=.ref b/\DTr K H a kvs/\tT 4 k=true/\Dt K H (.ref b) k/\vT kvs k=some v/\Q v H
def rInT(K:Frag)(neg:Bool):R2:=λy x H Q=>∃a kvs b k,x=.ref a/\y=.ref b/\DTr K H a kvs/\tT 4 k=true/\Dt K H (.ref b) k/\Q (.bl (if neg=true then !(vT kvs k).isSome else(vT kvs k).isSome)) H
def Ha(K:Frag):TSet:=λx y v H Q=>∃a kvs b k,x=.ref a/\y=.ref b/\DTr K H a kvs/\tT 4 k=true/\Dt K H (.ref b) k/\kvs.length<sizeLine/\∀H',(∀c o,c≠a->H c=some o->H' c=some o)->(∀c,c≠a->H' c=H c)->DTr K H' a (pT kvs k v)->Q H'
section
variable {X:Cx}
theorem ix_T(C:X.A.units+64<cLine):IxR X (iW X.K):=by
 intro F w D s G H x y v u Q I n o h f;obtain⟨a,kvs,b,k,z,rfl,rfl,g,tk,j,i,q⟩:=h;cases n;cases o;obtain⟨xs,e,r,dd⟩:=fY I g;obtain⟨t,d,l⟩:=RelO.some_of (v:=z) (o:=(atKey xs k).map (·.2)) (by rw[←i];exact r.val k);obtain⟨p,m,c⟩:=Option.map_eq_some_iff.mp d;refine sR (x:=t) dd.typeIs PySem.F.slot_dict_getitem.lookup ?_ f;refine wpAny_getItem_heap (knd:=kU X.prog X.w) (show X.A.units+1+8<cLine by omega) (fD I tk j) dd m ⟨c,z,H,I.tok _,?_,q⟩;rw[c];exact l
theorem Ts(i:X.A.units+64<cLine):OpR X (compareOp .In) (rInT X.K false):=by
 intro j s l H x y v u Q I d f h;obtain⟨a,kvs,b,k,rfl,rfl,g,tk,c,q⟩:=h;cases d;cases f;obtain⟨xs,e,r,dd⟩:=fY I g;refine wpAny_in_heap (knd:=kU X.prog X.w) (show X.A.units+1+8<cLine by omega) (fD I tk c) g.sys dd ?_;have e:=Be (r.val k);rw[sF]at e;rw[←e];exact⟨.bl _,H,I.tok _,rfl,q⟩
theorem Bd(i:X.A.units+64<cLine):OpR X (compareOp .NotIn) (rInT X.K true):=by
 intro j s l H x y v u Q I d f h;obtain⟨a,kvs,b,k,rfl,rfl,g,tk,c,q⟩:=h;cases d;cases f;obtain⟨xs,e,r,dd⟩:=fY I g;refine wpAny_notIn_heap (knd:=kU X.prog X.w) (show X.A.units+1+8<cLine by omega) (fD I tk c) g.sys dd ?_;have e:=Be (r.val k);rw[sF]at e;rw[←e];exact⟨.bl _,H,I.tok _,rfl,q⟩
theorem Iz(kvs:List (PyData×V))(k:PyData)(v:V):(pT kvs k v).length<=kvs.length+1:=by
 unfold pT;split
 ·rw[yX];omega
 ·rw[yF];exact zG _
theorem bL{P:Program}{w:World}{H:Hp}{h:Heap}{a:Addr}{xs:List (PyData×Addr×Value)}{o:Obj}{es:Array DictEntry}{ep:Nat}(c:h.get? a=some o)(j:o.ExactDict)(d:o.data=.dict es ep)(e:es.toList=xs.map λx=>⟨iG x.1,.ref x.2.1,x.2.2⟩):mI P w H h a (mV a xs):=
 ⟨⟨o,es,ep,c,j,d,e⟩,⟨o,c⟩,λm n⟨b,l,g,f,i⟩k=>⟨b,l,g,k b f,i⟩⟩
theorem bN(K:X.A.units+64<cLine):PSet X (Ha X.K):=by
 intro J s N H o i v M L u Q I D w y h;obtain⟨a,kvs,b,k,rfl,rfl,g,tk,l,hl,q⟩:=h;cases D;cases w;obtain⟨xs,e,r,dd⟩:=fY I g;have G:xs.length<=sizeLine:=by rw[←Paired.length r];exact g.len
 have p:∀ys,¬ Rd H a (.tup ys):=λys z=>by
  rcases z with z|⟨j,z⟩
  ·rw[e]at z;cases z
  ·rw[e]at z;cases z
 refine wpAny_setItem_heap (knd:=kU X.prog X.w) (hsz:=G) (show X.A.units+1+8<cLine by omega) (fD I tk l) dd λh' m t=>?_;obtain⟨j,es,ep,f,C,x,n,_,F⟩:=m;refine⟨upd H a (mV a (storedH xs k b u)),I.write (x:=a) (e:=a) (by rw[e];exact True.intro) (.inl rfl) (λc o d z=>(t.2 c d).trans z) ⟨j,f⟩ (bL f C x n),?_⟩;refine q _ (λc o d z=>by rw[nN d];exact z) (λc d=>nN d) ⟨by have:=Iz kvs k v;omega,g.sys,_,nK,F,(r.put k tk l y).keeps (Hb p)⟩
end
section
variable {X:Cx} {pos:Pos}
theorem Bc{a:PN}{b:St}{H:Hp}{s:Shared}(I:Inv X a b H s):sysModules<s.heap.objs.size:=
 Nat.lt_trans ∅ (show mainGlobals<s.heap.objs.size from(I.mod.glob.keeps I.bk).lt)
theorem Iy{P:Program}{w:World}{H:Hp}(h:Heap):mI P w H (h.push {cls:=.type "dict",data:=.dict #[]}) h.objs.size (mV h.objs.size []):=
 bL (es:=#[]) (ep:=0) (zS _ rfl) ⟨rfl,rfl,rfl⟩ rfl rfl
theorem Ix{K:Frag}{H:Hp}{p:Addr}(a:(p == sysModules)=false)(e:H p=some (mV p [])):DTr K H p []:=⟨zZ _,a,[],e,List.nodup_nil,.nil⟩
def Bb(K:Frag):TE:=λ_ H Q=>∀p,H p=none->DTr K (upd H p (mV p [])) p []->Q (.ref p) (upd H p (mV p []))
theorem Iw:PE X (.Dict [] [] pos) (Bb X.K):=λa s b H Q I h =>
 wpAny_Dict_empty ⟨.ref s.heap.objs.size,_,I.laid (a:=s.heap.objs.size) (o:=mV s.heap.objs.size []) (t':=s.toks) (λ_ _ q=>zC _ q) (zG _) (Iy s.heap),rfl,
  h _ (I.hok.fresh (zG _)) (Ix (oP.mpr (yI (zX (Bc I)))) nK)⟩
def Iv(K:Frag)(tk tv:TE):TE:=λσ H Q=>∀p,H p=none->tk σ (upd H p (mV p [])) λx H1=>tv σ H1 λy H2=>∃b d,x=.ref b/\tT 4 d=true/\Dt K H2 (.ref b) d/\H2 p=some (mV p [])/\∀H3,(∀c,c≠p->H3 c=H2 c)->DTr K H3 p [(d,y)]->Q (.ref p) H3
theorem Tr{k v:Expr}{tk l:TE}(a3:X.A.units+64<cLine)(G:PE X k tk)(P:PE X v l):PE X (.Dict [some k] [v] pos) (Iv X.K tk l):=by
 intro j s w H Q I q;have a0:=I.hok.fresh (zG s.heap.objs.size);have i:(s.heap.objs.size == sysModules)=false:=oP.mpr (yI (zX (Bc I)));have O:=I.laid (a:=s.heap.objs.size) (o:=mV s.heap.objs.size []) (h':=s.heap.push {cls:=.type "dict",data:=.dict #[]}) (t':=s.toks) (λ_ _ q=>zC _ q) (zG _) (Iy s.heap);rw[arm_eval_Dict,zip_pairTrees [some k] [v] X.env pos rfl rfl,dictDisplay_pairs (pairTrees [some k] [v] X.env pos) (by intro e;cases e) (show 1<17 by decide)];refine zA (xO (zA ?_));unfold subDict;refine zA (wpAny_alloc ?_);refine zA (yL ?_);rw[zE (show(pairTrees [some k] [v] X.env pos).length<=15 from(show 1<=15 by decide))];refine zA (pairTrees_cons_walk (thn (G j _ w _ _ O (q _ a0)) λu W⟨x,D,S,T,C⟩=>thn (P j W w D _ S C) λZ a2⟨y,p,g,U,b,d,N,a,t,e,M⟩=>pairTrees_nil_walk ?_));subst N;cases T;refine yL ?_;obtain⟨xs,a1,r,dd⟩:=fY g (Ix i e);cases r;refine zA ?_;rw[vW];refine zA (zA (wpAny_dictSet_heap (knd:=kU X.prog X.w) (hsz:=zZ _) (show X.A.units+8<cLine by omega) (fD g a t) dd λh' F L=>zB ?_));refine zB (zB (zB (zB ?_)));obtain⟨n,es,ep,m,V,R,J,_,Y⟩:=F;have K:∀ys,¬ Rd p s.heap.objs.size (.tup ys):=λys z=>by
  rcases z with z|⟨n,z⟩
  ·rw[e]at z;cases z
  ·rw[e]at z;cases z
 refine⟨.ref s.heap.objs.size,upd p s.heap.objs.size (mV s.heap.objs.size (storedH [] d b Z)),g.write (x:=s.heap.objs.size) (e:=s.heap.objs.size) (by rw[e];exact True.intro) (.inl rfl) (λc o f z=>(L.2 c f).trans z) ⟨n,m⟩ (bL m V R J),rfl,?_⟩;exact M _ (λc f=>nN f) ⟨by show 1<=sizeLine;decide,i,_,nK,Y,.cons ⟨rfl,⟨a,jF (Hb K) 4 a t⟩,U⟩ .nil⟩
end
def jG:Bool->Keyed->Array Keyed->Nat->Nat->Nat->StateT SortSt Sem (Option Nat):=sortPriv%PySem.Builtin.gallop
def fE(left:Bool)(key:Keyed)(arr:Array Keyed)(base i:Nat):StateT SortSt Sem (Option Bool):=do
 let x ←elem' arr (base+i)
 if left then lt' x key else return (←lt' key x).map (!·)
theorem Tq(left:Bool)(c:Keyed)(arr:Array Keyed)(base n a:Nat):jG left c arr base n a=(do
 let mut lastofs:=0
 let mut ofs:=1
 let mut lo:=0
 let mut hi:=0
 let some right ←fE left c arr base a|return none
 if right then
  let b:=n-a
  for _ in[0:n] do
   if ofs≥b then break
   let some more ←fE left c arr base (a+ofs)|return none
   if !more then break
   lastofs:=ofs
   ofs:=2*ofs+1
  lo:=a+lastofs+1
  hi:=a+min ofs b
 else
  let b:=a+1
  for _ in[0:n] do
   if ofs≥b then break
   let some found ←fE left c arr base (a-ofs)|return none
   if found then break
   lastofs:=ofs
   ofs:=2*ofs+1
  lo:=a+1-min ofs b
  hi:=a-lastofs
 for _ in[0:n] do
  if lo≥hi then break
  let m:=lo+(hi-lo)/2
  let some more ←fE left c arr base m|return none
  if more then lo:=m+1 else hi:=m
 return some hi):=rfl
section
variable {prog:Program} {w:World} {A:Around} {E:VP} {s:Shared} {κ:PyProof.Rows.KeyKind} {kd:SortKind}
def Cmp(prog:Program)(w:World)(A:Around)(s:Shared)(κ:PyProof.Rows.KeyKind)(kd:SortKind):Prop:=
 ∀(E:VP)(x y:Value)(a b:κ.α)(Q:Bool->Shared->Prop),κ.keyOf x=some a->κ.keyOf y=some b->Q (κ.blt a b) s->wpAny (model prog w) A (keyLt' kd x y) Q E s
def ky(κ:PyProof.Rows.KeyKind)(p:Keyed):κ.α:=(κ.keyOf p.1).getD κ.dflt
def Gd(κ:PyProof.Rows.KeyKind)(p:Keyed):Prop:=∃a,κ.keyOf p.1=some a
def lq(κ:PyProof.Rows.KeyKind)(p q:Keyed):Bool:=κ.blt (ky κ p) (ky κ q)
theorem Iu{p:Keyed}(h:Gd κ p):κ.keyOf p.1=some (ky κ p):=by
 obtain⟨a,e⟩:=h;unfold ky;rw[e];rfl
theorem dP(c:Cmp prog w A s κ kd){st:SortSt}{x y:Keyed}{Q:Option Bool->SortSt->Prop}(d:kindOf st=kd)(b:Gd κ x)(a:Gd κ y)(h:Q (some (lq κ x y)) st):wpS (model prog w) A E s (lt' x y) Q st:=by
 rw[lt'_eq];refine zF (uV ?_);rw[d];refine zF (qG (wZ (c _ x.1 y.1 _ _ _ (Iu b) (Iu a) ⟨rfl,?_⟩)));exact zH h
theorem lT{st:SortSt}{arr:Array Keyed}{i:Nat}{p:Keyed}{Q:Keyed->SortSt->Prop}(hi:arr[i]?=some p)(h:Q p st):wpS (model prog w) A E s (elem' arr i) Q st:=by
 rw[elem'_eq,hi];exact zH h
def bey(κ:PyProof.Rows.KeyKind)(left:Bool)(key p:Keyed):Bool:=if left=true then lq κ p key else !lq κ key p
theorem Tp(b:Cmp prog w A s κ kd){st:SortSt}{left:Bool}{a p:Keyed}{arr:Array Keyed}{base i:Nat}{Q:Option Bool->SortSt->Prop}(e:kindOf st=kd)(c:Gd κ a)(f:arr[base+i]?=some p)(d:Gd κ p)(h:Q (some (bey κ left a p)) st):
  wpS (model prog w) A E s (fE left a arr base i) Q st:=by
 unfold fE;refine zF (lT f ?_);unfold bey at h;cases left with
 |true =>
  rw[zE rfl]at h ⊢;exact dP b e d c h
 |false =>
  rw[zD (by simp)]at h ⊢;exact zF (dP b e c d (zH h))
theorem Ir{st:SortSt}{n lo hi:Nat}{B:Nat->Bool}{f:Nat->StateT SortSt Sem (Option Bool)}{Q:Option Nat->SortSt->Prop}
  (r:∀(i:Nat)(R:Option Bool->SortSt->Prop),i<n->R (some (B i)) st->wpS (model prog w) A E s (f i) R st)(l:lo<=hi)(q:hi<=n)(mono:∀i j,i<=j->j<n->B j=true->B i=true)(o:∀i,i<lo->B i=true)(t:∀i,hi<=i->i<n->B i=false)
  (h:∀k,k<=n->(∀i,i<k->B i=true)->(∀i,k<=i->i<n->B i=false)->Q (some k) st):
  wpS (model prog w) A E s (do
   let mut lo:=lo
   let mut hi:=hi
   for _ in[0:n] do
    if lo≥hi then break
    let m:=lo+(hi-lo)/2
    let some more ←f m|return none
    if more then lo:=m+1 else hi:=m
   return some hi) Q st:=by
 refine zF (wP (xI (I:=λx c d=>d=st/\∃lo hi,c=(none,lo,hi)/\lo<=hi/\hi<=n/\hi-lo+x<=n/\(∀i,i<lo->B i=true)/\∀i,hi<=i->i<n->B i=false)
  (Q:=λc d=>d=st/\∃k,c=(none,k,k)/\k<=n/\(∀i,i<k->B i=true)/\∀i,k<=i->i<n->B i=false) ?_ ?_ ⟨rfl,lo,hi,rfl,l,q,⋯,o,t⟩) ?_)
 ·rintro x c d _ v ⟨rfl,lo,hi,rfl,p,b,g,a,e⟩;dsimp only
  by_cases hl:lo≥hi
  ·rw[zE hl];exact zH ⟨rfl,hi,by rw[show lo=hi by omega],b,λi hi'=>a i ⋯,e⟩
  ·rw[zD hl];refine zF (r _ _ ⋯ ?_);dsimp only;cases hb:B (lo+(hi-lo)/2) with
   |true =>
    rw[zE rfl];refine zH ⟨rfl,_,_,rfl,⋯,b,⋯,λi hi'=>?_,e⟩;exact mono i _ ⋯ ⋯ hb
   |false =>
    rw[zD (by simp)];refine zH ⟨rfl,_,_,rfl,⋯,⋯,⋯,a,λi hi' u=>?_⟩;cases hbi:B i with
    |false=>rfl
    |true=>rw[mono _ i hi' u hbi]at hb;cases hb
 ·rintro c d ⟨rfl,lo,hi,rfl,p,b,g,a,e⟩;have:lo=hi:=⋯
  subst this;exact⟨rfl,lo,rfl,b,a,e⟩
 ·rintro c d ⟨rfl,k,rfl,b,a,e⟩;exact zH (h k b a e)
theorem dQ(I:Cmp prog w A s κ kd){st:SortSt}{left:Bool}{o:Keyed}{arr:Array Keyed}{base n b:Nat}{B:Nat->Bool}{Q:Option Nat->SortSt->Prop}(y:kindOf st=kd)(F:Gd κ o)(v:b<n)
  (D:∀i,i<n->∃p,arr[base+i]?=some p/\Gd κ p/\bey κ left o p=B i)(mono:∀i j,i<=j->j<n->B j=true->B i=true)
  (h:∀k,k<=n->(∀i,i<k->B i=true)->(∀i,k<=i->i<n->B i=false)->Q (some k) st):wpS (model prog w) A E s (jG left o arr base n b) Q st:=by
 have m:∀(i:Nat)(R:Option Bool->SortSt->Prop),i<n->R (some (B i)) st->wpS (model prog w) A E s (fE left o arr base i) R st:=λi R hi r=>by
  obtain⟨p,e1,z,C⟩:=D i hi;exact Tp I y F e1 z (by rw[C];exact r)
 rw[Tq];refine zF (m b _ v ?_);dsimp only;cases hh:B b with
 | true =>
  rw[zE rfl];refine zF (wP (xI (I:=λx c e=>e=st/\∃lo a,c=(none,lo,a)/\x+1<=a/\lo<a/\b+lo<n/\B (b+lo)=true)
   (Q:=λc e=>e=st/\∃lo a,c=(none,lo,a)/\lo<a/\b+lo<n/\B (b+lo)=true/\(n-b<=a\/(b+a<n/\B (b+a)=false))) ?_ ?_ ⟨rfl,0,1,rfl,zG _,⋯,v,hh⟩) ?_)
  ·rintro x c e _ G ⟨rfl,lo,a,rfl,u,g,f,d⟩;dsimp only
   by_cases hl:a≥n-b
   ·rw[zE hl];exact zH ⟨rfl,lo,a,rfl,g,f,d,.inl hl⟩
   ·rw[zD hl];refine zF (m _ _ ⋯ ?_);dsimp only;cases hb:B (b+a) with
    |true =>
     rw[zD (by simp)];exact zH ⟨rfl,_,_,rfl,⋯,⋯,⋯,hb⟩
    |false =>
     rw[zE ∅];exact zH ⟨rfl,lo,a,rfl,g,f,d,.inr ⟨⋯,hb⟩⟩
  ·rintro c e ⟨rfl,lo,a,rfl,u,g,f,d⟩;exact⟨rfl,lo,a,rfl,g,f,d,.inl ⋯⟩
  ·rintro c e ⟨rfl,lo,a,rfl,g,f,d,l⟩;dsimp only;refine Ir (lo:=b+lo+1) (hi:=b+min a (n-b)) m ⋯ ⋯ mono (λi hi=>mono i _ ⋯ f d) (λi hi t=>?_) h;rcases l with l|⟨l,q⟩
   ·omega
   ·cases hbi:B i with
    |false=>rfl
    |true=>rw[mono _ i ⋯ t hbi]at q;cases q
 | false =>
  rw[zD (by simp)];refine zF (wP (xI (I:=λx c e=>e=st/\∃lo a,c=(none,lo,a)/\x+1<=a/\lo<a/\lo<=b/\B (b-lo)=false)
   (Q:=λc e=>e=st/\∃lo a,c=(none,lo,a)/\lo<a/\lo<=b/\B (b-lo)=false/\(b+1<=a\/(a<=b/\B (b-a)=true))) ?_ ?_ ⟨rfl,0,1,rfl,zG _,⋯,zZ _,hh⟩) ?_)
  ·rintro x c e _ G ⟨rfl,lo,a,rfl,u,g,f,d⟩;dsimp only
   by_cases hl:a≥b+1
   ·rw[zE hl];exact zH ⟨rfl,lo,a,rfl,g,f,d,.inl hl⟩
   ·rw[zD hl];refine zF (m _ _ ⋯ ?_);dsimp only;cases hb:B (b-a) with
    |true =>
     rw[zE rfl];exact zH ⟨rfl,lo,a,rfl,g,f,d,.inr ⟨⋯,hb⟩⟩
    |false =>
     rw[zD (by simp)];exact zH ⟨rfl,_,_,rfl,⋯,⋯,⋯,hb⟩
  ·rintro c e ⟨rfl,lo,a,rfl,u,g,f,d⟩;exact⟨rfl,lo,a,rfl,g,f,d,.inl ⋯⟩
  ·rintro c e ⟨rfl,lo,a,rfl,g,f,d,l⟩;dsimp only;refine Ir (lo:=b+1-min a (b+1)) (hi:=b-lo) m ⋯ ⋯ mono (λi hi=>?_) (λi hi t=>?_) h
   ·rcases l with l|⟨l,q⟩
    ·omega
    ·exact mono i _ ⋯ ⋯ q
   ·cases hbi:B i with
    |false=>rfl
    |true=>rw[mono _ i ⋯ t hbi]at d;cases d
end
section
variable {κ:PyProof.Rows.KeyKind}
def le'(κ:PyProof.Rows.KeyKind)(x y:Keyed):Prop:=lq κ y x=false
theorem lJ{x y z:Keyed}(a:le' κ x y)(b:le' κ y z):le' κ x z:=KeyOrd.kle_trans (O:=κ.toKeyOrd) a b
theorem lU{x y:Keyed}(h:lq κ x y=true):le' κ x y:=KeyOrd.klt_asymm (O:=κ.toKeyOrd) h
theorem iX(x:Keyed):le' κ x x:=κ.irrefl _
abbrev Srt(κ:PyProof.Rows.KeyKind)(l:List Keyed):Prop:=l.Pairwise (le' κ)
structure MI(κ:PyProof.Rows.KeyKind)(A B out:List Keyed)(ia ib:Nat):Prop where
 pm:out.Perm (A.take ia++B.take ib)
 so:Srt κ out
 oa:∀x∈out,∀y∈A.drop ia,le' κ x y
 ob:∀x∈out,∀y∈B.drop ib,le' κ x y
theorem MI.symm{A B out:List Keyed}{ia ib:Nat}(h:MI κ A B out ia ib):MI κ B A out ib ia:=⟨h.pm.trans vU,h.so,h.ob,h.oa⟩
theorem To{A:List Keyed}{i k:Nat}:A.take (i+k)=A.take i++(A.drop i).take k:=by rw[qV]
theorem MI.ext{A B out:List Keyed}{ia ib k:Nat}(h:MI κ A B out ia ib)(d:Srt κ A)(e:∀x∈(A.drop ia).take k,∀y∈B.drop ib,le' κ x y):MI κ A B (out++(A.drop ia).take k) (ia+k) ib:=by
 have f:Srt κ (A.drop ia):=uZ (sH _ _) d;have cut:(A.drop ia).take k++A.drop (ia+k)=A.drop ia:=by rw[←pZ];exact xZ _ _
 have c:=oV.mp (show Srt κ ((A.drop ia).take k++A.drop (ia+k)) by rw[cut];exact f);refine⟨?_,oV.mpr ⟨h.so,c.1,λx b y a=>h.oa x b y (rM a)⟩,λx b y a=>?_,λx b y a=>?_⟩
 ·rw[To,yO];refine(h.pm.append_right _).trans ?_;rw[yO];exact rC _ vU
 ·rcases oW.mp b with q|q
  ·exact h.oa x q y (by rw[←cut];exact yC _ a)
  ·exact c.2.2 x q y a
 ·rcases oW.mp b with q|q
  ·exact h.ob x q y a
  ·exact e x q y a
theorem bO{A:List Keyed}{i:Nat}{p:Keyed}(e:A[i]?=some p):A.drop i=p:: A.drop (i+1):=by
 obtain⟨h,rfl⟩:=nB.mp e;exact tS h
theorem MI.push{A B out:List Keyed}{ia ib:Nat}{p:Keyed}(h:MI κ A B out ia ib)(b:Srt κ A)(e:A[ia]?=some p)(d:∀y∈B.drop ib,le' κ p y):MI κ A B (out++[p]) (ia+1) ib:=by
 have:=MI.ext (k:=1) h b (λx a y f=>by
  rw[bO e]at a;have c:x=p:=by simpa using a
  rw[c];exact d y f)
 rw[bO e]at this;simpa using this
theorem fZ{A:List Keyed}{i:Nat}{p q:Keyed}(c:Srt κ A)(e:A[i]?=some q)(h:le' κ p q):∀y∈A.drop i,le' κ p y:=λy a=>by
 have b:Srt κ (A.drop i):=uZ (sH _ _) c;rw[bO e]at a b;rcases xC.mp a with d|a
 ·rw[d];exact h
 ·exact lJ h ((List.pairwise_cons.mp b).1 y a)
def Res(κ:PyProof.Rows.KeyKind)(A B r:List Keyed):Prop:=r.Perm (A++B)/\Srt κ r
theorem MI.all{A B out:List Keyed}{ia ib:Nat}(h:MI κ A B out ia ib)(a:Srt κ A)(b:B.length<=ib):Res κ A B (out++A.drop ia):=by
 refine⟨?_,oV.mpr ⟨h.so,uZ (sH _ _) a,h.oa⟩⟩;have:=h.pm;rw[wF b]at this;refine(this.append_right _).trans ?_;rw[yO];refine(rC _ vU).trans ?_;rw[←yO,xZ]
theorem Res.symm{A B r:List Keyed}(h:Res κ A B r):Res κ B A r:=⟨h.1.trans vU,h.2⟩
theorem MI.last{A B out:List Keyed}{ia ib:Nat}{p:Keyed}(h:MI κ A B out ia ib)(f:Srt κ B)(e:A[ia]?=some p)(hl:ia+1=A.length)(c:∀y∈B,le' κ y p):Res κ A B (out++B.drop ib++A.drop ia):=by
 have a:A.drop ia=[p]:=by rw[bO e,sV ⋯]
 rw[a];refine⟨?_,oV.mpr ⟨oV.mpr ⟨h.so,uZ (sH _ _) f,h.ob⟩,List.pairwise_singleton _ _,λx b y d=>?_⟩⟩
 ·have t:A=A.take ia++[p]:=by rw[←a,xZ]
  have:=(h.pm.append_right (B.drop ib)).append_right [p];refine this.trans ?_;rw[yO (A.take ia),xZ,yO]
  conv=>rhs;rw[t]
  rw[yO];exact rC _ vU
 ·rw[oQ.mp d];rcases oW.mp b with q|q
  ·exact h.oa x q p (by rw[a];exact List.mem_singleton_self _)
  ·exact c x (List.mem_of_mem_drop q)
theorem Ba(a:Array Keyed)(i j:Nat):(a.extract i (i+j)).toList=(a.toList.drop i).take j:=by simp[Array.toList_extract,List.extract_eq_take_drop]
theorem eA(a:Array Keyed)(i:Nat):(a.extract i a.size).toList=a.toList.drop i:=by
 simp only[Array.toList_extract,List.extract_eq_take_drop];exact wF (by rw[tF,zP];exact zG _)
end
section
variable {prog:Program} {w:World} {A:Around} {E:VP} {s:Shared} {κ:PyProof.Rows.KeyKind} {kd:SortKind}
structure MG(κ:PyProof.Rows.KeyKind)(a b:Array Keyed):Prop where
 sa:Srt κ a.toList
 sb:Srt κ b.toList
 ga:∀p∈a.toList,Gd κ p
 gb:∀p∈b.toList,Gd κ p
 na:1<=a.size
 nb:1<=b.size
 top:∀p,a[a.size-1]?=some p->∀y∈b.toList,le' κ y p
 fst:∀p q,b[0]?=some p->a[0]?=some q->le' κ p q
structure Sm(st st':SortSt):Prop where
 k:kindOf st'=kindOf st
 a:arrOf st'=arrOf st
 p:pendingOf st'=pendingOf st
 f:failedOf st'=failedOf st
theorem Sm.refl(st:SortSt):Sm st st:=⟨rfl,rfl,rfl,rfl⟩
theorem Sm.set{st a:SortSt}(h:Sm st a)(g:Nat):Sm st (SortSt.mk' (kindOf a) (arrOf a) (pendingOf a) g (failedOf a)):=⟨h.k,h.a,h.p,h.f⟩
theorem nQ{a:Array Keyed}{i:Nat}{p:Keyed}:a[i]?=some p↔a.toList[i]?=some p:=by rw[yS]
theorem lE{a:Array Keyed}{i:Nat}(h:i<a.size):∃p,a[i]?=some p:=⟨a[i],tR h⟩
theorem kI{st:SortSt}{arr:Array Keyed}{i:Nat}{Q:Keyed->SortSt->Prop}(hi:i<arr.size)(h:∀p,arr[i]?=some p->Q p st):wpS (model prog w) A E s (elem' arr i) Q st:=by
 obtain⟨p,e⟩:=lE hi;exact lT e (h p e)
theorem gH{l:List Keyed}(d:Srt κ l){i j:Nat}{p q:Keyed}(h:i<=j)(e1:l[i]?=some p)(a:l[j]?=some q):le' κ p q:=by
 rcases uX i j with h'|h'
 ·obtain⟨b,rfl⟩:=nB.mp e1;obtain⟨c,rfl⟩:=nB.mp a;exact List.pairwise_iff_getElem.mp d i j b c h'
 ·have:i=j:=⋯
  subst this;rw[e1]at a;cases a;exact iX _
theorem Cz{l:List Keyed}{i:Nat}{x:Keyed}(h:x∈l.drop i):∃j,i<=j/\l[j]?=some x:=by
 obtain⟨j,a,rfl⟩:=uI h;exact⟨i+j,⋯,by rw[←tZ];exact xS a⟩
theorem eE{l:List Keyed}{i k:Nat}{x:Keyed}(h:x∈(l.drop i).take k):∃j,j<k/\l[i+j]?=some x:=by
 obtain⟨j,a,rfl⟩:=uI h;rw[xA]at a;refine⟨j,⋯,?_⟩;rw[←tZ,List.getElem_take];exact xS ⋯
theorem Tn(m:Cmp prog w A s κ kd){st:SortSt}{a:Array Keyed}{ia:Nat}{p:Keyed}{Q:Option Nat->SortSt->Prop}(z:kindOf st=kd)(t:Srt κ a.toList)(l:∀x∈a.toList,Gd κ x)(u:Gd κ p)(D:ia<a.size)
  (h:∀k,ia+k<=a.size->(∀x∈(a.toList.drop ia).take k,le' κ x p)->(∀y∈a.toList.drop (ia+k),lq κ p y=true)->Q (some k) st):wpS (model prog w) A E s (jG false p a ia (a.size-ia) 0) Q st:=by
 refine dQ m (B:=λi=>!lq κ p (a.getD (ia+i) p)) z u ⋯ (λi hi=>?_) (λi j F b d=>?_) λk C o v=>h k ⋯ (λx f=>?_) λy g=>?_
 ·obtain⟨q,e⟩:=lE (a:=a) (i:=ia+i) ⋯;refine⟨q,e,l q (yG (nQ.mp e)),?_⟩;rw[show a.getD (ia+i) p=q by simp[Array.getD_eq_getD_getElem?,e]];rfl
 ·obtain⟨q,e⟩:=lE (a:=a) (i:=ia+i) ⋯;obtain⟨r,c⟩:=lE (a:=a) (i:=ia+j) ⋯;rw[show a.getD (ia+j) p=r by simp[Array.getD_eq_getD_getElem?,c]]at d;rw[show a.getD (ia+i) p=q by simp[Array.getD_eq_getD_getElem?,e]];have l1:le' κ r p:=by unfold le';simpa using d
  have:=lJ (gH t (show ia+i<=ia+j by omega) (nQ.mp e) (nQ.mp c)) l1;unfold le' at this;rw[this];rfl
 ·obtain⟨j,b,e⟩:=eE f;have:=o j b;rw[show a.getD (ia+j) p=x by simp[Array.getD_eq_getD_getElem?,nQ.mpr e]]at this;unfold le';simpa using this
 ·obtain⟨j,b,e⟩:=Cz g;have n:=(nB.mp e).1;rw[zP]at n;have:=v (j-ia) ⋯ ⋯;rw[show ia+(j-ia)=j by omega,show a.getD j p=y by simp[Array.getD_eq_getD_getElem?,nQ.mpr e]]at this;simpa using this
theorem bP(m:Cmp prog w A s κ kd){st:SortSt}{b:Array Keyed}{ib d:Nat}{q:Keyed}{n:Nat}{Q:Option Nat->SortSt->Prop}(v:kindOf st=kd)(f:Srt κ b.toList)(t:∀x∈b.toList,Gd κ x)(g:Gd κ q)(C:ib+n<=b.size)(hh:d<n)
  (h:∀k,k<=n->(∀i x,i<k->b[ib+i]?=some x->lq κ x q=true)->(∀i x,k<=i->i<n->b[ib+i]?=some x->le' κ q x)->Q (some k) st):wpS (model prog w) A E s (jG true q b ib n d) Q st:=by
 refine dQ m (B:=λi=>lq κ (b.getD (ib+i) q) q) v g hh (λi hi=>?_) (λi j D z c=>?_) λk l o u=>h k l (λi x hi e=>?_) λi x hi y e=>?_
 ·obtain⟨p,e⟩:=lE (a:=b) (i:=ib+i) ⋯;refine⟨p,e,t p (yG (nQ.mp e)),?_⟩;rw[show b.getD (ib+i) q=p by simp[Array.getD_eq_getD_getElem?,e]];rfl
 ·obtain⟨p,e⟩:=lE (a:=b) (i:=ib+i) ⋯;obtain⟨r,a⟩:=lE (a:=b) (i:=ib+j) ⋯;rw[show b.getD (ib+j) q=r by simp[Array.getD_eq_getD_getElem?,a]]at c;rw[show b.getD (ib+i) q=p by simp[Array.getD_eq_getD_getElem?,e]];exact KeyOrd.klt_of_kle_of_klt (O:=κ.toKeyOrd) (gH f (show ib+i<=ib+j by omega) (nQ.mp e) (nQ.mp a)) c
 ·have:=o i hi;rw[show b.getD (ib+i) q=x by simp[Array.getD_eq_getD_getElem?,e]]at this;exact this
 ·have:=u i hi y;rw[show b.getD (ib+i) q=x by simp[Array.getD_eq_getD_getElem?,e]]at this;exact this
end
def Cy:Array Keyed->Array Keyed->StateT SortSt Sem (Array Keyed):=sortPriv%PySem.Builtin.mergeLo
def dR:Nat->StateT SortSt Sem Unit:=sortPriv%PySem.Builtin.setMinGallop
theorem Tm(a b:Array Keyed):Cy a b=(do
 rule "list.sort.merge-lo"
 let d:=a.size+b.size
 let done (out:Array Keyed) (ia ib:Nat):=out++a.extract ia a.size++b.extract ib b.size
 let c (out:Array Keyed) (ia ib:Nat):=out++b.extract ib b.size++a.extract ia a.size
 let mut out:Array Keyed:=#[←elem' b 0]
 let mut ia:=0
 let mut ib:=1
 if ib == b.size then return done out ia ib
 if ia+1 == a.size then return c out ia ib
 let mut minGallop:=gallopOf (←get)
 for _ in[0:d] do
  let mut acount:=0
  let mut bcount:=0
  for _ in[0:d] do
   let some bWins ←lt' (←elem' b ib) (←elem' a ia)|return done out ia ib
   if bWins then
    out:=out.push (←elem' b ib);ib:=ib+1;bcount:=bcount+1;acount:=0
    if ib == b.size then return done out ia ib
    if bcount≥minGallop then break
   else
    out:=out.push (←elem' a ia);ia:=ia+1;acount:=acount+1;bcount:=0
    if ia+1 == a.size then return c out ia ib
    if acount≥minGallop then break
  rule "list.sort.gallop"
  minGallop:=minGallop+1
  for _ in[0:d] do
   if minGallop > 1 then minGallop:=minGallop-1
   dR minGallop
   let some k ←jG false (←elem' b ib) a ia (a.size-ia) 0|return done out ia ib
   acount:=k
   if k > 0 then
    out:=out++a.extract ia (ia+k);ia:=ia+k
    if ia+1 == a.size then return c out ia ib
    if ia == a.size then return done out ia ib
   out:=out.push (←elem' b ib);ib:=ib+1
   if ib == b.size then return done out ia ib
   let some k ←jG true (←elem' a ia) b ib (b.size-ib) 0|return done out ia ib
   bcount:=k
   if k > 0 then
    out:=out++b.extract ib (ib+k);ib:=ib+k
    if ib == b.size then return done out ia ib
   out:=out.push (←elem' a ia);ia:=ia+1
   if ia+1 == a.size then return c out ia ib
   if acount<7 && bcount<7 then break
  minGallop:=minGallop+1
  dR minGallop
 unsupported "internal:list.sort.merge-bound"):=rfl
theorem bQ(g:Nat):dR g=modify λs=>SortSt.mk' (kindOf s) (arrOf s) (pendingOf s) g (failedOf s):=rfl
section
variable {prog:Program} {w:World} {A:Around} {E:VP} {s:Shared} {κ:PyProof.Rows.KeyKind} {kd:SortKind}
theorem eF{a b out:Array Keyed}{ia ib:Nat}(G:MG κ a b)(h:MI κ a.toList b.toList out.toList ia ib)(c:b.size<=ib):Res κ a.toList b.toList (out++a.extract ia a.size++b.extract ib b.size).toList:=by
 rw[yK,yK,eA,eA,sV (as:=b.toList) (by rw[zP];exact c),wU];exact h.all G.sa (by rw[zP];exact c)
theorem Tl{a b out:Array Keyed}{ia ib:Nat}(G:MG κ a b)(h:MI κ a.toList b.toList out.toList ia ib)(c:a.size<=ia):Res κ a.toList b.toList (out++a.extract ia a.size++b.extract ib b.size).toList:=by
 rw[yK,yK,eA,eA,sV (as:=a.toList) (by rw[zP];exact c),wU];exact(h.symm.all G.sb (by rw[zP];exact c)).symm
theorem fF{a b out:Array Keyed}{ia ib:Nat}(G:MG κ a b)(h:MI κ a.toList b.toList out.toList ia ib)(c:ia+1=a.size):Res κ a.toList b.toList (out++b.extract ib b.size++a.extract ia a.size).toList:=by
 rw[yK,yK,eA,eA];obtain⟨p,e⟩:=lE (a:=a) (i:=ia) ⋯;exact h.last G.sb (nQ.mp e) (by rw[zP];exact c) (G.top p (by rw[show a.size-1=ia by omega];exact e))
theorem bR{a b out:Array Keyed}{ia ib:Nat}{p:Keyed}(G:MG κ a b)(h:MI κ a.toList b.toList out.toList ia ib)(e:b[ib]?=some p)(c:∀y∈a.toList.drop ia,le' κ p y):MI κ a.toList b.toList (out.push p).toList ia (ib+1):=by
 rw[uQ];exact(h.symm.push G.sb (nQ.mp e) c).symm
theorem dS{a b out:Array Keyed}{ia ib:Nat}{p:Keyed}(G:MG κ a b)(h:MI κ a.toList b.toList out.toList ia ib)(e:a[ia]?=some p)(c:∀y∈b.toList.drop ib,le' κ p y):MI κ a.toList b.toList (out.push p).toList (ia+1) ib:=by
 rw[uQ];exact h.push G.sa (nQ.mp e) c
theorem Tk{a b out:Array Keyed}{ia ib k:Nat}{p:Keyed}(G:MG κ a b)(h:MI κ a.toList b.toList out.toList ia ib)(e:b[ib]?=some p)(d:∀x∈(a.toList.drop ia).take k,le' κ x p):MI κ a.toList b.toList (out++a.extract ia (ia+k)).toList (ia+k) ib:=by
 rw[yK,Ba];exact h.ext G.sa λx c y f=>lJ (d x c) (fZ G.sb (nQ.mp e) (iX p) y f)
theorem Iq{a b out:Array Keyed}{ia ib k:Nat}{p:Keyed}(G:MG κ a b)(h:MI κ a.toList b.toList out.toList ia ib)(e:a[ia]?=some p)(d:∀x∈(b.toList.drop ib).take k,le' κ x p):MI κ a.toList b.toList (out++b.extract ib (ib+k)).toList ia (ib+k):=by
 rw[yK,Ba];exact(h.symm.ext G.sb λx c y f=>lJ (d x c) (fZ G.sa (nQ.mp e) (iX p) y f)).symm
theorem Cv{a out:Array Keyed}{i:Nat}:out++a.extract i (i+0)=out:=by simp;omega
theorem nV{a:Type}{c:Prop}[Decidable c]{t e:StateT SortSt Sem a}{Q:a->SortSt->Prop}{st:SortSt}(b:c->wpS (model prog w) A E s t Q st)(d:¬ c->wpS (model prog w) A E s e Q st):wpS (model prog w) A E s (if c then t else e) Q st:=by
 by_cases h:c
 ·rw[zE h];exact b h
 ·rw[zD h];exact d h
theorem Ip{b:Type}{c:Nat->Prop}[∀m,Decidable (c m)]{t a:Nat->StateT SortSt Sem b}{Q:b->SortSt->Prop}{st:SortSt}(h:∀m,wpS (model prog w) A E s (a m) Q st)(e:∀m,a (m-1)=t m)(m:Nat):wpS (model prog w) A E s (if c m then t m else a m) Q st:=nV (λ_=>by rw[←e];exact h _) λ_=>h m
theorem Tj(S:Cmp prog w A s κ kd){st:SortSt}{a b:Array Keyed}{Q:Array Keyed->SortSt->Prop}(O:kindOf st=kd)(G:MG κ a b)
  (h:∀r m,Sm st m->Res κ a.toList b.toList r.toList->Q r m):wpS (model prog w) A E s (Cy a b) Q st:=by
 have c1:=G.na;have c3:=G.nb;have a2:∀i p,a[i]?=some p->Gd κ p:=λi p e=>G.ga p (yG (nQ.mp e));have a3:∀i p,b[i]?=some p->Gd κ p:=λi p e=>G.gb p (yG (nQ.mp e));rw[Tm];refine zF (qG (wM ⟨rfl,?_⟩));refine zF (kI ⋯ λa7 a4=>?_);dsimp only;obtain⟨b4,a5⟩:=lE (a:=a) (i:=0) ⋯;have a1:MI κ a.toList b.toList (#[a7]:Array Keyed).toList 0 1:=by
  have:=bR (out:=#[]) (ia:=0) (ib:=0) G ⟨by simp,List.Pairwise.nil,λx J=>by simp at J,λx J=>by simp at J⟩ a4 (fZ G.sa (nQ.mp a5) (G.fst a7 b4 a4 a5));simpa using this
 by_cases P:(1 == b.size)=true
 ·rw[zE P];exact zH (h _ _ (Sm.refl _) (eF G a1 (by have:=yQ P;omega)))
 rw[zD P];have c0:1≠b.size:=λe=>P (oO.mpr e)
 by_cases R:(0+1 == a.size)=true
 ·rw[zE R];exact zH (h _ _ (Sm.refl _) (fF G a1 (by have:=yQ R;omega)))
 rw[zD R];have b8:0+1≠a.size:=λe=>R (oO.mpr e);refine zF (uV ?_);refine zF (wP (xI (I:=λx c m=>Sm st m/\E4 λ(out:Array Keyed)(ia ib u:Nat)=>A5 (c=(none,out,ia,ib,u)) (MI κ a.toList b.toList out.toList ia ib) (ia+1<a.size) (ib<b.size) (x+1<=ia+ib))
  (Q:=λc m=>Sm st m/\∃r t,c=(some r,t)/\Res κ a.toList b.toList r.toList) ?_ ?_ ⟨Sm.refl _,_,_,_,_,rfl,a1,⋯,⋯,⋯⟩) ?_)
 ·rintro x c U _ J ⟨sm,out,ia,ib,u,rfl,g,lia,d,C⟩;dsimp only;refine zF (wP (xI (I:=λy c m=>Sm st m/\E5 λ(out:Array Keyed)(ia ib o n:Nat)=>A6 (c=(none,out,ia,ib,o,n)) (MI κ a.toList b.toList out.toList ia ib) (ia+1<a.size) (ib<b.size) (x+1<=ia+ib) (1<=y->x+2<=ia+ib))
   (Q:=λc m=>Sm st m/\((∃r t,c=(some r,t)/\Res κ a.toList b.toList r.toList)\/E5 λ(out:Array Keyed)(ia ib o n:Nat)=>A5 (c=(none,out,ia,ib,o,n)) (MI κ a.toList b.toList out.toList ia ib) (ia+1<a.size) (ib<b.size) (x+2<=ia+ib))) ?_ ?_ ⟨sm,out,ia,ib,0,0,rfl,g,lia,d,C,⋯⟩) ?_)
  ·rintro y c a8 _ F ⟨sm,out,ia,ib,o,n,rfl,g,lia,d,C,_⟩;dsimp only;refine zF (kI d λp e=>?_);refine zF (kI (show ia<a.size by omega) λq f=>?_);refine zF (dP S (by rw[sm.k];exact O) (a3 _ _ e) (a2 _ _ f) ?_);dsimp only;cases hl:lq κ p q with
   |true =>
    rw[zE rfl];have K:=bR G g e (fZ G.sa (nQ.mp f) (lU hl));refine zF (lT e ?_)
    by_cases I:(ib+1 == b.size)=true
    ·rw[zE I];exact zH ⟨sm,.inl ⟨_,_,rfl,eF G K (by have:=yQ I;omega)⟩⟩
    rw[zD I];have b0:ib+1≠b.size:=λe=>I (oO.mpr e);split
    ·exact zH ⟨sm,.inr ⟨_,_,_,_,_,rfl,K,lia,⋯,⋯⟩⟩
    ·exact zH ⟨sm,_,_,_,_,_,rfl,K,lia,⋯,⋯,⋯⟩
   |false =>
    rw[zD (by simp)];have K:=dS G g f (fZ G.sb (nQ.mp e) hl);refine zF (lT f ?_)
    by_cases I:(ia+1+1 == a.size)=true
    ·rw[zE I];exact zH ⟨sm,.inl ⟨_,_,rfl,fF G K (by have:=yQ I;omega)⟩⟩
    rw[zD I];have b0:ia+1+1≠a.size:=λe=>I (oO.mpr e);split
    ·exact zH ⟨sm,.inr ⟨_,_,_,_,_,rfl,K,⋯,d,⋯⟩⟩
    ·exact zH ⟨sm,_,_,_,_,_,rfl,K,⋯,d,⋯,⋯⟩
  ·rintro c a8 ⟨sm,out,ia,ib,o,n,rfl,g,lia,d,C,b1⟩;exact⟨sm,.inr ⟨_,_,_,_,_,rfl,g,lia,d,b1 ⋯⟩⟩
  ·rintro c a8 ⟨sm,⟨r,t,rfl,M⟩|⟨out,ia,ib,o,n,rfl,g,lia,d,C⟩⟩
   ·exact zH ⟨sm,_,_,rfl,M⟩
   dsimp only;refine zF (qG (wM ⟨rfl,?_⟩));refine zF (wP (xI (I:=λy c m=>Sm st m/\E6 λ(out:Array Keyed)(ia ib u o n:Nat)=>A5 (c=(none,out,ia,ib,u,o,n)) (MI κ a.toList b.toList out.toList ia ib) (ia+1<a.size) (ib<b.size) (x+2<=ia+ib))
    (Q:=λc m=>Sm st m/\((∃r t,c=(some r,t)/\Res κ a.toList b.toList r.toList)\/E6 λ(out:Array Keyed)(ia ib u o n:Nat)=>A5 (c=(none,out,ia,ib,u,o,n)) (MI κ a.toList b.toList out.toList ia ib) (ia+1<a.size) (ib<b.size) (x+2<=ia+ib))) ?_ ?_ ⟨sm,_,_,_,_,_,_,rfl,g,lia,d,C⟩) ?_)
   ·rintro y c a6 _ F ⟨sm,out,ia,ib,u,o,n,rfl,g,lia,d,C⟩;dsimp only
    revert u
    refine Ip (λu=>?_) λ_=>rfl;rw[bQ];refine zF (wR ?_);refine zF (kI (arr:=b) d λp e=>?_);refine zF (Tn S (show kindOf _=kd from sm.k.trans O) G.sa G.ga (a3 _ _ e) (show ia<a.size by omega) λk b7 b6 Z=>?_);have mk:=Tk G g e b6;dsimp only;refine nV (λb5=>?_) λb5=>?_
    ·refine nV (λz=>?_) λz=>?_
     ·exact zH ⟨sm.set _,.inl ⟨_,_,rfl,fF G mk (yQ z)⟩⟩
     have c2:ia+k+1≠a.size:=λe=>z (oO.mpr e);refine nV (λy=>?_) λy=>?_
     ·exact zH ⟨sm.set _,.inl ⟨_,_,rfl,Tl G mk (by have:=yQ y;omega)⟩⟩
     have b9:ia+k≠a.size:=λe=>y (oO.mpr e);have L:=bR G mk e λy F=>lU (Z y F);refine zF (lT e ?_);refine nV (λz=>?_) λz=>?_
     ·exact zH ⟨sm.set _,.inl ⟨_,_,rfl,eF G L (by have:=yQ z;omega)⟩⟩
     have a9:ib+1≠b.size:=λe=>z (oO.mpr e);refine zF (kI (arr:=a) (i:=(ia+k)) ⋯ λq f=>?_);refine zF (bP S (show kindOf _=kd from sm.k.trans O) G.sb G.gb (a2 _ _ f) (show ib+1+(b.size-(ib+1))<=b.size by omega) ⋯ λk2 b2 V T=>?_);have v:=Iq (k:=k2) G L f λx J=>by
      obtain⟨j,N,D⟩:=eE J;exact lU (V j x N (nQ.mpr D))
     have nx:∀y∈b.toList.drop (ib+1+k2),le' κ q y:=λy F=>by
      obtain⟨j,N,D⟩:=Cz F;have a0:=(nB.mp D).1;rw[zP]at a0;exact T (j-(ib+1)) y ⋯ ⋯ (by rw[show ib+1+(j-(ib+1))=j by omega];exact nQ.mpr D)
     dsimp only;refine nV (λY=>?_) λY=>?_
     ·refine nV (λz=>?_) λz=>?_
      ·exact zH ⟨sm.set _,.inl ⟨_,_,rfl,eF G v (by have:=yQ z;omega)⟩⟩
      have b3:ib+1+k2≠b.size:=λe=>z (oO.mpr e);have l:=dS G v f nx;refine zF (lT f ?_);refine nV (λz=>?_) λz=>?_
      ·exact zH ⟨sm.set _,.inl ⟨_,_,rfl,fF G l (yQ z)⟩⟩
      have W:(ia+k)+1+1≠a.size:=λe=>z (oO.mpr e);refine nV (λ_=>?_) λ_=>?_
      ·exact zH ⟨sm.set _,.inr ⟨_,_,_,_,_,_,rfl,l,⋯,⋯,⋯⟩⟩
      ·exact zH ⟨sm.set _,_,_,_,_,_,_,rfl,l,⋯,⋯,⋯⟩
     ·have X:k2=0:=⋯
      subst X;rw[Cv]at v;simp only[Nat.add_zero]at v nx;have l:=dS G v f nx;refine zF (lT f ?_);refine nV (λz=>?_) λz=>?_
      ·exact zH ⟨sm.set _,.inl ⟨_,_,rfl,fF G l (yQ z)⟩⟩
      have W:(ia+k)+1+1≠a.size:=λe=>z (oO.mpr e);refine nV (λ_=>?_) λ_=>?_
      ·exact zH ⟨sm.set _,.inr ⟨_,_,_,_,_,_,rfl,l,⋯,⋯,⋯⟩⟩
      ·exact zH ⟨sm.set _,_,_,_,_,_,_,rfl,l,⋯,⋯,⋯⟩
    ·have k0:k=0:=⋯
     subst k0;rw[Cv]at mk;simp only[Nat.add_zero]at mk Z;have L:=bR G mk e λy F=>lU (Z y F);refine zF (lT e ?_);refine nV (λz=>?_) λz=>?_
     ·exact zH ⟨sm.set _,.inl ⟨_,_,rfl,eF G L (by have:=yQ z;omega)⟩⟩
     have a9:ib+1≠b.size:=λe=>z (oO.mpr e);refine zF (kI (arr:=a) (i:=ia) ⋯ λq f=>?_);refine zF (bP S (show kindOf _=kd from sm.k.trans O) G.sb G.gb (a2 _ _ f) (show ib+1+(b.size-(ib+1))<=b.size by omega) ⋯ λk2 b2 V T=>?_);have v:=Iq (k:=k2) G L f λx J=>by
      obtain⟨j,N,D⟩:=eE J;exact lU (V j x N (nQ.mpr D))
     have nx:∀y∈b.toList.drop (ib+1+k2),le' κ q y:=λy F=>by
      obtain⟨j,N,D⟩:=Cz F;have a0:=(nB.mp D).1;rw[zP]at a0;exact T (j-(ib+1)) y ⋯ ⋯ (by rw[show ib+1+(j-(ib+1))=j by omega];exact nQ.mpr D)
     dsimp only;refine nV (λY=>?_) λY=>?_
     ·refine nV (λz=>?_) λz=>?_
      ·exact zH ⟨sm.set _,.inl ⟨_,_,rfl,eF G v (by have:=yQ z;omega)⟩⟩
      have b3:ib+1+k2≠b.size:=λe=>z (oO.mpr e);have l:=dS G v f nx;refine zF (lT f ?_);refine nV (λz=>?_) λz=>?_
      ·exact zH ⟨sm.set _,.inl ⟨_,_,rfl,fF G l (yQ z)⟩⟩
      have W:ia+1+1≠a.size:=λe=>z (oO.mpr e);refine nV (λ_=>?_) λ_=>?_
      ·exact zH ⟨sm.set _,.inr ⟨_,_,_,_,_,_,rfl,l,⋯,⋯,⋯⟩⟩
      ·exact zH ⟨sm.set _,_,_,_,_,_,_,rfl,l,⋯,⋯,⋯⟩
     ·have X:k2=0:=⋯
      subst X;rw[Cv]at v;simp only[Nat.add_zero]at v nx;have l:=dS G v f nx;refine zF (lT f ?_);refine nV (λz=>?_) λz=>?_
      ·exact zH ⟨sm.set _,.inl ⟨_,_,rfl,fF G l (yQ z)⟩⟩
      have W:ia+1+1≠a.size:=λe=>z (oO.mpr e);refine nV (λ_=>?_) λ_=>?_
      ·exact zH ⟨sm.set _,.inr ⟨_,_,_,_,_,_,rfl,l,⋯,⋯,⋯⟩⟩
      ·exact zH ⟨sm.set _,_,_,_,_,_,_,rfl,l,⋯,⋯,⋯⟩
   ·rintro c a6 ⟨sm,out,ia,ib,u,o,n,rfl,g,lia,d,C⟩;exact⟨sm,.inr ⟨_,_,_,_,_,_,rfl,g,lia,d,C⟩⟩
   ·rintro c a6 ⟨sm,⟨r,t,rfl,M⟩|⟨out,ia,ib,u,o,n,rfl,g,lia,d,C⟩⟩
    ·exact zH ⟨sm,_,_,rfl,M⟩
    dsimp only;rw[bQ];refine zF (wR (zH ⟨sm.set _,_,_,_,_,rfl,g,lia,d,⋯⟩))
 ·rintro c U ⟨sm,out,ia,ib,u,rfl,g,lia,d,C⟩;omega
 ·rintro c U ⟨sm,r,t,rfl,M⟩;exact zH (h r U sm M)
end
def Cu:Array Keyed->Array Keyed->StateT SortSt Sem (Array Keyed):=sortPriv%PySem.Builtin.mergeHi
theorem Ti(a b:Array Keyed):Cu a b=(do
 rule "list.sort.merge-hi"
 let d:=a.size+b.size
 let done (out:Array Keyed) (na nb:Nat):=a.extract 0 na++b.extract 0 nb++out.reverse
 let c (out:Array Keyed) (na nb:Nat):=b.extract 0 nb++a.extract 0 na++out.reverse
 let mut na:=a.size-1
 let mut nb:=b.size
 let mut out:Array Keyed:=#[←elem' a na]
 if na == 0 then return done out na nb
 if nb == 1 then return c out na nb
 let mut minGallop:=gallopOf (←get)
 for _ in[0:d] do
  let mut acount:=0
  let mut bcount:=0
  for _ in[0:d] do
   let some aWins ←lt' (←elem' b (nb-1)) (←elem' a (na-1))|return done out na nb
   if aWins then
    na:=na-1;out:=out.push (←elem' a na);acount:=acount+1;bcount:=0
    if na == 0 then return done out na nb
    if acount≥minGallop then break
   else
    nb:=nb-1;out:=out.push (←elem' b nb);bcount:=bcount+1;acount:=0
    if nb == 1 then return c out na nb
    if bcount≥minGallop then break
  rule "list.sort.gallop"
  minGallop:=minGallop+1
  for _ in[0:d] do
   if minGallop > 1 then minGallop:=minGallop-1
   dR minGallop
   let some at_ ←jG false (←elem' b (nb-1)) a 0 na (na-1)|return done out na nb
   let k:=na-at_
   acount:=k
   if k > 0 then
    out:=out++(a.extract at_ na).reverse;na:=at_
    if na == 0 then return done out na nb
   nb:=nb-1;out:=out.push (←elem' b nb)
   if nb == 1 then return c out na nb
   let some at_ ←jG true (←elem' a (na-1)) b 0 nb (nb-1)|return done out na nb
   let k:=nb-at_
   bcount:=k
   if k > 0 then
    out:=out++(b.extract at_ nb).reverse;nb:=at_
    if nb == 1 then return c out na nb
    if nb == 0 then return done out na nb
   na:=na-1;out:=out.push (←elem' a na)
   if na == 0 then return done out na nb
   if acount<7 && bcount<7 then break
  minGallop:=minGallop+1
  dR minGallop
 unsupported "internal:list.sort.merge-bound"):=rfl
def revK(κ:PyProof.Rows.KeyKind):PyProof.Rows.KeyKind where
 α:=κ.α
 blt:=λa b=>κ.blt b a
 irrefl:=κ.irrefl
 trans:=λa b c h1 h2=>κ.trans c b a h2 h1
 negTrans:=λa b c h=>(κ.negTrans c b a h).symm
 total:=λa b h1 h2=>κ.total a b h2 h1
 keyOf:=κ.keyOf
 dflt:=κ.dflt
section
variable {prog:Program} {w:World} {A:Around} {E:VP} {s:Shared} {κ:PyProof.Rows.KeyKind} {kd:SortKind}
theorem Io{x y:Keyed}:le' (revK κ) x y↔le' κ y x:=oE
theorem fG{l:List Keyed}(h:Srt κ l):Srt (revK κ) l.reverse:=List.pairwise_reverse.mpr h
theorem Th{l:List Keyed}(h:Srt (revK κ) l):Srt κ l.reverse:=List.pairwise_reverse.mpr h
def MH(κ:PyProof.Rows.KeyKind)(a b out:Array Keyed)(na nb:Nat):Prop:=MI (revK κ) a.toList.reverse b.toList.reverse out.toList (a.size-na) (b.size-nb)
theorem Ct{a:Array Keyed}{n:Nat}{p:Keyed}(h:n<a.size)(e:a[n]?=some p):a.toList.reverse[a.size-(n+1)]?=some p:=by
 rw[rD (by rw[zP];omega),zP,show a.size-1-(a.size-(n+1))=n by omega];exact nQ.mp e
theorem eG{a:Array Keyed}{n:Nat}(h:n<=a.size):a.toList.reverse.drop (a.size-n)=(a.toList.take n).reverse:=by
 rw[List.drop_reverse,zP,show a.size-(a.size-n)=n by omega]
theorem bS{a:Array Keyed}{n:Nat}{y:Keyed}(h:n<=a.size)(b:y∈a.toList.reverse.drop (a.size-n)):∃i,i<n/\a[i]?=some y:=by
 rw[eG h]at b;obtain⟨i,hi,e⟩:=uI (oS.mp b);rw[xA]at hi;refine⟨i,⋯,?_⟩;rw[nQ,←e,List.getElem_take];exact xS _
theorem Cs{a b r:Array Keyed}{l:List Keyed}(e:r.toList.reverse=l)(h:Res (revK κ) a.toList.reverse b.toList.reverse l):Res κ a.toList b.toList r.toList:=by
 subst e;refine⟨?_,?_⟩
 ·refine(qW r.toList).symm.trans (h.1.trans ?_);exact((qW _).append (qW _))
 ·have:=Th h.2
  rwa[List.reverse_reverse]at this
theorem eH{a:Array Keyed}{n:Nat}:(a.extract 0 n).toList=a.toList.take n:=by
 have:=Ba a 0 n;rw[wQ,List.drop_zero]at this;exact this
theorem fH{a b out:Array Keyed}{c:Nat}(G:MG κ a b)(h:MH κ a b out 0 c)(d:c<=b.size):Res κ a.toList b.toList (a.extract 0 0++b.extract 0 c++out.reverse).toList:=by
 refine Cs (l:=out.toList++b.toList.reverse.drop (b.size-c)) ?_ ((MI.symm h).all (fG G.sb) (by simp)).symm;rw[yK,yK,eH,eH,eG d,tJ];simp
theorem Im{a b out:Array Keyed}{c:Nat}(G:MG κ a b)(h:MH κ a b out c 0)(d:c<=a.size):Res κ a.toList b.toList (a.extract 0 c++b.extract 0 0++out.reverse).toList:=by
 refine Cs (l:=out.toList++a.toList.reverse.drop (a.size-c)) ?_ (MI.all h (fG G.sa) (by simp));rw[yK,yK,eH,eH,eG d,tJ];simp
theorem eI{a b out:Array Keyed}{c:Nat}(G:MG κ a b)(h:MH κ a b out c 1)(d:c<=a.size):Res κ a.toList b.toList (b.extract 0 1++a.extract 0 c++out.reverse).toList:=by
 have i:=G.nb;obtain⟨p,e⟩:=lE (a:=b) (i:=0) ⋯;obtain⟨q,f⟩:=lE (a:=a) (i:=0) (by have:=G.na;omega);refine Cs (l:=out.toList++a.toList.reverse.drop (a.size-c)++b.toList.reverse.drop (b.size-1)) ?_ (Res.symm ((MI.symm h).last (fG G.sa) (Ct ⋯ e) (by rw[List.length_reverse,zP];omega) λy g=>?_))
 ·rw[yK,yK,eH,eH,eG d,eG i,tJ];simp
 ·exact fZ G.sa (nQ.mp f) (G.fst p q e f) y (by simpa using oS.mp g)
theorem eJ{a b out:Array Keyed}{c d:Nat}{p:Keyed}(G:MG κ a b)(h:MH κ a b out (c+1) d)(l:c<a.size)(k:d<=b.size)(e:a[c]?=some p)(j:∀i y,i<d->b[i]?=some y->le' κ y p):MH κ a b (out.push p) c d:=by
 unfold MH at h ⊢;rw[uQ,show a.size-c=a.size-(c+1)+1 by omega];exact MI.push h (fG G.sa) (Ct l e) λy g=>by
  obtain⟨i,hi,f⟩:=bS k g;exact j i y hi f
theorem Cr{a b out:Array Keyed}{d c:Nat}{p:Keyed}(G:MG κ a b)(h:MH κ a b out d (c+1))(l:c<b.size)(k:d<=a.size)(e:b[c]?=some p)(j:∀i y,i<d->a[i]?=some y->le' κ y p):MH κ a b (out.push p) d c:=by
 unfold MH at h ⊢;rw[uQ,show b.size-c=b.size-(c+1)+1 by omega];exact(MI.push (MI.symm h) (fG G.sb) (Ct l e) λy g=>by
  obtain⟨i,hi,f⟩:=bS k g;exact j i y hi f).symm
theorem Il{a:Array Keyed}{n m:Nat}(h:n<=a.size)(b:m<=n):(a.extract m n).reverse.toList=(a.toList.reverse.drop (a.size-n)).take (n-m):=by
 rw[eG h,tJ,List.take_reverse,xA,zP,show min n a.size-(n-m)=m by omega];simp only[Array.toList_extract,List.extract_eq_take_drop];rw[List.drop_take]
theorem Tg{a b out:Array Keyed}{c d m:Nat}{p:Keyed}(G:MG κ a b)(h:MH κ a b out c d)(r:c<=a.size)(n:m<=c)(q:d<=b.size)(t:0<d)(e:b[d-1]?=some p)(l:∀i x,m<=i->i<c->a[i]?=some x->le' κ p x):MH κ a b (out++(a.extract m c).reverse) m d:=by
 unfold MH at h ⊢;rw[yK,Il r n,show a.size-m=a.size-c+(c-m) by omega];refine MI.ext h (fG G.sa) λx g y o=>?_;obtain⟨i,hi,k⟩:=bS q o;obtain⟨j,u,f⟩:=eE g;rw[rD (by rw[zP];omega),zP]at f;have l1:le' κ y p:=gH G.sb (show i<=d-1 by omega) (nQ.mp k) (nQ.mp e);exact Io.mpr (lJ l1 (l _ x ⋯ ⋯ (nQ.mpr f)))
theorem Ik{a b out:Array Keyed}{d c m:Nat}{p:Keyed}(G:MG κ a b)(h:MH κ a b out d c)(r:c<=b.size)(n:m<=c)(q:d<=a.size)(t:0<d)(e:a[d-1]?=some p)(l:∀i x,m<=i->i<c->b[i]?=some x->le' κ p x):MH κ a b (out++(b.extract m c).reverse) d m:=by
 unfold MH at h ⊢;rw[yK,Il r n,show b.size-m=b.size-c+(c-m) by omega];refine(MI.ext (MI.symm h) (fG G.sb) λx g y o=>?_).symm;obtain⟨i,hi,k⟩:=bS q o;obtain⟨j,u,f⟩:=eE g;rw[rD (by rw[zP];omega),zP]at f;have l1:le' κ y p:=gH G.sa (show i<=d-1 by omega) (nQ.mp k) (nQ.mp e);exact Io.mpr (lJ l1 (l _ x ⋯ ⋯ (nQ.mpr f)))
theorem Tf(m:Cmp prog w A s κ kd){st:SortSt}{b:Array Keyed}{ib d:Nat}{q:Keyed}{n:Nat}{Q:Option Nat->SortSt->Prop}(v:kindOf st=kd)(f:Srt κ b.toList)(t:∀x∈b.toList,Gd κ x)(g:Gd κ q)(C:ib+n<=b.size)(hh:d<n)
  (h:∀k,k<=n->(∀i x,i<k->b[ib+i]?=some x->le' κ x q)->(∀i x,k<=i->i<n->b[ib+i]?=some x->lq κ q x=true)->Q (some k) st):wpS (model prog w) A E s (jG false q b ib n d) Q st:=by
 refine dQ m (B:=λi=>!lq κ q (b.getD (ib+i) q)) v g hh (λi hi=>?_) (λi j D z c=>?_) λk l o u=>h k l (λi x hi e=>?_) λi x hi y e=>?_
 ·obtain⟨p,e⟩:=lE (a:=b) (i:=ib+i) ⋯;refine⟨p,e,t p (yG (nQ.mp e)),?_⟩;rw[show b.getD (ib+i) q=p by simp[Array.getD_eq_getD_getElem?,e]];rfl
 ·obtain⟨p,e⟩:=lE (a:=b) (i:=ib+i) ⋯;obtain⟨r,a⟩:=lE (a:=b) (i:=ib+j) ⋯;rw[show b.getD (ib+j) q=r by simp[Array.getD_eq_getD_getElem?,a]]at c;rw[show b.getD (ib+i) q=p by simp[Array.getD_eq_getD_getElem?,e]];have l1:le' κ r q:=by unfold le';simpa using c
  have:=lJ (gH f (show ib+i<=ib+j by omega) (nQ.mp e) (nQ.mp a)) l1;unfold le' at this;rw[this];rfl
 ·have:=o i hi;rw[show b.getD (ib+i) q=x by simp[Array.getD_eq_getD_getElem?,e]]at this;unfold le';simpa using this
 ·have:=u i hi y;rw[show b.getD (ib+i) q=x by simp[Array.getD_eq_getD_getElem?,e]]at this;simpa using this
theorem Cq{a out:Array Keyed}{n:Nat}:out++(a.extract n n).reverse=out:=by simp;omega
theorem Te(Z:Cmp prog w A s κ kd){st:SortSt}{a b:Array Keyed}{Q:Array Keyed->SortSt->Prop}(X:kindOf st=kd)(G:MG κ a b)
  (h:∀r C,Sm st C->Res κ a.toList b.toList r.toList->Q r C):wpS (model prog w) A E s (Cu a b) Q st:=by
 have c4:=G.na;have c6:=G.nb;have a4:∀i p,a[i]?=some p->Gd κ p:=λi p e=>G.ga p (yG (nQ.mp e));have a5:∀i p,b[i]?=some p->Gd κ p:=λi p e=>G.gb p (yG (nQ.mp e));rw[Ti];refine zF (qG (wM ⟨rfl,?_⟩));refine zF (kI ⋯ λb0 a6=>?_);dsimp only;have V:MH κ a b #[b0] (a.size-1) b.size:=by
  have c3:MH κ a b #[] (a.size-1+1) b.size:=by
   unfold MH;rw[show a.size-(a.size-1+1)=0 by omega,uY];exact⟨by simp,List.Pairwise.nil,λx Y=>by simp at Y,λx Y=>by simp at Y⟩
  exact eJ G c3 ⋯ (zG _) a6 λi y _ l=>G.top b0 a6 y (yG (nQ.mp l))
 refine nV (λz=>?_) λz=>?_
 ·have j:=yQ z;rw[j]at V ⊢;exact zH (h _ _ (Sm.refl _) (fH G V (zG _)))
 have c2:a.size-1≠0:=λe=>z (oO.mpr e);refine nV (λy=>?_) λy=>?_
 ·have b2:=yQ y;refine zH (h _ _ (Sm.refl _) ?_);rw[b2]at V ⊢;exact eI G V ⋯
 have c5:b.size≠1:=λe=>y (oO.mpr e);refine zF (uV ?_);refine zF (wP (xI (I:=λx c C=>Sm st C/\E4 λ(g d:Nat)(out:Array Keyed)(K:Nat)=>A7 (c=(none,g,d,out,K)) (MH κ a b out g d) (0<g) (g<a.size) (1<d) (d<=b.size) (x+g+d<a.size+b.size))
  (Q:=λc C=>Sm st C/\∃r t,c=(some r,t)/\Res κ a.toList b.toList r.toList) ?_ ?_ ⟨Sm.refl _,_,_,_,_,rfl,V,⋯,⋯,⋯,⋯,⋯⟩) ?_)
 ·rintro x c a1 _ Y ⟨sm,g,d,out,K,rfl,u,l1,l2,J,D,L⟩;dsimp only;refine zF (wP (xI (I:=λy c C=>Sm st C/\E5 λ(g d:Nat)(out:Array Keyed)(I F:Nat)=>A8 (c=(none,g,d,out,I,F)) (MH κ a b out g d) (0<g) (g<a.size) (1<d) (d<=b.size) (x+g+d<a.size+b.size) (1<=y->x+1+g+d<a.size+b.size))
   (Q:=λc C=>Sm st C/\((∃r t,c=(some r,t)/\Res κ a.toList b.toList r.toList)\/E5 λ(g d:Nat)(out:Array Keyed)(I F:Nat)=>A7 (c=(none,g,d,out,I,F)) (MH κ a b out g d) (0<g) (g<a.size) (1<d) (d<=b.size) (x+1+g+d<a.size+b.size))) ?_ ?_ ⟨sm,g,d,out,0,0,rfl,u,l1,l2,J,D,L,⋯⟩) ?_)
  ·rintro y c b1 _ c0 ⟨sm,g,d,out,I,F,rfl,u,l1,l2,J,D,L,_⟩;obtain⟨n,rfl⟩:∃n,g=n+1:=⟨g-1,⋯⟩;obtain⟨m,rfl⟩:∃m,d=m+1:=⟨d-1,⋯⟩;dsimp only;refine zF (kI (arr:=b) (i:=m+1-1) ⋯ λp e=>?_);refine zF (kI (arr:=a) (i:=n+1-1) ⋯ λq f=>?_);refine zF (dP Z (by rw[sm.k];exact X) (a5 _ _ e) (a4 _ _ f) ?_);dsimp only;cases hl:lq κ p q with
   |true =>
    rw[zE rfl];have N:=eJ G u (show n<a.size by omega) ⋯ f λi y hi l=>lJ (gH G.sb (show i<=m by omega) (nQ.mp l) (nQ.mp e)) (lU hl);refine zF (lT f ?_);refine nV (λz=>?_) λz=>?_
    ·have j:n=0:=yQ z;subst j;exact zH ⟨sm,.inl ⟨_,_,rfl,fH G N ⋯⟩⟩
    have b4:n≠0:=λe=>z (oO.mpr e);refine nV (λ_=>?_) λ_=>?_
    ·exact zH ⟨sm,.inr ⟨n,m+1,_,_,_,rfl,N,⋯,⋯,⋯,⋯,⋯⟩⟩
    ·exact zH ⟨sm,n,m+1,_,_,_,rfl,N,⋯,⋯,⋯,⋯,⋯,⋯⟩
   |false =>
    rw[zD (by simp)];have N:=Cr G u (show m<b.size by omega) ⋯ e λi y hi l=>lJ (gH G.sa (show i<=n by omega) (nQ.mp l) (nQ.mp f)) hl;refine zF (lT e ?_);refine nV (λz=>?_) λz=>?_
    ·have j:m=1:=yQ z;subst j;exact zH ⟨sm,.inl ⟨_,_,rfl,eI G N ⋯⟩⟩
    have b4:m≠1:=λe=>z (oO.mpr e);refine nV (λ_=>?_) λ_=>?_
    ·exact zH ⟨sm,.inr ⟨n+1,m,_,_,_,rfl,N,⋯,⋯,⋯,⋯,⋯⟩⟩
    ·exact zH ⟨sm,n+1,m,_,_,_,rfl,N,⋯,⋯,⋯,⋯,⋯,⋯⟩
  ·rintro c b1 ⟨sm,g,d,out,I,F,rfl,u,l1,l2,J,D,L,b6⟩;exact⟨sm,.inr ⟨_,_,_,_,_,rfl,u,l1,l2,J,D,b6 ⋯⟩⟩
  ·rintro c b1 ⟨sm,⟨r,t,rfl,S⟩|⟨g,d,out,I,F,rfl,u,l1,l2,J,D,L⟩⟩
   ·exact zH ⟨sm,_,_,rfl,S⟩
   dsimp only;refine zF (qG (wM ⟨rfl,?_⟩));refine zF (wP (xI (I:=λy c C=>Sm st C/\E6 λ(g d:Nat)(out:Array Keyed)(K I F:Nat)=>A7 (c=(none,g,d,out,K,I,F)) (MH κ a b out g d) (0<g) (g<a.size) (1<d) (d<=b.size) (x+1+g+d<a.size+b.size))
    (Q:=λc C=>Sm st C/\((∃r t,c=(some r,t)/\Res κ a.toList b.toList r.toList)\/E6 λ(g d:Nat)(out:Array Keyed)(K I F:Nat)=>A7 (c=(none,g,d,out,K,I,F)) (MH κ a b out g d) (0<g) (g<a.size) (1<d) (d<=b.size) (x+1+g+d<a.size+b.size))) ?_ ?_ ⟨sm,_,_,_,_,_,_,rfl,u,l1,l2,J,D,L⟩) ?_)
   ·rintro y c a8 _ c0 ⟨sm,g,d,out,K,I,F,rfl,u,l1,l2,J,D,L⟩;dsimp only
    revert K
    refine Ip (λK=>?_) λ_=>rfl;rw[bQ];refine zF (wR ?_);refine zF (kI (arr:=b) (i:=d-1) ⋯ λp e=>?_);refine zF (Tf Z (show kindOf _=kd from sm.k.trans X) G.sa G.ga (a5 _ _ e) (show 0+g<=a.size by omega) ⋯ λk b5 a9 c1=>?_);have mk:=Tg (m:=k) G u ⋯ b5 D ⋯ e λi x hi U R=>lU (c1 i x hi U (by rw[wQ];exact R));dsimp only;refine nV (λa7=>?_) λa7=>?_
    ·refine nV (λz=>?_) λz=>?_
     ·have j:k=0:=yQ z;subst j;exact zH ⟨sm.set _,.inl ⟨_,_,rfl,fH G mk D⟩⟩
     have c2:k≠0:=λe=>z (oO.mpr e)
     -- the other's last comes out
     obtain⟨m,rfl⟩:∃m,d=m+1:=⟨d-1,⋯⟩;have O:=Cr G mk (show m<b.size by omega) ⋯ e λi y hi l=>a9 i y hi (by rw[wQ];exact l);refine zF (lT (show b[m+1-1]?=some p from e) ?_);refine nV (λz=>?_) λz=>?_
     ·have j:m=1:=yQ z;subst j;exact zH ⟨sm.set _,.inl ⟨_,_,rfl,eI G O ⋯⟩⟩
     have b3:m≠1:=λe=>z (oO.mpr e);have b9:0<m:=⋯
     refine zF (kI (arr:=a) (i:=k-1) ⋯ λq f=>?_);refine zF (bP Z (show kindOf _=kd from sm.k.trans X) G.sb G.gb (a4 _ _ f) (show 0+(m+1-1)<=b.size by omega) ⋯ λk2 M P a0=>?_);replace M:k2<=m:=M;have o:=Ik (m:=k2) G O ⋯ M ⋯ ⋯ f λi x hi U R=>a0 i x hi U (by rw[wQ];exact R);obtain⟨n,W⟩:∃n,k=n+1:=⟨k-1,⋯⟩;dsimp only;refine nV (λT=>?_) λT=>?_
     ·refine nV (λz=>?_) λz=>?_
      ·have j:k2=1:=yQ z;subst j;exact zH ⟨sm.set _,.inl ⟨_,_,rfl,eI G o ⋯⟩⟩
      have b7:k2≠1:=λe=>z (oO.mpr e);refine nV (λz=>?_) λz=>?_
      ·have j:k2=0:=yQ z;subst j;exact zH ⟨sm.set _,.inl ⟨_,_,rfl,Im G o ⋯⟩⟩
      have b8:k2≠0:=λe=>z (oO.mpr e);rw[W]at o f ⊢;have v:=eJ G o (show n<a.size by omega) ⋯ f λi y hi l=>lU (P i y hi (by rw[wQ];exact l));refine zF (lT (show a[n+1-1]?=some q from f) ?_);refine nV (λz=>?_) λz=>?_
      ·have j:n=0:=yQ z;subst j;exact zH ⟨sm.set _,.inl ⟨_,_,rfl,fH G v ⋯⟩⟩
      have a2:n≠0:=λe=>z (oO.mpr e);refine nV (λ_=>?_) λ_=>?_
      ·exact zH ⟨sm.set _,.inr ⟨n,_,_,_,_,_,rfl,v,⋯,⋯,⋯,⋯,⋯⟩⟩
      ·exact zH ⟨sm.set _,n,_,_,_,_,_,rfl,v,⋯,⋯,⋯,⋯,⋯⟩
     ·have a3:k2=m:=by
       have:¬ m-k2 > 0:=T;omega
      subst a3;rw[Cq]at o;rw[W]at o f ⊢;have v:=eJ G o (show n<a.size by omega) ⋯ f λi y hi l=>lU (P i y hi (by rw[wQ];exact l));refine zF (lT (show a[n+1-1]?=some q from f) ?_);refine nV (λz=>?_) λz=>?_
      ·have j:n=0:=yQ z;subst j;exact zH ⟨sm.set _,.inl ⟨_,_,rfl,fH G v ⋯⟩⟩
      have a2:n≠0:=λe=>z (oO.mpr e);refine nV (λ_=>?_) λ_=>?_
      ·exact zH ⟨sm.set _,.inr ⟨n,_,_,_,_,_,rfl,v,⋯,⋯,⋯,⋯,⋯⟩⟩
      ·exact zH ⟨sm.set _,n,_,_,_,_,_,rfl,v,⋯,⋯,⋯,⋯,⋯⟩
    ·have k0:k=g:=by
      have:¬ g-k > 0:=a7;omega
     subst k0;rw[Cq]at mk
     -- the other's last comes out
     obtain⟨m,rfl⟩:∃m,d=m+1:=⟨d-1,⋯⟩;have O:=Cr G mk (show m<b.size by omega) ⋯ e λi y hi l=>a9 i y hi (by rw[wQ];exact l);refine zF (lT (show b[m+1-1]?=some p from e) ?_);refine nV (λz=>?_) λz=>?_
     ·have j:m=1:=yQ z;subst j;exact zH ⟨sm.set _,.inl ⟨_,_,rfl,eI G O ⋯⟩⟩
     have b3:m≠1:=λe=>z (oO.mpr e);have b9:0<m:=⋯
     refine zF (kI (arr:=a) (i:=k-1) ⋯ λq f=>?_);refine zF (bP Z (show kindOf _=kd from sm.k.trans X) G.sb G.gb (a4 _ _ f) (show 0+(m+1-1)<=b.size by omega) ⋯ λk2 M P a0=>?_);replace M:k2<=m:=M;have o:=Ik (m:=k2) G O ⋯ M ⋯ ⋯ f λi x hi U R=>a0 i x hi U (by rw[wQ];exact R);obtain⟨n,W⟩:∃n,k=n+1:=⟨k-1,⋯⟩;dsimp only;refine nV (λT=>?_) λT=>?_
     ·refine nV (λz=>?_) λz=>?_
      ·have j:k2=1:=yQ z;subst j;exact zH ⟨sm.set _,.inl ⟨_,_,rfl,eI G o ⋯⟩⟩
      have b7:k2≠1:=λe=>z (oO.mpr e);refine nV (λz=>?_) λz=>?_
      ·have j:k2=0:=yQ z;subst j;exact zH ⟨sm.set _,.inl ⟨_,_,rfl,Im G o ⋯⟩⟩
      have b8:k2≠0:=λe=>z (oO.mpr e);rw[W]at o f ⊢;have v:=eJ G o (show n<a.size by omega) ⋯ f λi y hi l=>lU (P i y hi (by rw[wQ];exact l));refine zF (lT (show a[n+1-1]?=some q from f) ?_);refine nV (λz=>?_) λz=>?_
      ·have j:n=0:=yQ z;subst j;exact zH ⟨sm.set _,.inl ⟨_,_,rfl,fH G v ⋯⟩⟩
      have a2:n≠0:=λe=>z (oO.mpr e);refine nV (λ_=>?_) λ_=>?_
      ·exact zH ⟨sm.set _,.inr ⟨n,_,_,_,_,_,rfl,v,⋯,⋯,⋯,⋯,⋯⟩⟩
      ·exact zH ⟨sm.set _,n,_,_,_,_,_,rfl,v,⋯,⋯,⋯,⋯,⋯⟩
     ·have a3:k2=m:=by
       have:¬ m-k2 > 0:=T;omega
      subst a3;rw[Cq]at o;rw[W]at o f ⊢;have v:=eJ G o (show n<a.size by omega) ⋯ f λi y hi l=>lU (P i y hi (by rw[wQ];exact l));refine zF (lT (show a[n+1-1]?=some q from f) ?_);refine nV (λz=>?_) λz=>?_
      ·have j:n=0:=yQ z;subst j;exact zH ⟨sm.set _,.inl ⟨_,_,rfl,fH G v ⋯⟩⟩
      have a2:n≠0:=λe=>z (oO.mpr e);refine nV (λ_=>?_) λ_=>?_
      ·exact zH ⟨sm.set _,.inr ⟨n,_,_,_,_,_,rfl,v,⋯,⋯,⋯,⋯,⋯⟩⟩
      ·exact zH ⟨sm.set _,n,_,_,_,_,_,rfl,v,⋯,⋯,⋯,⋯,⋯⟩
   ·rintro c a8 ⟨sm,g,d,out,K,I,F,rfl,u,l1,l2,J,D,L⟩;exact⟨sm,.inr ⟨_,_,_,_,_,_,rfl,u,l1,l2,J,D,L⟩⟩
   ·rintro c a8 ⟨sm,⟨r,t,rfl,S⟩|⟨g,d,out,K,I,F,rfl,u,l1,l2,J,D,L⟩⟩
    ·exact zH ⟨sm,_,_,rfl,S⟩
    dsimp only;rw[bQ];refine zF (wR (zH ⟨sm.set _,_,_,_,_,rfl,u,l1,l2,J,D,L⟩))
 ·rintro c a1 ⟨sm,g,d,out,K,rfl,u,l1,l2,J,D,L⟩;omega
 ·rintro c a1 ⟨sm,r,t,rfl,S⟩;exact zH (h r a1 sm S)
end
theorem Td(i:Nat):mergeAt' i=(do
 let s ←get
 let (some (sa,na,power),some (sb,nb,_)):=((pendingOf s)[i]?,(pendingOf s)[i+1]?)|unsupported "internal:list.sort.pending"
 set (SortSt.mk' (kindOf s) (arrOf s) (((pendingOf s).setIfInBounds i (sa,na+nb,power)).eraseIdxIfInBounds (i+1)) (gallopOf s) (failedOf s))
 let some k ←jG false (←elem' (arrOf s) sb) (arrOf s) sa na 0|return false
 let (sa,na):=(sa+k,na-k)
 if na == 0 then return true
 let some nb ←jG true (←elem' (arrOf s) (sa+na-1)) (arrOf s) sb nb (nb-1)|return false
 if nb == 0 then return true
 let x:=(arrOf s).extract sa sb
 let y:=(arrOf s).extract sb (sb+nb)
 let b ←if na<=nb then Cy x y else Cu x y
 modify λs=>setArr s (b.toList.zipIdx.foldl (λa(p,j)=>a.setIfInBounds (sa+j) p) (arrOf s))
 return (failedOf (←get)).isNone):=rfl
section
variable {prog:Program} {w:World} {A:Around} {E:VP} {s:Shared} {κ:PyProof.Rows.KeyKind} {kd:SortKind}
def seg(l:List Keyed)(i j:Nat):List Keyed:=(l.drop i).take (j-i)
theorem Tc{st a:SortSt}{Q:PUnit->SortSt->Prop}(h:Q ⟨⟩ a):wpS (model prog w) A E s (set a:StateT SortSt Sem PUnit) Q st:=by
 unfold wpS;rw[StateT.run_set];exact zB ⟨rfl,h⟩
theorem Cp{l:List Keyed}{i j k:Nat}(a:i<=j)(b:j<=k):seg l i k=seg l i j++seg l j k:=by
 unfold seg;rw[show k-i=(j-i)+(k-j) by omega,qV,pZ,show i+(j-i)=j by omega]
theorem Ij{l:List Keyed}{i j:Nat}(h:i<=j):l.take i++seg l i j++l.drop j=l:=by
 unfold seg;have:l.take j=l.take i++(l.drop i).take (j-i):=by
  conv=>lhs;rw[show j=i+(j-i) by omega]
  exact qV
 rw[←this,xZ]
theorem dU{l:List Keyed}{i j t:Nat}:(seg l i j)[t]?=if t<j-i then l[i+t]? else none:=by
 unfold seg;rw[List.getElem?_take];split
 ·rw[tZ]
 ·rfl
theorem iK{l:List Keyed}{i j:Nat}{x:Keyed}(h:x∈seg l i j):∃t,t<j-i/\l[i+t]?=some x:=eE h
theorem Co{l:List Keyed}{i j:Nat}(h:j<=l.length):(seg l i j).length=j-i:=by
 unfold seg;rw[xA,tF];omega
theorem bU{l:List Keyed}{i j:Nat}(a:Srt κ (seg l i j)){t u:Nat}{x y:Keyed}(e:t<=u)(d:u<j-i)(c:l[i+t]?=some x)(b:l[i+u]?=some y):le' κ x y:=
 gH a e (by rw[dU,zE ⋯];exact c) (by rw[dU,zE d];exact b)
theorem iL(a:Array Keyed)(i j:Nat):(a.extract i j).toList=seg a.toList i j:=by
 unfold seg;simp only[Array.toList_extract,List.extract_eq_take_drop]
theorem Ii:∀(m:List Keyed)(c b:Nat)(a:Array Keyed),b+c+m.length<=a.size->((m.zipIdx c).foldl (λa(x:Keyed×Nat)=>a.setIfInBounds (b+x.2) x.1) a).toList=a.toList.take (b+c)++m++a.toList.drop (b+c+m.length)
 |[],c,b,a,_=>by simp
 | p:: m,c,b,a,h=>by
  rw[zT]at h;have hl:b+c<a.toList.length:=by rw[zP];omega
  rw[uF,wB,Ii m (c+1) b _ (by rw[Array.size_setIfInBounds];omega),Array.toList_setIfInBounds,zT];show List.take (b+(c+1)) (a.toList.set (b+c) p)++m++List.drop (b+(c+1)+m.length) (a.toList.set (b+c) p)=_;have e1:List.take (b+(c+1)) (a.toList.set (b+c) p)=a.toList.take (b+c)++[p]:=by
   rw[show b+(c+1)=b+c+1 by omega,xY,List.take_set_of_le (zG _),vN hl];rfl
  have d:List.drop (b+(c+1)+m.length) (a.toList.set (b+c) p)=a.toList.drop (b+c+(m.length+1)):=by
   rw[List.drop_set_of_lt ⋯,show b+(c+1)+m.length=b+c+(m.length+1) by omega]
  rw[e1,d];simp
theorem Ta(m:Cmp prog w A s κ kd){st:SortSt}{b:Array Keyed}{ib d:Nat}{q:Keyed}{n:Nat}{Q:Option Nat->SortSt->Prop}(C:kindOf st=kd)(f:∀i j x y,i<=j->j<n->b[ib+i]?=some x->b[ib+j]?=some y->le' κ x y)(u:∀x∈b.toList,Gd κ x)(g:Gd κ q)(F:ib+n<=b.size)(hh:d<n)
  (h:∀k,k<=n->(∀i x,i<k->b[ib+i]?=some x->le' κ x q)->(∀i x,k<=i->i<n->b[ib+i]?=some x->lq κ q x=true)->Q (some k) st):wpS (model prog w) A E s (jG false q b ib n d) Q st:=by
 refine dQ m (B:=λi=>!lq κ q (b.getD (ib+i) q)) C g hh (λi hi=>?_) (λi j v t c=>?_) λk l o z=>h k l (λi x hi e=>?_) λi x hi D e=>?_
 ·obtain⟨p,e⟩:=lE (a:=b) (i:=ib+i) ⋯;refine⟨p,e,u p (yG (nQ.mp e)),?_⟩;rw[show b.getD (ib+i) q=p by simp[Array.getD_eq_getD_getElem?,e]];rfl
 ·obtain⟨p,e⟩:=lE (a:=b) (i:=ib+i) ⋯;obtain⟨r,a⟩:=lE (a:=b) (i:=ib+j) ⋯;rw[show b.getD (ib+j) q=r by simp[Array.getD_eq_getD_getElem?,a]]at c;rw[show b.getD (ib+i) q=p by simp[Array.getD_eq_getD_getElem?,e]];have l1:le' κ r q:=by unfold le';simpa using c
  have:=lJ (f i j p r v t e a) l1;unfold le' at this;rw[this];rfl
 ·have:=o i hi;rw[show b.getD (ib+i) q=x by simp[Array.getD_eq_getD_getElem?,e]]at this;unfold le';simpa using this
 ·have:=z i hi D;rw[show b.getD (ib+i) q=x by simp[Array.getD_eq_getD_getElem?,e]]at this;simpa using this
theorem Uz(m:Cmp prog w A s κ kd){st:SortSt}{b:Array Keyed}{ib d:Nat}{q:Keyed}{n:Nat}{Q:Option Nat->SortSt->Prop}(C:kindOf st=kd)(f:∀i j x y,i<=j->j<n->b[ib+i]?=some x->b[ib+j]?=some y->le' κ x y)(u:∀x∈b.toList,Gd κ x)(g:Gd κ q)(F:ib+n<=b.size)(hh:d<n)
  (h:∀k,k<=n->(∀i x,i<k->b[ib+i]?=some x->lq κ x q=true)->(∀i x,k<=i->i<n->b[ib+i]?=some x->le' κ q x)->Q (some k) st):wpS (model prog w) A E s (jG true q b ib n d) Q st:=by
 refine dQ m (B:=λi=>lq κ (b.getD (ib+i) q) q) C g hh (λi hi=>?_) (λi j v t c=>?_) λk l o z=>h k l (λi x hi e=>?_) λi x hi D e=>?_
 ·obtain⟨p,e⟩:=lE (a:=b) (i:=ib+i) ⋯;refine⟨p,e,u p (yG (nQ.mp e)),?_⟩;rw[show b.getD (ib+i) q=p by simp[Array.getD_eq_getD_getElem?,e]];rfl
 ·obtain⟨p,e⟩:=lE (a:=b) (i:=ib+i) ⋯;obtain⟨r,a⟩:=lE (a:=b) (i:=ib+j) ⋯;rw[show b.getD (ib+j) q=r by simp[Array.getD_eq_getD_getElem?,a]]at c;rw[show b.getD (ib+i) q=p by simp[Array.getD_eq_getD_getElem?,e]];exact KeyOrd.klt_of_kle_of_klt (O:=κ.toKeyOrd) (f i j p r v t e a) c
 ·have:=o i hi;rw[show b.getD (ib+i) q=x by simp[Array.getD_eq_getD_getElem?,e]]at this;exact this
 ·have:=z i hi D;rw[show b.getD (ib+i) q=x by simp[Array.getD_eq_getD_getElem?,e]]at this;exact this
theorem Uy(N:Cmp prog w A s κ kd){st:SortSt}{i b c K d b4:Nat}{Q:Bool->SortSt->Prop}(b1:kindOf st=kd)(T:∀x∈(arrOf st).toList,Gd κ x)(b9:failedOf st=none)(e1:(pendingOf st)[i]?=some (b,c,K))(a5:(pendingOf st)[i+1]?=some (b+c,d,b4))
  (d1:1<=c)(d5:1<=d)(d6:b+c+d<=(arrOf st).size)(J:Srt κ (seg (arrOf st).toList b (b+c)))(I:Srt κ (seg (arrOf st).toList (b+c) (b+c+d)))
  (h:∀m X,kindOf m=kd->failedOf m=none->pendingOf m=((pendingOf st).setIfInBounds i (b,c+d,K)).eraseIdxIfInBounds (i+1)->(arrOf m).toList=(arrOf st).toList.take b++X++(arrOf st).toList.drop (b+c+d)->X.Perm (seg (arrOf st).toList b (b+c+d))->Srt κ X->Q true m):
  wpS (model prog w) A E s (mergeAt' i) Q st:=by
 rw[Td];refine zF (uV ?_);rw[e1,a5];dsimp only;refine zF (Tc ?_);generalize hst:SortSt.mk' (kindOf st) (arrOf st) (((pendingOf st).setIfInBounds i (b,c+d,K)).eraseIdxIfInBounds (i+1)) (gallopOf st) (failedOf st)=D;have k1:kindOf D=kd:=by rw[←hst];exact b1
 have a8:arrOf D=arrOf st:=by rw[←hst]
 have a3:pendingOf D=((pendingOf st).setIfInBounds i (b,c+d,K)).eraseIdxIfInBounds (i+1):=by rw[←hst]
 have a2:failedOf D=none:=by rw[←hst];exact b9
 clear hst e1 a5;generalize harr:arrOf st=arr at*
 generalize pendingOf st=d4 at*;have d3:arr.toList.length=arr.size:=zP;have O:∀t x,arr[t]?=some x->Gd κ x:=λt x e=>T x (yG (nQ.mp e))
 -- already in order
 have stay:Srt κ (seg arr.toList b (b+c+d))->Q true D:=λa9=>h D _ k1 a2 a3 (by rw[a8,Ij ⋯]) (List.Perm.refl _) a9;have S:seg arr.toList b (b+c+d)=seg arr.toList b (b+c)++seg arr.toList (b+c) (b+c+d):=Cp ⋯ ⋯;refine zF (kI (arr:=arr) (i:=b+c) ⋯ λp ep=>?_);refine zF (Ta N k1 (λt u x y P c3 n F=>bU J P ⋯ (nQ.mp n) (nQ.mp F)) T (O _ _ ep) ⋯ ⋯ λk c9 a7 c4=>?_);dsimp only;have U:∀y∈seg arr.toList (b+c) (b+c+d),le' κ p y:=λy l=>by
  obtain⟨t,v,g⟩:=iK l;exact bU I (zZ t) v (nQ.mp ep) g
 refine nV (λz=>?_) λz=>?_
 ·have d8:c-k=0:=yQ z;refine zH (stay ?_);rw[S];refine oV.mpr ⟨J,I,λx f y l=>?_⟩;obtain⟨t,v,g⟩:=iK f;exact lJ (a7 t x ⋯ (nQ.mpr g)) (U y l)
 have d7:c-k≠0:=λe=>z (oO.mpr e);refine zF (kI (arr:=arr) (i:=b+k+(c-k)-1) ⋯ λq L=>?_);rw[show b+k+(c-k)-1=b+(c-1) by omega]at L;refine zF (Uz N k1 (λt u x y P c3 n F=>bU I P ⋯ (nQ.mp n) (nQ.mp F)) T (O _ _ L) ⋯ ⋯ λk2 d0 b3 Y=>?_);dsimp only;have Z:∀x∈seg arr.toList b (b+c),le' κ x q:=λx f=>by
  obtain⟨t,v,g⟩:=iK f;exact bU J (show t<=c-1 by omega) ⋯ g (nQ.mp L)
 refine nV (λy=>?_) λy=>?_
 ·have c8:k2=0:=yQ y;refine zH (stay ?_);rw[S];refine oV.mpr ⟨J,I,λx f y l=>?_⟩;obtain⟨t,v,g⟩:=iK l;exact lJ (Z x f) (Y t y ⋯ ⋯ (nQ.mpr g))
 have d2:k2≠0:=λe=>y (oO.mpr e)
 -- the parts
 have V:seg arr.toList b (b+c)=seg arr.toList b (b+k)++seg arr.toList (b+k) (b+c):=Cp ⋯ ⋯;have M:seg arr.toList (b+c) (b+c+d)=seg arr.toList (b+c) (b+c+k2)++seg arr.toList (b+c+k2) (b+c+d):=Cp ⋯ ⋯;have a1:=J;have W:=I;rw[V]at a1;rw[M]at W;obtain⟨c0,b7,b6⟩:=oV.mp a1;obtain⟨c1,c6,c2⟩:=oV.mp W;have a0:∀x∈seg arr.toList b (b+k),le' κ x p:=λx f=>by
  obtain⟨t,v,g⟩:=iK f;exact a7 t x ⋯ (nQ.mpr g)
 have c5:∀x∈seg arr.toList (b+k) (b+c),le' κ p x:=λx f=>by
  obtain⟨t,v,g⟩:=iK f;exact lU (c4 (k+t) x ⋯ ⋯ (by rw[show b+(k+t)=b+k+t by omega];exact nQ.mpr g))
 have b0:∀y∈seg arr.toList (b+c) (b+c+k2),le' κ y q:=λy l=>by
  obtain⟨t,v,g⟩:=iK l;exact lU (b3 t y ⋯ (nQ.mpr g))
 have c7:∀y∈seg arr.toList (b+c+k2) (b+c+d),le' κ q y:=λy l=>by
  obtain⟨t,v,g⟩:=iK l;exact Y (k2+t) y ⋯ ⋯ (by rw[show b+c+(k2+t)=b+c+k2+t by omega];exact nQ.mpr g)
 have G:MG κ (arr.extract (b+k) (b+c)) (arr.extract (b+c) (b+c+k2)):=by
  refine⟨by rw[iL];exact b7,by rw[iL];exact c1,λx f=>?_,λx f=>?_,by rw[qN];omega,by rw[qN];omega,λx n y l=>?_,λx y n F=>?_⟩
  ·rw[iL]at f;obtain⟨t,_,g⟩:=iK f;exact O _ x (nQ.mpr g)
  ·rw[iL]at f;obtain⟨t,_,g⟩:=iK f;exact O _ x (nQ.mpr g)
  ·rw[iL]at l;rw[nQ,iL,dU,qN]at n;split at n
   ·rw[show b+k+(min (b+c) arr.size-(b+k)-1)=b+(c-1) by omega,nQ.mp L]at n;cases n;exact b0 y l
   ·cases n
  ·rw[nQ,iL,dU,zE ⋯,tX,nQ.mp ep]at n;cases n;rw[nQ,iL]at F;exact c5 y (yG F)
 have a6:∀(r:Array Keyed)(m:SortSt),Sm D m->Res κ (arr.extract (b+k) (b+c)).toList (arr.extract (b+c) (b+c+k2)).toList r.toList->wpS (model prog w) A E s (do
   modify λs=>setArr s (r.toList.zipIdx.foldl (λa(p,j)=>a.setIfInBounds (b+k+j) p) (arrOf s))
   return (failedOf (←get)).isNone) Q m:=λr m sm o=>by
  rw[iL,iL]at o;refine zF (wR (zF (uV (zH ?_))));have a4:failedOf m=none:=sm.f.trans a2;show Q (failedOf m).isNone _;rw[a4];have b2:r.toList.length=(c-k)+k2:=by
   rw[o.1.length_eq,yF,Co ⋯,Co ⋯];omega
  refine h _ (seg arr.toList b (b+k)++r.toList++seg arr.toList (b+c+k2) (b+c+d)) (sm.k.trans k1) a4 (sm.p.trans a3) ?_ ?_ ?_
  ·show(List.foldl _ (arrOf m) _).toList=_;rw[sm.a,a8,Ii r.toList 0 (b+k) arr ⋯,b2];have b5:arr.toList.take (b+k+0)=arr.toList.take b++seg arr.toList b (b+k):=by
    unfold seg;rw[tX,qV,show b+k-b=k by omega]
   have b8:arr.toList.drop (b+k+0+(c-k+k2))=seg arr.toList (b+c+k2) (b+c+d)++arr.toList.drop (b+c+d):=by
    unfold seg;rw[show b+k+0+(c-k+k2)=b+c+k2 by omega]
    conv=>lhs;rw[←xZ (b+c+d-(b+c+k2)) (arr.toList.drop (b+c+k2))]
    rw[pZ,show b+c+k2+(b+c+d-(b+c+k2))=b+c+d by omega]
   rw[b5,b8];simp only[List.append_assoc]
  ·rw[S,V,M];have:=(o.1.append_left (seg arr.toList b (b+k))).append_right (seg arr.toList (b+c+k2) (b+c+d));simp only[List.append_assoc]at this ⊢;exact this
  ·have mem:∀x∈r.toList,x∈seg arr.toList (b+k) (b+c)\/x∈seg arr.toList (b+c) (b+c+k2):=λx f=>oW.mp (o.1.mem_iff.mp f);refine oV.mpr ⟨oV.mpr ⟨c0,o.2,λx f y l=>?_⟩,c6,λx f y l=>?_⟩
   ·rcases mem y l with C|C
    ·exact b6 x f y C
    ·exact lJ (a0 x f) (U y (by rw[M];exact xE _ C))
   ·rcases oW.mp f with C|C
    ·exact lJ (a0 x C) (U y (by rw[M];exact yC _ l))
    ·rcases mem x C with R|R
     ·exact lJ (Z x (by rw[V];exact yC _ R)) (c7 y l)
     ·exact c2 x R y l
 refine nV (λ_=>?_) λ_=>?_
 ·exact zF (Tj N k1 G λr m sm o=>a6 r m sm o)
 ·exact zF (Te N k1 G λr m sm o=>a6 r m sm o)
theorem dW(d:Cmp prog w A s κ kd){st:SortSt}{i j:Nat}{Q:Option Bool->SortSt->Prop}(f:kindOf st=kd)(b:∀x∈(arrOf st).toList,Gd κ x)(hi:i<(arrOf st).size)(e:j<(arrOf st).size)
  (h:∀x y,(arrOf st)[i]?=some x->(arrOf st)[j]?=some y->Q (some (lq κ x y)) st):wpS (model prog w) A E s (ltAt' i j) Q st:=by
 rw[ltAt'_eq];refine zF (uV ?_);refine zF (kI hi λx c=>?_);refine zF (kI e λy a=>?_);exact dP d f (b x (yG (nQ.mp c))) (b y (yG (nQ.mp a))) (h x y c a)
structure Ch(lo hi:Nat)(st st':SortSt):Prop where
 k:kindOf st'=kindOf st
 p:pendingOf st'=pendingOf st
 f:failedOf st'=failedOf st
 z:(arrOf st').size=(arrOf st).size
 m:(arrOf st').Perm (arrOf st)
 o:∀i,i<lo\/hi<=i->(arrOf st')[i]?=(arrOf st)[i]?
theorem Ch.refl(lo hi:Nat)(st:SortSt):Ch lo hi st st:=⟨rfl,rfl,rfl,rfl,Array.Perm.refl _,λ_ _=>rfl⟩
theorem Ch.trans{lo hi:Nat}{a b c:SortSt}(d:Ch lo hi a b)(e:Ch lo hi b c):Ch lo hi a c:=⟨e.k.trans d.k,e.p.trans d.p,e.f.trans d.f,e.z.trans d.z,e.m.trans d.m,λi hi=>(e.o i hi).trans (d.o i hi)⟩
theorem Ch.wide{lo hi hi':Nat}{a b:SortSt}(h:Ch lo hi a b)(hh:hi<=hi'):Ch lo hi' a b:=⟨h.k,h.p,h.f,h.z,h.m,λi hi=>h.o i ⋯⟩
theorem Ch.good{lo hi:Nat}{a b:SortSt}(h:Ch lo hi a b)(c:∀x∈(arrOf a).toList,Gd κ x):∀x∈(arrOf b).toList,Gd κ x:=λx d=>c x ((h.m.toList.mem_iff).mp d)
def Up(κ:PyProof.Rows.KeyKind)(a:Array Keyed)(lo hi:Nat):Prop:=∀i j x y,lo<=i->i<=j->j<hi->a[i]?=some x->a[j]?=some y->le' κ x y
def Dn(κ:PyProof.Rows.KeyKind)(a:Array Keyed)(lo hi:Nat):Prop:=∀i j x y,lo<=i->i<=j->j<hi->a[i]?=some x->a[j]?=some y->le' κ y x
theorem Up.one{a:Array Keyed}{lo:Nat}:Up κ a lo (lo+1):=λi j x y e f d c b=>by
 have:i=j:=⋯
 subst this;rw[c]at b;cases b;exact iX _
theorem Up.more{a:Array Keyed}{lo hi hi':Nat}(h:Up κ a lo hi)(hl:lo<hi)(o:hi<a.size)(l:∀x y,a[hi-1]?=some x->a[hi]?=some y->le' κ x y)(k:hi'=hi+1:=by omega):Up κ a lo hi':=λi j x y d m n c b=>by
 subst k;rcases uX j hi with q|q
 ·exact h i j x y d m q c b
 ·have f:j=hi:=⋯
  subst f;rcases uX i j with g|g
  ·obtain⟨u,e⟩:=lE (a:=a) (i:=j-1) ⋯;exact lJ (h i (j-1) x u d ⋯ ⋯ c e) (l u y e b)
  ·have:i=j:=⋯
   subst this;rw[c]at b;cases b;exact iX _
theorem Up.same{a b:Array Keyed}{lo hi:Nat}(h:Up κ a lo hi)(e:∀i,lo<=i->i<hi->b[i]?=a[i]?):Up κ b lo hi:=λi j x y d k c g f=>h i j x y d k c (by rw[←e i d ⋯];exact g) (by rw[←e j ⋯ c];exact f)
theorem Dn.more{a:Array Keyed}{lo hi hi':Nat}(h:Dn κ a lo hi)(hl:lo<hi)(o:hi<a.size)(l:∀x y,a[hi-1]?=some x->a[hi]?=some y->le' κ y x)(k:hi'=hi+1:=by omega):Dn κ a lo hi':=λi j x y d m n c b=>by
 subst k;rcases uX j hi with q|q
 ·exact h i j x y d m q c b
 ·have f:j=hi:=⋯
  subst f;rcases uX i j with g|g
  ·obtain⟨u,e⟩:=lE (a:=a) (i:=j-1) ⋯;exact lJ (l u y e b) (h i (j-1) x u d ⋯ ⋯ c e)
  ·have:i=j:=⋯
   subst this;rw[c]at b;cases b;exact iX _
abbrev mir(a:Array Keyed)(i j:Nat):Array Keyed:=mirror a i j ((j-i)/2)
theorem gI{a:Array Keyed}{i j k:Nat}(b:j<=a.size):(mir a i j)[k]?=if i<=k/\k<j then a[i+j-1-k]? else a[k]?:=getElem?_mirror_all b k
theorem Dn.turned{a:Array Keyed}{lo hi c b:Nat}(h:Dn κ a lo hi)(u:Up κ a c b)(hl:lo<=c)(n:b<=hi)(o:hi<=a.size):Dn κ (mir a c b) lo hi:=λi j x y l m g e d=>by
 rw[gI ⋯]at e d
 by_cases k:c<=i/\i<b
 ·rw[zE k]at e
  by_cases f:c<=j/\j<b
  ·rw[zE f]at d;exact u _ _ y x ⋯ (show c+b-1-j<=c+b-1-i by omega) ⋯ d e
  ·rw[zD f]at d;exact h _ _ x y ⋯ (show c+b-1-i<=j by omega) g e d
 ·rw[zD k]at e
  by_cases f:c<=j/\j<b
  ·rw[zE f]at d;exact h _ _ x y l (show i<=c+b-1-j by omega) ⋯ e d
  ·rw[zD f]at d;exact h _ _ x y l m g e d
theorem Dn.up{a:Array Keyed}{lo hi:Nat}(h:Dn κ a lo hi)(c:hi<=a.size):Up κ (mir a lo hi) lo hi:=λi j x y f g e d b=>by
 rw[gI c,zE ⟨f,⋯⟩]at d;rw[gI c,zE ⟨⋯,e⟩]at b;exact h _ _ y x ⋯ (show lo+hi-1-j<=lo+hi-1-i by omega) ⋯ b d
theorem bV{st:SortSt}{i j:Nat}{Q:Unit->SortSt->Prop}(b:j<=(arrOf st).size)(h:∀a,Ch i j st a->arrOf a=mir (arrOf st) i j->Q () a):wpS (model prog w) A E s (reverseSlice' i j) Q st:=by
 rw[reverseSlice'_eq];refine wR (h _ ⟨rfl,rfl,rfl,mirror_size _ _ _ _,mirror_perm _ _ _ _,λk c=>?_⟩ rfl);exact(gI b).trans (zD ⋯)
theorem Ih(D:Cmp prog w A s κ kd){st:SortSt}{lo b a:Nat}{f:Nat->Option (Option Nat)×Nat->StateT SortSt Sem (ForInStep (Option (Option Nat)×Nat))}{Q:Option (Option Nat)×Nat->SortSt->Prop}(m:kindOf st=kd)(t:∀x∈(arrOf st).toList,Gd κ x)(K:lo+a<=(arrOf st).size)(I:1<=b)(F:b<=a)(C:Up κ (arrOf st) lo (lo+b))
  (z:∀x c,f x c=(do
   let o ←ltAt' (lo+c.2) (lo+c.2-1)
   match o with
    |some G=>if G=true then pure (ForInStep.done (none,c.2)) else pure (ForInStep.yield (none,c.2+1))
    |_=>pure (ForInStep.done (some none,c.2))))
  (h:∀n,b<=n->n<=a->Up κ (arrOf st) lo (lo+n)->(n=a\/∀x y,(arrOf st)[lo+n]?=some x->(arrOf st)[lo+n-1]?=some y->lq κ x y=true)->Q (none,n) st):
  wpS (model prog w) A E s (forIn [b:a] ((none,b):Option (Option Nat)×Nat) f) Q st:=by
 refine wP (xI (I:=λx c d=>d=st/\c=(none,x)/\b<=x/\x<=a/\Up κ (arrOf st) lo (lo+x))
  (Q:=λc d=>d=st/\∃n,c=(none,n)/\b<=n/\n<=a/\Up κ (arrOf st) lo (lo+n)/\(n=a\/∀x y,(arrOf st)[lo+n]?=some x->(arrOf st)[lo+n-1]?=some y->lq κ x y=true)) ?_ ?_ ⟨rfl,rfl,zG _,F,C⟩) ?_
 ·rintro x c d L J ⟨rfl,rfl,k,g,e⟩;rw[z];dsimp only;refine zF (dW D m t ⋯ ⋯ λp q ep l=>?_);dsimp only;cases hl:lq κ p q with
  |true =>
   rw[zE rfl];refine zH ⟨rfl,x,rfl,k,g,e,.inr λu v i j=>?_⟩;rw[ep]at i;rw[l]at j;cases i;cases j;exact hl
  |false =>
   rw[zD (by simp)];refine zH ⟨rfl,rfl,⋯,⋯,?_⟩;refine Up.more e ⋯ ⋯ λu v i j=>?_;rw[l]at i;rw[ep]at j;cases i;cases j;exact hl
 ·rintro c d ⟨rfl,rfl,k,g,e⟩;exact⟨rfl,_,rfl,k,g,e,.inl ⋯⟩
 ·rintro c d ⟨rfl,n,rfl,k,g,e,r⟩;exact h n k g e r
theorem Ig{b:Type}{c:Prop}[Decidable c]{P T:StateT SortSt Sem b}{R:SortSt->Prop}{st:SortSt}{Q:b->SortSt->Prop}(d:c->(∀a,R a->wpS (model prog w) A E s P Q a)->wpS (model prog w) A E s T Q st)(e:¬ c->R st)(go:∀a,R a->wpS (model prog w) A E s P Q a):wpS (model prog w) A E s (if c then T else P) Q st:=
 nV (λx=>d x go) λx=>go st (e x)
theorem Ux(F:Cmp prog w A s κ kd){st:SortSt}{lo r:Nat}{Q:Option Nat->SortSt->Prop}(I:kindOf st=kd)(M:∀x∈(arrOf st).toList,Gd κ x)(b4:lo+r<=(arrOf st).size)(a6:1<=r)
  (h:∀n b,1<=n->n<=r->Ch lo (lo+n) st b->Up κ (arrOf b) lo (lo+n)->Q (some n) b):wpS (model prog w) A E s (countRun' lo r) Q st:=by
 rw[countRun'_eq];refine zF (Ih F I M b4 (zG _) a6 Up.one (λx c=>rfl) λn U X up nx=>?_);dsimp only;refine nV (λz=>?_) λz=>?_
 ·exact zH (h n st U X (Ch.refl _ _ _) up)
 have S:n≠r:=λe=>z (oO.mpr e);have a2:=nx.resolve_left S;refine Ig (R:=λG=>Ch lo (lo+n) st G/\Dn κ (arrOf G) lo (lo+n+1)) (λy go=>?_) (λy=>?_) λG b3=>?_
 ·refine zF (dW F I M ⋯ ⋯ λp q ep o=>?_);dsimp only;cases hl:lq κ p q with
  |true =>
   rw[zE rfl];exact zH (h n st U X (Ch.refl _ _ _) up)
  | false =>
   rw[zD (by simp)];refine zF (bV ⋯ λG D W=>?_);refine go G ⟨D,Dn.more (hi:=lo+n) ?_ ⋯ (by rw[D.z];omega) λu v d f=>?_⟩
   ·-- all alike
    rw[W];intro i j x y b1 b2 a0 J C;rw[gI ⋯,zE ⟨b1,⋯⟩]at J;rw[gI ⋯,zE ⟨⋯,a0⟩]at C;exact up _ _ y x ⋯ (show lo+(lo+n)-1-j<=lo+(lo+n)-1-i by omega) ⋯ C J
   ·rw[D.o _ (.inr (zG _))]at f;rw[W,gI ⋯,zE ⋯,show lo+(lo+n)-1-(lo+n-1)=lo by omega,ep]at d;cases d;exact lJ (lU (a2 v q f o)) hl
 ·have:n=1:=⋯
  subst this;refine⟨Ch.refl _ _ _,Dn.more (hi:=lo+1) (λi j x y b1 b2 a0 J C=>?_) ⋯ ⋯ λu v d f=>lU (a2 v u f d)⟩;have:i=j:=⋯
  subst this;rw[J]at C;cases C;exact iX _
 ·obtain⟨D,k⟩:=b3;refine zF (qG (wM ⟨rfl,?_⟩));refine zF (wP (xI (I:=λx c b=>∃g,c=(none,x,g)/\n+1<=x/\x<=r/\g+1<=x/\Ch lo (lo+x) st b/\Dn κ (arrOf b) lo (lo+x)/\Up κ (arrOf b) (lo+x-(g+1)) (lo+x))
   (Q:=λc b=>∃x g,c=(none,x,g)/\n+1<=x/\x<=r/\g+1<=x/\Ch lo (lo+x) st b/\Dn κ (arrOf b) lo (lo+x)/\Up κ (arrOf b) (lo+x-(g+1)) (lo+x)) ?_ ?_ ⟨0,rfl,zG _,⋯,⋯,D.wide ⋯,k,by rw[show lo+(n+1)=lo+n+1 by omega];exact Up.one⟩) ?_)
  ·rintro x c b b6 b8 ⟨g,rfl,N,t,L,ch,k,up⟩;have T:kindOf b=kd:=ch.k.trans I;have a1:=ch.good M;have S:=ch.z;dsimp only;refine zF (dW F T a1 ⋯ ⋯ λp q ep o=>?_);dsimp only;cases hl:lq κ p q with
   |true =>
    rw[zE rfl];refine nV (λP=>?_) λP=>?_
    ·refine zF (bV ⋯ λl a K=>zH ?_);have R:Ch lo (lo+x) b l:=⟨a.k,a.p,a.f,a.z,a.m,λi hi=>a.o i ⋯⟩;refine⟨0,rfl,⋯,⋯,⋯,(ch.trans R).wide ⋯,?_,by rw[show lo+(x+1)-(0+1)=lo+x by omega];exact Up.one⟩;refine Dn.more (hi:=lo+x) (by rw[K];exact Dn.turned k up ⋯ (zG _) ⋯) ⋯ (by rw[a.z];omega) λu v d f=>?_;rw[a.o _ (.inr (zG _)),ep]at f;cases f;rw[K,gI ⋯,zE ⋯]at d;have l1:le' κ q u:=k _ _ u q ⋯ (show lo+x-(g+1)+(lo+x)-1-(lo+x-1)<=lo+x-1 by omega) ⋯ d o;exact lJ (lU hl) l1
    ·refine zH ⟨0,rfl,⋯,⋯,⋯,ch.wide ⋯,?_,by rw[show lo+(x+1)-(0+1)=lo+x by omega];exact Up.one⟩;refine Dn.more k ⋯ ⋯ λu v d f=>?_;rw[o]at d;rw[ep]at f;cases d;cases f;exact lU hl
   | false =>
    rw[zD (by simp)];refine zF (dW F T a1 ⋯ ⋯ λb9 b7 V Z=>?_);rw[o]at V;rw[ep]at Z;cases V;cases Z;dsimp only;cases hl2:lq κ q p with
    |true =>
     rw[zE rfl];exact zH ⟨x,g,rfl,N,t,L,ch,k,up⟩
    | false =>
     rw[zD (by simp)];refine zH ⟨g+1,rfl,⋯,⋯,⋯,ch.wide ⋯,?_,?_⟩
     ·refine Dn.more k ⋯ ⋯ λu v d f=>?_;rw[o]at d;rw[ep]at f;cases d;cases f;exact hl2
     ·have:=Up.more (hi':=lo+(x+1)) up ⋯ ⋯ λu v d f=>by
       rw[o]at d;rw[ep]at f;cases d;cases f;exact hl
      rw[show lo+(x+1)-(g+1+1)=lo+x-(g+1) by omega];exact this
  ·rintro c b ⟨g,rfl,N,t,L,ch,k,up⟩;exact⟨_,g,rfl,N,t,L,ch,k,up⟩
  ·rintro c b ⟨x,g,rfl,N,t,L,ch,k,up⟩;dsimp only;refine Ig (R:=λl=>Ch lo (lo+x) st l/\Dn κ (arrOf l) lo (lo+x)) (λP a9=>?_) (λP=>⟨ch,k⟩) λl a7=>?_
   ·have S:=ch.z;refine zF (bV ⋯ λl a K=>?_);have R:Ch lo (lo+x) b l:=⟨a.k,a.p,a.f,a.z,a.m,λi hi=>a.o i ⋯⟩;exact a9 l ⟨ch.trans R,by rw[K];exact Dn.turned k up ⋯ (zG _) ⋯⟩
   ·obtain⟨a,a5⟩:=a7;have b5:=a.z;refine zF (bV ⋯ λa3 Y b0=>?_);have O:=a.trans Y;have c1:=Y.z;refine zF (Ih F (O.k.trans I) (O.good M) ⋯ ⋯ t (by rw[b0];exact Dn.up a5 ⋯) (λ_ _=>rfl) λm c0 a4 a8 _=>?_);dsimp only;exact zH (h m a3 ⋯ a4 (O.wide ⋯) a8)
theorem Uw{x y z:Keyed}(a:lq κ x y=true)(b:le' κ y z):lq κ x z=true:=KeyOrd.klt_of_klt_of_kle (O:=κ.toKeyOrd) a b
theorem Up.put{a:Array Keyed}{lo k l:Nat}{p:Keyed}(e:Up κ a lo (lo+k))(o:lo+k<a.size)(ep:a[lo+k]?=some p)(hl:l<=k)(m:∀i u,lo<=i->i<lo+l->a[i]?=some u->le' κ u p)(q:∀i u,lo+l<=i->i<lo+k->a[i]?=some u->lq κ p u=true):
  Up κ (bubble a (lo+k) (lo+k-(lo+l))) lo (lo+(k+1)):=λi j x y d n r c b=>by
 rw[getElem?_bubble o _ ⋯,show lo+k-(lo+k-(lo+l))=lo+l by omega]at c b
 by_cases g:i=lo+l
 ·rw[zE g,ep]at c;cases c
  by_cases b1:j=lo+l
  ·rw[zE b1,ep]at b;cases b;exact iX _
  ·rw[zD b1,zE ⋯]at b;exact lU (q _ _ ⋯ ⋯ b)
 ·rw[zD g]at c
  by_cases f:lo+l<i/\i<=lo+k
  ·rw[zE f]at c;rw[zD ⋯,zE ⋯]at b;exact e _ _ _ _ ⋯ (show i-1<=j-1 by omega) ⋯ c b
  ·rw[zD f]at c
   by_cases b1:j=lo+l
   ·rw[zE b1,ep]at b;cases b;exact m _ _ d ⋯ c
   ·rw[zD b1]at b
    by_cases b2:lo+l<j/\j<=lo+k
    ·rw[zE b2]at b;exact e _ _ _ _ d (show i<=j-1 by omega) ⋯ c b
    ·rw[zD b2]at b;exact e _ _ _ _ d n ⋯ c b
theorem Uv(O:Cmp prog w A s κ kd){st:SortSt}{lo n ok:Nat}{Q:Bool->SortSt->Prop}(F:kindOf st=kd)(M:∀x∈(arrOf st).toList,Gd κ x)(Z:lo+n<=(arrOf st).size)(J:1<=ok)(K:ok<=n)(N:Up κ (arrOf st) lo (lo+ok))
  (h:∀a,Ch lo (lo+n) st a->Up κ (arrOf a) lo (lo+n)->Q true a):wpS (model prog w) A E s (binarySort' lo n ok) Q st:=by
 rw[binarySort'_eq];refine zF (wP (xI (I:=λk c a=>c=(none,())/\ok<=k/\k<=n/\Ch lo (lo+n) st a/\Up κ (arrOf a) lo (lo+k))
  (Q:=λc a=>c=(none,())/\Ch lo (lo+n) st a/\Up κ (arrOf a) lo (lo+n)) ?step ?fin ?init) ?post)
 case post =>
  rintro c a ⟨rfl,d,b⟩;exact zH (h a d b)
 case init=>rw[show max ok 1=ok by omega];exact⟨rfl,zG _,K,Ch.refl _ _ _,N⟩
 case fin =>
  rintro c a ⟨D,R,z,d,b⟩;rw[show max (max ok 1) n=n by omega]at b;exact⟨D,d,b⟩
 case step =>
  rintro k c a U X ⟨rfl,R,z,d,b⟩;have Y:=d.z;have C:kindOf a=kd:=d.k.trans F;have L:=d.good M;obtain⟨p,ep⟩:=lE (a:=arrOf a) (i:=lo+k) ⋯;refine zF (wP (xI (I:=λx c f=>f=a/\∃l r,c=(none,l,r)/\l<=r/\r<=k/\r-l<=k-x /\
    (∀i u,lo<=i->i<lo+l->(arrOf a)[i]?=some u->le' κ u p)/\(∀i u,lo+r<=i->i<lo+k->(arrOf a)[i]?=some u->lq κ p u=true))
   (Q:=λc f=>f=a/\∃l r,c=(none,l,r)/\l<=k /\
    (∀i u,lo<=i->i<lo+l->(arrOf a)[i]?=some u->le' κ u p)/\(∀i u,lo+l<=i->i<lo+k->(arrOf a)[i]?=some u->lq κ p u=true)) ?istep ?ifin ?iinit) ?ipost)
  case iinit=>exact⟨rfl,0,k,rfl,⋯,⋯,⋯,λi u _ hi=>⋯,λi u J W=>⋯⟩
  case ifin =>
   rintro c f ⟨rfl,l,r,rfl,G,o,I,g,e⟩;have:l=r:=⋯
   subst this;exact⟨rfl,l,l,rfl,o,g,e⟩
  case istep =>
   rintro x c f _ V ⟨rfl,l,r,rfl,G,o,I,g,e⟩;dsimp only;refine nV (λP=>?_) λP=>?_
   ·have:l=r:=⋯
    subst this;exact zH ⟨rfl,l,l,rfl,o,g,e⟩
   ·refine zF (dW O C L ⋯ ⋯ λT q y v=>?_);rw[ep]at y;cases y;dsimp only;cases hless:lq κ p q with
    |true =>
     rw[zE rfl];refine zH ⟨rfl,l,(l+r)/2,rfl,⋯,⋯,⋯,g,λi u j t m=>?_⟩;exact Uw hless (b _ _ _ _ ⋯ j t v m)
    |false =>
     rw[zD (by simp)];refine zH ⟨rfl,(l+r)/2+1,r,rfl,⋯,⋯,⋯,λi u j t m=>?_,e⟩;exact lJ (b _ _ _ _ j (show i<=lo+(l+r)/2 by omega) ⋯ m v) hless
  case ipost =>
   rintro c f ⟨rfl,l,r,rfl,S,g,e⟩;show wpS _ _ _ _ (do moveDown' (lo+k) (lo+l);pure (ForInStep.yield (none,()))) _ _;rw[moveDown'_eq];refine zF (wR (zH ⟨rfl,⋯,⋯,d.trans ⟨rfl,rfl,rfl,bubble_size _ _ _,bubble_perm _ _ _,λi hi=>?_⟩,b.put ⋯ ep S g e⟩));exact(getElem?_bubble ⋯ _ ⋯ i).trans (by rw[zD ⋯,zD ⋯])
def Run(κ:PyProof.Rows.KeyKind)(a:Array Keyed):Nat->List (Nat×Nat×Nat)->Nat->Prop
 |s,[],e=>s=e
 |s,x:: xs,e=>x.1=s/\1<=x.2.1/\Up κ a s (s+x.2.1)/\Run κ a (s+x.2.1) xs e
theorem Run.le{a:Array Keyed}:∀{xs:List (Nat×Nat×Nat)}{s e:Nat},Run κ a s xs e->s+xs.length<=e
 |[],s,e,h=>by have:s=e:=h;simp[this]
 |x:: xs,s,e,h=>by have:=Run.le h.2.2.2;have:=h.2.1;simp only[List.length_cons];omega
theorem Run.app{a:Array Keyed}:∀{xs ys:List (Nat×Nat×Nat)}{s e:Nat},Run κ a s (xs++ys) e ↔ ∃m,Run κ a s xs m/\Run κ a m ys e
 |[],ys,s,e=>⟨λh=>⟨s,rfl,h⟩,λ⟨m,b,c⟩=>by cases(show s=m from b);exact c⟩
 |x:: xs,ys,s,e=>⟨λ⟨b,c,d,f⟩=>let ⟨m,i,j⟩:=Run.app.mp f;⟨m,⟨b,c,d,i⟩,j⟩,λ⟨m,⟨b,c,d,f⟩,g⟩=>⟨b,c,d,Run.app.mpr ⟨m,f,g⟩⟩⟩
theorem Run.same{a b:Array Keyed}:∀{xs:List (Nat×Nat×Nat)}{s e:Nat},(∀i,s<=i->i<e->b[i]?=a[i]?)->Run κ a s xs e->Run κ b s xs e
 |[],_,_,_,h=>h
 |x:: xs,s,e,q,h=>by
  have:=Run.le h.2.2.2;exact⟨h.1,h.2.1,h.2.2.1.same λi c d=>q i c ⋯,Run.same (λi c d=>q i ⋯ d) h.2.2.2⟩
theorem Cn{a:Array Keyed}{i j:Nat}(h:Up κ a i j):Srt κ (seg a.toList i j):=by
 rw[Srt,List.pairwise_iff_getElem];intro t u c d e;have e1:=xS c;have b:=xS d;rw[dU]at e1 b;split at e1
 ·split at b
  ·exact h _ _ _ _ ⋯ (show i+t<=i+u by omega) ⋯ (nQ.mpr e1) (nQ.mpr b)
  ·cases b
 ·cases e1
theorem Uu{a:Array Keyed}{l X r:List Keyed}{i j:Nat}(e:a.toList=l++X++r)(hl:l.length=i)(m:X.length=j-i)(h:Srt κ X):Up κ a i j:=λp q x y n o k d b=>by
 have d:=nQ.mp d;have b:=nQ.mp b;rw[e,yO,yD ⋯,yP ⋯]at d b;rcases uX p q with c|c
 ·have g:p-l.length<X.length:=⋯
  have f:q-l.length<X.length:=⋯
  rw[xS g]at d;rw[xS f]at b;cases d;cases b;exact(List.pairwise_iff_getElem.mp h) _ _ g f ⋯
 ·have:p=q:=⋯
  subst this;rw[d]at b;cases b;exact iX _
structure Wt(κ:PyProof.Rows.KeyKind)(kd:SortKind)(a₀:Array Keyed)(hi:Nat)(st:SortSt):Prop where
 k:kindOf st=kd
 f:failedOf st=none
 m:(arrOf st).Perm a₀
 r:Run κ (arrOf st) 0 (pendingOf st).toList hi
theorem Wt.z{a₀:Array Keyed}{hi:Nat}{st:SortSt}(h:Wt κ kd a₀ hi st):(arrOf st).size=a₀.size:=h.m.size_eq
theorem Wt.good{a₀:Array Keyed}{hi:Nat}{st:SortSt}(h:Wt κ kd a₀ hi st)(a:∀x∈a₀.toList,Gd κ x):∀x∈(arrOf st).toList,Gd κ x:=λx b=>a x ((h.m.toList.mem_iff).mp b)
theorem Ut{p:Array (Nat×Nat×Nat)}{xs ys:List (Nat×Nat×Nat)}{e f g:Nat×Nat×Nat}(h:p.toList=xs++e:: f:: ys):((p.setIfInBounds xs.length g).eraseIdxIfInBounds (xs.length+1)).toList=xs++g:: ys:=by
 have a:xs.length+1<(p.setIfInBounds xs.length g).size:=by
  rw[Array.size_setIfInBounds,←zP,h];simp
 rw[Array.eraseIdxIfInBounds,dif_pos a,Array.toList_eraseIdx,Array.toList_setIfInBounds,h,List.set_append_right _ _ (zG _),uY];rw[uD ⋯];simp
theorem Cm(J:Cmp prog w A s κ kd){a₀:Array Keyed}(C:∀x∈a₀.toList,Gd κ x){st:SortSt}{i hi:Nat}{xs ys:List (Nat×Nat×Nat)}{e f:Nat×Nat×Nat}{Q:Bool->SortSt->Prop}(c:Wt κ kd a₀ hi st)(hh:hi<=a₀.size)(g:(pendingOf st).toList=xs++e:: f:: ys)(I:i=xs.length)
  (h:∀a,Wt κ kd a₀ hi a->(pendingOf a).toList=xs++(e.1,e.2.1+f.2.1,e.2.2):: ys->(∀j,hi<=j->(arrOf a)[j]?=(arrOf st)[j]?)->Q true a):wpS (model prog w) A E s (mergeAt' i) Q st:=by
 subst I;have hr:=c.r;rw[g]at hr;obtain⟨m,p,k,D,y,r,G,F,n⟩:=Run.app.mp hr;have l1:=p.le;have l2:=n.le;have L:=c.z;have e1:(pendingOf st)[xs.length]?=some (m,e.2.1,e.2.2):=by
  rw[←yS,g,yD (zG _),uY,←k];rfl
 have u:(pendingOf st)[xs.length+1]?=some (m+e.2.1,f.2.1,f.2.2):=by
  rw[←yS,g,yD ⋯,Nat.add_sub_cancel_left,←r];rfl
 refine Uy J c.k (c.good C) c.f e1 u D G ⋯ (Cn y) (Cn F) λa X k' v t d o z=>?_;have K:X.length=e.2.1+f.2.1:=by rw[o.length_eq,Co (by rw[zP];omega)];omega
 have lt:((arrOf st).toList.take m).length=m:=by rw[xA,zP];omega
 have ps:(pendingOf a).toList=xs++(e.1,e.2.1+f.2.1,e.2.2):: ys:=by
  rw[t,←k];exact Ut g
 have up:Up κ (arrOf a) m (m+e.2.1+f.2.1):=Uu d lt ⋯ z;have lo:∀j,j<m->(arrOf a)[j]?=(arrOf st)[j]?:=λj b=>by
  rw[←yS,←yS,d,yO,yP ⋯,List.getElem?_take_of_lt b]
 have l:∀j,m+e.2.1+f.2.1<=j->(arrOf a)[j]?=(arrOf st)[j]?:=λj b=>by
  rw[←yS,←yS,d,yD (by rw[yF];omega),tZ];congr 1;rw[yF];omega
 refine h a ⟨k',v,?_,?_⟩ ps λj b=>l j ⋯
 ·refine Array.Perm.trans (Array.perm_iff_toList_perm.mpr ?_) c.m;have q:=(o.append_left ((arrOf st).toList.take m)).append_right ((arrOf st).toList.drop (m+e.2.1+f.2.1));rw[Ij ⋯]at q;rw[d];exact q
 ·rw[ps];refine Run.app.mpr ⟨m,p.same λj _ b=>lo j b,k,(show 1<=e.2.1+f.2.1 by omega),?_,?_⟩
  ·show Up κ _ m (m+(e.2.1+f.2.1));rw[←tN];exact up
  ·show Run κ _ (m+(e.2.1+f.2.1)) _ _;rw[←tN];exact n.same λj b _=>l j b
theorem Run.modify{a:Array Keyed}{f:Nat×Nat×Nat->Nat×Nat×Nat}(b:∀e,(f e).1=e.1/\(f e).2.1=e.2.1):∀{xs:List (Nat×Nat×Nat)}{i s e:Nat},Run κ a s xs e->Run κ a s (xs.modify i f) e
 |[],i,s,e,h=>by cases i <;> exact h
 |x:: xs,0,s,e,h=>by
  show(f x).1=s/\1<=(f x).2.1/\Up κ a s (s+(f x).2.1)/\Run κ a (s+(f x).2.1) xs e;rw[(b x).1,(b x).2];exact h
 |x:: xs,i+1,s,e,h=>⟨h.1,h.2.1,h.2.2.1,Run.modify b h.2.2.2⟩
theorem Us{b:Prop}[Decidable b]{z:Nat}(h:¬ z<=1):(if b then z-2-1 else z-2)+1<z:=by split <;> omega
theorem Cl{p:Array (Nat×Nat×Nat)}{i:Nat}(h:i+1<p.size):∃xs e f ys,p.toList=xs++e:: f:: ys/\xs.length=i:=by
 have h':i+1<p.toList.length:=by rw[zP];exact h
 refine⟨p.toList.take i,p.toList[i],p.toList[i+1],p.toList.drop (i+2),?_,by rw[xA];omega⟩;rw[←tS,←tS,xZ]
theorem Wt.push{a₀:Array Keyed}{lo n:Nat}{st:SortSt}(h:Wt κ kd a₀ lo st)(a:1<=n)(b:Up κ (arrOf st) lo (lo+n)):Wt κ kd a₀ (lo+n) (setPending st ((pendingOf st).push (lo,n,0))):=
 ⟨h.k,h.f,h.m,by
  show Run κ (arrOf st) 0 ((pendingOf st).push (lo,n,0)).toList (lo+n);rw[uQ];exact Run.app.mpr ⟨lo,h.r,rfl,a,b,rfl⟩⟩
theorem Ur(I:Cmp prog w A s κ kd){a₀:Array Keyed}(F:∀x∈a₀.toList,Gd κ x){st:SortSt}{Q:Unit->SortSt->Prop}(a1:kindOf st=kd)(a6:failedOf st=none)(Z:pendingOf st=#[])(V:arrOf st=a₀)
  (h:∀a,kindOf a=kd->failedOf a=none->(arrOf a).Perm a₀->Up κ (arrOf a) 0 a₀.size->Q () a):wpS (model prog w) A E s sortRuns' Q st:=by
 rw[sortRuns'_eq];refine zF (uV ?_);rw[V];dsimp only;have w0:Wt κ kd a₀ 0 st:=⟨a1,a6,by rw[V],by rw[Z];rfl⟩;refine zF (wP (xI (I:=λx c a=>∃lo,c=(none,lo)/\x<=lo/\lo<=a₀.size/\Wt κ kd a₀ lo a)
  (Q:=λc a=>c=(none,a₀.size)/\Wt κ kd a₀ a₀.size a) ?step ?fin ⟨0,rfl,zG _,zZ _,w0⟩) ?post)
 case fin =>
  rintro c a ⟨lo,rfl,a3,R,g⟩;have:lo=a₀.size:=⋯
  subst this;exact⟨rfl,g⟩
 case step =>
  rintro x c a b0 b2 ⟨lo,rfl,a3,R,g⟩;dsimp only;refine nV (λz=>?_) λz=>?_
  ·have:lo=a₀.size:=⋯
   subst this;exact zH ⟨rfl,g⟩
  have b4:=g.z;refine zF (Ux I g.k (g.good F) ⋯ ⋯ λn T M b1 k N=>?_);dsimp only;have W:∀l,kindOf l=kindOf a->pendingOf l=pendingOf a->failedOf l=failedOf a->(arrOf l).Perm (arrOf a)->(∀i,i<lo->(arrOf l)[i]?=(arrOf a)[i]?)->Wt κ kd a₀ lo l:=λl e1 a4 a5 a7 a9=>⟨e1.trans g.k,a5.trans g.f,a7.trans g.m,by rw[a4];exact g.r.same λi _ hi=>a9 i hi⟩;refine nV (λy=>?_) λy=>?_
  ·refine zF (qG (wM ⟨rfl,?_⟩));have b3:=k.z;refine zF (Uv I (k.k.trans g.k) (k.good (g.good F)) ⋯ M ⋯ N λl D u=>?_);rw[zD (by simp)];obtain⟨J,L,p,u⟩:Wt κ kd a₀ lo l/\1<=min (a₀.size-lo) (minRun' a₀.size a₀.size 0)/\lo+min (a₀.size-lo) (minRun' a₀.size a₀.size 0)<=a₀.size/\Up κ (arrOf l) lo (lo+min (a₀.size-lo) (minRun' a₀.size a₀.size 0)):=⟨W l (D.k.trans k.k) (D.p.trans k.p) (D.f.trans k.f) (D.m.trans k.m) λi hi=>(D.o i (.inl hi)).trans (k.o i (.inl hi)),⋯,⋯,u⟩
   revert L p u
   generalize min (a₀.size-lo) (minRun' a₀.size a₀.size 0)=n;intro L p u;refine zF (uV ?_);cases hb:(pendingOf l).back? with
   |none =>
    dsimp only;exact zF (wR (zH ⟨lo+n,rfl,⋯,p,J.push L u⟩))
   | some t =>
    obtain⟨G,k1,a2⟩:=t;dsimp only;generalize power' a₀.size (2*G+k1) (2*G+k1+k1+n) a₀.size=v;refine zF (wP (xI (I:=λx c a=>c=(none,())/\Wt κ kd a₀ lo a/\Up κ (arrOf a) lo (lo+n))
     (Q:=λc a=>c=(none,())/\Wt κ kd a₀ lo a/\Up κ (arrOf a) lo (lo+n)) ?istep1 (λc a hh=>hh) ⟨rfl,J,u⟩) ?ipost1)
    case istep1 =>
     rintro x c b _ _ ⟨rfl,d,m⟩;refine zF (uV ?_)
     by_cases C:(pendingOf b).size > 1
     ·rw[zE C];obtain⟨xs,e,f,ys,ep,r⟩:=Cl (p:=pendingOf b) (i:=(pendingOf b).size-2) ⋯;have S:(pendingOf b)[(pendingOf b).size-2]?=some e:=by
       rw[←yS,ep,yD ⋯,r,uY];rfl
      rw[S];dsimp only;refine nV (λ_=>zH ⟨rfl,d,m⟩) λ_=>?_;refine zF (Cm I F d R ep r.symm λU o O P=>?_);rw[zD (by simp)];exact zH ⟨rfl,o,m.same λi hi _=>P i hi⟩
     ·rw[zD C];exact zH ⟨rfl,d,m⟩
    case ipost1 =>
     rintro c b ⟨rfl,d,m⟩;dsimp only;refine zF (wR ?_);have o:Wt κ kd a₀ lo (setPending b ((pendingOf b).modify ((pendingOf b).size-1) λx=>(x.1,x.2.1,v))):=⟨d.k,d.f,d.m,by
      show Run κ (arrOf b) 0 ((pendingOf b).modify _ _).toList lo;rw[Array.toList_modify];exact Run.modify (f:=λx=>(x.1,x.2.1,v)) (λe=>⟨rfl,rfl⟩) d.r⟩
     exact zF (wR (zH ⟨lo+n,rfl,⋯,p,o.push L m⟩))
  ·have J:=W T k.k k.p k.f k.m λi hi=>k.o i (.inl hi);have p:lo+n<=a₀.size:=⋯
   refine zF (uV ?_);cases hb:(pendingOf T).back? with
   |none =>
    dsimp only;exact zF (wR (zH ⟨lo+n,rfl,⋯,p,J.push M N⟩))
   | some t =>
    obtain⟨G,k1,a2⟩:=t;dsimp only;generalize power' a₀.size (2*G+k1) (2*G+k1+k1+n) a₀.size=v;refine zF (wP (xI (I:=λx c a=>c=(none,())/\Wt κ kd a₀ lo a/\Up κ (arrOf a) lo (lo+n))
     (Q:=λc a=>c=(none,())/\Wt κ kd a₀ lo a/\Up κ (arrOf a) lo (lo+n)) ?istep (λc a hh=>hh) ⟨rfl,J,N⟩) ?ipost)
    case istep =>
     rintro x c b _ _ ⟨rfl,d,m⟩;refine zF (uV ?_)
     by_cases C:(pendingOf b).size > 1
     ·rw[zE C];obtain⟨xs,e,f,ys,ep,r⟩:=Cl (p:=pendingOf b) (i:=(pendingOf b).size-2) ⋯;have S:(pendingOf b)[(pendingOf b).size-2]?=some e:=by
       rw[←yS,ep,yD ⋯,r,uY];rfl
      rw[S];dsimp only;refine nV (λ_=>zH ⟨rfl,d,m⟩) λ_=>?_;refine zF (Cm I F d R ep r.symm λU o O P=>?_);rw[zD (by simp)];exact zH ⟨rfl,o,m.same λi hi _=>P i hi⟩
     ·rw[zD C];exact zH ⟨rfl,d,m⟩
    case ipost =>
     rintro c b ⟨rfl,d,m⟩;dsimp only;refine zF (wR ?_);have o:Wt κ kd a₀ lo (setPending b ((pendingOf b).modify ((pendingOf b).size-1) λx=>(x.1,x.2.1,v))):=⟨d.k,d.f,d.m,by
      show Run κ (arrOf b) 0 ((pendingOf b).modify _ _).toList lo;rw[Array.toList_modify];exact Run.modify (f:=λx=>(x.1,x.2.1,v)) (λe=>⟨rfl,rfl⟩) d.r⟩
     exact zF (wR (zH ⟨lo+n,rfl,⋯,p,o.push M m⟩))
 case post =>
  rintro c a ⟨rfl,g⟩;dsimp only;have a0:=g.r.le;rw[zP]at a0;refine zF (wP (xI (I:=λx c a=>c=(none,())/\Wt κ kd a₀ a₀.size a/\((pendingOf a).size<=1\/(pendingOf a).size+x<=a₀.size))
   (Q:=λc a=>c=(none,())/\Wt κ kd a₀ a₀.size a/\(pendingOf a).size<=1) ?fstep ?ffin ⟨rfl,g,.inr ⋯⟩) ?fpost)
  case ffin =>
   rintro c b ⟨rfl,d,K⟩;exact⟨rfl,d,⋯⟩
  case fstep =>
   rintro x c b _ _ ⟨rfl,d,K⟩;refine zF (uV ?_);refine nV (λq=>zH ⟨rfl,d,q⟩) λq=>?_;generalize hi:(if Option.any (λx=>decide (x<(pendingOf b)[(pendingOf b).size-2+1]?.elim 0 λx=>x.2.1)) (if(pendingOf b).size-2 > 0 then Option.map (λx=>x.2.1) (pendingOf b)[(pendingOf b).size-2-1]? else none)=true then(pendingOf b).size-2-1 else(pendingOf b).size-2)=i;have hi':i+1<(pendingOf b).size:=by
    rw[←hi];exact Us q
   obtain⟨xs,e,f,ys,ep,r⟩:=Cl hi';refine zF (Cm I F d (zG _) ep r.symm λU o O _=>?_);rw[zD (by simp)];refine zH ⟨rfl,o,.inr ?_⟩;have X:=wG List.length ep;have Y:=wG List.length O;simp only[Array.length_toList,List.length_append,List.length_cons]at X Y;omega
  case fpost =>
   rintro c b ⟨rfl,d,K⟩;refine zH (h b d.k d.f d.m ?_);have hr:=d.r;rw[←zP]at K
   match hl:(pendingOf b).toList,hr,K with
   |[],hr,_ =>
    have:0=a₀.size:=hr;rw[←this];exactλi j x y _ _ a8=>absurd a8 (Nat.not_lt_zero _)
   |[t],hr,_ =>
    have:0+t.2.1=a₀.size:=hr.2.2.2;rw[←this];exact hr.2.2.1
end
def dX(prog:Program)(w:World)(n:Nat):Prop:=∀{A:Around}{E:VP}{s:Shared}{κ:PyProof.Rows.KeyKind}{kd:SortKind}{a₀:Array Keyed}{st:SortSt}{Q:Unit->SortSt->Prop},a₀.size=n->2<=n->Cmp prog w A s κ kd->(∀x∈a₀.toList,Gd κ x)->kindOf st=kd->failedOf st=none->pendingOf st=#[]->arrOf st=a₀ ->
 (∀st',kindOf st'=kd->failedOf st'=none->(arrOf st').Perm a₀->Up κ (arrOf st') 0 a₀.size->Q () st')->wpS (model prog w) A E s sortRuns' Q st
section
variable {prog:Program} {w:World}
theorem Uq(n:Nat):dX prog w n:=λ_ _ a b f d e c h=>Ur a b f d e c h
end
mutual
def fl:PyData->LI'
 |.int i=>[i]
 |.tuple xs=>flA xs
 |_=>[]
def flA:List PyData->LI'
 |[]=>[]
 |d:: ds=>fl d++flA ds
end
mutual
def sm:PyData->PyData->Bool
 |.int _,.int _=>true
 |.tuple xs,.tuple ys=>smA xs ys
 |_,_=>false
def smA:List PyData->List PyData->Bool
 |[],[]=>true
 |x:: xs,y:: ys=>sm x y && smA xs ys
 |_,_=>false
end
mutual
theorem bW:∀(x y:PyData),sm x y=true->(fl x).length=(fl y).length
 |.int _,y,h=>by cases y <;> simp[sm]at h <;> simp[fl]
 |.tuple xs,y,h=>by cases y <;> simp[sm]at h <;> simp[fl];exact Ie _ _ h
 |.none,y,h=>by simp[sm]at h
 |.bool _,y,h=>by simp[sm]at h
 |.str _,y,h=>by simp[sm]at h
 |.list _,y,h=>by simp[sm]at h
 |.dict _,y,h=>by simp[sm]at h
theorem Ie:∀(xs ys:List PyData),smA xs ys=true->(flA xs).length=(flA ys).length
 |[],ys,h=>by cases ys <;> simp[smA]at h <;> rfl
 |x:: xs,ys,h=>by
  cases ys <;> simp[smA]at h;simp only[flA,List.length_append];rw[bW _ _ h.1,Ie _ _ h.2]
end
mutual
theorem Ck:∀(x y:PyData),sm x y=true->fl x=fl y->x=y
 |.int _,y,h,e=>by cases y <;> simp[sm]at h;simp[fl]at e;rw[e]
 |.tuple xs,y,h,e=>by cases y <;> simp[sm]at h;simp only[fl]at e;rw[Id _ _ h e]
 |.none,y,h,e=>by simp[sm]at h
 |.bool _,y,h,e=>by simp[sm]at h
 |.str _,y,h,e=>by simp[sm]at h
 |.list _,y,h,e=>by simp[sm]at h
 |.dict _,y,h,e=>by simp[sm]at h
theorem Id:∀(xs ys:List PyData),smA xs ys=true->flA xs=flA ys->xs=ys
 |[],ys,h,e=>by cases ys <;> simp[smA]at h;rfl
 |x:: xs,ys,h,e=>by
  cases ys <;> simp[smA]at h;simp only[flA]at e;obtain⟨e1,a⟩:=List.append_inj e (bW _ _ h.1);rw[Ck _ _ h.1 e1,Id _ _ h.2 a]
end
def lx(a b:LI'):Bool:=decide (a<b)
theorem Cj:∀(a l1 l2:LI'),lx (a++l1) (a++l2)=lx l1 l2
 |[],_,_=>rfl
 |x:: a,l1,l2=>by
  rw[←Cj a l1 l2]
  refine decide_eq_decide.mpr ?_
  simp[List.cons_lt_cons_iff]
theorem Ci:∀(a b l1 l2:LI'),a.length=b.length->a≠b->lx (a++l1) (b++l2)=lx a b
 |[],[],_,_,_,h=>absurd rfl h
 |[],_:: _,_,_,h,_=>by simp at h
 |_:: _,[],_,_,h,_=>by simp at h
 |x:: a,y:: b,l1,l2,h,c=>by
  refine decide_eq_decide.mpr ?_
  simp only[List.cons_append,List.cons_lt_cons_iff]
  by_cases e:x=y
  ·subst e;have:=decide_eq_decide.mp (Ci a b l1 l2 (by simpa using h) (by simpa using c));rw[this]
  ·simp[e]
section
variable {prog:Program} {w:World} {E:VP}
theorem eqT{n:Nat}(i:n<=4){A:Around}{s:Shared}{v u:Value}{x y:PyData}{as bs:LA}{Q:Bool->Shared->Prop}(g:tT n x=true)(c:tT n y=true)(f:Reads s.heap v x as)(d:Reads s.heap u y bs)(j:A.units+8<cLine)(h:Q (decide (x=y)) s):wpAny (model prog w) A (eqBool v u) Q E s:=by
 have a:=fB n _ g;have b:=fB n _ c;have l1:=iV n _ a;have l2:=iV n _ b;refine PySem.SeqAt.eqBoolOverData _ _ _ _ _ _ _ _ _ _ _ _ f d l1.1 l2.1 ⋯ ?_;rw[←SeqAt.same_eq_eqv _ _ (Bo n _ _ a b)];have e:=Bn n _ _ a b
 by_cases z:x=y
 ·rw[zK z]at h;rw[e.mpr z];exact h
 ·rw[zI z]at h;have:same x y=false:=by
   cases q:same x y with
   |false=>rfl
   |true=>exact absurd (e.mp q) z
  rw[this];exact h
theorem ltT:∀(n:Nat),n<=4->∀{A:Around}{s:Shared}{v u:Value}{x y:PyData}{as bs:LA}{Q:VP},tT n x=true->tT n y=true->sm x y=true->Reads s.heap v x as->Reads s.heap u y bs->A.units+8+n<cLine->Q (.bool (lx (fl x) (fl y))) s->wpAny (model prog w) A (richCompare .Lt v u) Q E s:=by
 intro n
 induction n with
 |zero =>
  intro a8 A s v u x y as bs Q G I D f d a4 h;cases f <;> simp[tT]at G;cases d <;> simp[tT]at I;refine wpAny_lt_int ?_;simpa [fl,lx,uS]using h
 | succ n a7 =>
  intro a8 A s v u x y as bs Q G I D f d a4 h;cases f <;> simp only[tT,Bool.false_eq_true]at G
  case int =>
   cases d <;> simp only[sm,Bool.false_eq_true]at D;refine wpAny_lt_int ?_;simpa [fl,lx,uS]using h
  case tuple a o vs m xs hg hc hd hr =>
   cases d <;> simp only[sm,Bool.false_eq_true]at D;rename_i b a6 us b3 ys O a1 Y a2;simp only[tT]at I;have S:s.TypeIs (.ref a) "tuple" := ⟨o,hg,hc⟩;have R:s.TypeIs (.ref b) "tuple" := ⟨a6,O,a1⟩;refine wpAny_richCompare_same_room (op:=.Lt) S R PySem.F.slot_tuple_lt (xX PySem.F.slot_tuple_lt S PySem.F.entry_tuple_lt ?_ (PySem.F.args_tuple_lt_2 _ _)) ⋯;show wpAny _ _ (isInstance (.ref b) (.type "tuple") >>= _) _ _ s;refine zA (uE R isSubtype_tuple_tuple ?_);simp only[Bool.not_true,Bool.false_eq_true,if_false];refine zA (qM hg hd ?_);refine zA (qM O Y ?_);refine zA ?_;refine wpAny_forIn_list _
    (λrest r l=>r.1=none/\l=s/\∃g i z t N J,rest=List.zip z t/\ReadsAll s.heap z g N/\ReadsAll s.heap t i J/\g.all (tT n)=true/\i.all (tT n)=true/\smA g i=true/\lx (flA g) (flA i)=lx (flA xs) (flA ys)/\(z.length+us.size=t.length+vs.size))
    _ ?_ ?_ _ _ ⟨rfl,rfl,xs,ys,vs.toList,us.toList,_,_,rfl,hr,a2,G,I,D,rfl,by simp;omega⟩
   ·rintro⟨p,q⟩ rest r l ⟨K,rfl,g,i,z,t,N,J,C,L,F,k,tb,c,j,M⟩;cases L with
    |nil=>simp at C
    | @cons b4 a9 d' V b9 b8 f Z =>
     cases F with
     |nil=>simp[smA]at c
     |@cons b7 T P a5 b1 b6 d b0 =>
      simp only[List.zip_cons_cons,List.cons.injEq,Prod.mk.injEq]at C;obtain⟨⟨rfl,rfl⟩,rfl⟩:=C;rw[xF,zQ]at k tb;simp only[smA,Bool.and_eq_true]at c;refine zA (eqT (n:=n) ⋯ k.1 tb.1 f d (by show A.units+1+8<cLine;omega) ?_)
      by_cases e:d'=P
      ·subst e;rw[zK rfl];simp only[Bool.not_true,Bool.false_eq_true,if_false];refine zB ⟨rfl,rfl,V,a5,a9,T,_,_,rfl,Z,b0,k.2,tb.2,c.2,?_,by simp at M;omega⟩;rw[←j];simp only[flA];rw[Cj]
      ·rw[zI e];simp only[Bool.not_false,if_true];have a0:fl d'≠fl P:=λq=>e (Ck _ _ c.1 q);simp only[flA]at j;rw[Ci _ _ _ _ (bW _ _ c.1) a0]at j;refine zA (wM ?_);refine zA (a7 ⋯ k.1 tb.1 c.1 f d (by show A.units+1+8+n<cLine;omega) ?_);rw[j];exact zA (zB (zB (zB ⟨_,rfl,(λe=>nomatch e),h⟩)))
   ·rintro⟨f,d⟩ l ⟨K,rfl,g,i,z,t,N,J,C,L,F,k,tb,c,j,M⟩;simp only at K;subst K;cases L with
    |cons b5 b2 =>
     cases F with
     |nil=>simp[smA]at c
     |cons a3 X=>simp at C
    | nil =>
     cases F with
     |cons a3 X=>simp[smA]at c
     |nil =>
      have U:vs.size=us.size:=by simp at M;omega
      have W:lx (flA xs) (flA ys)=false:=by rw[←j];simp[flA,lx]
      refine zB ⟨_,rfl,(λe=>nomatch e),?_⟩;show Q (.bool (decide (vs.size<us.size))) l;have h':Q (.bool (lx (flA xs) (flA ys))) l:=h;rw[W]at h';rw[U,zI (yR _)];exact h'
end
mutual
theorem Ic:∀(d x y:PyData),sm d x=true->sm d y=true->sm x y=true
 |.int _,x,y,a,b=>by cases x <;> simp[sm]at a;cases y <;> simp[sm]at b;simp[sm]
 |.tuple xs,x,y,a,b=>by cases x <;> simp[sm]at a;cases y <;> simp[sm]at b;simp only[sm];exact Ib _ _ _ a b
 |.none,x,y,a,b=>by simp[sm]at a
 |.bool _,x,y,a,b=>by simp[sm]at a
 |.str _,x,y,a,b=>by simp[sm]at a
 |.list _,x,y,a,b=>by simp[sm]at a
 |.dict _,x,y,a,b=>by simp[sm]at a
theorem Ib:∀(d x y:List PyData),smA d x=true->smA d y=true->smA x y=true
 |[],x,y,a,b=>by cases x <;> simp[smA]at a;cases y <;> simp[smA]at b;simp[smA]
 |d:: ds,x,y,a,b=>by
  cases x <;> simp[smA]at a;cases y <;> simp[smA]at b;simp only[smA,Bool.and_eq_true];exact⟨Ic _ _ _ a.1 b.1,Ib _ _ _ a.2 b.2⟩
end
theorem Uo(a:LI'):lx a a=false:=zI (List.lt_irrefl a)
theorem Um(a b c:LI')(d:lx a b=true)(e:lx b c=true):lx a c=true:=zK (List.lt_trans (wX d) (wX e))
theorem Ul(a b:LI')(c:lx a b=false)(d:lx b a=false):a=b:=List.le_antisymm (oY.mp (tY d)) (oY.mp (tY c))
theorem Uk(a b c:LI')(h:lx a c=true):lx a b=true\/lx b c=true:=by
 cases h1:lx a b with
 |true=>exact .inl rfl
 | false =>
  refine .inr ?_;cases h2:lx b c with
  |true=>rfl
  |false =>
   have e1:b<=a:=oY.mp (tY h1);have d:c<=b:=oY.mp (tY h2);exact absurd (wX h) (oY.mpr (List.le_trans d e1))
open Classical in
def keyT(h:Heap)(d0:PyData)(v:Value):Option (LI'):=if q:∃d,tT 4 d=true/\sm d0 d=true/\∃as,Reads h v d as then some (fl q.choose) else none
theorem Ia{h:Heap}{d0 d:PyData}{v:Value}{as:LA}(t:tT 4 d=true)(z:sm d0 d=true)(r:Reads h v d as):keyT h d0 v=some (fl d):=by
 have q:∃d,tT 4 d=true/\sm d0 d=true/\∃as,Reads h v d as:=⟨d,t,z,as,r⟩;unfold keyT;rw[dif_pos q];obtain⟨t',b,c,a⟩:=q.choose_spec;rw[PySem.SeqAt.Reads.unique _ _ _ _ _ (iV 4 _ (fB 4 _ t')).1 a r]
theorem Jz{h:Heap}{d0:PyData}{v:Value}{a:LI'}(e:keyT h d0 v=some a):∃d as,tT 4 d=true/\sm d0 d=true/\Reads h v d as/\a=fl d:=by
 unfold keyT at e
 by_cases q:∃d,tT 4 d=true/\sm d0 d=true/\∃as,Reads h v d as
 ·rw[dif_pos q]at e;obtain⟨t',b,c,f⟩:=q.choose_spec;exact⟨_,c,t',b,f,by cases e;rfl⟩
 ·rw[dif_neg q]at e;cases e
def eK(h:Heap)(d0:PyData):PyProof.Rows.KeyKind where
 α:=LI'
 blt:=lx
 irrefl:=Uo
 trans:=Um
 negTrans:=Uk
 total:=Ul
 keyOf:=keyT h d0
 dflt:=[]
section
variable {prog:Program} {w:World} {A:Around} {s:Shared}
theorem katT(t:A.units+16<cLine){Q:Bool->Shared->Prop}:∀(c a:List PyData)(j g:LW)(n m:LA)(i:Nat),ReadsAll s.heap j c n->ReadsAll s.heap g a m->c.all (tT 3)=true->a.all (tT 3)=true->smA c a=true->Q (lx (flA c) (flA a)) s->PySem.W.KatLex prog w A false false Q (j.zip g) i s
 | [],a,j,g,n,m,i,l,k,_,_,b,h=>by
  cases l;cases a with
  |cons _ _=>simp[smA]at b
  |nil =>
   cases k;refine PySem.W.kat_nil ?_;simpa [flA,lx]using h
 | d :: c,a,j,g,n,m,i,l,k,f,tb,b,h=>by
  cases a with
  |nil=>simp[smA]at b
  | cons e a =>
   cases l with
   | cons o u =>
    cases k with
    |cons p r =>
     rw[xF,zQ]at f tb;simp only[smA,Bool.and_eq_true]at b;rw[qP];refine PySem.W.kat_cons (eqT (n:=3) ⋯ f.1 tb.1 o p ⋯ ?_);simp only[flA]at h
     by_cases z:d=e
     ·subst z;rw[zK rfl];rw[Cj]at h;exact PySem.W.kat_yes (katT t c a _ _ _ _ (i+1) u r f.2 tb.2 b.2 h)
     ·rw[zI z];rw[Ci _ _ _ _ (bW _ _ b.1) λq=>z (Ck _ _ b.1 q)]at h;refine PySem.W.kat_no ?_;show wpAny (model prog w) A (oneLt' false _ _) Q _ s;exact PySem.W.kat_one _ _ (ltT 3 ⋯ f.1 tb.1 b.1 o p ⋯ h)
theorem cmpT(F:A.units+16<cLine){d0:PyData}(f:∃l,d0=.tuple l):Cmp prog w A s (eK s.heap d0) (tuples' false):=by
 intro E x y a b Q t u h;obtain⟨l,rfl⟩:=f;obtain⟨d,as,j,p,k,rfl⟩:=Jz t;obtain⟨e,bs,n,q,g,rfl⟩:=Jz u;have z:=Ic _ _ _ p q;cases k <;> simp only[sm,Bool.false_eq_true]at p
 case tuple a o vs m xs hg hc f hr =>
  cases g <;> simp only[sm,Bool.false_eq_true]at q;rename_i b G us J ys D I C i;simp only[tT]at j n;simp only[sm]at z;have hl:vs.size=us.size:=by
   have e1:∀{h:Heap}{vs:LW}{xs:List PyData}{as:LA},ReadsAll h vs xs as->vs.length=xs.length:=by
    intro h vs xs as r
    induction xs generalizing vs as with
    |nil=>cases r;rfl
    |cons x xs c=>cases r with|cons k g=>simp[c g]
   have v:∀{xs ys:List PyData},smA xs ys=true->xs.length=ys.length:=by
    intro xs
    induction xs with
    |nil=>intro ys h;cases ys <;> simp[smA]at h;rfl
    |cons x xs c=>intro ys h;cases ys <;> simp[smA]at h;simp[c h.2]
   have:=e1 hr;have:=e1 i;have:=v z;simp only[Array.length_toList]at*
   omega
  refine PySem.W.kat_lt hg f D C ?_;rw[zI ⋯];exact katT F xs ys _ _ _ _ 0 hr i j n z h
end
theorem Cg{h h':Heap}(g:∀b o,h.get? b=some o->o.cls=.type "tuple" -> h'.get? b=some o):∀(n:Nat){v:Value}{d:PyData}{as:LA},tT n d=true->Reads h v d as->Reads h' v d as:=by
 intro n
 induction n with
 |zero =>
  intro v d as c r;cases r <;> simp[tT]at c;exact .int _ _
 | succ n e =>
  have all:∀(xs:List PyData)(vs:LW)(as:LA),xs.all (tT n)=true->ReadsAll h vs xs as->ReadsAll h' vs xs as:=by
   intro xs
   induction xs with
   |nil=>intro vs as _ r;cases r;exact .nil
   | cons d ds f =>
    intro vs as c r;cases r with
    |cons j i =>
     rw[xF,zQ]at c;exact .cons (e c.1 j) (f _ _ c.2 i)
  intro v d as c r;cases r <;> simp only[tT,Bool.false_eq_true]at c
  case int=>exact .int _ _
  case tuple a o vs k xs hg hc hdd hr=>exact .tuple (g _ _ hg hc) hc hdd (all _ _ _ c hr)
theorem Paired.perm{g f:Type}{i:g->f->Prop}{ys j:List f}(p:ys.Perm j):∀{xs:List g},Paired i xs ys->∃e,e.Perm xs/\Paired i e j:=by
 induction p with
 |nil=>intro xs h;exact⟨xs,List.Perm.refl _,h⟩
 | cons x p w =>
  intro xs h;cases h with
  |@cons a b l1 l2 c d =>
   obtain⟨e,r,h'⟩:=w d;exact⟨a:: e,r.cons _,.cons c h'⟩
 | swap x y l =>
  intro xs h;cases h with
  |@cons a b l1 l2 c d =>
   cases d with
   |@cons k I z F q u=>exact⟨k:: a:: z,List.Perm.swap ..,.cons q (.cons c u)⟩
 |trans C G n m =>
  intro xs h;obtain⟨D,o,c⟩:=n h;obtain⟨v,t,d⟩:=m c;exact⟨v,t.trans o,d⟩
theorem Paired.mem{d b:Type}{c:d->b->Prop}{xs:List d}{ys:List b}(h:Paired c xs ys):∀x∈xs,∃y∈ys,c x y:=by
 induction h with
 |nil=>intro x a;cases a
 |cons i j f =>
  intro x a;rcases xC.mp a with e|a
  ·subst e;exact⟨_,.head _,i⟩
  ·obtain⟨y,g,q⟩:=f x a;exact⟨y,.tail _ g,q⟩
theorem ord_of{κ:PyProof.Rows.KeyKind}{d:Type}{g:d->Value->Prop}{k:d->κ.α}(a:∀p v,g p v->κ.keyOf v=some (k p)):∀(L:List Keyed)(ps:List d),(∀e∈L,e.1=e.2)->L.Pairwise (le' κ)->Paired g ps (L.map (·.2))->ps.Pairwise λp q=>κ.blt (k q) (k p)=false
 |[],ps,_,_,h=>by cases h;exact .nil
 | e:: L,ps,f,c,h=>by
  cases h with
  |@cons p b l1 l2 r m =>
   rw[List.pairwise_cons]at c;refine .cons (λq n=>?_) (ord_of a L l1 (λx o=>f x (.tail _ o)) c.2 m);obtain⟨v,u,t⟩:=Paired.mem m q n;obtain⟨y,i,rfl⟩:=oR.mp u;have l:=c.1 y i;have k1:ky κ e=k p:=by unfold ky;rw[f e (.head _),a _ _ r];rfl
   have k2:ky κ y=k q:=by unfold ky;rw[f y (.tail _ i),a _ _ t];rfl
   have j:κ.blt (ky κ y) (ky κ e)=false:=l;rw[k1,k2]at j;exact j
structure TV(K:Frag)(H:Hp)(d0:PyData)(p:V×PyData)(v:Value):Prop where
 r:RelV p.1 v
 t:tT 4 p.2=true
 z:sm d0 p.2=true
 d:Dt K H p.1 p.2
theorem TV.vals{K:Frag}{H:Hp}{d0:PyData}{ps:List (V×PyData)}{vs:LW}(h:Paired (TV K H d0) ps vs):Vals (ps.map (·.1)) vs:=by
 induction h with
 |nil=>exact .nil
 |cons a _ b=>exact .cons a.r b
theorem Cf:∀{vs:LW}{e:Keyed},e∈vs.zip vs->e.1=e.2
 |[],e,h=>by cases h
 |v:: vs,e,h=>by
  rw[qP]at h;rcases xC.mp h with h|h
  ·rw[h]
  ·exact Cf h
theorem lV{b a:Type}{d:b->a->Prop}{xs:List b}{ys:List a}(h:Paired d xs ys):xs.length=ys.length:=by
 induction h with
 |nil=>rfl
 |cons _ _ c=>simp[c]
theorem Ce{d b:Type}{c:d->b->Prop}{xs:List d}{ys:List b}(h:Paired c xs ys):∀y∈ys,∃x∈xs,c x y:=by
 induction h with
 |nil=>intro x a;cases a
 |cons i j f =>
  intro x a;rcases xC.mp a with e|a
  ·subst e;exact⟨_,.head _,i⟩
  ·obtain⟨y,g,q⟩:=f x a;exact⟨y,.tail _ g,q⟩
theorem Uj{l:List Keyed}{n:Nat}(h:l.length=n):seg l 0 n=l:=by
 unfold seg;rw[List.drop_zero,Nat.sub_zero,wF ⋯]
section
variable {X:Cx} {pins:PN} {σ:St} {H:Hp} {s:Shared} {a:Addr} {A:Around} {E:VP} {vs:LW} {ps:List (V×PyData)} {n0:Nat} {R:VP} {d0:PyData} {l0 l1:List PyData}
theorem Ui(a9:dX X.prog X.w vs.length)(c1:A.units+16<cLine)(I:Inv X pins σ H s)(c4:FpOk X pins H a)(F:s.heap.get? a=some (seqObj "list" vs.toArray n0))(Z:vs.length<=sizeLine)(a1:d0=.tuple (.tuple l1:: l0))(y:Paired (TV X.K H d0) ps vs)
  (h:∀(n:List (V×PyData)) H' J,Inv X pins σ H' J->Same H H'->H' a=some (.lst (n.map (·.1)))->n.Perm ps->n.Pairwise (λp q=>lx (fl q.2) (fl p.2)=false)->R .none J):
  wpAny (model X.prog X.w) A (Builtin.«list.sort» ⟨[.ref a],[]⟩) (λN J=>∃v,N=.done (.ret v)/\R v J) E s:=by
 obtain⟨P,O,d1,a4,a5,a6⟩:=c4;rw[list_sort_plain];have d3:a<s.heap.objs.size:=zJ F;refine zA (listItems_at F rfl ?_);refine zA (listUpdate_at F rfl ?_ (by rw[yB];exact Z) (zZ _));obtain⟨e1,a3⟩:∃e1,(s.heap.update a (Obj.mapSeq λ_=>(#[]:Array Value))).get? a=some (seqObj "list" #[] e1):=⟨_,get?_update_seq F (λ_=>#[])⟩;have c5:=vF s.heap a (Obj.mapSeq λ_=>(#[]:Array Value));have b4:Inv X pins σ H {s with heap:=s.heap.update a (Obj.mapSeq λ_=>(#[]:Array Value)),toks:=s.toks}:=I.turned (λb o j q=>(c5.2 b j).trans q) P O a4 a5 a6;refine zA (seqEpoch_at a3 rfl ?_);refine zA (oA ?_ Z);refine zA (wpAny_newList ?_ (zZ _));refine yL ?_;have L:(((s.heap.update a (Obj.mapSeq λ_=>(#[]:Array Value))).push (seqObj "tuple" vs.toArray 0)).push (seqObj "list" #[] 0)).get? a=some (seqObj "list" #[] e1):=zC _ (zC _ a3);have D:Inv X pins σ H {s with heap:=((s.heap.update a (Obj.mapSeq λ_=>(#[]:Array Value))).push (seqObj "tuple" vs.toArray 0)).push (seqObj "list" #[] 0),toks:=s.toks}:=b4.kept λb o q=>zC _ (zC _ q);show wpAny (model X.prog X.w) A _ _ E {s with heap:=((s.heap.update a (Obj.mapSeq λ_=>(#[]:Array Value))).push (seqObj "tuple" vs.toArray 0)).push (seqObj "list" #[] 0),toks:=s.toks};generalize ((s.heap.update a (Obj.mapSeq λ_=>(#[]:Array Value))).push (seqObj "tuple" vs.toArray 0)).push (seqObj "list" #[] 0)=f at*
 dsimp only;have N:∀d:SortSt,(arrOf d).Perm (pairsOf vs)->Srt (eK f d0) (arrOf d).toList->R .none {s with heap:=f.update a (Obj.mapSeq λ_=>(arrOf d).map (·.2))}:=by
  intro d M a7;have pl:(arrOf d).toList.Perm (vs.zip vs):=by rw[←pairsOf_toList];exact Array.perm_iff_toList_perm.mp M
  have Y:∀e∈(arrOf d).toList,e.1=e.2:=λe Y=>Cf (pl.mem_iff.mp Y);have c8:vs.Perm ((arrOf d).toList.map (·.2)):=by
   have:=(pl.map (·.2)).symm;rw[List.map_snd_zip (zG _)]at this;exact this
  obtain⟨n,a0,a2⟩:=Paired.perm c8 y;have c2:∀p v,TV X.K H d0 p v->(eK f d0).keyOf v=some (fl p.2):=λp v i=>by
   obtain⟨as,r⟩:=i.d.reads D i.r;exact Ia i.t i.z r
  have b1:=ord_of (κ:=eK f d0) (k:=λp:V×PyData=>fl p.2) c2 _ n Y a7 a2;have b5:((arrOf d).map (·.2)).toList=(arrOf d).toList.map (·.2):=Array.toList_map ..;generalize (arrOf d).map (·.2)=out at*
  have G:=vF f a (Obj.mapSeq λ_=>out);obtain⟨U,T⟩:∃U,(f.update a (Obj.mapSeq λ_=>out)).get? a=some (seqObj "list" (out) U):=⟨_,get?_update_seq L λ_=>out⟩;generalize f.update a (Obj.mapSeq λ_=>out)=b6 at*
  refine h n (upd H a (.lst (n.map (·.1)))) _ ?_ ?_ nK a0 b1
  ·have C:∀b u,H b=some u->b≠a:=λb u e z=>by rw[z,P]at e;cases e
   refine Inv.step (s:={s with heap:=f,toks:=s.toks}) (h':=b6) (H':=upd H a (.lst (n.map (·.1)))) (I:=D) (g':=s.gens) (d':=s.drawn) (t':=s.toks) (ch:=[a]) (λb j=>?_) (λb o _ _ g e _=>(G.2 b (λz=>g (by simp[z]))).trans e) (λb o _ _ g e _=>⟨o.slots,(G.2 b (λz=>g (by simp[z]))).trans e⟩)
    (λb o g e q=>by rw[nN (λz=>g (by simp[z]))];exact q) (λb o g e=>⟨o,(G.2 b (λz=>g (by simp[z]))).trans e⟩) (λb xs e=>by rw[nN (C _ _ e)];exact e) (λb o u e=>by rw[nN (C _ _ e)];exact e)
    (λb ps e=>⟨#[],by rw[nN (C _ _ e),e];simp⟩) (λm S=>?_) (λb u e=>?_) D.bare
   ·have e:b=a:=by simpa using j
    subst e;exact⟨a4,O,a5,a6⟩
   ·obtain⟨o,es,ep,F,r⟩:=S;exact⟨o,es,ep,(G.2 _ (yI O)).trans F,r⟩
   ·by_cases j:b=a
    ·subst j;rw[nK]at e;cases e;refine⟨?_,(arrOf d).toList.map (·.2),U,TV.vals a2,by rw[T,←b5]⟩;rw[yX,a0.length_eq,lV y];exact Z
    ·rw[nN j]at e;refine(D.hok b u e).stay (λc v g q=>(G.2 c ?_).trans q) (λc q=>by rw[nN (C _ _ q)];exact q) λc xs q=>by rw[nN (C _ _ q)];exact q
     rcases g with z|z
     ·rw[z];exact j
     ·exact C c _ z
  ·intro b u q;rw[nN (λz=>by rw[z,P]at q;cases q)];exact q
 have hsz:vs.toArray.size=vs.length:=by simp
 by_cases w:vs.toArray.size<2
 ·rw[zE w,zE w];refine zA (zB ?_);rw[StateT.run_pure];refine zA (zB ?_);dsimp only;refine zA (seqEpoch_at L rfl ?_);refine zA (listUpdate_at L rfl ?_ (zZ _) (by rw[Array.size_map];show(pairsOf vs).size<=_;rw[pairsOf_size];omega));simp only[bne_self_eq_false,Bool.false_eq_true,if_false];refine zB ⟨_,rfl,N (SortSt.mk' general' (vs.toArray.zip vs.toArray) #[] 7 none) (Array.Perm.refl _) ?_⟩;show Srt _ (pairsOf vs).toList;rw[pairsOf_toList]
  match vs,hsz,w with
  |[],_,_=>exact .nil
  |[_],_,_=>exact .cons (λ_ h=>nomatch h) .nil
  |_:: _:: _,_,w=>simp at w;omega
 ·rw [zD w,zD w];have b0:∀{ps:List (V×PyData)}{vs:LW},Paired (TV X.K H d0) ps vs->∃fs,PySem.W.KatTups f vs fs/\fs.length=vs.length/\∀v∈fs,∃b o,v=.ref b/\f.get? b=some o/\o.cls=.type "tuple" := by
   intro ps vs y
   induction y with
   |nil=>exact⟨[],PySem.W.KatTups.nil,rfl,λ_ h=>nomatch h⟩
   | @cons p v ps vs i _ c6 =>
    obtain⟨fs,k,l,t⟩:=c6;obtain⟨as,r⟩:=i.d.reads D i.r;have z:=i.z;rw[a1]at z;generalize p.2=dd at*
    cases r <;> simp only[sm,Bool.false_eq_true]at z
    case tuple b o us m xs hg g hd hr =>
     cases xs with
     |nil=>simp[smA]at z
     | cons x xs =>
      simp only[smA,Bool.and_eq_true]at z;cases hr0:us.toList with
      |nil=>rw[hr0]at hr;cases hr
      | cons u d4 =>
       rw[hr0]at hr;cases hr with
       | cons c9 d5 =>
        have c7:=z.1;cases c9 <;> simp only[sm,Bool.false_eq_true]at c7
        case tuple b2 o2 us2 m2 xs2 hg2 T hd2 hr2 =>
         refine⟨.ref b2:: fs,PySem.W.KatTups.cons hg g hd ?_ k,by simp[l],λv K=>?_⟩
         ·rw[←yS,hr0];rfl
         ·rcases xC.mp K with e|K
          ·exact⟨b2,o2,e,hg2,T⟩
          ·exact t v K
  obtain⟨fs,c3,d2,b3⟩:=b0 y;refine zA (PySem.W.kat_kind (s:={s with heap:=f,toks:=s.toks}) (T:=.type "tuple") c3 ⋯ (λv K=>?_) rfl ?_)
  ·obtain⟨b,o,rfl,j,g⟩:=b3 v K;exactλA Q E s k q=>uW (T:= "tuple") ⟨o,k _ _ j,g⟩ q
  have b9:(Value.type "tuple" != Value.type "tuple")=false:=∅
  rw[b9];refine zA (zU (a9 (κ:=eK f d0) (kd:=tuples' false) (a₀:=pairsOf vs) (st:=SortSt.mk' (tuples' false) (vs.toArray.zip vs.toArray) #[] 7 none)
   (Q:=λ_ d=>(arrOf d).Perm (pairsOf vs)/\failedOf d=none/\Up (eK f d0) (arrOf d) 0 (pairsOf vs).size) (pairsOf_size _) ⋯ (cmpT (s:={s with heap:=f,toks:=s.toks}) c1 ⟨_,a1⟩) (λx W=>?_) rfl rfl rfl rfl λd _ a8 b7 b8=>⟨b7,a8,b8⟩) ?_ λ_ _ e=>e)
  ·rw[pairsOf_toList]at W;have e:=Cf W;have S:x.2∈vs:=(tP (a:=x.1) (b:=x.2) W).2;obtain⟨p,_,i⟩:=Ce y x.2 S;obtain⟨as,r⟩:=i.d.reads D i.r;exact⟨fl p.2,by rw[e];exact Ia i.t i.z r⟩
  rintro⟨⟨⟩,d⟩ J ⟨rfl,M,c0,up⟩;dsimp only;refine zA (seqEpoch_at L rfl ?_);refine zA (listUpdate_at L rfl ?_ (zZ _) (by refine yH (rW ((Array.size_map ..).trans (M.size_eq.trans (pairsOf_size _)))) ?_;omega));rw[c0];simp only[bne_self_eq_false,Bool.false_eq_true,if_false];refine zB ⟨_,rfl,N d M ?_⟩;have:=Cn up
  rwa[Uj (by rw[zP];exact M.size_eq)]at this
end
abbrev Asc(ps:List (V×PyData)):Prop:=ps.Pairwise λp q=>lx (fl q.2) (fl p.2)=false
section
variable {X:Cx} {pins:PN} {σ:St} {H:Hp} {s:Shared} {d0:PyData} {l0 l1:List PyData}
theorem Uh{N:Nat}(j:∀n,n<=N->dX X.prog X.w n)(z:X.A.units+64<cLine){ps:List (V×PyData)}{its:LW}{v:Value}{Q:VK}(g:its.length<=sizeLine)(w:its.length<=N)(t:d0=.tuple (.tuple l1:: l0))(u:Paired (TV X.K H d0) ps its)
  (x:∀(i:LW->Shared->Prop)(r:VP),(∀a,Inv X pins σ H a->i its a)->wpAny (model X.prog X.w) X.A.in1 (collect v) i r s)
  (h:∀q(c:List (V×PyData)) H',Same H H'->H q=none->H' q=some (.lst (c.map (·.1)))->c.Perm ps->Asc c->Q (.ref q) H'):
  wpAny (model X.prog X.w) X.A (call (.builtin "sorted") [v]) (EP X pins σ Q) X.xe s:=by
 refine Calls.call_function_entry kind_sorted plain_sorted entry_sorted (args_sorted1 _) ?_;unfold Builtin.«sorted»;refine zA (m:=checkCount "sorted" 1 1 _) (zB ?_);refine zA (x _ _ λa I=>?_);refine zA (wpAny_newList ?_ g);have d:(a.heap.push (seqObj "list" its.toArray 0)).get? a.heap.objs.size=some (seqObj "list" its.toArray 0):=zS _ rfl;have f:H a.heap.objs.size=none:=I.hok.fresh (zG _);have m:=I.fpOk (zG _) f;have l:Inv X pins σ H {a with heap:=a.heap.push (seqObj "list" its.toArray 0),toks:=a.toks}:=I.kept λb o q=>zC _ q;refine zA (yL (xX slot_list_sort ⟨_,d,rfl⟩ entry_list_sort ?body (args_list_sort _)));show wpAny (model X.prog X.w) X.A.in1.in1 (Builtin.«list.sort» ⟨[.ref a.heap.objs.size],[]⟩) _ _ {a with heap:=a.heap.push (seqObj "list" its.toArray 0),toks:=a.toks};refine Ui (j _ w) (A:=X.A.in1.in1) (by show X.A.units+1+1+16<cLine;omega) l m d g t u λc H' y k sm e p o=>?_;exact zB ⟨_,rfl,.ref a.heap.objs.size,H',k,rfl,h _ c H' sm f e p o⟩
end
def RawD(h:Heap)(d:Addr)(es:Array DictEntry)(ep:Nat):Prop:=∃o,h.get? d=some o/\o.ExactDict/\o.data=.dict es ep
theorem RawD.at{h h':Heap}{d:Addr}{es:Array DictEntry}{ep:Nat}(x:RawD h d es ep)(e:∀o,h.get? d=some o->h'.get? d=some o):RawD h' d es ep:=let ⟨o,a,r⟩:=x;⟨o,e _ a,r⟩
section
variable {prog:Program} {w:World} {A:Around} {E:VP} {s:Shared} {d it:Addr} {es:Array DictEntry} {ep i:Nat}
theorem RawD.typeIs(x:RawD s.heap d es ep):s.TypeIs (.ref d) "dict" := let ⟨o,b,a,_⟩:=x;⟨o,b,a.1⟩
theorem Ug{Q:VP}(f:(d == sysModules)=false)(b:RawD s.heap d es ep)
  (g:Q (.ref s.heap.objs.size) {s with heap:=s.heap.push {cls:=.type "dict_keyiterator",data:=.fields #[.ref d,.int 0 0,.int es.size 0,.int ep 0]}}):wpAny (model prog w) A (pyIter (.ref d)) Q E s:=by
 obtain⟨o,e,j,c⟩:=id b;have a:=b.typeIs;refine wpAny_pyIter_slot a PySem.F.slot_dict_iter (xX PySem.F.slot_dict_iter a PySem.F.entry_dict_iter ?_ (PySem.F.args_dict_iter_1 _));unfold Builtin.«dict.__iter__»;refine zA ?_;unfold Builtin.Dict.dictSlotNone;refine zA (wpAny_notOrdered_dict a ?_);show wpAny _ _ (pure (Value.ref d)) _ _ s;refine zB ?_;show wpAny _ _ (Builtin.Dict.showsAll d >>= _) _ _ s;unfold Builtin.Dict.showsAll;rw[zD (by rw[f];exact zR)];refine zA (zB ?_);refine zA (pF e c ?_);refine zA (pO e c ?_);exact zA (xB (zB ⟨_,rfl,"dict_keyiterator",_,⟨_,zS _ rfl,rfl⟩,PySem.F.slot_dict_keyiterator_next.lookup,g⟩))
theorem Uf{Q:Option Value->Shared->Prop}(a:s.heap.IsKeyIter it d i es.size ep)(j:RawD s.heap d es ep)(hi:i<es.size)
  (m:∀h',h'.IsKeyIter it d (i+1) es.size ep->Heap.SameBut it s.heap h'->Q (some es[i].key) {s with heap:=h'}):wpAny (model prog w) A (pyNext (.ref it)) Q E s:=by
 obtain⟨o,c,l,b⟩:=id a;obtain⟨p,e,n,f⟩:=id j;unfold pyNext;refine zA (wZ (wD (name:=Str.ofString "__next__") a.typeIs wO
  (xX wO a.typeIs PySem.F.entry_dict_keyiterator_next ?_ (PySem.F.args_dict_keyiterator_next_1 _))))
 refine zA (zB ?_);refine zA ?_;refine zA ?_
 first|refine zA (vB a.typeIs (zB ?_))|refine zA (uG a.typeIs (zB ?_))
 refine zA (wpAny_fieldsOf c b ?_);have k:Builtin.Dict_items.ownsTuple "dict_keyiterator"=false:=∅
 simp only[k,Bool.false_eq_true,if_false];show wpAny _ _ (if(Value.ref d == Value.none)=true then _ else _) _ _ s;rw[zD (show¬ ((Value.ref d == Value.none)=true) from zR)];refine zA (zB ?_);refine zA (pF e f ?_);rw[zD (by simp)];refine zA (zB ?_);refine zA (pO e f ?_);rw[zD (by simp)];refine zB ?_;simp only[show¬ ((i:Int)<0) from⋯,if_false,Int.toNat_natCast,Array.getElem?_eq_getElem hi];refine zA ?_
 first|refine zA (vB a.typeIs (zB ?_))|refine zA (uG a.typeIs (zB ?_))
 refine zA (wpAny_isOneOf_keyiter a.typeIs ?_);show wpAny _ _ (setField (.ref it) 1 (rawInt ((i:Int)+1)) >>= _) _ _ s;refine zA (uT c b (by simp) ?_);have g:(s.heap.update it (Obj.mapFields (·.setIfInBounds 1 (rawInt ((i:Int)+1))))).IsKeyIter it d (i+1) es.size ep:=
  ⟨_,wH _ c (rH (vR b _)),(Obj.cls_mapFields ..).trans l,by rw[vR b];simp[rawInt]⟩
 refine zA (yL ?_);refine zA (wpAny_isOneOf_keyiter (s:={s with heap:=s.heap.update it (Obj.mapFields (·.setIfInBounds 1 (rawInt ((i:Int)+1))))}) g.typeIs ?_);show wpAny _ _ (pure es[i].key) _ _ _;exact zB (zB ⟨_,rfl,zB (m _ g (vF ..))⟩)
theorem Ue{Q:Option Value->Shared->Prop}(hh:A.handled=none)(a:s.heap.IsKeyIter it d es.size es.size ep)(g:RawD s.heap d es ep)
  (k:∀h',Heap.ExtBut it s.heap h'->Q none {s with heap:=h'}):wpAny (model prog w) A (pyNext (.ref it)) Q E s:=by
 obtain⟨o,f,m,e⟩:=id a;obtain⟨n,b,l,c⟩:=id g;unfold pyNext;refine zA (wZ (wD (name:=Str.ofString "__next__") a.typeIs wO
  (xX wO a.typeIs PySem.F.entry_dict_keyiterator_next ?_ (PySem.F.args_dict_keyiterator_next_1 _))))
 refine zA (zB ?_);refine zA ?_;refine zA ?_
 first|refine zA (vB a.typeIs (zB ?_))|refine zA (uG a.typeIs (zB ?_))
 refine zA (wpAny_fieldsOf f e ?_);have j:Builtin.Dict_items.ownsTuple "dict_keyiterator"=false:=∅
 simp only[j,Bool.false_eq_true,if_false];show wpAny _ _ (if(Value.ref d == Value.none)=true then _ else _) _ _ s;rw[zD (show¬ ((Value.ref d == Value.none)=true) from zR)];refine zA (zB ?_);refine zA (pF b c ?_);rw[zD (by simp)];refine zA (zB ?_);refine zA (pO b c ?_);rw[zD (by simp)];refine zB ?_;simp only[show¬ ((es.size:Int)<0) from⋯,if_false,Int.toNat_natCast,Array.getElem?_eq_none (Nat.le_refl _)];refine zA ?_
 first|refine zA (vB a.typeIs (zB ?_))|refine zA (uG a.typeIs (zB ?_))
 show wpAny _ _ (setField (.ref it) 0 .none >>= _) _ _ s;refine zA (uT f e (by simp) ?_);show wpAny _ _ (newExc (.type "StopIteration") [] >>= _) _ _ _;refine zA ?_;simp only[newExc,newTuple];refine zA (xB ?_ (by size_fits));refine zA (m:=firstArgMember _ _) (wpAny_of_eq (a:=Value.none) (by first|rfl|(simp only[firstArgMember];rfl)) ?_);refine xB ?_ (by size_fits);simp only[raiseNew];refine zA (wpAny_handled ?_);rw[show A.in1.handled=none from hh];refine zA (zB (wpAny_throw ?_));refine zA (uE (T:= "StopIteration") (b:=true) ⟨_,zS _ rfl,rfl⟩ pY ?_);exact zB (k _ (((vF ..).extBut.push _).push _))
theorem Ud(hh:A.handled=none)(I d:Addr)(j:d≠I)(es:Array DictEntry)(ep:Nat):
  Walks prog w A I [I,d] [I] es.size (λi v=>(es[i]?).map (·.key)=some v) (λi h=>h.IsKeyIter I d i es.size ep/\RawD h d es ep) where
 sub:=λb a=>by simp at a;simp[a]
 frame:=λ_ _ _ st g=>⟨st.1.at λo e=>g I (by simp) o e,st.2.at λo e=>g d (by simp) o e⟩
 item:=λi s Q E hi st c=>by
  refine Uf st.1 st.2 hi λh' l f=>?_;exact c _ h' s.toks (by simp[hi]) ⟨l,st.2.at λo e=>(f.2 d j).trans e⟩ λb o a e=>(f.2 b (λh=>a (by simp[h]))).trans e
 done:=λs Q E st c=>Ue hh st.1 st.2 λh' k=>c h' s.toks λb o a e=>k b o (λh=>a (by simp[h])) e
 self:=λ_ _ _ _ st c=>wpAny_pyIter_keyiter st.1 c
theorem Uc:typeLookup (.type "dict") "__len__"=pure (some (.builtin "dict.__len__")):=PySem.F.slot_dict_len.lookup
theorem Ub{Q:LW->Shared->Prop}(hh:A.handled=none)(R:(d == sysModules)=false)(c:RawD s.heap d es ep)(U:es.size<=sizeLine)
  (h:∀h' tk,(∀b o,s.heap.get? b=some o->h'.get? b=some o)->Q (es.toList.map (·.key)) {s with heap:=h',toks:=tk}):wpAny (model prog w) A (collect (.ref d)) Q E s:=by
 obtain⟨o,V,W,Y⟩:=id c;have u:@LT.lt Nat _ d s.heap.objs.size:=zJ V;unfold collect;refine zA (wpAny_runValue (tU PySem.F.entry_proto_collect ?_));rw[tG PySem.F.plain_proto_collect _];show wpAny _ A.in1 (newList [] >>= λl=>again (.builtin "list.__iadd__" ⟨[l,.ref d],[]⟩)) _ _ s;refine zA (xB ?_);refine zB ⟨qT PySem.F.plain_list_iadd _,tU PySem.F.entry_list_iadd ?_⟩;rw[tG PySem.F.plain_list_iadd _];have J:(s.heap.push {cls:=.type "list",data:=.seq ([]:LW).toArray}).get? s.heap.objs.size=some {cls:=.type "list",data:=.seq ([]:LW).toArray}:=zS _ rfl;have r:RawD (s.heap.push {cls:=.type "list",data:=.seq ([]:LW).toArray}) d es ep:=c.at λo e=>zC _ e;have k1:∀b o,s.heap.get? b=some o->(s.heap.push {cls:=.type "list",data:=.seq ([]:LW).toArray}).get? b=some o:=λb o e=>zC _ e;have t:(s.heap.push {cls:=.type "list",data:=.seq ([]:LW).toArray}).objs.size=s.heap.objs.size+1:=size_push' _ _;show wpAny _ A.in1 (Builtin.List.listExtendWith (.ref s.heap.objs.size) (.ref d) (.ref s.heap.objs.size)) _ _ {s with heap:=s.heap.push {cls:=.type "list",data:=.seq ([]:LW).toArray}};generalize s.heap.push {cls:=.type "list",data:=.seq ([]:LW).toArray}=a at*
 unfold Builtin.List.listExtendWith;refine zA (uW (s:={s with heap:=a}) (T:= "dict") (RawD.typeIs (s:={s with heap:=a}) r) ?_);have e1:Builtin.List.listSameRef (.ref s.heap.objs.size) (.ref d)=false:=by simp only[Builtin.List.listSameRef,beq_eq_false_iff_ne];exact yI (zX u)
 rw[zD (by rw[e1];decide)];refine zA (Ug (s:={s with heap:=a}) R r ?_);have n:RawD (a.push {cls:=.type "dict_keyiterator",data:=.fields #[.ref d,.int 0 0,.int es.size 0,.int ep 0]}) d es ep:=r.at λo e=>zC _ e;have K:(a.push {cls:=.type "dict_keyiterator",data:=.fields #[.ref d,.int 0 0,.int es.size 0,.int ep 0]}).IsKeyIter a.objs.size d 0 es.size ep:=⟨_,zS _ rfl,rfl,rfl⟩;have y:(a.push {cls:=.type "dict_keyiterator",data:=.fields #[.ref d,.int 0 0,.int es.size 0,.int ep 0]}).get? s.heap.objs.size=_:=zC _ J;have k2:∀b o,a.get? b=some o->(a.push {cls:=.type "dict_keyiterator",data:=.fields #[.ref d,.int 0 0,.int es.size 0,.int ep 0]}).get? b=some o:=λb o e=>zC _ e;generalize a.push {cls:=.type "dict_keyiterator",data:=.fields #[.ref d,.int 0 0,.int es.size 0,.int ep 0]}=f at*
 refine zA (yL ?_);unfold Builtin.List.listLengthHint;refine zA (wpAny_specialOf (s:={s with heap:=f}) (RawD.typeIs (s:={s with heap:=f}) n) Uc ?_);generalize hid:("dict.__len__" :String)=x
 (fail_if_success (clear hid x))
 wp_delta
 rw[show splitId x=some ("dict","__len__") from by subst hid;decide +kernel];subst hid;refine zA (uE (b:=true) (RawD.typeIs (s:={s with heap:=f}) n) (by rw[isSubtype_type];kernel_rfl) ?_);refine zA (uW (s:={s with heap:=f}) (T:= "dict") (RawD.typeIs (s:={s with heap:=f}) n) ?_);refine zB ?_;rw[zE ∅];refine zA (wM ?_);refine zA ?_;show wpAny _ A.in1 (updateSeq s.heap.objs.size (·.push .none) >>= λ_=>updateSeq s.heap.objs.size (·.pop)) _ _ _;refine zA (wpAny_updateSeq y rfl ?_);have C:=wH (Obj.mapSeq (·.push Value.none)) y rfl;refine wpAny_updateSeq C rfl ?_;have N:=wH (Obj.mapSeq (·.pop)) C rfl;have M:d≠a.objs.size:=zX (by rw[t];exact pC u);have G:s.heap.objs.size≠a.objs.size:=by rw[t];exact zX (vI _)
 have F:s.heap.objs.size≠d:=yI (zX u);have q:∀b o,b≠s.heap.objs.size->f.get? b=some o->((f.update s.heap.objs.size (Obj.mapSeq (·.push Value.none))).update s.heap.objs.size (Obj.mapSeq (·.pop))).get? b=some o:=
  λb o m e=>(vM _ _ (yI m)).trans ((vM _ _ (yI m)).trans e)
 have T:=(Ud (prog:=prog) (w:=w) (A:=A.in1) hh a.objs.size d M es ep).toS;refine zB ⟨qT PySem.F.plain_extend_loop _,codeAny_extend_loopS T U s.heap.objs.size (λc=>by rcases xC.mp c with z|z;exact G z;exact F (oQ.mp z)) _ es.size 0 _ _ _ rfl (zZ _)
  ⟨K.at λo e=>q _ _ (yI G) e,n.at λo e=>q _ _ (yI F) e⟩ N (ItemsOf.nil _) λk p X c L D=>?_⟩
 show wpAny _ A (load s.heap.objs.size >>= _) _ _ k;refine zA (wpAny_load L ?_);have O:p.toList=es.toList.map (·.key):=by
  refine List.ext_getElem? ?_
  intro j;rw[zO,yS,yS];cases hj:p[j]? with
  |some v=>exact(D.2 j v hj).symm
  |none =>
   have:p.size<=j:=Array.getElem?_eq_none_iff.mp hj;rw[sJ (by rw[←D.1];exact this)];rfl
 show wpAny _ _ (pure p.toList) Q E k;rw[O];have S:k={s with heap:=k.heap,toks:=k.toks}:=by
  obtain⟨_,g,P,I,_⟩:=c;cases k;cases g;cases P;cases I;rfl
 rw[S];refine zB (h _ _ λb o e=>c.heap b o ?_ (q b o ?_ (k2 _ _ (k1 _ _ e))))
 ·have m:@LT.lt Nat _ b s.heap.objs.size:=zJ e;intro c;rcases xC.mp c with z|z
  ·exact absurd z (zX m)
  ·rw[oQ.mp z,t]at m;exact absurd m (Nat.not_lt.mpr (uO _))
 ·exact zX (zJ e)
end
def Ua(K:Frag)(N:Nat):List V->Hp->VK->Prop:=λxs H Q=>∃(a:Addr)(kvs:List (PyData×V))(l0 l1:List PyData),xs=[.ref a]/\kvs.length<=N/\DTr K H a kvs/\(∀kv∈kvs,sm (.tuple (.tuple l1:: l0)) kv.1=true) /\
 ∀q(ps':List (V×PyData)) H',Same H H'->H q=none->H' q=some (.lst (ps'.map (·.1)))->(∀p∈ps',tT 4 p.2=true/\Dt K H p.1 p.2)->(ps'.map (·.2)).Perm (kvs.map (·.1))->Asc ps'->Q (.ref q) H'
section
variable {X:Cx}
theorem Vz{N:Nat}(K:∀n,n<=N->dX X.prog X.w n)(a0:X.A.units+64<cLine)(F:X.calm=true):lZ X (.builtin "sorted") (Ua X.K N):=by
 intro a7 s b3 H xs us Q I r h;obtain⟨a,kvs,d,l1,rfl,a9,g,c,q⟩:=h;obtain⟨u,rfl,Z⟩:=jZ r;cases Z;obtain⟨xs,e,i,dd⟩:=fY I g;obtain⟨o,es,ep,P,a2,T,j,_⟩:=id dd;have b2:=g.len;have M:RawD s.heap a es ep:=⟨o,P,a2,T⟩;have J:es.toList.map (·.key)=xs.map λx=>Value.ref x.2.1:=by rw[j,wJ];rfl
 have U:∀{kvs:List (PyData×V)}{xs:List (PyData×Addr×Value)},KP X.K H kvs xs->(∀f∈kvs,sm (.tuple (.tuple l1:: d)) f.1=true)->Paired (TV X.K H (.tuple (.tuple l1:: d))) (xs.map λx=>(V.ref x.2.1,x.1)) (xs.map λx=>Value.ref x.2.1)/\(xs.map (·.1))=kvs.map (·.1):=by
  intro kvs xs i
  induction i with
  |nil=>intro _;exact⟨.nil,rfl⟩
  |@cons p q ps a6 b t a4 =>
   intro c;obtain⟨a3,L⟩:=a4 λf S=>c f (.tail _ S);have z:=c p (.head _);rw[b.1]at z;have m:=b.2.1.1;have w:=b.2.1.2;rw[b.1]at m w;refine⟨.cons ⟨rfl,m,z,w⟩ a3,?_⟩;rw[zM,zM,L,b.1]
 obtain⟨l,y⟩:=U i c;have a8:xs.length=kvs.length:=by have:=wG List.length y;simpa using this
 have le:es.size=xs.length:=by have:=wG List.length j;simpa using this
 refine Uh K a0 (d0:=.tuple (.tuple l1:: d)) (its:=xs.map λx=>Value.ref x.2.1) (ps:=xs.map λx=>(V.ref x.2.1,x.1)) (by rw[yX];omega) (by rw[yX];omega) rfl l (λb1 b0 D=>?_) λW a1 H' Y a5 O C as=>?_
 ·refine Ub (I.ok.hd F) g.sys M ⋯ λh' tk R=>?_;rw[J];exact D _ (I.kept (t':=tk) R)
 ·refine q W a1 H' Y a5 O (λp G=>?_) ?_ as
  ·obtain⟨v,_,k⟩:=Paired.mem l p (C.mem_iff.mp G);exact⟨k.t,k.d⟩
  ·have:=C.map (·.2);rw[wJ]at this;rw[←y];exact this
end
open Sem (wp)
theorem Vy:typeLookup (.type "list") (Str.ofString "keys")=pure none:=am_miss_of_fast (by kernel_rfl)
theorem Vx:typeLookup (.type "list") "__getattr__"=pure none:=by rw[typeLookup_type,builtinLookup_eq_fast];kernel_rfl
section
variable {prog:Program} {w:World} {A:Around} {E:VP} {h:Heap} {g:Array GenState} {d:Drawn} {t:Nat} {os:OsState} {a:Addr} {o:Obj}
theorem Vw{tk:Tok}{Q:PySem.Fin->Shared->Prop}(hh:A.handled=none)(f:h.get? a=some o)(b:o.cls=.type "list")(j:o.dict=none){xs:Array Value}{n:Nat}(i:o.data=.seq xs n)(c:∀h' tk e,Heap.NewAttrErr h h' e (.ref a) (Str.ofString "keys")->E (.ref e) ⟨h',g,d,tk,os⟩):
  wpAny (model prog w) A (Builtin.«object.__getattribute__» ⟨[.ref a,.str (Str.ofString "keys") tk],[]⟩) Q E ⟨h,g,d,t,os⟩:=by
 have k:(⟨h,g,d,t,os⟩:Shared).TypeIs (.ref a) "list" := ⟨_,f,b⟩;have l:=Vy;unfold Builtin.«object.__getattribute__»
 repeat (any_goals (first|assumption|wp_step))
 rw[i];dsimp only;unfold instanceDict
 repeat (any_goals (first|assumption|wp_step))
 rw[b,j];dsimp only;simp only[Bool.not_false,Bool.true_or,if_true]
 repeat (any_goals (first|assumption|wp_step))
 exact wpAny_raiseAttrError hh c (attrMsg_fits (nofun) (by size_fits))
theorem Vv{Q:Option Value->Shared->Prop}(hh:A.handled=none)(c:h.get? a=some o)(f:o.cls=.type "list")(m:o.dict=none){xs:Array Value}{n:Nat}(l:o.data=.seq xs n)(k:∀h' tk,(∀b i,h.get? b=some i->h'.get? b=some i)->Q none ⟨h',g,d,tk,os⟩):
  wpAny (model prog w) A (getAttr? (.ref a) (Str.ofString "keys")) Q E ⟨h,g,d,t,os⟩:=by
 have j:∀t,(⟨h,g,d,t,os⟩:Shared).TypeIs (.ref a) "list" := λt=>⟨_,c,f⟩;have v:(⟨h,g,d,t+1,os⟩:Shared).TypeIs (.ref a) "list" := ⟨_,c,f⟩;have p:=sub_AttributeError;have q:=PySem.F.slot_list_getattribute.lookup;have r:=PySem.F.slot_list_getattribute.bind (.ref a);have y:=Vx;unfold getAttr? getAttrBy?;refine zA (wpAny_mkText ?_);refine zA (wZ ?_);unfold getAttrBy
 repeat (any_goals (first|assumption|((with_reducible show wpAny _ _ (call (Value.builtin "list.__getattribute__") _ _) _ _ _);refine xX PySem.F.slot_list_getattribute (j _) PySem.F.entry_list_ga (Vw hh c f m l λh' x e c=>?_) (PySem.F.args_list_getattribute_2 _ _))|wp_step))
 obtain⟨t',z,u⟩:=c.there
 repeat (any_goals (first|assumption|wp_step))
 exact k _ _ c.keeps
end
theorem bX:plainId "dict.update.loop"=true:=nofun
theorem Jy:entryFor table "dict.update.loop"=some Builtin.«dict.update.loop»:=entryFor_of_fast (by kernel_rfl)
structure Ent where
 p:Addr
 k:PyData
 b:Addr
 v:Value
def Ent.ok(h:Heap)(t:Ent):Prop:=(∃o n,h.get? t.p=some o/\o.cls=.type "tuple" /\ o.data=.seq #[.ref t.b,t.v] n)/\isT h t.k t.b
theorem Ent.up{h h':Heap}{t:Ent}(x:t.ok h)(d:∀b o,h.get? b=some o->o.cls=.type "tuple" -> h'.get? b=some o):t.ok h':=by
 obtain⟨⟨o,n,g,c,e⟩,a,as,f⟩:=x;exact⟨⟨o,n,d _ _ g c,c,e⟩,a,as,Cg d 4 a f⟩
def putP(xs:List (PyData×Addr×Value))(t:Ent):List (PyData×Addr×Value):=storedH xs t.k t.b t.v
theorem Vu(xs:List (PyData×Addr×Value))(k:PyData)(b:Addr)(v:Value):(storedH xs k b v).length<=xs.length+1:=by
 unfold storedH;split <;> simp
section
variable {prog:Program} {w:World} {A:Around} {R:Result->Shared->Prop} {d it l:Addr} {items:Array Value}
theorem Jx(hh:A.handled=none)(b0:A.units+32<cLine)(q:d≠it)(T:d≠l)(M:l≠it):
  ∀(rest:List Ent)(i:Nat)(xs:List (PyData×Addr×Value))(s:Shared),(∀j,items[i+j]?=rest[j]?.map λt=>Value.ref t.p)->s.heap.IsListIter it l i->s.heap.IsList l items->s.heap.DictOfH (kU prog w) d xs->(∀t∈rest,t.ok s.heap)->xs.length+rest.length<=sizeLine ->
  (∀h' tk,(∀b o,b≠it->b≠d->s.heap.get? b=some o->h'.get? b=some o)->h'.DictOfH (kU prog w) d (rest.foldl putP xs)->R (.ok (.ret .none)) {s with heap:=h',toks:=tk}) ->
  codeAny (model prog w) A (.builtin "dict.update.loop" ⟨[.ref d,.ref it,.int i 0,.none],[]⟩) R s
 | [],i,xs,s,p,k,hl,D,_,_,u=>by
  refine tU Jy ?_;rw[tG bX _];show wpAny _ A.in1 (pyNext (.ref it) >>= _) _ _ s;refine zA (wpAny_pyNext_list_end (i:=i) hh k hl (by simpa using p 0) λh' J=>?_);show wpAny _ _ (Builtin.Dict.addKeywords d [] >>= _) _ _ _;refine zA (zB (zB ?_));obtain⟨o,es,ep,a,F⟩:=D;exact u h' s.toks (λb o b5 _ e=>J b o b5 e) ⟨o,es,ep,J d o q a,by
   obtain⟨c,y,v,C,G⟩:=F;refine⟨c,y,v,λx I=>?_,G⟩;obtain⟨t,as,r⟩:=C x I;refine⟨t,as,Cg (λb o e f=>J b o (λz=>?_) e) 4 t r⟩;obtain⟨a1,e1,a0,_⟩:=k;rw[z,e1]at e;cases e;rw[a0]at f;simp at f⟩
 | t:: rest,i,xs,s,p,k,hl,D,a5,S,u=>by
  refine tU Jy ?_;rw[tG bX _];show wpAny _ A.in1 (pyNext (.ref it) >>= _) _ _ s;have Z:items[i]?=some (.ref t.p):=by simpa using p 0
  refine zA (wpAny_pyNext_list_item (i:=i) k hl Z λa a3 n=>?_);obtain⟨a1,a6,U,_⟩:=id k;have P:∀b o,s.heap.get? b=some o->o.cls=.type "tuple" -> a.get? b=some o:=λb o e f=>(n.2 b (λz=>by rw[z,a6]at e;cases e;rw[U]at f;simp at f)).trans e;have L:a.DictOfH (kU prog w) d xs:=by
   obtain⟨o,es,ep,g,c,y,v,C,G⟩:=D;exact⟨o,es,ep,(n.2 d q).trans g,c,y,v,λx I=>let ⟨t,as,r⟩:=C x I;⟨t,as,Cg P 4 t r⟩,G⟩
  have b4:a.IsList l items:=by
   obtain⟨o,g,c⟩:=hl;exact⟨o,(n.2 l M).trans g,c⟩
  have O:∀t'∈t:: rest,t'.ok a:=λt' K=>Ent.up (a5 t' K) P;obtain⟨⟨op,b8,N,b3,a7⟩,pk⟩:=O t (.head _);refine zA (yL ?_);have V:xs.length<=sizeLine:=by
   have:=S;simp only[List.length_cons]at this;omega
  refine zA (wpAny_tryCatch ?_);unfold Builtin.Dict.pairItems;refine zA (uW (s:={s with heap:=a}) (T:= "tuple") ⟨op,N,b3⟩ ?_);rw[zE ∅];refine zA (wN (s:={s with heap:=a}) N a7 (zB ?_));show wpAny _ A.in1 (holding [.ref t.b,t.v] (dictSet d (.ref t.b) t.v)) _ _ _;refine yL ?_;refine wpAny_dictSet_heap (knd:=kU prog w) (s:={s with heap:=a}) (hsz:=V) (show A.units+1+8<cLine by omega) pk L λF Y m=>?_;obtain⟨b9,b7,c0,a8,a9,c1,_⟩:=id L;have W:∀b o,a.get? b=some o->o.cls=.type "tuple" -> F.get? b=some o:=λb o e f=>(m.2 b (λz=>by rw[z,a8]at e;cases e;rw[a9.1]at f;simp at f)).trans e;refine zB ⟨qT bX _,?_⟩;have a2:(rawInt ((i:Int)+1))=.int ((i+1:Nat):Int) 0:=rfl;rw[a2];refine Jx hh b0 q T M rest (i+1) (storedH xs t.k t.b t.v) _ (λj=>?_) ?_ ?_ Y (λt' K=>Ent.up (O t' (.tail _ K)) W) ?_ λa4 b6 k3 X=>?_
  ·have:=p (j+1);rw[List.getElem?_cons_succ]at this;rw[←this];congr 1;omega
  ·obtain⟨o,g,c⟩:=a3;exact⟨o,(m.2 it (yI q)).trans g,c⟩
  ·obtain⟨o,g,c⟩:=b4;exact⟨o,(m.2 l (yI T)).trans g,c⟩
  ·have:=Vu xs t.k t.b t.v;have:=S;simp only[List.length_cons]at this;omega
  ·exact u a4 b6 (λb o b1 b2 e=>k3 b o b1 b2 ((m.2 b b2).trans ((n.2 b b1).trans e))) X
end
section
variable {prog:Program} {w:World} {A:Around} {E:VP} {s:Shared} {l:Addr}
theorem Vt{Q:VP}{es:List Ent}{o:Obj}{n:Nat}(hh:A.handled=none)(X:A.units+48<cLine)(c:s.heap.get? l=some o)(d:o.cls=.type "list")(W:o.dict=none)(m:o.data=.seq (es.map λt=>Value.ref t.p).toArray n)(L:∀t∈es,t.ok s.heap)(U:es.length<=sizeLine)
  (h:∀h' tk,(∀b o,s.heap.get? b=some o->h'.get? b=some o)->h'.DictOfH (kU prog w) s.heap.objs.size (es.foldl putP [])->Q (.ref s.heap.objs.size) {s with heap:=h',toks:=tk}):
  wpAny (model prog w) A (call (.type "dict") [.ref l]) Q E s:=by
 have q:@LT.lt Nat _ l s.heap.objs.size:=zJ c;refine callType_codes (Q₁:=λp v=>p=.ref s.heap.objs.size/\v={s with heap:=s.heap.push {cls:=.type "dict",data:=.dict #[]}}) PySem.F.kt_called_dict (PySem.F.kt_typeCall_dict_1 _) PySem.F.entry_dict_init (kt_code_dict_new _ ⟨rfl,rfl⟩) ?_;rintro p v ⟨rfl,rfl⟩;have k:(s.heap.push {cls:=.type "dict",data:=.dict #[]}).DictOfH (kU prog w) s.heap.objs.size []:=Heap.DictOfH.new s.heap;have k1:∀b o,s.heap.get? b=some o->(s.heap.push {cls:=.type "dict",data:=.dict #[]}).get? b=some o:=λb o e=>zC _ e;have Y:(s.heap.push {cls:=.type "dict",data:=.dict #[]}).objs.size=s.heap.objs.size+1:=size_push' _ _;generalize s.heap.push {cls:=.type "dict",data:=.dict #[]}=f at*
 have u:=Heap.DictOfH.typeIs (s:={s with heap:=f}) k;refine⟨u,PySem.F.args_dict_init_2 _ _,?_⟩;unfold Builtin.«dict.__init__»;refine zA ?_;unfold Builtin.Dict.selfAndRest;refine zA (wpAny_notOrdered_dict u ?_);show wpAny _ _ (pure (s.heap.objs.size,[Value.ref l])) _ _ _;refine zB ?_;show wpAny _ _ (Builtin.Dict.updateFrom "dict.__init__" s.heap.objs.size (.ref l) [] .none) _ _ {s with heap:=f};unfold Builtin.Dict.updateFrom;refine zA (uW (s:={s with heap:=f}) (T:= "list") ⟨o,k1 _ _ c,d⟩ ?_);rw[zE ∅];refine zA (Vv (A:=A.in1.in1) hh (k1 _ _ c) d W m λa y k2=>?_);rw[zE (by rfl)];refine zA (wM ?_);have N:a.IsList l (es.map λt=>Value.ref t.p).toArray:=⟨o,k2 _ _ (k1 _ _ c),d,n,m⟩;refine zA (uP (s:={s with heap:=a,toks:=y}) N ?_);have i:s.heap.objs.size+1<=a.objs.size:=by
  obtain⟨C,_,_,e,_⟩:=id k;exact(show @LT.lt Nat _ s.heap.objs.size a.objs.size from zJ (k2 _ _ e))
 have k3:∀b o,a.get? b=some o->(a.push {cls:=.type "list_iterator",data:=.fields #[.ref l,.int 0 0]}).get? b=some o:=λb o e=>zC _ e;have S:(a.push {cls:=.type "list_iterator",data:=.fields #[.ref l,.int 0 0]}).IsListIter a.objs.size l 0:=⟨_,zS _ rfl,rfl,rfl⟩;show wpAny _ _ _ _ _ {s with heap:=a.push {cls:=.type "list_iterator",data:=.fields #[.ref l,.int 0 0]},toks:=y};generalize a.push {cls:=.type "list_iterator",data:=.fields #[.ref l,.int 0 0]}=K at*
 have g:∀b o,s.heap.get? b=some o->K.get? b=some o:=λb o e=>k3 _ _ (k2 _ _ (k1 _ _ e));refine zA (zB ?_);refine zB ⟨qT bX _,?_⟩;refine Jx (A:=A.in1) (items:=(es.map λt=>Value.ref t.p).toArray) hh (by show A.units+1+32<cLine;omega) (zX (zL (vI _) i)) (yI (zX q)) (zX (zL (pC q) i)) es 0 [] _ (λj=>by simp) S
  ⟨o,g _ _ c,d,n,m⟩ ?_ (λt P=>Ent.up (L t P) λb o e _=>g b o e) (by simpa using U) λI G F D=>?_
 ·obtain⟨C,R,ep,e,r⟩:=id k;obtain⟨V,O,M,_,J⟩:=r;exact⟨C,R,ep,k3 _ _ (k2 _ _ e),V,O,M,λx T=>(nomatch T),J⟩
 ·refine⟨rfl,h I G (λb o e=>?_) D⟩;have z:@LT.lt Nat _ b s.heap.objs.size:=zJ e;exact F b o (zX (zL (pC z) i)) (zX z) (g _ _ e)
end
def Vs(K:Frag):List V->Hp->VK->Prop:=λxs H Q=>∃(l:Addr)(ts:List (Addr×PyData×Addr×V)),xs=[.ref l]/\SqL K H l (ts.map λt=>V.ref t.1)/\(∀t∈ts,SqT K H t.1 [.ref t.2.2.1,t.2.2.2]/\tT 4 t.2.1=true/\Dt K H (.ref t.2.2.1) t.2.1)/\(ts.map (·.2.1)).Nodup /\
 ∀D H',Same H H'->H D=none->DTr K H' D (ts.map λt=>(t.2.1,t.2.2.2))->Q (.ref D) H'
theorem Vr{kvs:List (PyData×V)}{k:PyData}(h:k∉kvs.map (·.1)):vT kvs k=none:=by
 induction kvs with
 |nil=>rfl
 |cons p r a =>
  rw[zM,xC,not_or]at h;rw[iJ (λe=>h.1 e.symm)];exact a h.2
section
variable {X:Cx}
theorem Vq(b3:X.A.units+64<cLine)(F:X.calm=true):lZ X (.type "dict") (Vs X.K):=by
 intro a8 s b5 H xs us Q I r h;obtain⟨l,ts,rfl,Z,a,a2,q⟩:=h;obtain⟨u,rfl,W⟩:=jZ r;cases W;obtain⟨its,R,⟨o,b4,e,c,a3,dd⟩,w⟩:=I.list Z;have mk:∀(ts:List (Addr×PyData×Addr×V))(its:LW),Vals (ts.map λt=>V.ref t.1) its->(∀t∈ts,SqT X.K H t.1 [.ref t.2.2.1,t.2.2.2]/\tT 4 t.2.1=true/\Dt X.K H (.ref t.2.2.1) t.2.1) ->
   ∃es:List Ent,its=es.map (λt=>Value.ref t.p)/\Paired (λt(e:Ent)=>e.k=t.2.1/\e.b=t.2.2.1/\RelV t.2.2.2 e.v/\e.ok s.heap) ts es:=by
  intro ts
  induction ts with
  |nil=>intro its r _;cases r;exact⟨[],rfl,.nil⟩
  | cons t ts m =>
   intro its r a;cases r with
   | cons a6 Y =>
    obtain⟨es,e1,f⟩:=m _ Y λx k=>a x (.tail _ k);obtain⟨d,j,i⟩:=a t (.head _);obtain⟨b2,P,⟨op,y,G,L,C⟩,_⟩:=I.tuple d;cases P with
    | cons a4 g =>
     cases g with
     |cons g rc =>
      cases rc;cases a4;cases a6;rename_i v2;refine⟨⟨t.1,t.2.1,t.2.2.1,v2⟩:: es,by rw[zM,←e1],.cons ⟨rfl,rfl,g,⟨op,L,y,G,C⟩,fD I j i⟩ f⟩
 obtain⟨es,e1,f⟩:=mk ts its R a;subst e1;have a5:ts.length=es.length:=lV f;refine Vt (es:=es) (I.ok.hd F) ⋯ e c a3 (by rw[dd]) (λt n=>?_) (by rw[←a5];simpa using w) λh' tk O D=>?_
 ·obtain⟨_,_,z⟩:=Ce f t n;exact z.2.2.2
 have J:∀(ts:List (Addr×PyData×Addr×V))(es:List Ent),Paired (λt(e:Ent)=>e.k=t.2.1/\e.b=t.2.2.1/\RelV t.2.2.2 e.v/\e.ok s.heap) ts es->(∀t∈ts,tT 4 t.2.1=true/\Dt X.K H (.ref t.2.2.1) t.2.1)->∀(kvs:List (PyData×V))(xs:List (PyData×Addr×Value)),KP X.K H kvs xs->(kvs.map (·.1)++ts.map (·.2.1)).Nodup->KP X.K H (kvs++ts.map λt=>(t.2.1,t.2.2.2)) (es.foldl putP xs):=by
  intro ts es S
  induction S with
  |nil=>intro _ kvs xs b _;rw[rS,wU];exact b
  | @cons t e ts es a1 _ m =>
   intro a kvs xs b p;obtain⟨d,j,i,_⟩:=a1;have st:=b.put t.2.1 (a t (.head _)).1 (a t (.head _)).2 i;have a0:t.2.1∉kvs.map (·.1):=λM=>by
    have:=(List.nodup_append.mp p).2.2 _ M t.2.1 (by simp);exact this rfl
   have ep:pT kvs t.2.1 t.2.2.2=kvs++[(t.2.1,t.2.2.2)]:=by
    unfold pT;rw[Vr a0];rfl
   rw[ep,←d,←j]at st;have:=m (λx k=>a x (.tail _ k)) _ _ st (by rw[xW,yO];simpa [d]using p);rw[yO]at this;rw[d]at this;show KP X.K H _ (List.foldl putP (storedH xs e.k e.b e.v) es);rw[d];exact this
 have b:=J ts es f (λt n=>(a t n).2) [] [] .nil (by simpa using a2);rw[rR]at b;obtain⟨b1,a9,b0,T,U,a7,N,_,K⟩:=D;have v:H s.heap.objs.size=none:=I.hok.fresh (zG _);have sm:Same H (upd H s.heap.objs.size (mV s.heap.objs.size (es.foldl putP []))):=Same.new v;refine⟨.ref s.heap.objs.size,_,I.laid (a:=s.heap.objs.size) (o:=mV s.heap.objs.size (es.foldl putP [])) (t':=tk) O (zG _) (bL T U a7 N),rfl,?_⟩;refine q _ _ sm v ⟨by rw[yX];simpa using w,oP.mpr (yI (zX (Bc I))),_,nK,K,b.keeps (kC sm)⟩
end
open Classical in
structure FunD(K:Frag)(x qual:Str)(st:Stmt)(f:Addr)(fd:FuncData)(ds:LW):Prop where
 ex:∃(oc:Value)(od:Option Addr)(T:Addr)(kV doc pm:Value)(an:Option Addr)(cdv ct:Value)(osl:Array (Option Value)),
  fd=PySem.W.fnOf x qual (iB st) (kQ st) (nM st) (.ref T) kV doc pm an cdv ct/\K.lookup f=some ⟨oc,od,.func fd,osl⟩/\PySem.W.codeIn K cdv qual=true/\∃(o2:Value)(d2:Option Addr)(n2:Nat)(s2:Array (Option Value)),K.lookup T=some ⟨o2,d2,.seq ds.toArray n2,s2⟩
 kp:PySem.W.keepIn K (.ref f)=true
section
variable {P:Program} {w:World} {K:Frag} {mg:MT} {base:Heap}
theorem FunD.binds{x g:Str}{st:Stmt}{f:Addr}{e:FuncData}{ps:List Str}{ds:LW}(i:FunD K x g st f e ds)
  (h:∀(T:Addr)(kV c a:Value)(d:Option Addr)(cdv b:Value)(us:LW),us.length+ds.length=ps.length->∃k,bindArgs (PySem.W.fnOf x g (iB st) (kQ st) (nM st) (.ref T) kV c a d cdv b) ⟨us,[]⟩=seqItems? (.ref T) >>= k/\k (some ds.toArray)=pure (ps.zip (us++ds))):mZ K e ps ds:=by
 obtain⟨n,r,T,kV,c,a,d,cdv,b,u,rfl,t,p,m,q,v,o,lt⟩:=i.ex;intro s us l hl;obtain⟨k,e1,j⟩:=h T kV c a d cdv b us (by simpa using hl);exact BindsTo.of_defaults (T:=T) rfl (l _ _ lt) rfl e1 j
theorem FunD.bindsA{x g:Str}{st:Stmt}{f:Addr}{e:FuncData}{ps:List Str}{ds:LW}(i:FunD K x g st f e ds)
  (h:∀(T:Addr)(kV c a:Value)(d:Option Addr)(cdv b:Value)(us:LW),us.length=ps.length->∃k,bindArgs (PySem.W.fnOf x g (iB st) (kQ st) (nM st) (.ref T) kV c a d cdv b) ⟨us,[]⟩=seqItems? (.ref T) >>= k/\k (some ds.toArray)=pure (ps.zip us)):mZ K e ps []:=by
 obtain⟨n,r,T,kV,c,a,d,cdv,b,u,rfl,t,p,m,q,v,o,lt⟩:=i.ex;intro s us l hl;rw[wU]at hl ⊢;obtain⟨k,e1,j⟩:=h T kV c a d cdv b us hl;exact BindsTo.of_defaults (T:=T) rfl (l _ _ lt) rfl e1 j
theorem Vp{x a:Str}{st:Stmt}{f T:Addr}{j i:Value}{o n g:Option Addr}{p m:Array (Option Value)}{kV e b cdv d:Value}{ds:LW}{q:Nat}(l:K.lookup f=some ⟨j,o,.func (PySem.W.fnOf x a (iB st) (kQ st) (nM st) (.ref T) kV e b g cdv d),p⟩)
  (c:PySem.W.codeIn K cdv a=true)(k:PySem.W.keepIn K (.ref f)=true)(l2:K.lookup T=some ⟨i,n,.seq ds.toArray q,m⟩):FunD K x a st f (PySem.W.fnOf x a (iB st) (kQ st) (nM st) (.ref T) kV e b g cdv d) ds:=⟨⟨j,o,T,kV,e,b,g,cdv,d,p,rfl,l,c,i,n,q,m,l2⟩,k⟩
end
end L2
namespace PySem
section
variable {prog:Program} {w:World} {A:Around} {E:VP} {h:Heap} {g:Array GenState} {d:Drawn} {t:Nat} {os:OsState}
variable {nm q:Str} {C N:Addr} {bs bm bmB:LW} {hdct:Bool} {sn:List Str} {sub:LW} {ab:Bool} {col:Option Bool} {dd:Option Addr} {k0 k1 k2 k3 k5:Option Value} {B newId initId:String}
abbrev xTup(us:LW):Obj:={cls:=.type "tuple",data:=.seq us.toArray}
abbrev xExc(C t:Addr)(dx:Option Addr):Obj:={cls:=.ref C,dict:=dx,data:=.fields #[.ref t,.none,.none,.none,.bool false,.none]}
abbrev gJ(h:Heap)(C:Addr)(us:LW):Heap:=(h.push (xTup us)).push (xExc C h.objs.size none)
theorem Vo(a:ExcBaseFacts B newId initId bmB)(T:OwnTail h bmB bm){mN:MT}{us:LW}{i:Addr}{k:Obj}{Q:Fin->Shared->Prop}
  (c:h.get? C=some (excClassObj nm q C N bs bm hdct sn sub ab col dd k0 k1 k2 k3 k5 newId))(z:h.Ns N mN)(hi:mN "__init__"=some (.ref i))(G:h.get? i=some k)(y:k.cls=.type "function")(v:us.length<=sizeLine)
  (m:wpAny (model prog w) A (call (.ref i) (.ref (h.objs.size+1):: us)) (λr l=>r=.none/\Q (.done (.ret (.ref (h.objs.size+1)))) l) E ⟨gJ h C us,g,d,t,os⟩):
  wpAny (model prog w) A (Builtin.«type.__call__» ⟨.ref C:: us,[]⟩) Q E ⟨h,g,d,t,os⟩:=by
 repeat (first|with_reducible refine uR c ?_|with_reducible refine wpAny_madeBy_exc c ?_|wp_step)
 refine codeAny_call_builtin_code (qL _ a.quiet) (wpAny_check_new_subT a T c (codeAny_exc_new_subT a T c ?_ v));show wpAny _ _ _ _ _ _;have f:∀b o,h.get? b=some o->(gJ h C us).get? b=some o:=λb o e=>zC _ (zC _ e);have j:=f _ _ c;have u:=f _ _ G;have n:=z.keeps f;have D:(gJ h C us).get? (h.objs.size+1)=some (xExc C h.objs.size none):=by heap_get
 have I:(Value.ref C:: bm).contains (.ref C)=true:=by simp
 have p:=T.keeps f;unfold isInstance
 repeat (first|with_reducible refine uR D ?_|(with_reducible refine wpAny_isSubtype_exc j ?_;rw[I])|wp_step)
 show wpAny _ _ (typeLookup (.ref C) _) _ _ _;refine wpAny_typeLookup_tail j n p a.mroIs a.init.lookup ?_;rw[hi];refine yL (zA ?_);unfold bindSpecial;refine zA (uW (T:= "function") ⟨_,u,y⟩ ?_);rw[zE ∅];refine zB (zA (zU m (λr l hr=>?_) λ_ _ x=>x));obtain⟨rfl,F⟩:=hr
 wp_walk
 exact F
theorem Vn(f:ExcBaseFacts B newId initId bmB)(T:OwnTail h bmB bm){mN:MT}{us:LW}{b:Addr}{c:Obj}{Q:VP}
  (a:h.get? C=some (excClassObj nm q C N bs bm hdct sn sub ab col dd k0 k1 k2 k3 k5 newId))(l:h.Ns N mN)(hi:mN "__init__"=some (.ref b))(m:h.get? b=some c)(k:c.cls=.type "function")(j:us.length<=sizeLine)
  (e:wpAny (model prog w) (A.under (.builtin "type.__call__" ⟨.ref C:: us,[]⟩)) (call (.ref b) (.ref (h.objs.size+1):: us)) (λr i=>r=.none/\Q (.ref (h.objs.size+1)) i) E ⟨gJ h C us,g,d,t,os⟩):
  wpAny (model prog w) A (call (.ref C) us) Q E ⟨h,g,d,t,os⟩:=by
 have o:=tc_lookup;have p:=tc_bind (.ref C);have n:(⟨h,g,d,t,os⟩:Shared).TypeIs (.ref C) "type" := ⟨_,a,rfl⟩;refine uC (codeAny_of_tree ?_);show wpAny _ _ (callAny (.ref C) _) _ _ _
 repeat (any_goals (first|assumption|with_reducible refine uR a ?_|wp_step))
 refine⟨rfl,codeAny_call_builtin_at (qL _ (nofun)) entry_typeCall (wpAny_check_type_call_sub a (Vo f T a l hi m k j ?_))⟩;exact e
theorem Vm{env:Env}{s:Shared}{x:Sem Value}{Q:Flow->Shared->Prop}(i:bm.contains (.type "BaseException")=true)(hh:A.handled=none){M:Model}
  (h:wpAny M A x (λv a=>∃e t c,v=.ref e/\a.heap.get? C=some (excClassObj nm q C N bs bm hdct sn sub ab col dd k0 k1 k2 k3 k5 newId)/\a.heap.get? e=some (xExc C t c)/\E (.ref e) a) E s):
  wpAny M A (raiseStmt env (some x) none) Q E s:=by
 have k:(Value.ref C:: bm).contains (.type "BaseException")=true:=by rw[List.contains_cons,i,Bool.or_true]
 unfold raiseStmt;refine zA (zU h (λv a f=>?_) λ_ _ x=>x);obtain⟨e,t,c,rfl,b,j,l⟩:=f;obtain⟨m,g,d,tk,os⟩:=a
 repeat (first|with_reducible refine uR j ?_|with_reducible refine uR b ?_|(with_reducible refine wpAny_isSubtype_exc b ?_;rw[k])|wp_step)
 exact wpAny_raiseNew_none hh l
end
end PySem
namespace L2
open PySem PySem.Spec PyProof.Rows
open PySem.W (Frag)
def XObj(e C:Addr)(b:Bool):HO:=.ext λh=>∃t dx,h.get? e=some (xExc C t dx)/\(b=true->dx=none)
theorem Cd{P:Program}{w:World}{H:Hp}{h:Heap}{e C t:Addr}{a:Option Addr}{b:Bool}(q:h.get? e=some (xExc C t a))(c:b=true->a=none):mI P w H h e (XObj e C b):=⟨⟨t,a,q,c⟩,⟨_,q⟩,λ_ _⟨t,a,z,y⟩k=>⟨t,a,k _ z,y⟩⟩
def rmv(H:Hp)(e:Addr):Hp:=λb=>if b=e then none else H b
theorem gK{H:Hp}{e b:Addr}(h:b≠e):rmv H e b=H b:=zD h
theorem Cc{H:Hp}{e:Addr}:rmv H e e=none:=zE rfl
theorem Vl{H:Hp}{e:Addr}{o:HO}(h:H e=some o):upd H e o=H:=by
 funext b
 by_cases q:b=e
 ·rw[q,nK,h]
 ·exact nN q
section
variable {X:Cx} {pins:PN} {σ:St} {H:Hp} {s:Shared} {e C:Addr} {b0:Bool}
theorem Inv.untrack(I:Inv X pins σ H s)(j:H e=some (XObj e C b0)):Inv X pins σ (rmv H e) s:=by
 have u:=I.base;have t:∀{b o},rmv H e b=some o->b≠e/\H b=some o:=λ{b o}z=>by
  by_cases q:b=e
  ·rw[q,Cc]at z;cases z
  ·rw[gK q]at z;exact⟨q,z⟩
 have ne:∀{b o},H b=some o->o≠XObj e C b0->b≠e:=λ{b o}z d q=>by rw[q,j]at z;exact d (yA z).symm
 have f:∀b,H b=none->rmv H e b=none:=λb z=>by
  by_cases q:b=e
  ·rw[q,Cc]
  ·rw[gK q];exact z
 refine⟨I.ok,I.os,I.bare,⟨u.keep,u.slot,λb o q n g=>f _ (u.free b o q n g),u.there,λb xs q=>?_,λb o v q=>?_,λb ps q=>?_⟩,I.loc,I.cell,f _ I.free,λx c q=>f _ (I.freeC x c q),λp l=>?_,λa o q=>?_,I.len⟩
 ·have:=u.tups b xs q;rw[gK (ne this (by intro z;cases z))];exact this
 ·have:=u.frzs b o v q;rw[gK (ne this (by intro z;cases z))];exact this
 ·obtain⟨m,e1⟩:=u.tbls b ps q;exact⟨m,by rw[gK (ne e1 (by intro z;cases z))];exact e1⟩
 ·obtain⟨e1,k,r⟩:=I.pin p l;exact⟨e1,f _ k,r⟩
 ·obtain⟨_,i⟩:=t q;exact(I.hok a o i).stay (λ_ _ _ z=>z) (λb z=>by rw[gK (ne z (by intro z;cases z))];exact z) λb xs z=>by rw[gK (ne z (by intro z;cases z))];exact z
end
def Jw(X:Cx)(EX:XE):Prop:=∀(pins:PN)(σ:St)(H:Hp)(s:Shared)(e C t:Addr)(dx:Option Addr),Inv X pins σ H s->H e=none->X.s₀.heap.get? e=none->s.heap.get? e=some (xExc C t dx)->EX σ (.ref C) H->X.xe (.ref e) s
section
variable {P:Program} {w:World} {K:Frag} {mg:MT} {base:Heap} {N:List Str} {qual:Str} {scope:Scope} {f:Addr} {cd:Value} {A:Around} {outer:List Env} {s₀:Shared} {H₀:Hp} {E:XK}
theorem Vk:Jw (cxOf (CX1 P w) P w K mg base N qual scope f cd A outer s₀ H₀ E) (λ_ C H=>E C none H):=by
 intro G M H s e C t J I F l y u;have m:=PySem.W.funFrames_hide (as:=e:: frs (cxOf (CX1 P w) P w K mg base N qual scope f cd A outer s₀ H₀ E).stack) I.stack (λenv d a n=>.tail _ (oU.mpr ⟨env,d,n⟩));refine wpAny_leaving_firstW (a0:=.ref t) I.ok.frames m rfl y (λb o q=>uL _ q) (tH _ (.head _)) rfl rfl rfl λh' i=>?_;obtain⟨g,⟨_,_,p⟩,j,x⟩:=i;obtain⟨un,ok,r⟩:=cT I rfl rfl rfl g x λb o q D k=>tO _ q λd=>by
  rcases xC.mp d with z|z
  ·subst z;rcases k with⟨L,c⟩|⟨v,c⟩
   ·rw[l]at c;cases c
   ·rw[F]at c;cases c
  ·exact D z
 exact⟨e,.ref C,H,_,_,rfl,I.os,I.bare,un,ok,⟨g,tH _ (.head _),p,j⟩,r,u⟩
end
def bY(K:Frag)(C:Addr)(bmB:LW)(newId:String)(f:Addr):Bool:=
 (K.lookup f).any (λo=>o.cls == .type "function") &&
 (K.lookup C).any λob=>match ob with
  |⟨.type "type",_,.cls c1,sl⟩=>(match c1.mro,sl.toList with
   |.ref C1:: bm,[_,_,_,_,some (.builtin nw),_]=>C1 == C && nw == newId && !c1.hasDel && PySem.W.tailIn K bmB bm && PySem.W.nsOkIn K c1.ns && PySem.W.nsIn K c1.ns "__init__" == some (some (.ref f))
   |_,_=>false)
  |_=>false
theorem Vj{K:Frag}{h:Heap}{N:Addr}{x:Str}{v:Value}(X:K.In h)(G:h.Ns N (h.nsMap N))(e:PySem.W.nsIn K N x=some (some v)):h.nsMap N x=some v:=by
 obtain⟨o,es,ep,g,f,_,b⟩:=G;unfold PySem.W.nsIn at e;split at e
 ·rename_i c d k j i q;have:=X _ _ q;rw[g]at this;cases this;cases f;split at e
  ·rename_i a;cases e;rw[←b];unfold nsFind findBy;rw[←Array.find?_toList,a];rfl
  ·split at e <;> cases e
 ·cases e
theorem Jv{K:Frag}{h:Heap}{C f:Addr}{j:LW}{newId:String}(KX:K.In h)(i:bY K C j newId f=true):
  ∃bm N nm e bs d sn sub ab col dd k0 k1 k2 k3 k5 mN b,h.get? C=some (excClassObj nm e C N bs bm d sn sub ab col dd k0 k1 k2 k3 k5 newId)/\h.Ns N mN/\mN "__init__"=some (.ref f)/\OwnTail h j bm/\h.get? f=some b/\b.cls=.type "function" := by
 unfold bY at i;obtain⟨c,a⟩:=Bool.and_eq_true_iff.mp i;obtain⟨b,t,c⟩:=sZ c;obtain⟨G,v,a⟩:=sZ a;split at a
 ·next dd y g =>
  split at a
  ·next m bm k0 k1 k2 k3 o k5 n es =>
   simp only[Bool.and_eq_true,beq_iff_eq,Bool.not_eq_true']at a;obtain⟨⟨⟨⟨⟨e1,p⟩,q⟩,w⟩,k⟩,F⟩:=a;subst e1 p;cases y with
   | mk nm bs D ns e d sn sub ab col r =>
    have u:D=Value.ref m:: bm:=n;have z:r=false:=q;subst u z;have x:g=#[k0,k1,k2,k3,some (Value.builtin o),k5]:=by
     cases g with
     |mk l=>exact wG Array.mk es
    subst x;exact⟨bm,ns,nm,e,bs,d,sn,sub,ab,col,dd,k0,k1,k2,k3,k5,_,b,KX _ _ v,pN (qO KX k),Vj KX (pN (qO KX k)) F,PySem.W.tail_of_in KX w,KX _ _ t,oO.mp c⟩
  ·cases a
 ·cases a
section
variable {X:Cx} {CX:CXT} {EX:XE} {k:Nat} {C f:Addr} {fd:FuncData} {ps:List Str} {sp:Sp} {dvs:List V} {ds:LW} {x:Str} {np p cpos pos:Pos} {e e₀:Expr} {es rest:List Expr} {t:TA} {bmB:LW} {B newId initId:String}
def Vi(C:Addr)(sp:Sp)(EX:XE)(t:TA):TS:=λ_ σ H=>t σ H λvs H1=>vs.length<=sizeLine/\∀e,H1 e=none->sp (.ref e:: vs) (upd H1 e (XObj e C true)) (λv H2=>v=.non/\H2 e=some (XObj e C false)/\EX σ (.ref C) (rmv H2 e)) E0
theorem Vh(a0:X.calm=true)(b8:Jw X EX)(a9:Gl X x)(a5:X.mg x=some (.ref C))(b9:bY X.K C bmB newId f=true)(L:ExcBaseFacts B newId initId bmB)(G:FnOk X.prog X.w X.K X.mg X.base CX k f fd ps sp)
  (hr:Room (k+1) X.A)(c0:mZ X.K fd ps [])(b6:hZ CX X E0)(a6:PA X (e₀:: rest) t)
  (b0:(x == ("__debug__" :Str))=false:=by decide)(U:starEach (e₀:: rest) X.env=(false,eval e₀ X.env):: starEach rest X.env:=by rfl)(b7:(backTo cpos (starEach rest X.env)).any (·.1)=false:=by rfl):
  PS X (.Raise (some (.Call (.Name x np) (e₀:: rest) [] cpos)) none pos) (Vi C sp EX t):=by
 intro g s j H D I h;obtain⟨bm,N,nm,q,bs,b5,sn,sub,ab,col,dd,k0,k1,k2,k3,k5,mN,c4,y,a1,Y,T,a2,b1⟩:=Jv I.mod.kin b9;have K:(backTo cpos (starEach (e₀:: rest) X.env)).any (·.1)=false:=by
  rw[U];show(false || (backTo cpos (starEach rest X.env)).any (·.1))=false;rw[b7];rfl
 rw[arm_exec_Raise];refine zA (xO (Vm (C:=C) (nm:=nm) (q:=q) (N:=N) (bs:=bs) (bm:=bm) (hdct:=b5) (sn:=sn) (sub:=sub) (ab:=ab) (col:=col) (dd:=dd) (k0:=k0) (k1:=k1) (k2:=k2) (k3:=k3) (k5:=k5) (newId:=newId) (T.hasType L.hasBase) (I.ok.hd a0)
  (zA (zU (wpAny_Call_ofName (jI I a9 a5 ?_ b0)) (λv c5 b2=>zA (xO (zB b2))) λ_ _ x=>x))))
 unfold callWith;have S:=a6 cpos g s j H _ I h;rw[U]at S K ⊢;refine zA (yL (zU (tD (Q:=λa c=>∃us,a=⟨us,[]⟩/\AP X g j _ us c) (thn S λus c7 z=>⟨us,rfl,z⟩)) (λa c c2=>zA (xO ?_)) λ_ _ x=>x));obtain⟨us,rfl,vs,Z,d,r,c1,a3⟩:=c2;simp only[K];have J:=d.bk _ _ y;have hl:us.length<=sizeLine:=by rw[←r.length];exact c1
 have R:=a3 (c.heap.objs.size+1) (d.hok.fresh (uO _));have a4:∀b o,c.heap.get? b=some o->(gJ c.heap C us).get? b=some o:=λb o e=>zC _ (zC _ e);have a8:(gJ c.heap C us).get? (c.heap.objs.size+1)=some (xExc C c.heap.objs.size none):=by
  have:=zS (c.heap.push (xTup us)) (o:=xExc C c.heap.objs.size none) rfl
  rwa[xM]at this
 have l:Inv X g j (upd Z (c.heap.objs.size+1) (XObj (c.heap.objs.size+1) C true)) {c with heap:=gJ c.heap C us}:=d.laid (t':=c.toks) a4 (uO _) (Cd a8 λ_=>rfl);have M:Vals (V.ref (c.heap.objs.size+1):: vs) (Value.ref (c.heap.objs.size+1):: us):=.cons rfl r;have c3:(Value.ref (c.heap.objs.size+1):: us++[]).length=ps.length:=by rw[wU,←M.length];exact G.len _ _ _ _ R
 have F:=c0 {c with heap:=gJ c.heap C us} (Value.ref (c.heap.objs.size+1):: us) l.kIn c3;rw[wU]at F;have run:=G.run _ X.stack _ _ ⟨Value.ref (c.heap.objs.size+1):: us,[]⟩ _ _ _ E0 (hr.make C us []) (l.env0.make C us []) F M R;obtain⟨d0,c6,c8,d1,c9⟩:=c;refine zA (wpAny_keeperOf_exc J ?_);refine zA (Vn L (T.keeps d.bk) J (a1.keeps d.bk) Y (d.bk _ _ a2) b1 hl (uC (wV run λa7 m i=>?_)));cases a7 with
 |error n=>exact b6 g j _ _ n m l i
 | ok fl =>
  cases fl with
  |ret u =>
   obtain⟨v,H',w,b3,n,O,b4⟩:=l.after i;subst n;refine⟨b3,zA (yL (wpAny_point (zB ?_)))⟩;obtain⟨⟨t',W,P,_⟩,_⟩:=(show mI X.prog X.w H' m.heap _ (XObj _ C false) from w.hok _ _ O);refine⟨_,t',W,rfl,w.bk _ _ y,P,b8 g j (rmv H' _) m _ C t' W (w.untrack O) Cc (Heap.get?_none_of_le (yH d.sz (uO _))) P b4⟩
  |next=>exact False.elim i
  |brk=>exact False.elim i
  |cont=>exact False.elim i
def Ju(C:Addr)(sp:Sp)(dvs:List V)(EX:XE)(t:TA):TE:=λσ H Q=>t σ H λvs H1=>∀x dx,H1 x=none->H1 dx=none->dx≠x ->
 sp (.ref x:: (vs++dvs)) (upd (upd H1 dx (.own x)) x (.ins C dx [])) (λv H2=>v=.non/\Q (.ref x) H2) λC' _ H'=>EX σ C' H'
theorem Vg{g:PN}{d:St}{H:Hp}{s:Shared}{Q:VK}{us:LW}{vs:List V}(M:Mk X.K C f)(y:FnOk X.prog X.w X.K X.mg X.base (CX1 X.prog X.w) k f fd ps sp)(hr:Room (k+1) X.A)(m:mZ X.K fd ps ds)(Z:Vals dvs ds)
  (a4:gY X EX)(S:X.ex=[])(I:Inv X g d H s)(r:Vals vs us)
  (h:∀x i,H x=none->H i=none->i≠x->sp (.ref x:: (vs++dvs)) (upd (upd H i (.own x)) x (.ins C i [])) (λv a2=>v=.non/\Q (.ref x) a2) λl _ H'=>EX d l H'):
  wpAny (model X.prog X.w) X.A (call (.ref C) us) (EP X g d Q) X.xe s:=by
 have G:=h (s.heap.objs.size+1) s.heap.objs.size (I.hok.fresh (uO _)) (I.hok.fresh (zG _)) (zX (vI _));have a:=Inv.made (C:=C) I;have F:Vals (V.ref (s.heap.objs.size+1):: (vs++dvs)) (Value.ref (s.heap.objs.size+1):: (us++ds)):=.cons rfl (r.append Z);have hl:(Value.ref (s.heap.objs.size+1):: us++ds).length=ps.length:=F.length.symm.trans (y.len _ _ _ _ G);refine uC (Fi (f:=f) I.kIn M.makes M.init (oO.mp M.fn) (wV (y.run _ X.stack _ _ ⟨Value.ref (s.heap.objs.size+1):: us,[]⟩ (Value.ref (s.heap.objs.size+1):: (us++ds)) _ _ _ (hr.make C us [])
  (a.env0.make C us []) (m _ (Value.ref (s.heap.objs.size+1):: us) a.kIn hl) F G) λU D c=>?_))
 cases U with
 | error J =>
  obtain⟨e,l,H',W,a0,rfl,N,L,un,ok,fl,K,q⟩:=c;have w:Inv X g d H' D:=a.call' N un ok L λb z=>absurd z (by simp);refine a4 g d H' D e l w ⟨W,a0,fl,λb o e1 m j=>K b o e1 m ?_,λp n=>?_⟩ q
  ·rcases j with⟨a5,P⟩|j
   ·obtain⟨a3,T⟩:=a.base.there b a5 P (by rw[S];simp);exact .inl ⟨a3,T⟩
   ·exact .inr j
  ·obtain⟨e1,a7,ne,O,_⟩:=w.pin p n;refine K p.1 p.2 e1 (λR=>?_) (.inl ⟨_,(a.pin p n).1⟩);rcases xC.mp (a.stkSub p.1 R) with z|z
   ·exact ne z
   ·exact O z
 | ok fl =>
  cases fl with
  |ret u =>
   obtain⟨v,H',a6,Y,J,a1⟩:=a.after c;subst J;exact⟨Y,⟨V.ref (s.heap.objs.size+1),H',a6,rfl,a1⟩⟩
  |next=>exact False.elim c
  |brk=>exact False.elim c
  |cont=>exact False.elim c
theorem Vf(M:Mk X.K C f)(b:FnOk X.prog X.w X.K X.mg X.base (CX1 X.prog X.w) k f fd ps sp)(hr:Room (k+1) X.A)(o:Gl X x)(g:X.mg x=some (.ref C))(l:mZ X.K fd ps ds)(n:Vals dvs ds)(d:gY X EX)
  (m:PA X (e:: es) t)(i:X.ex=[]:=by rfl)(u:(x == ("__debug__" :Str))=false:=by decide)(j:starEach (e:: es) X.env=(false,eval e X.env):: starEach es X.env:=by rfl)(c:(backTo pos (starEach es X.env)).any (·.1)=false:=by rfl):
  PE X (.Call (.Name x p) (e:: es) [] pos) (Ju C sp dvs EX t):=by
 intro v s w H Q I h;refine wK (jI I o g ?_ u);refine vP (h₀:=X.base) I.ok.mod.kin M.kp (thn (m pos v s w H _ I h) λus y⟨vs,z,a,r,q⟩=>⟨a.kIn,?_⟩) j c;exact Vg M b hr l n d i a r q
theorem FunD.okX{P:Program}{w:World}{K:Frag}{b:MT}{base:Heap}{x a:Str}{st:Stmt}{f:Addr}{fd:FuncData}{ds:LW}{N ps:List Str}{k:Nat}{sp:Sp}(d:FunD K x a st f fd ds)(S:nZ N ps (nM st))(len:∀vs H Q E,sp vs H Q E->vs.length=ps.length)
  (c:∀(cdv:Value)(A:Around)(outer:List Env)(s:Shared)(H:Hp)(vs:List V)(Q:VK)(E:XK),Room k (A.deeper (envOfC a (nM st) s.heap.objs.size f cdv))->sp vs H Q E ->
   ∃t,PSs (cxOf (CX1 P w) P w K b base N a (nM st) f cdv A outer s H E) (kQ st) t/\t {nx:=λ_ H'=>Q .non H',rt:=Q} (start N vs) H):FnOk P w K b base (CX1 P w) (k+1) f fd ps sp:=by
 obtain⟨l,o,T,kV,r,m,u,cdv,n,q,rfl,i,g,_⟩:=d.ex;exact Ak i g S len λA outer s H vs Q E hr j=>c cdv A outer s H vs Q E hr j
end
structure XIn(K:Frag)(C C0 f:Addr):Prop where
 cl:bY K C [.type "ValueError",.type "Exception",.type "BaseException",.type "object"] "ValueError.__new__" f=true
 ga:PySem.W.specialIn K (.ref C0) "__getattribute__"=some (some (.builtin "type.__getattribute__"))
 rd:PySem.W.readsIn K C0 (.type "type")=true
 fi:PySem.W.findCls K (.ref C0) (.type "type") "__init__"=some (.val (.builtin "ValueError.__init__"))
def Cb:LW->Bool
 |.ref _:: r=>Cb r
 |l=>l == [.type "ValueError",.type "Exception",.type "BaseException",.type "object"]
theorem Jt(a:Value):∀{l:LW},Cb l=true->refuseLoop a "__setattr__" l=pure ()/\l.contains (.type "object")=true
 |.ref c:: r,e=>by
  obtain⟨b,d⟩:=Jt a (l:=r) e;exact⟨by rw[refuseLoop_ref];exact b,by rw[List.contains_cons,d,Bool.or_true]⟩
 |[],e=>by cases e
 |.type n:: r,e=>by rw[show Value.type n:: r=_ from oO.mp e];exact⟨PySem.F.store_ValueError.passes a,∅⟩
structure XSt(K:Frag)(C:Addr)(x:Str):Prop where
 sa:PySem.W.findIn K (.ref C) "__setattr__"=some (some (.builtin "object.__setattr__"))
 mr:((PySem.W.clsIn K C).any λc1=>Cb c1.mro && c1.hasDict)=true
 tk:PySem.W.takerIn K C x=some none
section
variable {X:Cx} {C C0 f:Addr} {x nm:Str} {np apos cpos pos:Pos} {e o:Expr} {es:List Expr} {te to:TE} {t:TA}
def Js(C:Addr)(t:TA):TE:=λσ H Q=>t σ H λvs H1=>∃p b r,vs=.ref p:: r/\H1 p=some (XObj p C b)/\r.length<=sizeLine/\Q .non H1
theorem Ve{pl:Sem Bool}(U:Gl X x)(P:X.mg x=some (.ref C0))(g:XIn X.K C C0 f)(R:PA X (e:: es) t)(W:(x == ("__debug__" :Str))=false:=by decide)
  (K:starEach (e:: es) X.env=(false,eval e X.env):: starEach es X.env:=by rfl)(Z:(backTo cpos (starEach es X.env)).any (·.1)=false:=by rfl)
  (Y:eval (.Call (.Attribute (.Name x np) "__init__" apos) (e:: es) [] cpos) X.env=(do
   let F ←eval (.Name x np) X.env
   standAt apos.atName
   let (f,first) ←holding [F] (getMethod F "__init__" pl)
   callWith cpos f first (backTo cpos (starEach (e:: es) X.env)) (backToKw cpos (keywordEach [] X.env))):=by rfl):
  PE X (.Call (.Attribute (.Name x np) "__init__" apos) (e:: es) [] cpos) (Js C t):=by
 intro L s J H Q I h;refine PySem.W.methodCall_KW (pl:=pl) (jI I U P ?_ W) Y;refine PySem.W.method_cls I.kIn g.ga (PySem.W.cls_value I.kIn g.rd g.fi (by rfl) ?_);have a4:=I.tok (s.toks+1);have D:=R cpos L _ J H _ a4 h;show wpAny _ _ (callWith cpos (.builtin "ValueError.__init__") [] (backTo cpos (starEach (e:: es) X.env)) []) _ _ _;rw[K]at D ⊢;refine sU (by show(false || (backTo cpos (starEach es X.env)).any (·.1))=false;rw[Z];rfl) (tD (thn D λus y⟨vs,n,k,r,q⟩=>?_));obtain⟨p,b,V,rfl,i,a2,a3⟩:=q;obtain⟨u,c,rfl,a5,S⟩:∃u c,us=u:: c/\RelV (.ref p) u/\Vals V c:=by cases r with|cons a b=>exact⟨_,_,rfl,a,b⟩
 obtain rfl:u=Value.ref p:=a5;obtain⟨⟨t',G,m,O⟩,_⟩:=(show mI X.prog X.w n y.heap _ (XObj _ C b) from k.hok _ _ i);obtain⟨bm,N,nm,q,bs,b3,sn,sub,ab,col,dd,k0,k1,k2,k3,k5,mN,a6,M,a9,a7,T,b0,b2⟩:=Jv k.kIn g.cl;have j:=yM;have hl:c.length<=sizeLine:=by rw[←S.length];exact a2
 obtain⟨d,a8,b4,a0,b5⟩:=y;refine uC (tI j.init.plain j.initEntry (wpAny_check_init_subT j T M m rfl ?_));have b1:p≠d.objs.size:=zX (zJ m);have l:(d.push (xTup c)).get? p=some (xExc C t' G):=zC _ m;unfold Builtin.«BaseException.__init__»;refine zA (oA ?_ hl);refine zA (zA (xL l rfl rfl (zA (uT l rfl (by show 0<6;decide) (pU (zB ?_))))));have w:((d.push (xTup c)).update p (Obj.mapFields (·.setIfInBounds 0 (.ref d.objs.size)))).get? p=some (xExc C d.objs.size G):=wH _ l rfl;refine⟨.non,n,?_,rfl,a3⟩;have v:=k.write (h':=(d.push (xTup c)).update p (Obj.mapFields (·.setIfInBounds 0 (.ref d.objs.size)))) (x:=p) (e:=p) (t':=a0) (o:=XObj p C b) (by rw[i];exact True.intro) (.inl rfl) (λb u a1 z=>(vM _ _ (yI a1)).trans (zC _ z)) ⟨_,w⟩ (Cd w O);rw[Vl i]at v;exact v
def Jr(C:Addr)(te to:TE):TS:=λD σ H=>te σ H λ_ H1=>to σ H1 λy H2=>∃p,y=.ref p/\H2 p=some (XObj p C true)/\D.nx σ (upd H2 p (XObj p C false))
open Builtin Builtin.ObjectAttr in
theorem Vd(xs:XSt X.K C nm)(w:PE X e te)(a3:PE X o to)(a4:swapsWith e (some (.Attribute o nm apos)) pos.line X.env=pure false:=by rfl):PS X (.Assign [.Attribute o nm apos] e pos) (Jr C te to):=by
 intro L s S H D I h;refine plainObj_wpAny_Assign_Attribute (thn (w L s S H _ I h) λu c0⟨v,W,a9,c5,T⟩=>thn (a3 L c0 S W _ a9 T) λc1 c⟨y,b6,r,b5,p,V,K,a8⟩=>?_) a4;subst V;obtain rfl:c1=Value.ref p:=b5;obtain⟨⟨t',c8,j,a1⟩,_⟩:=(show mI X.prog X.w b6 c.heap _ (XObj _ C true) from r.hok _ _ K);obtain rfl:=a1 rfl;have g:=r.kIn;have ia:PySem.W.InstAt c.heap p (xExc C t' none) C none:=⟨j,rfl,rfl,trivial⟩;refine PySem.W.set_plain g ia xs.sa ?_;have i:=PySem.F.store_object;obtain⟨l,k,b8⟩:=sZ xs.mr;obtain⟨n,a0⟩:=Bool.and_eq_true_iff.mp b8;obtain⟨a5,c2⟩:=Jt (.ref p) n;have ne:l.mro.isEmpty=false:=by cases q:l.mro with|nil=>rw[q]at n;cases n|cons _ _=>rfl
 have sub:PySem.W.Looks (model X.prog X.w) c.heap (isInstance (.ref p) (.type "object")) true:=ia.type.andThen (qD g (by unfold PySem.W.mroIn;rw[k,Option.bind_some,zD (by rw[ne];decide),c2]));refine tI i.slot.plain i.entry (@PySem.W.check_slot (model X.prog X.w) _ _ {c with toks:=c.toks+1} "object.__setattr__" "object" "__setattr__" (.ref p) [.str nm c.toks,u] [] _ i.kind i.split sub (i.args (.ref p) (.str nm c.toks) u) ?_);obtain⟨R,Z,hr⟩:=Option.bind_eq_some_iff.mp xs.tk;have b1:PySem.W.Looks (model X.prog X.w) c.heap (mroOf (.ref C)) l.mro:=(qB g k).andThen .now;have a6:PySem.W.Looks (model X.prog X.w) c.heap (storeTaker? R) none:=by
  cases R with
  |none=>exact .now
  |some a =>
   obtain⟨b,F,a7⟩:=Option.map_eq_some_iff.mp hr;refine(PySem.W.looks_takesIn g F).andThen ?_;cases b
   ·exact .now
   ·cases a7
 have up:∀{J:Type}{m:Sem J}{a:J},PySem.W.Looks (model X.prog X.w) c.heap m a->PySem.W.Looks (model X.prog X.w) {c with toks:=c.toks+1}.heap m a:=λz=>z;rw[PySem.W.osa_eq,refuse_eq];refine zA (zA (wT (up ia.type) (zA (wT (up b1) ?_))));rw[a5];refine zB (zA (wT (up ia.type) (zA (wT (up (uB g Z)) (zA (wT (up a6) ?_))))));obtain⟨d,Y,b2,P,b9⟩:=c;have U:d.get? p=some ⟨.ref C,none,.fields #[.ref t',.none,.none,.none,.bool false,.none],#[]⟩:=j;refine zA (zB (zA (zA (pW U (zA (wT (s:=⟨d,Y,b2,P+1,b9⟩) (qB g k) ?_))))));rw[a0];have M:p≠d.objs.size:=zX (zJ j);have O:(d.push {cls:=.type "dict",data:=.dict #[]}).get? p=some (xExc C t' none):=zC _ j;refine zA (wpAny_alloc' (zA (wpAny_update' O (zB ?_))));have c3:((d.push {cls:=.type "dict",data:=.dict #[]}).update p λo=>{cls:=o.cls,dict:=some d.objs.size,data:=o.data,slots:=o.slots}).get? d.objs.size=some {cls:=.type "dict",data:=.dict #[]}:=
  (Heap.get?_update_ne _ _ _ _ M.symm).trans (Heap.get?_push_at rfl rfl)
 have b3:((d.push {cls:=.type "dict",data:=.dict #[]}).update p λo=>{cls:=o.cls,dict:=some d.objs.size,data:=o.data,slots:=o.slots}).Ns d.objs.size (λ_=>none):=
  ⟨_,#[],_,c3,rfl,λe w=>absurd w (by simp),λ_=>rfl⟩
 show wpAny _ _ (storeInDict d.objs.size (.str nm P) nm u) _ _ _;unfold storeInDict newKeyGuard;refine zA (zB (zA (wpAny_nsSet1 (Heap.Ns1.of_empty b3) λh' b0 G=>?_)));obtain⟨c6,c4,c7,b7,a2,b4⟩:=b0.count (Within.cons nm u Within.nil);refine zA (wpAny_lookBehind b7 (by rw[a2];exact pastItsLine_dict (yH b4 (by rw[zT,List.length_nil,sizeLine_eq];omega))) (zB ?_));have N:h'.get? p=some (xExc C t' (some d.objs.size)):=(G.2 p M).trans (wH _ O rfl);refine⟨_,_,?_,a8⟩;exact r.write (h':=h') (x:=p) (e:=p) (o:=XObj p C false) (by rw[K];exact True.intro) (.inl rfl) (λb q F z=>(G.2 b (zX (zJ z))).trans ((Heap.get?_update_ne _ _ _ _ F).trans (zC _ z))) ⟨_,N⟩ (Cd N (by intro z;cases z))
end
def Vc:List V->Hp->VK->Prop:=λvs H Q=>∃x p b,vs=[x,.ref p]/\H p=some (.tup [.ty "list",.ty "tuple"])/\((∃i,x=.int i/\b=false)\/∃a xs,x=.ref a/\H a=some (.lst xs)/\b=true)/\Q (.bl b) H
theorem Jq{X:Cx}(o:PySem.W.kitOne X.K (.type "int") (.type "list")=some false)(D:PySem.W.kitOne X.K (.type "int") (.type "tuple")=some false):lZ X (.builtin "isinstance") Vc:=by
 intro k s G H xs us Q I y h;obtain⟨x,p,b,rfl,j,F,q⟩:=h;obtain⟨u,v,rfl,f,C⟩:=y.two;cases C;have e:∀tk,EP X k G Q (.bool b) {s with toks:=tk}:=λtk=>⟨.bl b,H,I.tok tk,rfl,q⟩;obtain⟨_,its,l,⟨⟨J,N,M,K⟩,e1,c,n,d⟩⟩:=(show mI X.prog X.w H s.heap p (.tup _) from I.hok p _ j);obtain⟨w1,L,rfl,g,m⟩:=l.two;cases g;cases m;dsimp only at c d;subst c d;rcases F with⟨i,rfl,rfl⟩|⟨a,ys,rfl,r,rfl⟩
 ·obtain⟨t,rfl⟩:=f;exact PySem.W.kia_tup PySem.W.kitx_int I.kIn True.intro e1 (by unfold PySem.W.kitAny;rw[o];show PySem.W.kitAny _ _ _=_;unfold PySem.W.kitAny;rw[D];rfl) (λz=>nomatch z) e
 ·cases f;obtain⟨_,_,n,_,w⟩:=(show mI X.prog X.w H s.heap a (.lst ys) from I.hok a _ r);exact PySem.W.kia_tup qX I.kIn ⟨_,w,rfl⟩ e1 (by rfl) (λz=>nomatch z) e
end L2
namespace Cw
open PySem L2
abbrev pa':List Str:=["_law_sort","_law_cell","_law_other","_law_n","_law_m"]
abbrev pb':List Str:=["_law_group_here","_law_n","_law_m","_law_signs"]
abbrev pc':List Str:=["_law_drawing","_law_members","_law_n","_law_m"]
abbrev pd':List Str:=["_law_one","_law_i","_law_j","_law_n","_law_m"]
abbrev pe':List Str:=["_law_makers","_law_n","_law_m","_law_signs"]
abbrev pf':List Str:=["_law_group_here","_law_cell","_law_signs"]
abbrev pg':List Str:=["_law_makers","_law_n","_law_m"]
abbrev ph':List Str:=["self","d","makers","most"]
abbrev pi':List Str:=["group","n","m","signs"]
abbrev pj':List Str:=["_law_one","_law_other"]
abbrev pk':List Str:=["_law_sort","_law_cell"]
abbrev pl':List Str:=["_law_script","_law_k"]
abbrev pm':List Str:=["rows","tops","under"]
abbrev pn':List Str:=["d","makers","most"]
abbrev po':List Str:=["n","m","signs"]
abbrev pp':List Str:=["self","apart"]
abbrev pq':List Str:=["rows","i","k"]
abbrev pr':List Str:=["one","other"]
abbrev pt':List Str:=["rows","spot"]
abbrev pu':List Str:=["rows"]
open PySem.W (nsIn keepIn codeIn findIn fnOf mg_of kitOne)
open PyProof.Rows (mulOk_of_bits)
theorem zqe{a b:Type}{l:List a}{f:a->b}:(l.map f).length=l.length:=yX ..
theorem zqa{b:Type}{l:List b}{i:Nat}{a:b}(h:l[i]?=some a):∃h:i<l.length,l[i]=a:=nB.mp h
theorem zqb{b:Type}{l:List b}{i:Nat}{a:b}(h:l[i]?=some a):a∈l:=yG h
theorem zqc{b:Type}{l:List b}{i:Nat}{a:b}:l.getD i a=l[i]?.getD a:=tM
theorem zqd{a:Type}{l:List a}{i:Nat}(h:i<l.length):l[i]?=some l[i]:=xS h
open PySem.W (Frag)
abbrev LM:=List (LI')
def top(i:Nat):Stmt:=PySem.Challenge.pw_crystalwords_k85_spread.main.body.getD i (.Pass ⟨0,0,0,0⟩)
abbrev bZ:Stmt:=top 2
abbrev N_z:List Str:=["thing"]
abbrev s_2:Stmt:=Bz (top 8) 0
abbrev N_2:List Str:=pp'
abbrev Ca:Stmt:=top 13
abbrev N_t:List Str:=["one","other","greater","lesser","remainder"]
abbrev aA:Stmt:=top 15
abbrev N_v:List Str:=["tops","under","common","top"]
abbrev aC:Stmt:=top 16
abbrev N_e:List Str:=["one","under"]
abbrev aD:Stmt:=top 18
abbrev N_h:List Str:=["size"]
abbrev s_1c:Stmt:=top 19
abbrev N_1c:List Str:=pr'
abbrev s_12:Stmt:=top 20
abbrev N_12:List Str:=pu'
abbrev aE:Stmt:=top 21
abbrev N_y:List Str:=pq'
abbrev s_3:Stmt:=top 22
abbrev N_3:List Str:=["rows","total","sign","k","number"]
abbrev aF:Stmt:=top 24
abbrev N_w:List Str:=pt'
abbrev s_18:Stmt:=top 25
abbrev N_18:List Str:=["rows","tops","under","axes"]
abbrev s_17:Stmt:=top 26
abbrev N_17:List Str:=["d"]
abbrev s_13:Stmt:=top 27
abbrev N_13:List Str:=["one","spot","tops"]
abbrev s_11:Stmt:=top 28
abbrev N_11:List Str:=["one","other","columns","rows"]
abbrev s_1b:Stmt:=top 29
abbrev N_1b:List Str:=["one"]
abbrev aG:Stmt:=top 33
abbrev N_o:List Str:=["text"]
abbrev Dz:Stmt:=top 34
abbrev N_n:List Str:=["number"]
abbrev s_15:Stmt:=top 35
abbrev N_15:List Str:=["n","m"]
abbrev Dy:Stmt:=top 36
abbrev N_u:List Str:=["spot","n","m","under","down","along"]
abbrev s_4:Stmt:=top 37
abbrev N_4:List Str:=["one","n","m","spots"]
abbrev Dx:Stmt:=top 40
abbrev N_m:List Str:=["most"]
abbrev Dw:Stmt:=top 41
abbrev N_j:List Str:=["d","makers","maker"]
abbrev dY:Stmt:=top 42
abbrev N_s:List Str:=["d","makers","most","steps","found","words","at","number","step","reached"]
abbrev s_0:Stmt:=Bz (top 43) 0
abbrev N_0:List Str:=["self","d","makers","most","words"]
abbrev s_1:Stmt:=Bz (top 43) 3
abbrev N_1:List Str:=["self"]
abbrev Dv:Stmt:=top 45
abbrev N_a:List Str:=po'
abbrev s_7:Stmt:=top 46
abbrev N_7:List Str:=["group","n","m","signs","ways","given","count","number","seat","way"]
abbrev s_10:Stmt:=top 47
abbrev N_10:List Str:=["group","n","m","signs","given"]
abbrev s_6:Stmt:=top 49
abbrev N_6:List Str:=pl'
abbrev Du:Stmt:=top 50
abbrev N_d:List Str:=pj'
abbrev aH:Stmt:=top 51
abbrev N_i:List Str:=["_law_one","_law_other","_law_rows_here","_law_up","_law_down","_law_row"]
abbrev Ds:Stmt:=top 52
abbrev N_q:List Str:=["_law_sort","_law_cell","_law_rows_here","_law_k"]
abbrev aI:Stmt:=top 53
abbrev N_g:List Str:=["_law_sort","_law_cell","_law_other","_law_n","_law_m","_law_rows_here","_law_under","_law_tops","_law_by"]
abbrev s_5:Stmt:=top 54
abbrev N_5:List Str:=["_law_one","_law_i","_law_j","_law_n","_law_m","_law_rows_here","_law_tops","_law_under","_law_spot","_law_row","_law_top","_law_far"]
abbrev Dr:Stmt:=top 55
abbrev N_x:List Str:=["_law_makers","_law_n","_law_m","_law_one","_law_i","_law_j"]
abbrev s_8:Stmt:=top 56
abbrev N_8:List Str:=["_law_makers","_law_n","_law_m","_law_signs","_law_grid","_law_coming","_law_i","_law_j","_law_waiting","_law_here","_law_one","_law_there"]
abbrev Dq:Stmt:=top 57
abbrev N_p:List Str:=["_law_e","_law_some"]
abbrev Dp:Stmt:=top 58
abbrev N_f:List Str:=["_law_group_here","_law_n","_law_m","_law_signs","_law_drawing","_law_word_here","_law_e"]
abbrev Do:Stmt:=top 59
abbrev N_k:List Str:=["_law_makers","_law_group_here"]
abbrev Dm:Stmt:=top 60
abbrev N_c:List Str:=["_law_group_here","_law_cell","_law_signs","_law_n","_law_m"]
abbrev Dl:Stmt:=top 61
abbrev N_r:List Str:=["_law_drawing","_law_members","_law_n","_law_m","_law_one","_law_i","_law_j","_law_there"]
abbrev s_1a:Stmt:=top 62
abbrev N_1a:List Str:=["_law_script","_law_cell","_law_n","_law_m","_law_sort","_law_makers","_law_k","_law_group_here","_law_letters","_law_many","_law_signs","_law_space","_law_word_here","_law_drawing"]
local macro_rules | `(tactic| walk_at "s")=>`(tactic| exact ⟨rfl,rfl,rfl,by decide +kernel,rfl,by decide +kernel,by decide +kernel⟩)
local macro_rules | `(tactic| walk_at "v")=>`(tactic| (intro _ _ _ _ h; first | (obtain ⟨_,hh,_⟩:=h; subst hh; rfl) | (obtain ⟨_,_,hh,_⟩:=h; subst hh; rfl) | (obtain ⟨_,_,_,hh,_⟩:=h; subst hh; rfl) | (obtain ⟨_,_,_,_,hh,_⟩:=h; subst hh; rfl) | (obtain ⟨_,_,_,_,_,hh,_⟩:=h; subst hh; rfl) | (obtain ⟨_,_,_,_,_,_,hh,_⟩:=h; subst hh; rfl) | (obtain ⟨_,_,_,_,_,_,_,hh,_⟩:=h; subst hh; rfl) | (obtain ⟨_,_,_,_,_,_,_,_,hh,_⟩:=h; subst hh; rfl) | (obtain ⟨_,_,_,_,_,_,_,_,_,hh,_⟩:=h; subst hh; rfl)))
theorem sc_z:nZ N_z ["thing"] (nM bZ):=by walk_at "s"
theorem sc_2:nZ N_2 pp' (nM s_2):=by walk_at "s"
theorem sc_t:nZ N_t pr' (nM Ca):=by walk_at "s"
theorem sc_v:nZ N_v ["tops","under"] (nM aA):=by walk_at "s"
theorem sc_e:nZ N_e ["one"] (nM aC):=by walk_at "s"
theorem sc_h:nZ N_h ["size"] (nM aD):=by walk_at "s"
theorem sc_1c:nZ N_1c pr' (nM s_1c):=by walk_at "s"
theorem sc_12:nZ N_12 pu' (nM s_12):=by walk_at "s"
theorem sc_y:nZ N_y pq' (nM aE):=by walk_at "s"
theorem sc_3:nZ N_3 pu' (nM s_3):=by walk_at "s"
theorem sc_w:nZ N_w pt' (nM aF):=by walk_at "s"
theorem sc_18:nZ N_18 pm' (nM s_18):=by walk_at "s"
theorem sc_17:nZ N_17 ["d"] (nM s_17):=by walk_at "s"
theorem sc_13:nZ N_13 ["one","spot"] (nM s_13):=by walk_at "s"
theorem sc_11:nZ N_11 pr' (nM s_11):=by walk_at "s"
theorem sc_1b:nZ N_1b ["one"] (nM s_1b):=by walk_at "s"
theorem sc_o:nZ N_o ["text"] (nM aG):=by walk_at "s"
theorem sc_n:nZ N_n ["number"] (nM Dz):=by walk_at "s"
theorem sc_15:nZ N_15 ["n","m"] (nM s_15):=by walk_at "s"
theorem sc_u:nZ N_u ["spot","n","m"] (nM Dy):=by walk_at "s"
theorem sc_4:nZ N_4 ["one","n","m"] (nM s_4):=by walk_at "s"
theorem sc_m:nZ N_m ["most"] (nM Dx):=by walk_at "s"
theorem sc_j:nZ N_j ["d","makers"] (nM Dw):=by walk_at "s"
theorem sc_s:nZ N_s pn' (nM dY):=by walk_at "s"
theorem sc_0:nZ N_0 ph' (nM s_0):=by walk_at "s"
theorem sc_1:nZ N_1 ["self"] (nM s_1):=by walk_at "s"
theorem sc_a:nZ N_a po' (nM Dv):=by walk_at "s"
theorem sc_7:nZ N_7 pi' (nM s_7):=by walk_at "s"
theorem sc_10:nZ N_10 pi' (nM s_10):=by walk_at "s"
theorem sc_6:nZ N_6 pl' (nM s_6):=by walk_at "s"
theorem sc_d:nZ N_d pj' (nM Du):=by walk_at "s"
theorem sc_i:nZ N_i pj' (nM aH):=by walk_at "s"
theorem sc_q:nZ N_q pk' (nM Ds):=by walk_at "s"
theorem sc_g:nZ N_g pa' (nM aI):=by walk_at "s"
theorem sc_5:nZ N_5 pd' (nM s_5):=by walk_at "s"
theorem sc_x:nZ N_x pg' (nM Dr):=by walk_at "s"
theorem sc_8:nZ N_8 pe' (nM s_8):=by walk_at "s"
theorem sc_p:nZ N_p ["_law_e"] (nM Dq):=by walk_at "s"
theorem sc_f:nZ N_f pb' (nM Dp):=by walk_at "s"
theorem sc_k:nZ N_k ["_law_makers"] (nM Do):=by walk_at "s"
theorem sc_c:nZ N_c pf' (nM Dm):=by walk_at "s"
theorem sc_r:nZ N_r pc' (nM Dl):=by walk_at "s"
theorem sc_1a:nZ N_1a ["_law_script"] (nM s_1a):=by walk_at "s"
set_option genInjectivity false in
structure Adr where
 (a_z a_2 a_t a_v a_e a_h a_1c a_12 a_y a_3 a_w a_18 a_17 a_13 a_11 a_1b a_o a_n a_15 a_u a_4 a_m a_j a_s a_0 a_1 a_a a_7 a_10 a_6 a_d a_i a_q a_g a_5 a_x a_8 a_p a_f a_k a_c a_r a_1a:Addr)
 (d_z d_2 d_t d_v d_e d_h d_1c d_12 d_y d_3 d_w d_18 d_17 d_13 d_11 d_1b d_o d_n d_15 d_u d_4 d_m d_j d_s d_0 d_1 d_a d_7 d_10 d_6 d_d d_i d_q d_g d_5 d_x d_8 d_p d_f d_k d_c d_r d_1a:FuncData)
 a_16:Addr
 a_1d:Addr
 a_19:Addr
 a_1g:Addr
 a_1f:Addr
 a_14:Addr
 a_9:Addr
 a_b:Addr
 a_1e:Addr
 a_l:Addr
 k_0:Tok
structure Txt(K:Frag)(mg:MT)(t:Adr):Prop where
 F_z:FunT K mg "copied" bZ t.a_z t.d_z ["thing"]
 F_2:Fun K "__init__" "TooMany.__init__" s_2 t.a_2 t.d_2
 b_2:mZ K t.d_2 pp' []
 F_t:FunT K mg "divisor" Ca t.a_t t.d_t pr'
 F_v:FunT K mg "place" aA t.a_v t.d_v ["tops","under"]
 F_e:FunT K mg "rest_place" aC t.a_e t.d_e ["one"]
 F_h:FunT K mg "still_rows" aD t.a_h t.d_h ["size"]
 F_1c:FunT K mg "dot" s_1c t.a_1c t.d_1c pr'
 F_12:FunT K mg "turned" s_12 t.a_12 t.d_12 pu'
 F_y:FunT K mg "without" aE t.a_y t.d_y pq'
 F_3:FunT K mg "determinant" s_3 t.a_3 t.d_3 pu'
 F_w:FunT K mg "joined" aF t.a_w t.d_w pt'
 F_18:FunT K mg "deed" s_18 t.a_18 t.d_18 pm'
 F_17:FunT K mg "still" s_17 t.a_17 t.d_17 ["d"]
 F_13:FunT K mg "moved" s_13 t.a_13 t.d_13 ["one","spot"]
 F_11:FunT K mg "behind" s_11 t.a_11 t.d_11 pr'
 F_1b:FunT K mg "rest" s_1b t.a_1b t.d_1b ["one"]
 F_o:FunT K mg "are_signs" aG t.a_o t.d_o ["text"]
 F_n:FunT K mg "is_length" Dz t.a_n t.d_n ["number"]
 F_15:FunT K mg "seats" s_15 t.a_15 t.d_15 ["n","m"]
 F_u:FunT K mg "seat_at" Dy t.a_u t.d_u ["spot","n","m"]
 F_4:FunT K mg "seats_reached" s_4 t.a_4 t.d_4 ["one","n","m"]
 F_m:FunT K mg "check_most" Dx t.a_m t.d_m ["most"]
 F_j:FunT K mg "check_axes" Dw t.a_j t.d_j ["d","makers"]
 F_s:FunT K mg "closed" dY t.a_s t.d_s pn'
 F_0:FunD K "__init__" "Group.__init__" s_0 t.a_0 t.d_0 [.int 200 t.k_0]
 bd_Group___init__:mZ K t.d_0 ph' [.int 200 t.k_0]
 b_0:mZ K t.d_0 ph' []
 F_1:Fun K "members" "Group.members" s_1 t.a_1 t.d_1
 b_1:mZ K t.d_1 ["self"] []
 F_a:FunT K mg "check_spread" Dv t.a_a t.d_a po'
 F_7:FunT K mg "signs_given" s_7 t.a_7 t.d_7 pi'
 F_10:FunT K mg "spread" s_10 t.a_10 t.d_10 pi'
 F_6:FunT K mg "_law_cell_at" s_6 t.a_6 t.d_6 pl'
 F_d:FunT K mg "_law_common" Du t.a_d t.d_d pj'
 F_i:FunT K mg "_law_times" aH t.a_i t.d_i pj'
 F_q:FunT K mg "_law_rows" Ds t.a_q t.d_q pk'
 F_g:FunT K mg "_law_maker" aI t.a_g t.d_g pa'
 F_5:FunT K mg "_law_reached" s_5 t.a_5 t.d_5 pd'
 F_x:FunT K mg "_law_off" Dr t.a_x t.d_x pg'
 F_8:FunT K mg "_law_spread" s_8 t.a_8 t.d_8 pe'
 F_p:FunT K mg "_law_word" Dq t.a_p t.d_p ["_law_e"]
 F_f:FunT K mg "_law_told" Dp t.a_f t.d_f pb'
 F_k:FunT K mg "_law_group" Do t.a_k t.d_k ["_law_makers"]
 F_c:FunT K mg "_law_beyond" Dm t.a_c t.d_c pf'
 F_r:FunT K mg "_law_laid" Dl t.a_r t.d_r pc'
 F_1a:FunT K mg "law" s_1a t.a_1a t.d_1a ["_law_script"]
 z_sum:mg "sum"=none
 z_zip:mg "zip"=none
 z_enumerate:mg "enumerate"=none
 z_range:mg "range"=none
 z_len:mg "len"=none
 z_abs:mg "abs"=none
 z_isinstance:mg "isinstance"=none
 z_list:mg "list"=none
 z_tuple:mg "tuple"=none
 z_sorted:mg "sorted"=none
 z_dict:mg "dict"=none
 z_all:mg "all"=none
 z_ValueError:mg "ValueError"=none
 z_any:mg "any"=none
 m_16:mg "CrystalError"=some (.ref t.a_16)
 m_1d:mg "NoPlace"=some (.ref t.a_1d)
 m_19:mg "NoDeed"=some (.ref t.a_19)
 m_1g:mg "NoNumber"=some (.ref t.a_1g)
 m_1f:mg "NoText"=some (.ref t.a_1f)
 m_14:mg "TooMany"=some (.ref t.a_14)
 m_9:mg "NoDrawing"=some (.ref t.a_9)
 m_b:mg "OffSheet"=some (.ref t.a_b)
 m_1e:mg "NoSheet"=some (.ref t.a_1e)
 m_l:mg "Group"=some (.ref t.a_l)
 g_SMALL_LETTERS:∃u,mg "SMALL_LETTERS"=some u/\RelV (.str "abcdefghijklmnopqrstuvwxyz") u
 g_LONGEST:∃u,mg "LONGEST"=some u/\RelV (.int 6) u
 g_MOST_MEMBERS:∃u,mg "MOST_MEMBERS"=some u/\RelV (.int 200) u
 h_r:kitOne K (.type "list") (.type "list")=some true
 x_1d:PySem.W.excIn K t.a_1d [.type "ValueError",.type "Exception",.type "BaseException",.type "object"] "ValueError.__new__"=true
 x_19:PySem.W.excIn K t.a_19 [.type "ValueError",.type "Exception",.type "BaseException",.type "object"] "ValueError.__new__"=true
 cl_l:L2.Cls K t.a_l
 mk_l:L2.Mk K t.a_l t.a_0
 me_1:L2.Meth K t.a_l "members" t.a_1
 h_1:findIn K (.ref t.a_l) "dimension"=some none
 h_m:findIn K (.ref t.a_l) "given"=some none
 h_6:findIn K (.ref t.a_l) "ordered"=some none
 h_2:findIn K (.ref t.a_l) "shortest"=some none
 h_7:findIn K (.ref t.a_l) "numbers"=some none
 h_s:kitOne K (.type "int") (.type "list")=some false
 h_t:kitOne K (.type "int") (.type "tuple")=some false
 h_8:L2.XIn K t.a_14 t.a_16 t.a_2
 h_9:L2.XSt K t.a_14 "apart"
 h_e:PySem.W.exmOne K (.ref t.a_14) (.ref t.a_14)=some true
 x_b:PySem.W.excIn K t.a_b [.type "ValueError",.type "Exception",.type "BaseException",.type "object"] "ValueError.__new__"=true
 om:PySem.W.exmOne K (.ref t.a_b) (.ref t.a_16)=some true
 h_u:findIn K (.ref t.a_b) "__getattribute__"=some (some (.builtin "BaseException.__getattribute__"))
 h_v:findIn K (.ref t.a_b) "__getattr__"=some none
 h_w:findIn K (.ref t.a_b) "__class__"=some (some (.builtin "object.__class__"))
 h_x:PySem.W.mroIn K t.a_b (.type "object")=some true
 h_y:PySem.W.mroIn K t.a_b (.type "BaseException")=some true
 h_z:kitOne K (.ref t.a_b) (.type "ValueError")=some true
 h_3:kitOne K (.ref t.a_b) (.ref t.a_9)=some false
 h_b:kitOne K (.ref t.a_b) (.ref t.a_b)=some true
 h_f:kitOne K (.ref t.a_b) (.ref t.a_1e)=some false
 h_n:kitOne K (.ref t.a_b) (.ref t.a_19)=some false
 h_o:kitOne K (.ref t.a_b) (.ref t.a_1f)=some false
 h_g:kitOne K (.ref t.a_b) (.ref t.a_14)=some false
 x_9:PySem.W.excIn K t.a_9 [.type "ValueError",.type "Exception",.type "BaseException",.type "object"] "ValueError.__new__"=true
 wm:PySem.W.exmOne K (.ref t.a_9) (.ref t.a_16)=some true
 w_ga:findIn K (.ref t.a_9) "__getattribute__"=some (some (.builtin "BaseException.__getattribute__"))
 w_gt:findIn K (.ref t.a_9) "__getattr__"=some none
 w_ca:findIn K (.ref t.a_9) "__class__"=some (some (.builtin "object.__class__"))
 w_ob:PySem.W.mroIn K t.a_9 (.type "object")=some true
 w_bx:PySem.W.mroIn K t.a_9 (.type "BaseException")=some true
 w_VE:kitOne K (.ref t.a_9) (.type "ValueError")=some true
 h_5:kitOne K (.ref t.a_9) (.ref t.a_9)=some true
 h_c:kitOne K (.ref t.a_9) (.ref t.a_b)=some false
 h_h:kitOne K (.ref t.a_9) (.ref t.a_1e)=some false
 h_p:kitOne K (.ref t.a_9) (.ref t.a_19)=some false
 h_q:kitOne K (.ref t.a_9) (.ref t.a_1f)=some false
 h_i:kitOne K (.ref t.a_9) (.ref t.a_14)=some false
 e_cg:PySem.W.specialIn K (.builtin "object.__class__") "__get__"=some (some (.builtin "getset_descriptor.__get__"))
 e_tk:PySem.W.takesIn K (.builtin "object.__class__")=some true
 k_tt:kitOne K (.type "tuple") (.type "tuple")=some true
 bl:∀(s:Shared)(u:Value),BindsTo s t.d_1a ⟨[u],[]⟩ [("_law_script",u)]
local macro_rules | `(tactic| walk_at "r")=>`(tactic| simp only [tSeq,tAsg,nS,tVar,qVar,tC,tOp,u_f,u_X,u_Y,tUn,cP,tB,tIfS,tIf,tAnd,tOr,tNot,Os,tOrV,u_T,tRet,u_W,Oo,Au,kP,cU,mG,tNil,tCB,tTup,tLst,tPar,Bx,tBM,tBM0,tSl,Ai,Aj,List.getElem?_cons_zero,List.getElem?_cons_succ,Option.some.injEq,exists_eq_left',exists_eq_left,List.set_cons_zero,List.set_cons_succ,List.cons.injEq,V.int.injEq,V.bl.injEq,V.ref.injEq,and_true,true_and,List.append_nil,ne_eq,exists_and_left,and_assoc,↓reduceIte,Bool.not_true,Bool.not_false,Bool.false_eq_true])
set_option hygiene false in
local macro_rules | `(tactic|apply $e:term)=>`(tactic|refine $e (by walk_at "v") (λcdv A outer s H vs Q E hr h=>?_))
set_option hygiene false in
local macro_rules | `(tactic|left)=>`(tactic|(subst e1;refine st λN1 e1=>?_;ext))
set_option hygiene false in
local macro_rules | `(tactic|right)=>`(tactic|(refine st λN1 e1=>?_;ext))
set_option hygiene false in
local macro_rules | `(tactic|symm)=>`(tactic|(subst e1;ext))
set_option hygiene false in
local macro_rules | `(tactic|exfalso)=>`(tactic|(refine mQ λB eB=>?_;simp only[iSeq];ext))
def gcdI(a b:Int):Int:=(Int.gcd a b:Int)
def absI(u:Int):Int:=if u<0 then -u else u
def gl(u:Int)(ns:LI'):Int:=ns.foldl gcdI (absI u)
theorem Vb(u:Int):0<=absI u:=by unfold absI;split <;> omega
theorem Va{d u:Int}:d∣absI u↔d∣u:=by
 unfold absI;split
 ·exact Int.dvd_neg
 ·exact oE
theorem Jp{d:Int}:∀(ns:LI')(c:Int),d∣ns.foldl gcdI c↔d∣c/\∀t∈ns,d∣t
 |[],c=>by simp
 | t:: r,c=>by
  rw[wB,Jp r];unfold gcdI;rw[Int.dvd_coe_gcd_iff];constructor
  ·rintro⟨⟨f,a⟩,g⟩;refine⟨f,λx b=>?_⟩;rcases xC.mp b with e|e
   ·rw[e];exact a
   ·exact g x e
  ·rintro⟨f,a⟩;exact⟨⟨f,a t zV⟩,λx b=>a x (zN _ b)⟩
theorem eL{d u:Int}{ns:LI'}:d∣gl u ns↔d∣u/\∀t∈ns,d∣t:=by
 unfold gl;rw[Jp,Va]
theorem Jo:∀(ns:LI')(c:Int),0<=c->0<=ns.foldl gcdI c
 |[],_,h=>h
 |t:: r,c,_=>Jo r _ (qR _)
theorem aJ(u:Int)(ns:LI'):0<=gl u ns:=Jo ns _ (Vb u)
theorem gl_u(u:Int)(ns:LI'):gl u ns∣u:=(eL.mp (pH _)).1
theorem eM{u t:Int}{ns:LI'}(h:t∈ns):gl u ns∣t:=(eL.mp (pH _)).2 t h
theorem Dk{u:Int}(ns:LI')(h:u≠0):0<gl u ns:=by
 have:=aJ u ns;rcases Int.lt_or_eq_of_le this with q|q
 ·exact q
 ·obtain⟨k,e⟩:=gl_u u ns;rw[←q,sD]at e;exact absurd e h
theorem Wz{u v:Int}{ns ms:LI'}(h:∀d:Int,(d∣u/\∀t∈ns,d∣t)↔(d∣v/\∀t∈ms,d∣t)):gl u ns=gl v ms:=
 Int.dvd_antisymm (aJ _ _) (aJ _ _) (eL.mpr ((h _).mp (eL.mp (pH _)))) (eL.mpr ((h _).mpr (eL.mp (pH _))))
theorem Wy(u:Int)(ns:LI')(t:Int):gl u (ns++[t])=gcdI (gl u ns) t:=by unfold gl;rw[vZ];rfl
def cs(u:Int)(ns:LI'):Int:=if u<0 then -(gl u ns) else gl u ns
theorem iM{u:Int}(ns:LI')(h:u≠0):cs u ns≠0:=by
 have:=Dk ns h;unfold cs;split <;> omega
theorem kW{u x:Int}{ns:LI'}(h:gl u ns∣x):cs u ns∣x:=by
 unfold cs;split
 ·exact Int.neg_dvd.mpr h
 ·exact h
theorem jO{c x:Int}(a:c≠0)(h:c∣x):x.fdiv c*c=x:=by
 obtain⟨k,e⟩:=h;subst e;rw[xJ c k,qC _ a]
theorem fJ{u:Int}(ns:LI')(h:u≠0):0<u.fdiv (cs u ns):=by
 have e:=jO (iM ns h) (kW (gl_u u ns));have g:=Dk ns h;rcases Int.lt_trichotomy (u.fdiv (cs u ns)) 0 with q|q|q
 ·refine False.elim ?_;unfold cs at e q;split at e
  ·rename_i a;rw[zE a]at q;have:=Int.mul_nonneg_of_nonpos_of_nonpos (xR q) (show -(gl u ns)<=0 by omega);omega
  ·rename_i a;rw[zD a]at q;have:=Int.mul_neg_of_neg_of_pos q g;omega
 ·rw[q,sD]at e;exact absurd e.symm h
 ·exact q
theorem Wx{u t:Int}{ns:LI'}(h:u≠0)(e:t∈ns):t*u.fdiv (cs u ns)=t.fdiv (cs u ns)*u:=by
 have e1:=jO (iM ns h) (kW (gl_u u ns));have d:=jO (iM ns h) (kW (eM (u:=u) e));generalize u.fdiv (cs u ns)=a at*
 generalize t.fdiv (cs u ns)=b at*;generalize cs u ns=c at*
 rw[←d,←e1,oG,xJ c a]
theorem Ww{u:Int}{ns:LI'}(h:0<u)(g:gl u ns=1):cs u ns=1:=by
 unfold cs;rw[zD ⋯,g]
theorem Wv{u:Int}{ns:LI'}(h:0<u)(g:gl u ns=1):(ns.map λt=>t.fdiv (cs u ns))=ns/\u.fdiv (cs u ns)=u:=by
 rw[Ww h g];refine⟨?_,Int.fdiv_one u⟩;rw[show(λt:Int=>t.fdiv 1)=id from funext λt=>Int.fdiv_one t,List.map_id]
theorem Wu{u:Int}(a:0<u)(t:Int):(t.fmod u-t).fmod u=0:=by
 rw[yN t (xR a),yN _ (xR a)];exact Int.emod_eq_zero_of_dvd (by
  have:=Int.emod_add_mul_ediv t u;exact⟨-(t/u),by rw[Int.mul_neg];omega⟩)
theorem Jn(g l:Int):Int.gcd l (Int.fmod g l)=Int.gcd g l:=by
 rw[rO,Int.gcd_sub_mul_left_right,Int.gcd_comm]
theorem Jm(a b:Int):Int.gcd (if a<0 then -a else a) (if b<0 then -b else b)=Int.gcd a b:=by
 split <;> split <;> simp
theorem aK(a:Int):0<=(if a<0 then -a else a):=by split <;> omega
theorem Jl{g l a b:Int}(h:Int.gcd g l=Int.gcd a b)(c:0<=g)(z:l=0):g=gcdI a b:=by
 rw[z,Int.gcd_zero_right]at h;unfold gcdI;rw[←h];omega
def Dj:Sp:=λvs H Q _=>∃a b,vs=[.int a,.int b]/\Q (.int (gcdI a b)) H
abbrev sp_t:Sp:=Dj
abbrev sp_d:Sp:=Dj
def kN(H:Hp)(p:Addr)(ns:LI')(u:Int):Prop:=∃q,H p=some (.tup [.ref q,.int u])/\H q=some (.tup (ns.map V.int))
theorem kN.up{H H':Hp}{p:Addr}{ns:LI'}{u:Int}(h:kN H p ns u)(s:Same H H'):kN H' p ns u:=let ⟨q,a,b⟩:=h;⟨q,s _ _ a,s _ _ b⟩
def kD(n:Int):Prop:=n.natAbs<2^8990
theorem eN{n:Nat}(h:n<=1000):n<sizeLine:=iQ h
theorem Di{c:Int}(h:kD c)(z:c≠0):c.natAbs.log2<9000:=zL ((pV ⋯).mpr h) ∅
theorem Dh{c u:Int}(h:kD u)(z:u≠0)(d:c∣u):kD c:=by
 have:=Int.natAbs_dvd_natAbs.mpr d;have:=Nat.le_of_dvd ⋯ this;unfold kD at*
 omega
def redT(u:Int)(ns:LI'):LI':=ns.map λt=>t.fdiv (cs u ns)
def redU(u:Int)(ns:LI'):Int:=u.fdiv (cs u ns)
def lK(u:Int)(ns:LI'):LI':=ns.map λt=>t.fmod u
def sp_v(K:Frag)(C:Addr):Sp:=λvs H Q E=>E4 λ(b:Bool)(a:Addr)(ns:LI')(u:Int)=>A6 (vs=[.ref a,.int u]) (SqB b K H a (ns.map V.int)) (ns.length<=100) (kD u) (((u=0\/ns=[])->E (.ref C) none H)) ((u≠0->ns≠[]->∀p H',Same H H'->kN H' p (redT u ns) (redU u ns)->Q (.ref p) H'))
theorem Ws{a:Type}{ns:List a}{i:Nat}{n:a}(h:ns[i]?=some n):ns.take (i+1)=ns.take i++[n]:=by
 rw[xY,h];rfl
def sp_1c(K:Frag):Sp:=λvs H Q _=>E6 λ(b1 b2:Bool)(p q:Addr)(ms ns:LI')=>A7 (vs=[.ref p,.ref q]) (SqB b1 K H p (ms.map V.int)) (SqB b2 K H q (ns.map V.int)) (ms.length=ns.length) (ms.length<=1000) ((∀(i:Nat) m n,ms[i]?=some m->ns[i]?=some n->IntMulOk m n)) (∀H',Same H H'->Q (.int (dotI ms ns)) H')
def sp_12(K:Frag):Sp:=λvs H Q _=>E5 λ(b1 b2:Bool)(a:Addr)(rows:LM)(w:Nat)=>A7 (vs=[.ref a]) (MatB b1 b2 K H a rows) (rows≠[]) ((∀r∈rows,r.length=w)) (w<=1000) (rows.length<=1000) (∀r H',H r=none->Same H H'->MatL H' r (bF w rows)->Q (.ref r) H')
def iN(i k:Nat)(rows:LM):LM:=(rows.eraseIdx i).map λr=>r.eraseIdx k
def sg(k:Nat):Int:=if k%2=0 then 1 else -1
def altS(f:Nat->Int):Nat->Int
 |0=>0
 |k+1=>altS f k+sg k*f k
def detM:Nat->LM->Int
 |0,_=>1
 |1,rows=>(rows.getD 0 []).getD 0 0
 |n+2,rows=>altS (λk=>(rows.getD 0 []).getD k 0*detM (n+1) (iN 0 k rows)) (n+2)
def Sq(n:Nat)(rows:LM):Prop:=rows.length=n/\∀r∈rows,r.length=n
def mW(B:Nat)(rows:LM):Prop:=∀r∈rows,∀x∈r,x.natAbs<2^B
theorem Wr(k:Nat):-sg k=sg (k+1):=by
 unfold sg
 by_cases h:k%2=0
 ·rw[zE h,zD ⋯]
 ·rw[zD h,zE ⋯];rfl
theorem Jk(k:Nat):(sg k).natAbs=1:=by unfold sg;split <;> rfl
theorem Sq.minor{n i k:Nat}{a:LM}(h:Sq (n+1) a)(hi:i<n+1)(c:k<n+1):Sq n (iN i k a):=by
 refine⟨?_,λr hr=>?_⟩
 ·unfold iN;rw[zqe,rV,h.1,zE hi];rfl
 ·obtain⟨z,b,rfl⟩:=oR.mp hr;have hl:=h.2 z (tV b);rw[rV,hl,zE c];rfl
theorem mW.minor{B i k:Nat}{a:LM}(h:mW B a):mW B (iN i k a):=λr hr x b=>by
 obtain⟨z,c,rfl⟩:=oR.mp hr;exact h z (tV c) x (tV b)
theorem Jj{f:Nat->Int}{M:Nat}:∀n:Nat,(∀k<n,(f k).natAbs<=M)->(altS f n).natAbs<=n*M
 |0,_=>by simp[altS]
 |n+1,h=>by
  have b:=Jj n λk d=>h k ⋯;have c:=h n ⋯;show(altS f n+sg n*f n).natAbs<=_;have a:=sE (altS f n) (sg n*f n);rw[xN,Jk,oN]at a;rw[pM];omega
theorem row0{n:Nat}{a:LM}(h:Sq (n+1) a):a[0]?=some (a.getD 0 [])/\a.getD 0 []∈a:=by
 have hl:0<a.length:=by have:=h.1;omega
 have e:a.getD 0 []=a[0]:=by simp[hl]
 rw[e];exact⟨by simp[hl],wS hl⟩
theorem Ji{B:Nat}:∀(n:Nat)(a:LM),1<=n->n<=4->Sq n a->mW B a->(detM n a).natAbs<=2^(n*(B+2))
 |0,_,h,_,_,_=>⋯
 |1,a,_,_,b,c=>by
  have hr:=row0 b;have hl:0<(a.getD 0 []).length:=by rw[b.2 _ hr.2];decide
  have:=c _ hr.2 _ (L2.getD_mem hl);show((a.getD 0 []).getD 0 0).natAbs<=_;have:2^B<=2^(1*(B+2)):=yW ∅ ⋯;omega
 | n+2,a,_,j,b,c=>by
  have hr:=row0 b;have f:∀k<n+2,((a.getD 0 []).getD k 0*detM (n+1) (iN 0 k a)).natAbs<=2^B*2^((n+1)*(B+2)):=λk d=>by
   have hl:k<(a.getD 0 []).length:=by rw[b.2 _ hr.2];exact d
   have g:=c _ hr.2 _ (L2.getD_mem hl);have i:=Ji (n+1) (iN 0 k a) ⋯ ⋯ (b.minor ⋯ d) c.minor;rw[xN];exact yZ (wA g) i
  have:=Jj (n+2) f;have e:2^((n+2)*(B+2))=4*(2^B*2^((n+1)*(B+2))):=by
   rw[←sL,show(4:Nat)=2^2 from rfl,←sL];congr 1;rw[sI,sI];omega
  show(altS _ (n+2)).natAbs<=_;rw[e];refine yH this (xK _ ⋯)
theorem kJ{x:Int}{B:Nat}(h:x.natAbs<2^B):Builtin.Int.intBits x<=B:=nA.mpr h
def sp_y(K:Frag):Sp:=λvs H Q _=>E7 λ(b1 b2:Bool)(a:Addr)(rows:LM)(i k w:Nat)=>A7 (vs=[.ref a,.int i,.int k]) (MatB b1 b2 K H a rows) ((∀r∈rows,r.length=w)) (k<w) (w<=1000) (rows.length<=1000) (∀r H',H r=none->Same H H'->MatL H' r (iN i k rows)->Q (.ref r) H')
def sp_3(K:Frag):Nat->Sp
 |0=>λ_ _ _ _=>False
 |n+1=>λvs H Q _=>∃(b1 b2:Bool)(a:Addr)(rows:LM)(B:Nat),vs=[.ref a]/\MatB b1 b2 K H a rows/\Sq (n+1) rows/\n<=3/\mW B rows/\B<=1000000/\∀H',Same H H'->Q (.int (detM (n+1) rows)) H'
section
variable {g:TG} {tt:TOx} {fr:List (Str×Nat)} {σ:St} {a:Addr} {H:Hp} {Q:VK} {K:Frag}
theorem Wq{b:Bool}{l:Addr}{xs:List V}(P:Nat->List V->Hp->Prop)(z:H a=none)(e:SqB b K H l xs)(J:xs.length<=1000)(t:P 0 [] (upd H a (.lst [])))
  (hl:∀i zs c,P i zs c->zs.length<=i)(mono:∀i zs c d,P i zs c->jE a c d->P i zs d)
  (I:∀i x c zs,xs[i]?=some x->Same H c->c a=some (.lst zs)->P i zs c->∀C:Option V->Hp->Prop,
   (∀y d,Same c d->P (i+1) (zs++[y]) d->C (some y) d)->(∀d,Same c d->P (i+1) zs d->C none d)->tt (some (.int i):: some x:: lG fr σ) c C)
  (D:∀c ys,Same H c->c a=some (.lst ys)->P xs.length ys c->Q (.ref a) c):
  kL (Ite K b l) (gTup K 2 (lM (nS 0) (lM (nS 1) gNil))) tt 2 fr σ a H Q:=by
 refine Hu xs.length P z J t hl mono (λi c hi s=>⟨xs,xs[i],e.up s,by simp[hi]⟩) (λc s=>⟨xs,e.up s,rfl⟩) ?_ D;intro i c zs hi j k p m x M v F C u w;obtain⟨q,x,rfl,n,rfl,G⟩:=F;refine⟨q,[.int i,x],rfl,SqT.of nK,rfl,_,[x],rfl,x,[],rfl,rfl,?_⟩;have sn:Same c (upd c q (.tup [.int i,x])):=Same.new n
 match m,v with
 |[o,L],_ =>
  exact⟨⟨[some (.int i),some x],rfl,rfl⟩,I i x _ zs (G xs (e.up j)) (j.trans sn) (sn _ _ k) (mono _ _ _ _ p sn.x) C (λy d f r=>u y d (sn.trans f) r) λd f r=>w d (sn.trans f) r⟩
end
theorem SqB.cut{b:Bool}{K:Frag}{H:Hp}{p:Addr}{xs:List V}:SqB b K (upd H p (seqO b xs)) p xs:=by
 cases b
 ·exact SqB.lst nK
 ·exact SqB.tup nK
theorem Wp{c:Type}{a:List c}{b t:Nat}{r:c}(e:a[t]?=some r):(a.take (t+1)).eraseIdx b=if t=b then(a.take t).eraseIdx b else(a.take t).eraseIdx b++[r]:=by
 have f:t<a.length:=(zqa e).1;have hl:(a.take t).length=t:=by rw[xA];omega
 rw[xY,e];show(a.take t++[r]).eraseIdx b=_
 by_cases h:t=b
 ·rw[zE h,uD ⋯,hl,h,uY,tL (l:=a.take b) (by rw[xA];omega)];simp
 ·rw[zD h]
  by_cases d:b<t
  ·rw[List.eraseIdx_append_of_lt_length ⋯]
  ·rw[uD ⋯,hl,tL (l:=a.take t) ⋯];congr 1;rw[tL];simp;omega
theorem Jh{B C:Nat}:∀(ms ns:LI'),(∀x∈ms,x.natAbs<2^B)->(∀y∈ns,y.natAbs<2^C)->(dotI ms ns).natAbs<=ms.length*2^(B+C)
 |[],ns,_,_=>by simp[dotI]
 |m:: ms,[],_,_=>by simp[dotI]
 | m:: ms,n:: ns,a,b=>by
  have k:=Jh ms ns (λx c=>a x (zN _ c)) (λy d=>b y (zN _ d));have e:dotI (m:: ms) (n:: ns)=m*n+dotI ms ns:=by simp[dotI]
  have f:=a m zV;have g:=b n zV;have i:(m*n).natAbs<=2^(B+C):=by
   rw[xN,sL];exact yZ (wA f) (wA g)
  have j:=sE (m*n) (dotI ms ns);rw[e,zT,pM];omega
def idM(d:Nat):LM:=(List.range d).map λi=>(List.range d).map λk=>if i=k then(1:Int) else 0
def sp_h:Sp:=λvs H Q _=>E1 λ(n:Nat)=>A3 (vs=[.int n]) (n<=1000) (∀r H',H r=none->Same H H'->MatL H' r (idM n)->Q (.ref r) H')
def kE(K:Frag)(H:Hp)(p:Addr)(M:LM)(ts:LI')(u:Int):Prop:=∃pr pt,H p=some (.tup [.ref pr,.ref pt,.int u])/\MatB true true K H pr M/\H pt=some (.tup (ts.map V.int))
theorem kE.up{K:Frag}{H H':Hp}{p:Addr}{M:LM}{ts:LI'}{u:Int}(h:kE K H p M ts u)(s:Same H H'):kE K H' p M ts u:=let ⟨c,pt,b,d,a⟩:=h;⟨c,pt,s _ _ b,d.up s,s _ _ a⟩
def sp_w(K:Frag):Sp:=λvs H Q _=>E7 λ(b1 b2:Bool)(a p:Addr)(M:LM)(ts:LI')(u:Int)=>A5 (vs=[.ref a,.ref p]) (MatB b1 b2 K H a M) (kN H p ts u) (M.length<=100) (∀q H',Same H H'->kE K H' q M ts u->Q (.ref q) H')
def PlS(K:Frag)(H:Hp)(p:Addr)(ns:LI')(u:Int):Prop:=∃q,SqT K H p [.ref q,.int u]/\SqT K H q (ns.map V.int)
theorem kN.s{K:Frag}{H:Hp}{p:Addr}{ns:LI'}{u:Int}(h:kN H p ns u):PlS K H p ns u:=let ⟨q,a,b⟩:=h;⟨q,SqT.of a,SqT.of b⟩
theorem PlS.up{K:Frag}{H H':Hp}{p:Addr}{ns:LI'}{u:Int}(h:PlS K H p ns u)(s:Same H H'):PlS K H' p ns u:=let ⟨q,a,b⟩:=h;⟨q,kC s _ _ a,kC s _ _ b⟩
theorem Jg{K:Frag}{H:Hp}{p:Addr}{ns:LI'}{u:Int}{Q:VK}(h:PlS K H p ns u)(k:∀q,SqT K H q (ns.map V.int)->Q (.ref q) H):rIxB K (.ref p) (.int 0) H Q:=let ⟨q,a,b⟩:=h;⟨true,p,_,_,_,rfl,rfl,(a:SqB true K H p _),rfl,k q b⟩
theorem Dg{K:Frag}{H:Hp}{p:Addr}{ns:LI'}{u:Int}{Q:VK}(h:PlS K H p ns u)(k:Q (.int u) H):rIxB K (.ref p) (.int 1) H Q:=let ⟨q,a,b⟩:=h;⟨true,p,_,_,_,rfl,rfl,(a:SqB true K H p _),rfl,k⟩
def sp_e(K:Frag):Sp:=λvs H Q _=>E3 λ(p:Addr)(ns:LI')(u:Int)=>A5 (vs=[.ref p]) (PlS K H p ns u) (ns.length<=100) (0<u) (∀p' H',Same H H'->kN H' p' (lK u ns) u->Q (.ref p') H')
def kO(K:Frag)(H:Hp)(p:Addr)(M:LM)(ts:LI')(u:Int):Prop:=∃v0 v1,SqT K H p [.ref v0,.ref v1,.int u]/\MatB true true K H v0 M/\SqT K H v1 (ts.map V.int)
theorem kO.up{K:Frag}{H H':Hp}{p:Addr}{M:LM}{ts:LI'}{u:Int}(h:kO K H p M ts u)(s:Same H H'):kO K H' p M ts u:=let ⟨b,c,d,e,a⟩:=h;⟨b,c,kC s _ _ d,e.up s,kC s _ _ a⟩
theorem kE.s{K:Frag}{H:Hp}{p:Addr}{M:LM}{ts:LI'}{u:Int}(h:kE K H p M ts u):kO K H p M ts u:=let ⟨b,c,d,e,a⟩:=h;⟨b,c,SqT.of d,e,SqT.of a⟩
theorem eO{K:Frag}{H:Hp}{p:Addr}{M:LM}{ts:LI'}{u:Int}{Q:VK}(h:kO K H p M ts u)(q:∀x,MatB true true K H x M->Q (.ref x) H):rIxB K (.ref p) (.int 0) H Q:=let ⟨x,y,a,b,c⟩:=h;⟨true,p,_,_,_,rfl,rfl,(a:SqB true K H p _),rfl,q x b⟩
theorem Df{K:Frag}{H:Hp}{p:Addr}{M:LM}{ts:LI'}{u:Int}{Q:VK}(h:kO K H p M ts u)(q:∀x,SqT K H x (ts.map V.int)->Q (.ref x) H):rIxB K (.ref p) (.int 1) H Q:=let ⟨x,y,b,c,a⟩:=h;⟨true,p,_,_,_,rfl,rfl,(b:SqB true K H p _),rfl,q y a⟩
theorem aL{K:Frag}{H:Hp}{p:Addr}{M:LM}{ts:LI'}{u:Int}{Q:VK}(h:kO K H p M ts u)(q:Q (.int u) H):rIxB K (.ref p) (.int 2) H Q:=let ⟨x,y,a,c,b⟩:=h;⟨true,p,_,_,_,rfl,rfl,(a:SqB true K H p _),rfl,q⟩
def movT(M:LM)(ts:LI')(u:Int)(ns:LI')(v:Int):LI':=List.zipWith (λr t=>dotI r ns*u+t*v) M ts
def jP(B:Nat)(ns:LI'):Prop:=∀x∈ns,x.natAbs<2^B
structure Fine(d:Nat)(M:LM)(ts:LI')(u:Int):Prop where
 sq:Sq d M
 len:ts.length=d
 pos:0<u
 bm:mW 200000 M
 bt:jP 200000 ts
 bu:u<2^1500
def sp_13(K:Frag):Sp:=λvs H Q _=>E8 λ(p q:Addr)(M:LM)(ts ns:LI')(u v:Int)(d:Nat)=>A11 (vs=[.ref p,.ref q]) (kO K H p M ts u) (PlS K H q ns v) (Fine d M ts u) (1<=d) (d<=4) (ns.length=d) (jP 200000 ns) (0<v) (v<2^1500) (∀r H',Same H H'->kN H' r (redT (u*v) (movT M ts u ns v)) (redU (u*v) (movT M ts u ns v))->Q (.ref r) H')
def sp_11(K:Frag):Sp:=λvs H Q _=>E9 λ(p q:Addr)(M N:LM)(ts ns:LI')(u v:Int)(d:Nat)=>A8 (vs=[.ref p,.ref q]) (kO K H p M ts u) (kO K H q N ns v) (Fine d M ts u) (Fine d N ns v) (1<=d) (d<=4) (∀r H',Same H H'->kE K H' r (mulM d N M) (redT (v*u) (movT N ns v ts u)) (redU (v*u) (movT N ns v ts u))->Q (.ref r) H')
def sp_1b(K:Frag):Sp:=λvs H Q _=>E4 λ(p:Addr)(M:LM)(ts:LI')(u:Int)=>A6 (vs=[.ref p]) (kO K H p M ts u) (M.length<=100) (ts.length<=100) (0<u) (∀r H',Same H H'->kE K H' r M (lK u ts) u->Q (.ref r) H')
theorem fK{u:Int}(a:0<u)(b:u<2^1500):u.natAbs<2^1500:=by
 have e:((2^1500:Nat):Int)=(2:Int)^1500:=nofun
 omega
theorem Jf{u:Int}{B:Nat}(h:u.natAbs<2^B)(a:B<=8990):kD u:=zL h (yW ∅ a)
theorem Je{u v:Int}(b:0<u)(d:u<2^1500)(a:0<v)(c:v<2^1500):kD (u*v)/\0<u*v:=by
 refine⟨Jf (B:=1500+1500) ?_ ∅,zY b a⟩;rw[xN,sL];exact Nat.mul_lt_mul'' (fK b d) (fK a c)
theorem mW.le{B C:Nat}{M:LM}(h:mW B M)(a:B<=C):mW C M:=λr hr x b=>zL (h r hr x b) (yW ∅ a)
section
variable {P:Program} {w:World} {K:Frag} {mg:MT} {base:Heap} {t:Adr}
theorem Wo{ns:LI'}{k:Int}(a:0<=k)(b:k<ns.length):atI (ns.map V.int) k=some (.int (ns.getD k.toNat 0)):=by
 obtain⟨j,rfl⟩:=yE a;exact kH (fW (Bl ⋯)) rfl
def sp_6(K:Frag):Sp:=λvs H Q _=>E3 λ(p:Addr)(ns:LI')(k:Int)=>A4 (vs=[.ref p,.int k]) (SqL K H p (ns.map V.int)) (0<=k) (Q (.int (ns.getD k.toNat 0)) H)
theorem ok_6(T:Txt K mg t):FnOk P w K mg base CX0 1 t.a_6 t.d_6 pl' (sp_6 K):=by
 apply T.F_6.ok sc_6
 ·obtain⟨p,ns,k,rfl,a,b,q⟩:=h;refine⟨_,(nF (mF (mC cO (pq 1) (jN T.z_len (pq 0)) (mB _))
   (nJ (nX (lC ix_B (pq 0) (pq 1) (λ_ _=>rfl))))
   mE)
   (nJ (nX nI))),?_⟩
  show tSeq _ _ _ [some (.ref p),some (.int k)] H;ext;refine bJ (b:=false) a ?_;ext
  by_cases z:k<ns.length
  ·rw[zK z];exact iteT ⟨false,p,_,_,_,rfl,rfl,a,Wo b z,q⟩
  ·rw[zI z];refine iteF ?_;have e:ns.getD k.toNat 0=0:=by
    rw[zqc,List.getElem?_eq_none ⋯];rfl
   rw[e]at q;exact q
theorem Wn{a b:Int}{H:Hp}{Q:VK}{E:XK}:Dj [.int a,.int b] H Q E=Q (.int (gcdI a b)) H:=propext ⟨λ⟨_,_,e,q⟩=>by cases e;exact q,λq=>⟨_,_,rfl,q⟩⟩
theorem ok_t(T:Txt K mg t):FnOk P w K mg base CX0 1 t.a_t t.d_t pr' sp_t:=by
 apply T.F_t.ok sc_t
 ·obtain⟨a,b,rfl,k⟩:=h;refine⟨_,(nF (nP (i:=2) sc_t.nd rfl (Or.inl rfl) (lA dB rfl T.z_abs (nofun) (nD (pq 0) nE)))
   (nF (nP (i:=3) sc_t.nd rfl (Or.inl rfl) (lA dB rfl T.z_abs (nofun) (nD (pq 1) nE)))
   (nF (eX yJ (mC jK (pq 3) nI (mB _))
   (nF (nP (i:=4) sc_t.nd rfl (Or.inl rfl) (nH mH (pq 2) (pq 3)))
   (nF (nP (i:=2) sc_t.nd rfl (Or.inl rfl) (pq 3))
   (nJ (nP (i:=3) sc_t.nd rfl (Or.inl rfl) (pq 4))))))
   (nJ (nX (pq 2)))))),?_⟩
  show tSeq _ _ _ [some (.int a),some (.int b),none,none,none] H;ext;refine⟨λm f c=>∃g l r,f=[some (.int a),some (.int b),some (.int g),some (.int l),r]/\c=H/\0<=g/\0<=l/\Int.gcd g l=Int.gcd a b/\m=l.toNat,
   ⟨_,_,_,_,rfl,rfl,aK a,aK b,Jm a b,rfl⟩,?_⟩
  rintro m f c ⟨g,l,r,rfl,rfl,i,hl,e,rfl⟩;ext
  by_cases z:l=0
  ·rw[zK z];refine iteF ?_;rw[Jl e i z];exact k
  ·rw[zI z];refine iteT ⟨λd H'=>d=[some (.int a),some (.int b),some (.int l),some (.int (g.fmod l)),some (.int (g.fmod l))]/\H'=c,?_,z,rfl,rfl⟩;rintro d H' ⟨rfl,rfl⟩;have l1:=qJ g (show 0<l by omega);have l2:=sQ g (show 0<l by omega);exact⟨(g.fmod l).toNat,⋯,_,_,_,rfl,rfl,hl,l2,by rw[Jn];exact e,rfl⟩
theorem ok_v(T:Txt K mg t):FnOk P w K mg base (CX1 P w) 2 t.a_v t.d_v ["tops","under"] (sp_v K t.a_1d):=by
 have Z:=@ok_t P w K mg base t T;refine T.F_v.okX sc_v (λvs H Q E h=>?_) (λcdv A outer s H vs Q E hr h=>?_)
 ·obtain⟨b,a,ns,u,rfl,_⟩:=h;rfl
 ·obtain⟨b,a,ns,u,rfl,d,hl,su,D,a0⟩:=h;refine⟨_,(nF (mF (mC jC (pq 1) nI (mB _))
   (nJ (iD rfl iC rfl T.m_1d T.x_1d yM (nD mL nE)))
   mE)
   (nF (mF (mC jC (jN T.z_len (pq 0)) nI (mB _))
   (nJ (iD rfl iC rfl T.m_1d T.x_1d yM (nD mL nE)))
   mE)
   (nF (nP (i:=2) sc_v.nd rfl (Or.inr rfl) (lA dB rfl T.z_abs (nofun) (nD (pq 1) nE)))
   (nF (PS.nox (lN yJ rfl (lH (pq 0)) (mM (i:=3) sc_v.nd rfl (Or.inl rfl))
   (nJ (nP (i:=2) sc_v.nd rfl (Or.inr rfl) (nW Z hr.mo T.F_t (nD (pq 2) (nD (pq 3) nE)))))))
   (nF (mF (mC cO (pq 1) nI (mB _))
   (nJ (nP (i:=2) sc_v.nd rfl (Or.inr rfl) (eY eZ (pq 2))))
   mE)
   (nJ (nX (lI (nD (jA gF rfl T.z_tuple (nofun) (nD (kB (sc:=nM aA) (N:=N_v) (fr:=[("common",2)]) (te:=(tOp (rI iS λi j=>.int (i.fdiv j)) (tVar 0) (tVar 1))) rfl rfl (nofun) rfl (nofun) (lH (pq 0)) (λ_ _ _ a1=>(nH lD (pv 0) (pv 1)))) nE)) (nD (nH lD (pq 1) (pq 2)) nE)))))))))),?_⟩
  show tSeq _ _ _ [some (.ref a),some (.int u),none,none] H;refine st λN1 e1=>?_;simp only[kK];ext;refine ite2 (λz=>⟨∅,D (.inl (wX z))⟩) (λz=>?_);have g:u≠0:=λq=>z (zK q);subst e1;refine st λN1 e1=>?_;simp only[kK];ext;refine bJ d ?_;ext;refine ite2 (λz=>⟨∅,D (.inr ?_)⟩) (λz=>?_)
  ·have:=wX z;exact vC ⋯
  have G:ns≠[]:=λq=>z (zK (by rw[q];rfl));left;subst e1;refine st λN1 e1=>lO λB eB=>?_;simp only[iSeq];ext;refine⟨b,⟨_,d⟩,?_⟩;refine fA (g:=nS 3) (tb:=B) (λi k c=>∃v3,k=[some (.ref a),some (.int u),some (.int (gl u (ns.take i))),v3]/\c=H) ⟨_,rfl,rfl⟩ (λi k c _⟨_,_,e⟩=>e ▸ d) ?_ ?_
  ·rintro i x k c hi ⟨v3,rfl,rfl⟩;obtain⟨n,o,rfl⟩:=gZ hi;subst eB;ext;simp only[Wn];rw[Ws o,Wy]
   first|trivial|exact⟨_,rfl,rfl⟩
  ·rintro k c ⟨v3,rfl,rfl⟩;rw[zqe,vL];subst e1;refine st λI J=>?_;have f:I [some (.ref a),some (.int u),some (.int (cs u ns)),v3] c:=by
    subst J;have L:kD (cs u ns):=Dh su g (kW (gl_u u ns));have C:∀x,iS x (cs u ns):=λx=>⟨iM ns g,Di L (iM ns g)⟩;ext;exfalso;refine⟨b,⟨_,d⟩,λY X=>kM (λj y _=>∃n,ns[j]?=some n/\y=.int (n.fdiv (cs u ns))) X d (by rw[zqe];omega) (λ_ _ _ _ r _=>r) ?_ ?_⟩
    ·intro i x m zs U _ _ O R;obtain⟨n,o,rfl⟩:=gZ U;subst eB;show tOp _ _ _ [some (.int n),some (.int (cs u ns))] m O;ext;exact⟨C n,R _ m (Same.refl _) ⟨n,o,rfl⟩⟩
    ·intro m ys S e1 N M;have F:ys=(redT u ns).map V.int:=by
      unfold redT;rw[wJ];exact kR (by simpa using N) M
     subst F;refine⟨Y,_,rfl,.inl ⟨SqL.of e1,λl W=>?_⟩⟩;ext;refine⟨C u,(by show 2<=sizeLine;decide),λp v=>a0 g G p _ ((S.trans (Same.new W)).trans (Same.new v)) ⟨l,nK,?_⟩⟩;rw[nN (mX nK v)];exact nK
   ext;unfold cs at f;refine ite2 (λz=>?_) (λz=>?_)
   ·rw[zE (wX z)]at f;exact f
   ·rw[zD (λq=>z (zK q))]at f;exact f
theorem De{H:Hp}{p:Addr}{ns:LI'}{u:Int}{Q:VK}(h:kN H p ns u)(q:∀x,H x=some (.tup (ns.map V.int))->Q (.ref x) H):rIxB K (.ref p) (.int 0) H Q:=let ⟨x,a,b⟩:=h;⟨true,p,_,_,_,rfl,rfl,SqB.tup a,rfl,q x b⟩
theorem Jd{H:Hp}{p:Addr}{ns:LI'}{u:Int}{Q:VK}(h:kN H p ns u)(q:Q (.int u) H):rIxB K (.ref p) (.int 1) H Q:=let ⟨x,a,b⟩:=h;⟨true,p,_,_,_,rfl,rfl,SqB.tup a,rfl,q⟩
theorem ok_e(T:Txt K mg t):FnOk P w K mg base CX0 1 t.a_e t.d_e ["one"] (sp_e K):=by
 apply T.F_e.ok sc_e
 ·obtain⟨p,ns,u,rfl,c,hl,I,F⟩:=h;refine⟨_,(nF (nP (i:=1) sc_e.nd rfl (Or.inr rfl) (nU (pq 0)))
   (nJ (nX (lI (nD (jA gF rfl T.z_tuple (nofun) (nD (kB (sc:=nM aC) (N:=N_e) (fr:=[("under",1)]) (te:=(tOp (rI (λ_ j=>j≠0) λi j=>.int (i.fmod j)) (tVar 0) (tVar 1))) rfl rfl (nofun) rfl (nofun) (lH (nU (pq 0))) (λ_ _ _ G=>(nH mH (pv 0) (pv 1)))) nE)) (nD (pq 1) nE)))))),?_⟩
  show tSeq _ _ _ [some (.ref p),none] H;right;refine Dg c ?_;symm;exfalso;refine Jg c λx a=>⟨true,x,rfl,⟨_,(show SqB true K H x _ from a)⟩,λz v=>kM (λj y _=>∃n,ns[j]?=some n/\y=.int (n.fmod u)) v ((show SqB true K H x _ from a)) (by rw[zqe];omega) (λ_ _ _ _ r _=>r) ?_ ?_⟩
  ·intro i x b zs a _ _ q D;obtain⟨n,C,rfl⟩:=gZ a;subst eB;show tOp _ _ _ [some (.int n),some (.int u)] b q;ext;exact⟨⋯,D _ b (Same.refl _) ⟨n,C,rfl⟩⟩
  ·intro b ys k e1 g e;have o:ys=(lK u ns).map V.int:=by
    unfold lK;rw[wJ];exact kR (by simpa using g) e
   subst o;refine⟨z,_,rfl,.inl ⟨SqL.of e1,λl m=>?_⟩⟩;refine⟨(by show 2<=sizeLine;decide),λf d=>F f _ ((k.trans (Same.new m)).trans (Same.new d)) ⟨l,nK,?_⟩⟩;rw[nN (mX nK d)];exact nK
theorem ok_1c(T:Txt K mg t):FnOk P w K mg base CX0 1 t.a_1c t.d_1c pr' (sp_1c K):=by
 apply T.F_1c.ok sc_1c
 ·obtain⟨b1,b2,p,q,ms,ns,rfl,o,u,hl,G,v,L⟩:=h;refine⟨_,(nJ (nX (lA (Ri rfl) rfl T.z_sum (nofun) (nD (gE (xs:=["left","right"]) (fr:=[]) (g:=(gTup K 2 (lM (nS 0) (lM (nS 1) gNil)))) (tt:=(tEl (tOp (rI (λi j=>IntMulOk i j) λi j=>.int (i*j)) (tVar 0) (tVar 1)))) (jD (sc:=nM s_1c) (N:=N_1c) rfl rfl (nofun)) rfl (Bq rfl T.z_zip (nD (pq 0) (nD (pq 1) nE))) (λ_ _ _ g=>(jY rfl (mY (jM (N:=["left","right"]) (i:=0) g rfl (nofun)) (mY (jM (N:=["left","right"]) (i:=1) g rfl (nofun)) jR)))) (λ_ _ _ g=>(jL (nH mK (pv 0) (pv 1))))) nE)))),?_⟩;show tRet _ _ [some (.ref p),some (.ref q)] H;ext;refine mQ λB eB=>?_;simp only[iZip];ext;refine⟨b1,⟨_,o⟩,b2,⟨_,u⟩,λa D=>?_⟩;refine Ht (λj y _=>∃m n,ms[j]?=some m/\ns[j]?=some n/\y=.int (m*n)) D o u (by simpa using hl) (by simpa using G) (λ_ _ _ _ r _=>r) ?_ ?_
  ·intro i x y f zs I d k l F J;obtain⟨m,c,rfl⟩:=gZ I;obtain⟨n,b,rfl⟩:=gZ d;subst eB;show tOp _ _ _ [some (.int m),some (.int n)] f F;ext;exact⟨v i m n c b,J _ _ (Same.refl _) ⟨m,n,c,b,rfl⟩⟩
  ·intro f zs k l C z;have d:zs=(List.zipWith (·*·) ms ns).map V.int:=by
    refine kR (by simp at C ⊢;omega) λj y e=>?_;obtain⟨m,n,c,b,rfl⟩:=z j y e;exact⟨m*n,by rw[rF,c,b],rfl⟩
   subst d;exact⟨_,rfl,_,SqL.of l,L f k⟩
theorem ok_12(T:Txt K mg t):FnOk P w K mg base CX0 1 t.a_12 t.d_12 pu' (sp_12 K):=by
 apply T.F_12.ok sc_12
 ·obtain⟨b1,b2,a,b,w,rfl,F,U,z,O,a8,a3⟩:=h;refine⟨_,(nJ (nX (gE (xs:=["k"]) (fr:=[("rows",0)]) (g:=(nS 0)) (tt:=(tEl (kG (iSeq K (tVar 1)) (nS 0) (tEl (tOp (rIxB K) (tVar 0) (tVar 1))) 1 [("k",0)]))) (jD (sc:=nM s_12) (N:=N_12) rfl rfl (nofun)) rfl (lQ rfl T.z_range (nD (jN T.z_len (nU (pq 0))) nE)) (λ_ _ _ m=>(dI (N:=["k","rows"]) (i:=0) m rfl (nofun) rfl)) (λ_ _ _ m=>(jL (kB (N:=["k","rows"]) (fr:=[("k",0)]) (te:=(tOp (rIxB K) (tVar 0) (tVar 1))) m rfl (nofun) rfl (nofun) (lH (pv 1)) (λ_ _ _ a5=>(lC ix_B (pv 0) (pv 1) (λ_ _=>rfl))))))))),?_⟩;show tRet _ _ [some (.ref a)] H;ext;refine mQ λB eB=>?_;simp only[lF];ext;obtain⟨d,o⟩:∃d,b[0]?=some d:=by cases b with|nil=>exact absurd rfl U|cons r _=>exact⟨r,rfl⟩
  have w0:d.length=w:=z d (zqb o);obtain⟨ps,p,k1,k2,k3,L⟩:=F.row o;refine⟨b1,a,_,0,_,rfl,rfl,k1,kH k2 rfl,b2,p,_,rfl,L,?_⟩;rw[zqe,w0];refine⟨_,rfl,⋯,⋯,λn C=>?_⟩;rw[zW];refine iE (RowR n λk=>colI k b) C O (RowR.mono (a:=n)) ?_ ?_
  ·intro i f zs hi l G a0 a1;subst eB;show kG _ _ _ _ _ [some (.int (0+(i:Int))),some (.ref a)] f a0;exfalso;obtain⟨xs,q,a4,R⟩:=(F.up l).walk;refine⟨b1,⟨_,q⟩,λI D=>?_⟩;refine kM (λj y _=>∃r,b[j]?=some r/\y=.int (r.getD i 0)) D q ⋯ (λ_ _ _ _ r _=>r) ?_ ?_
   ·intro j x v a7 X g a6 Z a2;obtain⟨p,r,rfl,c,N⟩:=R j x X;subst eB;show tOp _ _ _ [some (.ref p),some (.int (0+(i:Int)))] v Z;ext;have S:i<r.length:=by rw[z r (zqb c)];exact hi
    exact⟨b2,p,_,_,_,rfl,rfl,N.up g,kH (fW (Bl S)) ⋯,a2 _ _ (Same.refl _) ⟨r,c,rfl⟩⟩
   ·intro v ys g W u Y;have M:ys=(colI i b).map V.int:=by
     refine kR (by simp[colI];omega) λj y e=>?_;obtain⟨r,c,rfl⟩:=Y j y e;exact⟨r.getD i 0,by unfold colI;rw[zO,c];rfl,rfl⟩
    subst M;exact a1 _ _ g ⟨I,rfl,yI (mX G D),W⟩
  ·intro f ys l e1 u J;have:=MatL.of e1 J;rw[u]at this;exact a3 n f C l this
theorem ok_y(T:Txt K mg t):FnOk P w K mg base CX0 1 t.a_y t.d_y pq' (sp_y K):=by
 apply T.F_y.ok sc_y
 ·obtain⟨b1,b2,a,N,l,k,w,rfl,a9,b3,b5,b6,b8,b4⟩:=h;refine⟨_,(nJ (nX (gE (xs:=["at","row"]) (fr:=[("i",1),("k",2)]) (g:=(gTup K 2 (lM (nS 0) (lM (nS 1) gNil)))) (tt:=(fT (cP (tOp (rI0 λi j=>.bl (!decide (i=j))) (tVar 0) (tVar 2))) (tOp rCat (tCB (Bp K) (mG (tSl (rSlB K) (tVar 1) Aj (Ai (tVar 3))) tNil)) (tCB (Bp K) (mG (tSl (rSlB K) (tVar 1) (Ai (tOp (rI0 λi j=>.int (i+j)) (tVar 3) (tC (.int 1)))) Aj) tNil))))) (jD (sc:=nM aE) (N:=N_y) rfl rfl (nofun)) rfl (dJ rfl T.z_enumerate (nD (pq 0) nE)) (λ_ _ _ M=>(jY rfl (mY (jM (N:=["at","row","i","k"]) (i:=0) M rfl (nofun)) (mY (jM (N:=["at","row","i","k"]) (i:=1) M rfl (nofun)) jR)))) (λ_ _ _ M=>(Rx (mC jK (pv 0) (pv 2) (mB _)) (nH Gp (jA bE rfl T.z_list (nofun) (nD (Af sl_B (pv 1) Ah (Ag (pv 3))) nE)) (jA bE rfl T.z_list (nofun) (nD (Af sl_B (pv 1) (Ag (nH kF (pv 3) nI)) Ah) nE)))))))),?_⟩;show tRet _ _ [some (.ref a),some (.int l),some (.int k)] H;ext;refine Sz λb9 c0 a8 eB=>?_;simp only[fU];ext;obtain⟨xs,U,a2,a3⟩:=a9.walk;refine⟨b1,⟨_,U⟩,λY X=>?_⟩;refine Wq (λt zs b=>kA Y b zs (((N.take t).eraseIdx l).map λ(r:LI')=>r.eraseIdx k)) X U ⋯ kA.nil ?_ (λ_ _ _ _ r s=>r.mono s) ?_ ?_
  ·intro i zs b p;rw[p.len,zqe,rV];have:=List.length_take_le i N;split <;> omega
  ·intro i x b zs a5 L a0 p C F G;obtain⟨I,r,rfl,O,n⟩:=a3 i x a5;have b7:r.length=w:=b3 r (zqb O);replace n:=n.up L;rw[Wp O]at F G;subst a8 eB;show fT _ _ [some (.int i),some (.ref I),some (.int l),some (.int k)] b C;simp only[fT];ext
   by_cases z:i=l
   ·subst z;rw[zE rfl]at G;rw[zK rfl];exact G b (Same.refl _) p
   ·rw[zD z]at F;rw[zI (show¬ (i:Int)=l by omega)];refine iteT ?_;refine⟨b2,I,_,rfl,n,λ_=>by rw[zqe,HT.sIx_none,HT.sIx_nat];omega,λc Z=>?_⟩;have sq1:SqB b2 K (upd b c (seqO b2 (cutV (r.map V.int) none (some (k:Int))))) c (cutV (r.map V.int) none (some (k:Int))):=SqB.cut;have o:Same b (upd b c (seqO b2 (cutV (r.map V.int) none (some (k:Int))))):=Same.new Z;generalize upd b c _=v at sq1 o;rw[Sv ⋯]at sq1;refine⟨b2,c,_,rfl,sq1,λd a6=>?_⟩;have S:(upd v d (.lst ((r.take k).map V.int))) d=some (.lst ((r.take k).map V.int)):=nK;have u:Same v (upd v d (.lst ((r.take k).map V.int))):=Same.new a6;generalize upd v d _=D at S u;refine⟨b2,I,_,rfl,(n.up o).up u,λ_=>by rw[zqe,HT.sIx_none,show(k:Int)+1=((k+1:Nat):Int) by omega,HT.sIx_nat];omega,λg a7=>?_⟩;have sq3:SqB b2 K (upd D g (seqO b2 (cutV (r.map V.int) (some ((k:Int)+1)) none))) g (cutV (r.map V.int) (some ((k:Int)+1)) none):=SqB.cut;have m:Same D (upd D g (seqO b2 (cutV (r.map V.int) (some ((k:Int)+1)) none))):=Same.new a7;generalize upd D g _=y at sq3 m;rw[show(k:Int)+1=((k+1:Nat):Int) by omega,Su ⋯]at sq3;refine⟨b2,g,_,rfl,sq3,λf a4=>?_⟩;have q:Same y (upd y f (.lst ((r.drop (k+1)).map V.int))):=Same.new a4;have W:(upd y f (.lst ((r.drop (k+1)).map V.int))) f=some (.lst ((r.drop (k+1)).map V.int)):=nK;generalize upd y f _=a1 at W q;refine⟨d,f,_,_,rfl,rfl,q _ _ (m _ _ S),W,by rw[zqe,zqe,xA,tF];exact wA (iQ ⋯),λb0 J=>?_⟩;have R:Same b (upd a1 b0 (.lst ((r.take k).map V.int++(r.drop (k+1)).map V.int))):=(((o.trans u).trans m).trans q).trans (Same.new J);refine F _ _ R ?_;rw[xW];refine(p.mono R.x).snoc (λe=>?_) ?_
    ·subst e;rw[q _ _ (m _ _ (u _ _ (o _ _ a0)))]at J;cases J
    ·rw[nK];dsimp only;rw[List.eraseIdx_eq_take_drop_succ,xW]
  ·intro b ys L e1 p;rw[a2,vL]at p;exact b4 Y b X L (kA.mat e1 p)
theorem ok_3(T:Txt K mg t):∀n:Nat,FnOk P w K mg base CX0 (n+1) t.a_3 t.d_3 pu' (sp_3 K n)
 |0=>⟨λ_ _ _ _ h=>h.elim,λ_ _ _ _ _ _ _ _ _ _ _ _ _ h=>h.elim⟩
 | n+1=>by
  have a4:FnOk P w K mg base CX0 (n+1) t.a_3 t.d_3 pu' (sp_3 K n):=ok_3 T n;have X:=@ok_y P w K mg base t T;apply T.F_3.ok sc_3
  ·obtain⟨b1,b2,a,c,B,rfl,g,d,a8,O,a1,S⟩:=h;refine⟨_,(nF (mF (mC jC (jN T.z_len (pq 0)) nI (mB _))
   (nJ (nX (nU (nU (pq 0)))))
   mE)
   (nF (nP (i:=1) sc_3.nd rfl (Or.inl rfl) nI)
   (nF (nP (i:=2) sc_3.nd rfl (Or.inl rfl) nI)
   (nF (lN yJ rfl (dJ rfl T.z_enumerate (nD (nU (pq 0)) nE)) (jY rfl (mY (mM (i:=3) sc_3.nd rfl (Or.inl rfl)) (mY (mM (i:=4) sc_3.nd rfl (Or.inl rfl)) jR)))
   (nF (mF (mC jK (pq 4) nI (mB _))
   (nJ (As (i:=1) sc_3.nd rfl (Or.inl rfl) (nH mK (nH mK (pq 2) (pq 4)) (nW a4 hr.mo T.F_3 (nD (nW X hr.mo T.F_y (nD (pq 0) (nD nI (nD (pq 3) nE)))) nE))) Ar))
   mE)
   (nJ (nP (i:=2) sc_3.nd rfl (Or.inl rfl) (eY eZ (pq 2))))))
   (nJ (nX (pq 1))))))),?_⟩
   show tSeq _ _ _ [some (.ref a),none,none,none,none] H;obtain⟨y,N⟩:=row0 d;have W:(c.getD 0 []).length=n+1:=d.2 _ N;right;refine bI g ?_;ext;rw[d.1]
   by_cases z:n=0
   ·subst z;rw[zK (by rfl)];exact iteT (Sx g y (Bl (k:=0) ⋯) rfl rfl (S H (Same.refl _)))
   ·rw[zI (show¬ ((n+1:Nat):Int)=1 by omega)];refine iteF ?_;obtain⟨n,rfl⟩:∃m,n=m+1:=⟨n-1,⋯⟩;left;left;subst e1;refine st λN1 e1=>lO λa9 eB=>?_;simp only[fU];ext;refine Sw g y rfl λp C=>⟨b2,_,rfl,⟨_,C⟩,?_⟩;generalize hf:(λk=>(c.getD 0 []).getD k 0*detM (n+1) (iN 0 k c))=f;refine Bk (nx:=N1) (rt:=Q) (λk v e=>∃v3 l,v=[some (.ref a),some (.int (altS f k)),some (.int (sg k)),v3,l]/\Same H e) ⟨_,_,rfl,Same.refl _⟩ (λ_ _ _ _⟨_,_,_,b⟩=>C.up b) ?_ ?_
    ·rintro k x q v e a0 ⟨v3,l,rfl,b⟩ a2;obtain⟨x,R,rfl⟩:=gZ a0;have F:k<n+2:=by have:=(zqa R).1;omega
     refine⟨q,[.int k,.int x],rfl,SqT.of nK,rfl,_,_,rfl,_,_,rfl,rfl,?_⟩;replace b:=b.trans (Same.new (o:=.tup [.int k,.int x]) a2);generalize upd e q (.tup [.int k,.int x])=M at b;subst eB;show tSeq _ _ _ [some (.ref a),some (.int (altS f k)),some (.int (sg k)),some (.int k),some (.int x)] M;refine st λY Z=>?_;have G:∀i(o:Int),Same H i->o=altS f (k+1)->Y [some (.ref a),some (.int o),some (.int (sg k)),some (.int k),some (.int x)] i:=by
      intro i o j a5;subst Z a5;ext;rw[Wr];exact⟨rfl,j⟩
     ext;have L:(c.getD 0 []).getD k 0=x:=Sy R;have I:f k=x*detM (n+1) (iN 0 k c):=by rw[←hf];dsimp only;rw[L]
     have J:=d.minor (i:=0) (k:=k) ⋯ F;have D:mW B (iN 0 k c):=O.minor
     by_cases u:x=0
     ·rw[zK u];refine iteF (G M _ b ?_);show _=altS f k+sg k*f k;rw[I,u];simp
     ·rw[zI u];refine iteT ?_;simp only[tAug,ipI];ext;refine⟨vK (by unfold sg;split <;> decide),b1,b2,a,c,0,k,_,rfl,g.up b,d.2,F,⋯,by rw[d.1];omega,λr i _ j V=>?_⟩;refine⟨false,false,r,_,B,rfl,V.b,J,⋯,D,a1,λa3 U=>?_⟩;ext;have a6:=O _ N x (by rw[←L];exact L2.getD_mem ⋯);have a7:=Ji (n+1) _ ⋯ ⋯ J D;refine⟨vA (m:=B+1) (n:=(n+1)*(B+2)+1) (kJ ?_) (kJ ?_) ?_,?_⟩
      ·rw[xN,Jk,oN,pK];omega
      ·rw[pK];have:=pS ((n+1)*(B+2));omega
      ·have:(n+1)*(B+2)<=4*1000002:=yZ ⋯ ⋯;omega
      ·refine G a3 _ ((b.trans j).trans U) ?_;show _=altS f k+sg k*f k;rw[I,oG]
    ·rintro v e ⟨v3,l,rfl,b⟩;symm;rw[zqe,W];have:altS f (n+2)=detM (n+2) c:=by rw[←hf];rfl
     rw[this];exact S e b
theorem ok_h(T:Txt K mg t):FnOk P w K mg base CX0 1 t.a_h t.d_h ["size"] sp_h:=by
 apply T.F_h.ok sc_h
 ·obtain⟨n,rfl,p,R⟩:=h;refine⟨_,(nJ (nX (gE (xs:=["i"]) (fr:=[("size",0)]) (g:=(nS 0)) (tt:=(tEl (kG (lF (mG (tVar 1) tNil)) (nS 0) (tEl (tIf (cP (tOp (rI0 λi j=>.bl (decide (i=j))) (tVar 1) (tVar 0))) (tC (.int 1)) (tC (.int 0)))) 1 [("i",0)]))) (jD (sc:=nM aD) (N:=N_h) rfl rfl (nofun)) rfl (lQ rfl T.z_range (nD (pq 0) nE)) (λ_ _ _ d=>(dI (N:=["i","size"]) (i:=0) d rfl (nofun) rfl)) (λ_ _ _ d=>(jL (kB (N:=["i","size"]) (fr:=[("i",0)]) (te:=(tIf (cP (tOp (rI0 λi j=>.bl (decide (i=j))) (tVar 1) (tVar 0))) (tC (.int 1)) (tC (.int 0)))) d rfl (nofun) rfl (nofun) (lQ rfl T.z_range (nD (pv 1) nE)) (λ_ _ _ S=>(Op (mC jC (pv 1) (pv 0) (mB _)) nI nI)))))))),?_⟩;show tRet _ _ [some (.int n)] H;ext;refine mQ λB eB=>?_;simp only[lF];ext;refine⟨⋯,⋯,λc m=>?_⟩;rw[zW];refine iE (RowR c λi=>(List.range n).map λk=>if i=k then(1:Int) else 0) m p (RowR.mono (a:=c)) ?_ ?_
  ·intro i b zs hi g x M O;subst eB;show kG _ _ _ _ _ [some (.int (0+(i:Int))),some (.int n)] b M;refine mQ λB eB=>?_;simp only[lF];ext;refine⟨⋯,⋯,λC q=>?_⟩;rw[zW];refine iE (λk y _=>k<n/\y=.int (if i=k then 1 else 0)) q p (λ_ _ _ _ r _=>r) ?_ ?_
   ·intro k u W f l U L o;subst eB;show tIf _ _ _ [some (.int (0+(k:Int))),some (.int (0+(i:Int)))] u L;ext
    by_cases z:i=k
    ·rw[zK ⋯];exact iteT (o _ _ (Same.refl _) ⟨f,by rw[zE z]⟩)
    ·rw[zI ⋯];exact iteF (o _ _ (Same.refl _) ⟨f,by rw[zD z]⟩)
   ·intro u ys l I a F;have D:ys=((List.range n).map λk=>if i=k then(1:Int) else 0).map V.int:=by
     refine kR (by simpa using a) λj y e=>?_;obtain⟨N,rfl⟩:=F j y e;exact⟨_,by rw[zO,yV N];rfl,rfl⟩
    subst D;exact O _ _ l ⟨C,rfl,yI (mX x q),I⟩
  ·intro b ys g G a J;have v:=MatL.of G J;rw[a]at v;exact R c b m g v
theorem Jc{H:Hp}{a f:Addr}{M:LM}{Y:St}{Q:VK}{b1 b2:Bool}(C:MatB b1 b2 K H a M)(hl:M.length<=1000)(D:H f=none)
  (G:∀b zs,Same H b->b f=some (.lst zs)->(∀l,b l=none->MatB true true K (upd b l (.tup zs)) l M)->Q (.ref f) b):kL (Its K b1 a) (nS 0) (tEl (tCB (dM K) (mG (tVar 0) tNil))) 1 [] Y f H Q:=by
 cases b2 with
 |false =>
  refine Ss C hl D λb c m=>?_;obtain⟨zs,d,_⟩:=id m;refine G b _ c d λl k=>?_;obtain⟨a2,n,N⟩:=m.tuple (K:=K) k;rw[d]at n;cases n;exact N
 | true =>
  obtain⟨xs,R,a0,I⟩:=C.walk;refine kM (λj y _=>∃p r,y=.ref p/\M[j]?=some r/\SqB true K H p (r.map V.int)) D R ⋯ (λ_ _ _ _ r _=>r) ?_ ?_
  ·intro i x b zs L c Z a4 U;obtain⟨p,r,rfl,J,u⟩:=I i x L;exact⟨_,rfl,p,_,rfl,.inr ⟨u.up c,U _ _ (Same.refl _) ⟨p,r,rfl,J,u⟩⟩⟩
  ·intro b ys c e1 v o;have T:∃ps:LA,ys=ps.map V.ref:=by
    clear e1 v;have:∀(zs:List V),(∀(j:Nat) y,zs[j]?=some y->∃p:Addr,y=.ref p)->∃ps:LA,zs=ps.map V.ref:=by
     intro zs
     induction zs with
     |nil=>intro _;exact⟨[],rfl⟩
     |cons z r W =>
      intro d;obtain⟨p,e⟩:=d 0 z rfl;obtain⟨ps,g⟩:=W λj y q=>d (j+1) y (by simpa using q);exact⟨p:: ps,by rw[e,g];rfl⟩
    exact this ys λj y e=>let ⟨p,r,e1,_⟩:=o j y e;⟨p,e1⟩
   obtain⟨ps,rfl⟩:=T;refine G b _ c e1 λl k=>⟨ps,SqB.tup nK,by simp at v;omega,λi p r g O=>?_⟩;obtain⟨a1,a3,S,F,X⟩:=o i (.ref p) (by simp[g]);cases S;rw[O]at F;cases F;exact X.up (c.trans (Same.new k))
theorem ok_w(T:Txt K mg t):FnOk P w K mg base CX0 1 t.a_w t.d_w pt' (sp_w K):=by
 apply T.F_w.ok sc_w
 ·obtain⟨b1,b2,a,p,M,ts,u,rfl,i,g,hl,n⟩:=h;refine⟨_,(nJ (nX (lI (nD (jA gF rfl T.z_tuple (nofun) (nD (kB (sc:=nM aF) (N:=N_w) (fr:=[]) (te:=(tCB (dM K) (mG (tVar 0) tNil))) rfl rfl (nofun) rfl (nofun) (lH (pq 0)) (λ_ _ _ y=>(jA gF rfl T.z_tuple (nofun) (nD (pv 0) nE)))) nE)) (nD (nU (pq 1)) (nD (nU (pq 1)) nE)))))),?_⟩;show tRet _ _ [some (.ref a),some (.ref p)] H;ext;exfalso;obtain⟨xs,v,_⟩:=i.walk;refine⟨b1,⟨_,v⟩,λo m=>?_⟩;subst eB;refine Jc i ⋯ m λf zs j r c=>?_;refine⟨o,_,rfl,.inl ⟨SqL.of r,λl e=>?_⟩⟩;have b:Same H (upd f l (.tup zs)):=j.trans (Same.new e);replace c:=c l e;generalize upd f l (.tup zs)=z at b c;refine De (g.up b) λx k=>Jd (g.up b) ⟨(by show 3<=sizeLine;decide),λq d=>n q _ (b.trans (Same.new d)) ⟨l,x,nK,c.up (Same.new d),Same.new d _ _ k⟩⟩
theorem ok_1b(T:Txt K mg t):FnOk P w K mg base CX0 2 t.a_1b t.d_1b ["one"] (sp_1b K):=by
 have o:=@ok_w P w K mg base t T;have f:=@ok_e P w K mg base t T;apply T.F_1b.ok sc_1b
 ·obtain⟨p,M,ts,u,rfl,b,hl,e,r,v⟩:=h;refine⟨_,(nJ (nX (nW o hr.mo T.F_w (nD (nU (pq 0)) (nD (nW f hr.mo T.F_e (nD (lI (nD (nU (pq 0)) (nD (nU (pq 0)) nE))) nE)) nE))))),?_⟩;show tRet _ _ [some (.ref p)] H;ext;refine eO b λx i=>Df b λy j=>aL b ⟨(by show 2<=sizeLine;decide),λl m=>?_⟩;have a:Same H (upd H l (.tup [.ref y,.int u])):=Same.new m;refine⟨l,ts,u,rfl,⟨y,SqT.of nK,kC a _ _ j⟩,e,r,λd C c n=>?_⟩;exact⟨true,true,x,d,M,_,u,rfl,i.up (a.trans c),n,hl,λq z k g=>v q z ((a.trans c).trans k) g⟩
theorem ok_13(T:Txt K mg t):FnOk P w K mg base CX0 3 t.a_13 t.d_13 ["one","spot"] (sp_13 K):=by
 have Z:=@ok_1c P w K mg base t T;have a4:=@ok_v P w K mg base t T;apply T.F_13.ok sc_13
 ·obtain⟨p,q,M,ts,ns,u,v,d,rfl,f,o,a,b9,c3,c2,U,F,C,b7⟩:=h;refine⟨_,(nF (Bs (i:=2) (xs:=["row","top"]) (fr:=[("one",0),("spot",1)]) (g:=(gTup K 2 (lM (nS 0) (lM (nS 1) gNil)))) (tt:=(tEl (tOp (rI0 λi j=>.int (i+j)) (tOp (rI (λi j=>IntMulOk i j) λi j=>.int (i*j)) (kP (sp_1c K) [] E0 (mG (tVar 0) (mG (tOp (rIxB K) (tVar 3) (tC (.int 0))) tNil))) (tOp (rIxB K) (tVar 2) (tC (.int 2)))) (tOp (rI (λi j=>IntMulOk i j) λi j=>.int (i*j)) (tVar 1) (tOp (rIxB K) (tVar 3) (tC (.int 1))))))) (jD (sc:=nM s_13) (N:=N_13) rfl rfl (nofun)) rfl sc_13.nd rfl rfl (Bq rfl T.z_zip (nD (nU (pq 0)) (nD (nU (pq 0)) nE))) (λ_ _ _ I=>(jY rfl (mY (jM (N:=["row","top","one","spot"]) (i:=0) I rfl (nofun)) (mY (jM (N:=["row","top","one","spot"]) (i:=1) I rfl (nofun)) jR)))) (λ_ _ _ I=>(jL (nH kF (nH mK (nW Z hr.mo T.F_1c (nD (pv 0) (nD (nU (pv 3)) nE))) (nU (pv 2))) (nH mK (pv 1) (nU (pv 3)))))))
   (nJ (nX (dD a4 hr.mo rfl T.F_v.m T.F_v.kp T.F_v.b .nil dE (nD (pq 2) (nD (nH mK (nU (pq 0)) (nU (pq 1))) nE)))))),?_⟩
  show tSeq _ _ _ [some (.ref p),some (.ref q),none] H;right;refine mQ λB eB=>?_;simp only[iZip];ext;refine eO f λx b0=>Df f λy S=>?_;obtain⟨xs,L,l,a2⟩:=b0.walk;refine⟨true,true,x,rfl,y,rfl,⟨_,L⟩,⟨_,(S:SqB true K H y _)⟩,λb3 b2=>?_⟩;have b6:∀(i:Nat)(r:LI')(tt:Int),M[i]?=some r->ts[i]?=some tt->(movT M ts u ns v)[i]?=some (dotI r ns*u+tt*v):=λi r tt e1 D=>by
   unfold movT;rw[rF,e1,D]
  refine Ht (λj z _=>∃n,(movT M ts u ns v)[j]?=some n/\z=.int n) b2 L ((S:SqB true K H y _)) (by rw[l,a.sq.1,zqe,a.len]) (by rw[l,a.sq.1];omega) (λ_ _ _ _ r _=>r) ?_ ?_
  ·intro i a9 c4 g zs a3 b4 b b8 a7 a8;obtain⟨O,r,rfl,k,a0⟩:=a2 i a9 a3;obtain⟨tt,J,rfl⟩:=gZ b4;have c0:r.length=d:=a.sq.2 r (zqb k);have N:=a.bm r (zqb k);subst eB;show tOp _ _ _ [some (.ref O),some (.int tt),some (.ref p),some (.ref q)] g a7;ext;refine Jg (o.up b) λz b5=>?_;refine⟨true,true,O,z,r,ns,rfl,a0.up b,(b5:SqB true K g z _),⋯,⋯,λc1 m n e1 D=>vA (kJ (N m (zqb e1))) (kJ (U n (zqb D))) ∅,λR c=>?_⟩;refine aL (f.up (b.trans c)) ?_;ext;have c5:=Jh r ns N U;have a5:(dotI r ns).natAbs<2^400010:=by
    have:r.length*2^(200000+200000)<=4*2^(200000+200000):=xK _ ⋯;have e:(2:Nat)^400010=1024*2^(200000+200000):=by rw[show(400010:Nat)=10+(200000+200000) from rfl,sL]
    have:=pS (200000+200000);omega
   refine⟨vA (kJ a5) (kJ (fK a.pos a.bu)) ∅,?_⟩;refine Dg (o.up (b.trans c)) ?_;ext;refine⟨vA (kJ (a.bt tt (zqb J))) (kJ (fK F C)) ∅,?_⟩;exact a8 _ _ c ⟨_,b6 i r tt k J,rfl⟩
  ·intro g zs b b1 a6 W;have G:(movT M ts u ns v).length=d:=by unfold movT;rw[uH,a.sq.1,a.len];omega
   have Y:zs=(movT M ts u ns v).map V.int:=kR (by rw[a6,l,a.sq.1,G]) W;subst Y;symm;refine aL (f.up b) ?_;refine Dg (o.up b) ?_;ext;have a1:=Je a.pos a.bu F C;refine⟨vA (kJ (fK a.pos a.bu)) (kJ (fK F C)) ∅,?_⟩;refine⟨false,b3,_,_,rfl,SqB.lst b1,⋯,a1.1,λz=>?_,λ_ _ r R c X=>b7 r R (b.trans c) X⟩;rcases z with z|z
   ·omega
   ·rw[z]at G;simp at G;omega
theorem ok_11(T:Txt K mg t):FnOk P w K mg base CX0 4 t.a_11 t.d_11 pr' (sp_11 K):=by
 have c1:=@ok_1c P w K mg base t T;have b0:=@ok_12 P w K mg base t T;have c5:=@ok_13 P w K mg base t T;have c2:=@ok_w P w K mg base t T;apply T.F_11.ok sc_11
 ·obtain⟨p,q,M,N,ts,ns,u,v,d,rfl,L,a5,a,g,d9,e4,c0⟩:=h;refine⟨_,(nF (nP (i:=2) sc_11.nd rfl (Or.inr rfl) (nW b0 hr.mo T.F_12 (nD (nU (pq 0)) nE)))
   (nF (Bs (i:=3) (xs:=["row"]) (fr:=[("columns",2)]) (g:=(nS 0)) (tt:=(tEl (kG (iSeq K (tVar 1)) (nS 0) (tEl (kP (sp_1c K) [] E0 (mG (tVar 1) (mG (tVar 0) tNil)))) 1 [("row",0)]))) (jD (sc:=nM s_11) (N:=N_11) rfl rfl (nofun)) rfl sc_11.nd rfl rfl (lH (nU (pq 1))) (λ_ _ _ U=>(dI (N:=["row","columns"]) (i:=0) U rfl (nofun) rfl)) (λ_ _ _ U=>(jL (kB (N:=["row","columns"]) (fr:=[("row",0)]) (te:=(kP (sp_1c K) [] E0 (mG (tVar 1) (mG (tVar 0) tNil)))) U rfl (nofun) rfl (nofun) (lH (pv 1)) (λ_ _ _ f2=>(nW c1 hr.mo T.F_1c (nD (pv 1) (nD (pv 0) nE))))))))
   (nJ (nX (nW c2 hr.mo T.F_w (nD (pq 3) (nD (nW c5 hr.mo T.F_13 (nD (pq 1) (nD (lI (nD (nU (pq 0)) (nD (nU (pq 0)) nE))) nE))) nE))))))),?_⟩
  show tSeq _ _ _ [some (.ref p),some (.ref q),none,none] H;right;have e3:M≠[]:=λz=>by have:=a.sq.1;rw[z]at this;simp at this;omega
  refine eO L λx d6=>⟨true,true,x,M,d,rfl,d6,e3,a.sq.2,⋯,by rw[a.sq.1];omega,λc f4 f5 a9 e8=>?_⟩;left;exfalso;refine eO (a5.up a9) λy b7=>?_;obtain⟨xs,a3,a1,e2⟩:=b7.walk;refine⟨true,y,rfl,⟨_,a3⟩,λW d7=>?_⟩;refine kM (RowR W λj=>(List.range d).map λk=>dotI (N.getD j []) (colI k M)) d7 a3 (by rw[a1,g.sq.1];omega) (RowR.mono (a:=W)) ?_ ?_
  ·intro i x D zs c4 G d1 e6 e7;obtain⟨O,r,rfl,X,d3⟩:=e2 i x c4;have c6:N.getD i []=r:=by rw[zqc,X];rfl
   have e0:r.length=d:=g.sq.2 r (zqb X);have e5:=g.bm r (zqb X);subst eB;show kG _ _ _ _ _ [some (.ref O),some (.ref c)] D e6;exfalso;obtain⟨f3,a6,f7,b1⟩:=((e8.up G).b (K:=K)).walk;refine⟨false,⟨_,a6⟩,λd2 a0=>?_⟩;have f1:(bF d M).length=d:=by simp[bF]
   refine kM (λj y _=>y=.int (dotI r (colI j M))/\j<d) a0 a6 ⋯ (λ_ _ _ _ r _=>r) ?_ ?_
   ·intro j y a7 f0 J b f6 c9 d5;obtain⟨Y,col,rfl,C,R⟩:=b1 j y J;have o:j<d:=by have:=(zqa C).1;omega
    have c8:col=colI j M:=by
     unfold bF at C;rw[zO,yV o]at C;exact(yA C).symm
    subst eB c8;show kP _ _ _ _ [some (.ref Y),some (.ref O)] a7 c9;ext;refine⟨true,false,O,Y,r,colI j M,rfl,(d3.up G).up b,R.up b,by simp[colI,e0,a.sq.1],⋯,λb3 m n e1 f=>?_,λd0 F=>d5 _ _ F ⟨rfl,o⟩⟩;unfold colI at f;rw[zO]at f;cases eb:M[b3]? with
    |none=>rw[eb]at f;cases f
    |some S =>
     rw[eb]at f;have c7:S.getD j 0=n:=yA f;subst c7;have Z:=zqb eb;exact vA (kJ (e5 m (zqb e1))) (kJ (a.bm S Z _ (L2.getD_mem (by rw[a.sq.2 S Z];exact o)))) ∅
   ·intro a7 ys b b5 a4 b2;have J:ys=((List.range d).map λk=>dotI r (colI k M)).map V.int:=by
     refine kR (by simp;omega) λj y e=>?_;obtain⟨rfl,o⟩:=b2 j y e;exact⟨_,by rw[zO,yV o];rfl,rfl⟩
    subst J;exact e7 _ _ b ⟨d2,rfl,yI (mX d1 a0),by dsimp only;rw[c6];exact b5⟩
  ·intro D ys G f a4 b6;have a8:=MatL.of f b6;have e:(List.range ys.length).map (λj=>(List.range d).map λk=>dotI (N.getD j []) (colI k M))=mulM d N M:=by
    rw[a4,a1];unfold mulM;refine tK (by simp) λi a2 e9=>?_;simp at a2;simp[a2]
   rw[e]at a8;have I:=a9.trans G;symm;refine Df (L.up I) λz b9=>aL (L.up I) ⟨(by show 2<=sizeLine;decide),λl b8=>?_⟩;have b:Same D (upd D l (.tup [.ref z,.int u])):=Same.new b8;refine⟨q,l,N,ns,ts,v,u,d,rfl,(a5.up I).up b,⟨z,SqT.of nK,kC b _ _ b9⟩,g,d9,e4,a.len,a.bt,a.pos,a.bu,λr d0 F c3=>?_⟩;exact⟨false,false,W,r,_,_,_,rfl,((a8.up b).up F).b,c3,by simp[mulM,g.sq.1];omega,λd4 d8 b4 R=>c0 d4 d8 (((I.trans b).trans F).trans b4) R⟩
def Dc(rows:LM)(tops:LI')(u:Int):Prop:=(rows.length=2\/rows.length=3)/\(∀r∈rows,r.length=rows.length)/\tops.length=rows.length/\u≠0/\(detM rows.length rows=1\/detM rows.length rows=-1)
def sp_18(K:Frag)(C:Addr):Sp:=λvs H Q E=>E9 λ(b1 b2 b3:Bool)(a p:Addr)(rows:LM)(tops:LI')(u:Int)(B:Nat)=>A10 (vs=[.ref a,.ref p,.int u]) (MatB b1 b2 K H a rows) (SqB b3 K H p (tops.map V.int)) (rows.length<=100) (tops.length<=100) (mW B rows) (B<=1000000) (kD u) ((¬ Dc rows tops u->∀H',Same H H'->E (.ref C) none H')) ((Dc rows tops u->∀q H',Same H H'->kE K H' q rows (redT u tops) (redU u tops)->Q (.ref q) H'))
theorem inV2(L x y:Int):inV (.int L) [.int x,.int y]=decide (L=x\/L=y):=by
 have e:inV (.int L) [.int x,.int y]=(eqV (.int x) (.int L) || (eqV (.int y) (.int L) || false)):=rfl;have f:∀a b:Int,eqV (.int a) (.int b)=decide (a=b):=λa b=>by
  first|rfl|(unfold eqV;rfl)|(simp only[eqV];by_cases h:a=b <;> simp[h])
 rw[e,f,f,Bool.or_false]
 by_cases c:x=L
 ·rw[zK c,zK (p:=L=x\/L=y) (Or.inl c.symm)];rfl
 ·rw[zI c]
  by_cases d:y=L
  ·rw[zK d,zK (p:=L=x\/L=y) (Or.inr d.symm)];rfl
  ·rw[zI d,zI (p:=L=x\/L=y) ⋯];rfl
theorem Wm{H:Hp}{Q:VK}{E:XK}{b1 b2:Bool}{a:Addr}{b:LM}{n B:Nat}(f:1<=n)(d:n<=4)(i:MatB b1 b2 K H a b)(c:Sq n b)(e:mW B b)(g:B<=1000000)(q:∀H',Same H H'->Q (.int (detM n b)) H'):sp_3 K n [.ref a] H Q E:=by
 match n,f,d,c,q with
 |m+1,_,d,c,q=>exact⟨b1,b2,a,b,B,rfl,i,c,⋯,e,g,q⟩
theorem ok_18(T:Txt K mg t):FnOk P w K mg base (CX1 P w) 6 t.a_18 t.d_18 pm' (sp_18 K t.a_19):=by
 have a8:=@ok_v P w K mg base t T;have a7:=@ok_w P w K mg base t T;refine T.F_18.okX sc_18 (λvs H Q E h=>?_) (λcdv A outer s H vs Q E hr h=>?_)
 ·obtain⟨b1,b2,Y,a,p,c,D,u,B,rfl,_⟩:=h;rfl
 ·obtain⟨b1,b2,Y,a,p,c,D,u,B,rfl,v,S,c7,c3,b7,a1,su,f,d2⟩:=h;obtain⟨n,d7,N⟩:∃n:Nat,n<=3/\((c.length=2\/c.length=3)->n=c.length):=by
   by_cases z:c.length=2\/c.length=3
   ·exact⟨c.length,⋯,λ_=>rfl⟩
   ·exact⟨0,⋯,λh=>absurd h z⟩
  have c6:FnOk P w K mg base CX0 (n+1) t.a_3 t.d_3 pu' (sp_3 K n):=ok_3 T n;refine⟨_,(nF (nP (i:=3) sc_18.nd rfl (Or.inr rfl) (jN T.z_len (pq 0)))
   (nF (mF (mC Ab (pq 3) (lI (nD nI (nD nI nE))) rfl)
   (nJ (iD rfl iC rfl T.m_19 T.x_19 yM (nD mL nE)))
   mE)
   (nF (mF (PW.pt (kZ (lY (lA (Sr rfl) rfl T.z_any (nofun) (nD (kB (sc:=nM s_18) (N:=N_18) (fr:=[("axes",3)]) (te:=(tOp (rI0 λi j=>.bl (!decide (i=j))) (tCB (dL K) (mG (tVar 0) tNil)) (tVar 1))) rfl rfl (nofun) rfl (nofun) (lH (pq 0)) (λ_ _ _ e0=>(iP jK (jN T.z_len (pv 0)) (pv 1) (mB _)))) nE))) (jX (mC jK (jN T.z_len (pq 1)) (pq 3) (mB _)))))
   (nJ (iD rfl iC rfl T.m_19 T.x_19 yM (nD mL nE)))
   mE)
   (nF (mF (mC jC (pq 2) nI (mB _))
   (nJ (iD rfl iC rfl T.m_19 T.x_19 yM (nD mL nE)))
   mE)
   (nF (mF (mC Ab (nW c6 hr.mo T.F_3 (nD (pq 0) nE)) (lI (nD nI (nD (eY eZ nI) nE))) rfl)
   (nJ (iD rfl iC rfl T.m_19 T.x_19 yM (nD mL nE)))
   mE)
   (nJ (nX (nW a7 hr.mo T.F_w (nD (pq 0) (nD (dD a8 hr.mo rfl T.F_v.m T.F_v.kp T.F_v.b .nil dE (nD (pq 1) (nD (pq 2) nE))) nE)))))))))),?_⟩
  show tSeq _ _ _ [some (.ref a),some (.ref p),some (.int u),none] H;right;refine bI v ?_;subst e1;refine st λN1 e1=>?_;simp only[kK];ext;refine⟨by show 2<=sizeLine;decide,λG c1=>?_⟩;have m:Same H (upd H G (.tup [.int 2,.int 3])):=Same.new c1;refine⟨G,_,rfl,.inr (SqT.of nK),rfl,rfl,_,rfl,?_⟩;generalize upd H G (.tup [.int 2,.int 3])=d5 at m;rw[inV2]
  by_cases J:c.length=2\/c.length=3
  case neg =>
   rw[zI ⋯];refine iteT ?_;simp only[kK];ext;exact⟨∅,f (λg=>J g.1) _ m⟩
  rw[zK ⋯];refine iteF ?_;replace N:=N J;subst N;left;refine mQ λC b8=>?_;simp only[iSeq];ext;obtain⟨xs,X,d6,b0⟩:=(v.up m).walk;refine⟨b1,⟨_,X⟩,λd0 c8=>?_⟩;refine kM (λj y _=>∃r,c[j]?=some r/\y=.bl (!decide (r.length=c.length))) c8 X ⋯ (λ_ _ _ _ r _=>r) ?_ ?_
  ·intro i x a0 zs b6 F d3 c0 c2;obtain⟨b9,W,rfl,a9,a6⟩:=b0 i x b6;subst b8;show tOp _ _ _ [some (.ref b9),some (.int c.length)] a0 c0;ext;refine bJ (a6.up F) ?_
   try ext
   refine c2 _ _ (Same.refl _) ⟨W,a9,?_⟩
   by_cases z:W.length=c.length
   ·rw[zK z,zK ⋯]
   ·rw[zI z,zI ⋯]
  ·intro a0 ys F b5 d8 I;have a4:ys=(c.map λr=>!decide (r.length=c.length)).map V.bl:=by
    rw[wJ];exact kR ⋯ I
   subst a4;refine⟨d0,rfl,_,SqL.of b5,?_⟩
   try ext
   have d:=m.trans F
   by_cases e:∀r∈c,r.length=c.length
   case neg =>
    have M:(c.map λr=>!decide (r.length=c.length)).any id=true:=by
     rw[List.any_eq_true];obtain⟨r,hr⟩:=Classical.not_forall.mp e;obtain⟨a2,I⟩:=Classical.not_imp.mp hr;exact⟨true,oR.mpr ⟨r,a2,by rw[zI I];rfl⟩,rfl⟩
    rw[M];refine iteT ?_;simp only[kK];ext;exact⟨∅,f (λg=>e g.2.1) _ d⟩
   have M:(c.map λr=>!decide (r.length=c.length)).any id=false:=by
    rw[List.any_eq_false];intro b c9;obtain⟨r,hr,rfl⟩:=oR.mp c9;rw[zK (e r hr)]
    decide
   rw[M];refine iteF ?_;refine bJ (S.up d) ?_
   try ext
   by_cases k:D.length=c.length
   case neg =>
    rw[zI ⋯];refine iteT ?_;simp only[kK];ext;exact⟨∅,f (λg=>k g.2.2.1) _ d⟩
   rw[zK ⋯];refine iteF ?_;subst e1;refine st λN1 e1=>?_;simp only[kK];ext;refine ite2 (λz=>⟨∅,f (λg=>g.2.2.2.1 (wX z)) _ d⟩) (λz=>?_);have Z:u≠0:=λq=>z (zK q);left;refine Wm ⋯ ⋯ (v.up d) ⟨rfl,e⟩ b7 a1 λO b3=>?_
   try ext
   refine⟨by show 2<=sizeLine;decide,λL c5=>?_⟩;have R:Same O (upd O L (.tup [.int 1,.int (-1)])):=Same.new c5;refine⟨L,_,rfl,.inr (SqT.of nK),rfl,rfl,_,rfl,?_⟩;generalize upd O L (.tup [.int 1,.int (-1)])=d9 at R;have l:=(d.trans b3).trans R;rw[inV2]
   by_cases o:detM c.length c=1\/detM c.length c=-1
   case neg =>
    rw[zI o];refine iteT ?_;simp only[kK];ext;exact⟨∅,f (λg=>o g.2.2.2.2) _ l⟩
   rw[zK o];refine iteF ?_;symm;refine⟨Y,p,D,u,rfl,S.up l,c3,su,λz=>?_,λ_ _ a5 d4 U b4=>⟨b1,b2,a,a5,c,_,_,rfl,v.up (l.trans U),b4,c7,λq a3 d1 c4=>d2 ⟨J,e,k,Z,o⟩ q a3 ((l.trans U).trans d1) c4⟩⟩;rcases z with z|z
   ·exact absurd z Z
   ·rw[z]at k;simp at k;omega
def sp_17(K:Frag):Sp:=λvs H Q _=>E1 λ(d:Nat)=>A3 (vs=[.int d]) ((d=2\/d=3)) (∀q H',Same H H'->kE K H' q (idM d) (List.replicate d 0) 1->Q (.ref q) H')
theorem Wl(ns:LI'):gl 1 ns=1:=Int.eq_one_of_dvd_one (aJ 1 ns) (gl_u 1 ns)
theorem Wk{d:Nat}(b:d=2\/d=3):Dc (idM d) (List.replicate d 0) 1/\mW 1 (idM d):=by
 rcases b with rfl|rfl
 ·exact⟨⟨.inl rfl,∅,∅,∅,.inl ∅⟩,by intro r hr x a;revert r x;decide⟩
 ·exact⟨⟨.inr rfl,∅,∅,∅,.inl ∅⟩,by intro r hr x a;revert r x;decide⟩
theorem Wj:kD 1:=Jf (B:=1) ∅ ∅
theorem ok_17(T:Txt K mg t):FnOk P w K mg base CX0 8 t.a_17 t.d_17 ["d"] (sp_17 K):=by
 have o:=@ok_18 P w K mg base t T;have x:=@ok_h P w K mg base t T;apply T.F_17.ok sc_17
 ·obtain⟨d,rfl,j,F⟩:=h;refine⟨_,(nJ (nX (dD o hr.mo rfl T.F_18.m T.F_18.kp T.F_18.b .nil dE (nD (nW x hr.mo T.F_h (nD (pq 0) nE)) (nD (nH Ql (mS (nD nI nE)) (pq 0)) (nD nI nE)))))),?_⟩;show tRet _ _ [some (.int d)] H;ext;refine⟨d,rfl,⋯,λr a _ C u=>?_⟩
  try ext
  refine⟨by show 1<=sizeLine;decide,λl hl=>?_⟩;have c:Same a (upd a l (.lst [.int 0])):=Same.new hl;have k:(upd a l (.lst [.int 0])) l=some (.lst [.int 0]):=nK;generalize upd a l (.lst [.int 0])=b at c k;refine⟨l,d,_,rfl,rfl,k,⋯,⋯,?_,λl2 z=>?_⟩
  ·rw[zW];show 1*d<=sizeLine;have:3<=sizeLine:=∅
   omega
  have e:Same b (upd b l2 (.lst (List.replicate (d:Int).toNat [V.int 0]).flatten)):=Same.new z;have i:(upd b l2 (.lst (List.replicate (d:Int).toNat [V.int 0]).flatten)) l2=some (.lst ((List.replicate d (0:Int)).map V.int)):=by
   rw[nK,zW];rcases j with rfl|rfl <;> rfl
  generalize upd b l2 (.lst (List.replicate (d:Int).toNat [V.int 0]).flatten)=G at e i;obtain⟨g,v⟩:=Wk j;have f:=Wv (u:=1) ∅ (Wl (List.replicate d 0));have e1:redT 1 (List.replicate d 0)=List.replicate d 0:=f.1;have y:redU 1 (List.replicate d 0)=1:=f.2;refine⟨false,false,false,r,l2,idM d,List.replicate d 0,1,1,rfl,((u.up c).up e).b,SqB.lst i,by simp[idM];omega,by simp;omega,v,∅,Wj,λn=>absurd g n,λ_ q D p m=>?_⟩;rw[e1,y]at m;exact F q D ((C.trans (c.trans e)).trans p) m
def dZ(M:LM)(ts:LI')(u:Int):PyData:=.tuple [matD true true M,fV true ts,.int u]
theorem Wi{M N:LM}{ts ns:LI'}{u v:Int}:dZ M ts u=dZ N ns v↔(M=N/\ts=ns/\u=v):=by
 unfold dZ;simp only[PyData.tuple.injEq,List.cons.injEq,PyData.int.injEq,and_true,Ra,Hq]
theorem Dt.deed{K:Frag}{H:Hp}{p:Addr}{M:LM}{ts:LI'}{u:Int}(h:kE K H p M ts u):Dt K H (.ref p) (dZ M ts u):=by
 obtain⟨d,pt,b,c,a⟩:=h;exact .tup (SqT.of b) (.cons (Dt.matB c) (.cons (Dt.intsB (SqB.tup a)) (.cons (.int u) .nil)))
abbrev Dd:=LM×List Int×Int
def dat(x:Dd):PyData:=dZ x.1 x.2.1 x.2.2
theorem Db{x y:Dd}:dat x=dat y↔x=y:=by
 obtain⟨M,ts,u⟩:=x;obtain⟨N,ns,v⟩:=y;unfold dat;rw[Wi];simp
theorem aM{n:Nat}{ds:List PyData}:tT (n+1) (.tuple ds)=ds.all (tT n):=rfl
theorem gL(x:Dd):tT 4 (dat x)=true:=by
 obtain⟨M,ts,u⟩:=x;have hi:∀(n:Nat)(l:LI'),(l.map PyData.int).all (tT n)=true:=λn l=>by
  rw[wI];intro d a;obtain⟨i,_,rfl⟩:=oR.mp a;cases n <;> rfl
 show tT 4 (.tuple [.tuple (M.map λr=>.tuple (r.map PyData.int)),.tuple (ts.map PyData.int),.int u])=true;rw[aM,xF,xF,xF,aM,aM,hi];have:(M.map λr=>PyData.tuple (r.map PyData.int)).all (tT 2)=true:=by
  rw[wI];intro d a;obtain⟨r,_,rfl⟩:=oR.mp a;rw[aM];exact hi 1 r
 rw[this];rfl
def DdAt(K:Frag)(H:Hp)(p:Addr)(x:Dd):Prop:=kE K H p x.1 x.2.1 x.2.2
theorem DdAt.up{K:Frag}{H H':Hp}{p:Addr}{x:Dd}(h:DdAt K H p x)(s:Same H H'):DdAt K H' p x:=kE.up h s
theorem DdAt.dt{K:Frag}{H:Hp}{p:Addr}{x:Dd}(h:DdAt K H p x):Dt K H (.ref p) (dat x):=Dt.deed h
abbrev DdS(K:Frag)(H:Hp)(p:Addr)(x:Dd):Prop:=kO K H p x.1 x.2.1 x.2.2
theorem DdS.up{K:Frag}{H H':Hp}{p:Addr}{x:Dd}(h:DdS K H p x)(s:Same H H'):DdS K H' p x:=kO.up h s
theorem DdAt.s{K:Frag}{H:Hp}{p:Addr}{x:Dd}(h:DdAt K H p x):DdS K H p x:=kE.s h
def nO(x:Dd):Dd:=(x.1,lK x.2.2 x.2.1,x.2.2)
def behD(d:Nat)(x s:Dd):Dd:=(mulM d s.1 x.1,redT (s.2.2*x.2.2) (movT s.1 s.2.1 s.2.2 x.2.1 x.2.2),redU (s.2.2*x.2.2) (movT s.1 s.2.1 s.2.2 x.2.1 x.2.2))
def nR(d:Nat)(x s:Dd):Dd:=nO (behD d x s)
def mD(d:Nat):Dd:=(idM d,List.replicate d 0,1)
abbrev Tb:=List (Dd×List Nat)
def nxt(d:Nat)(x:Dd)(w:List Nat)(tb:Tb)(ks:Dd×Nat):Tb:=if nR d x ks.1∈tb.map (·.1) then tb else tb++[(nR d x ks.1,w++[ks.2])]
def kX(d:Nat)(ss:List Dd)(tb:Tb)(i:Nat):Tb:=match tb[i]? with
 |none=>tb
 |some xw=>ss.zipIdx.foldl (nxt d xw.1 xw.2) tb
def mJ(d:Nat)(ss:List Dd):Nat->Nat->Tb->Tb
 |0,_,tb=>tb
 |n+1,i,tb=>if i<tb.length then mJ d ss n (i+1) (kX d ss tb i) else tb
theorem Wh(d:Nat)(x:Dd)(w:List Nat)(tb:Tb)(ks:Dd×Nat):∃r,nxt d x w tb ks=tb++r:=by
 unfold nxt;split
 ·exact⟨[],by simp⟩
 ·exact⟨_,rfl⟩
theorem cC(d:Nat)(x:Dd)(w:List Nat):∀(l:List (Dd×Nat))(tb:Tb),∃r,l.foldl (nxt d x w) tb=tb++r
 |[],tb=>⟨[],by simp⟩
 |k:: l,tb=>by
  obtain⟨c,e1⟩:=Wh d x w tb k;obtain⟨b,a⟩:=cC d x w l (nxt d x w tb k);exact⟨c++b,by rw[wB,a,e1,yO]⟩
theorem Jb(d:Nat)(ss:List Dd)(tb:Tb)(i:Nat):∃r,kX d ss tb i=tb++r:=by
 unfold kX;split
 ·exact⟨[],by simp⟩
 ·exact cC ..
theorem Da(d:Nat)(ss:List Dd):∀(n i:Nat)(tb:Tb),∃r,mJ d ss n i tb=tb++r
 |0,i,tb=>⟨[],by simp[mJ]⟩
 |n+1,i,tb=>by
  unfold mJ;split
  ·obtain⟨c,e1⟩:=Jb d ss tb i;obtain⟨b,a⟩:=Da d ss n (i+1) (kX d ss tb i);exact⟨c++b,by rw[a,e1,yO]⟩
  ·exact⟨[],by simp⟩
def lW(d:Nat)(x:Dd):Prop:=Fine d x.1 x.2.1 x.2.2
def TbAt(H:Hp)(tb:Tb)(kvs:List (PyData×V)):Prop:=Paired (λ(x:Dd×List Nat)(kv:PyData×V)=>kv.1=dat x.1/\∃p,kv.2=.ref p/\H p=some (.lst (x.2.map λn=>V.int (n:Nat)))) tb kvs
def sp_s(K:Frag)(C:Addr):Sp:=λvs H Q E=>E7 λ(b:Bool)(d:Nat)(a:Addr)(ps:LA)(ms:List Dd)(most:Nat)(G:Dd->Prop)=>A14 (vs=[.int d,.ref a,.int most]) ((d=2\/d=3)) (SqB b K H a (ps.map V.ref)) (Paired (DdS K H) ps ms) (ms.length<=200) ((∀s∈ms,lW d s)) ((∀s∈ms,lW d (nO s))) ((∀x,G x->lW d x)) (G (mD d)) ((∀x s,G x->s∈ms->G (nR d x (nO s)))) (1<=most) (most<=200) (((mJ d (ms.map nO) 201 0 [(mD d,[])]).length<=most->∀w kvs H',Same H H'->H w=none->DTr K H' w kvs->TbAt H' (mJ d (ms.map nO) 201 0 [(mD d,[])]) kvs->Q (.ref w) H')) ((most<(mJ d (ms.map nO) 201 0 [(mD d,[])]).length->∀H',Same H H'->E (.ref C) none H'))
def sp_m:Sp:=λvs H Q _=>E1 λ(n:Nat)=>A4 (vs=[.int n]) (1<=n) (n<=200) (Q .non H)
def sp_j(K:Frag):Sp:=λvs H Q _=>E5 λ(b:Bool)(d:Nat)(a:Addr)(ps:LA)(ms:List Dd)=>A6 (vs=[.int d,.ref a]) ((d=2\/d=3)) (SqB b K H a (ps.map V.ref)) (Paired (DdS K H) ps ms) ((∀s∈ms,s.1.length=d)) (∀H',Same H H'->Q .non H')
theorem Wg{prog:Program}{w:World}:∀n,n<=200->dX prog w n:=λn _=>Uq n
theorem Ez{K:Frag}{H:Hp}{a b:Addr}{kvs:List (PyData×V)}{k:PyData}{v:V}{Q:VK}(g:DTr K H a kvs)(t:tT 4 k=true)(d:Dt K H (.ref b) k)(e:vT kvs k=some v)(q:Q v H):iW K (.ref a) (.ref b) H Q:=⟨a,kvs,b,k,v,rfl,rfl,g,t,d,e,q⟩
theorem Wf{K:Frag}{H:Hp}{a b:Addr}{kvs:List (PyData×V)}{k:PyData}{c:Bool}{Q:VK}(g:DTr K H a kvs)(t:tT 4 k=true)(d:Dt K H (.ref b) k)(q:Q (.bl (if c=true then !(vT kvs k).isSome else(vT kvs k).isSome)) H):rInT K c (.ref b) (.ref a) H Q:=⟨a,kvs,b,k,rfl,rfl,g,t,d,q⟩
theorem iY{b a:Type}{f:b->a}{l:List b}{i:Nat}{y:a}(h:(l.map f)[i]?=some y):∃x,l[i]?=some x/\y=f x:=by
 rw[zO]at h;cases hx:l[i]? with
 |none=>rw[hx]at h;cases h
 |some x=>rw[hx]at h;exact⟨x,rfl,(yA h).symm⟩
def CpOk:Nat->V->Hp->Prop
 |0,x,_=>∃i,x=.int i
 |n+1,x,H=>∃a xs,x=.ref a/\H a=some (.lst xs)/\xs.length<=1000/\∀y∈xs,CpOk n y H
theorem CpOk.up{H H':Hp}(s:Same H H'):∀{n:Nat}{x:V},CpOk n x H->CpOk n x H'
 |0,_,h=>h
 |_+1,_,⟨a,xs,e,h,l,k⟩=>⟨a,xs,e,s _ _ h,l,λy b=>CpOk.up s (k y b)⟩
def sp_z(n:Nat):Sp:=λvs H Q _=>∃x,vs=[x]/\CpOk n x H/\∀y H',Same H H'->Q y H'
def We(C:Addr):Sp:=λvs H Q _=>E2 λ(e:Addr)(x:V)=>A4 (vs=[.ref e,x]) (H e=some (XObj e C true)) (CpOk 2 x H) (∀H',(∀b o,b≠e->H b=some o->H' b=some o)->H' e=some (XObj e C false)->Q .non H')
structure TK(K:Frag)(H H':Hp):Prop where
 k:∀b xs,H b=some (.tup xs)->H' b=some (.tup xs)
 t:∀b xs,SqT K H b xs->SqT K H' b xs
theorem TK.trans{K:Frag}{H d f:Hp}(a:TK K H d)(b:TK K d f):TK K H f:=⟨λc xs e=>b.k _ _ (a.k _ _ e),λc xs e=>b.t _ _ (a.t _ _ e)⟩
theorem TK.off{K:Frag}{H H':Hp}{a:Addr}{o:HO}(e:H a=some o)(g:∀xs,o≠.tup xs)(f:∀d u,o≠.frz d u)(h:∀c,c≠a->H' c=H c):TK K H H':=by
 have k:∀b xs,H b=some (.tup xs)->H' b=some (.tup xs):=λb xs q=>by
  rw[h b λz=>g xs (by rw[z,e]at q;exact yA q)];exact q
 refine⟨k,λb xs q=>?_⟩;rcases q with(q|⟨d,q⟩)|q
 ·exact .inl (.inl (k _ _ q))
 ·exact .inl (.inr ⟨d,by rw[h b λz=>f _ _ (by rw[z,e]at q;exact yA q)];exact q⟩)
 ·exact .inr q
theorem MatB.tk{K:Frag}{H H':Hp}{a:Addr}{M:LM}(h:MatB true true K H a M)(s:TK K H H'):MatB true true K H' a M:=let ⟨ps,c,e,b⟩:=h;⟨ps,s.t _ _ c,e,λi p r e1 d=>s.t _ _ (b i p r e1 d)⟩
theorem DdAt.tk{K:Frag}{H H':Hp}{p:Addr}{x:Dd}(h:DdAt K H p x)(s:TK K H H'):DdAt K H' p x:=let ⟨d,pt,b,c,a⟩:=h;⟨d,pt,s.k _ _ b,MatB.tk c s,s.k _ _ a⟩
theorem DdS.tk{K:Frag}{H H':Hp}{p:Addr}{x:Dd}(h:DdS K H p x)(s:TK K H H'):DdS K H' p x:=let ⟨d,pt,b,c,a⟩:=h;⟨d,pt,s.t _ _ b,MatB.tk c s,s.t _ _ a⟩
theorem DTr.tk{K:Frag}{H H':Hp}{a:Addr}{kvs:List (PyData×V)}(h:DTr K H a kvs)(s:TK K H H')(e:H' a=H a):DTr K H' a kvs:=by
 obtain⟨l,y,xs,b,n,r⟩:=h;exact⟨l,y,xs,e.trans b,n,r.keeps s.t⟩
structure CI(K:Frag)(H0:Hp)(qs:LA)(ss:List Dd)(as af aw:Addr)(tb:Tb)(H:Hp):Prop where
 s:∀b o,H0 b=some o->H b=some o
 st:H as=some (.lst (qs.map V.ref))/\Paired (DdAt K H) qs ss
 fo:∃fs,H af=some (.lst (fs.map V.ref))/\Paired (λp(x:Dd×List Nat)=>DdAt K H p x.1) fs tb
 wo:∃kvs,DTr K H aw kvs/\Paired (λ(x:Dd×List Nat)(kv:PyData×V)=>kv.1=dat x.1/\∃p,kv.2=.ref p/\p≠af/\H p=some (.lst (x.2.map λn=>V.int (n:Nat)))) tb kvs
 n1:H0 as=none
 n2:H0 af=none
 n3:H0 aw=none
 x1:as≠af
theorem CI.up{K:Frag}{a H H':Hp}{f:LA}{ss:List Dd}{as d c:Addr}{tb:Tb}(h:CI K a f ss as d c tb H)(s:Same H H'):CI K a f ss as d c tb H':=by
 obtain⟨l,⟨b1,b2⟩,⟨fs,g,r⟩,⟨kvs,q,u⟩,k,x,n,y⟩:=h;exact⟨λb o e=>s _ _ (l _ _ e),⟨s _ _ b1,Paired.mapP b2 λ_ _ z=>z.up s⟩,⟨fs,s _ _ g,Paired.mapP r λ_ _ z=>z.up s⟩,⟨kvs,q.up s,Paired.mapP u λ_ _ z=>let ⟨j,p,m,i,v⟩:=z;⟨j,p,m,i,s _ _ v⟩⟩,k,x,n,y⟩
theorem Ey{H:Hp}{d:Addr}{x:Dd}:∀{tb:Tb}{kvs:List (PyData×V)},Paired (λ(x:Dd×List Nat)(a:PyData×V)=>a.1=dat x.1/\∃p,a.2=.ref p/\p≠d/\H p=some (.lst (x.2.map λn=>V.int (n:Nat)))) tb kvs ->
  (x∉tb.map (·.1)/\vT kvs (dat x)=none)\/∃w p,(x,w)∈tb/\vT kvs (dat x)=some (.ref p)/\p≠d/\H p=some (.lst (w.map λn=>V.int (n:Nat))):=by
 intro tb kvs h
 induction h with
 |nil=>exact .inl ⟨by simp,rfl⟩
 | @cons y a tb kvs e _ f =>
  obtain⟨e1,p,g,j,i⟩:=e
  by_cases z:y.1=x
  ·refine .inr ⟨y.2,p,by rw[←z];exact .head _,?_,j,i⟩;rw[iI (by rw[e1,z]),g]
  ·have ne:¬ a.1=dat x:=λq=>z (Db.mp (e1.symm.trans q));rw[iJ ne];rcases f with⟨b,c⟩|⟨w,p,b,c⟩
   ·exact .inl ⟨by rw[zM,xC,not_or];exact⟨λq=>z q.symm,b⟩,c⟩
   ·exact .inr ⟨w,p,.tail _ b,c⟩
theorem Ja{d:Nat}{x:Dd}{w:List Nat}{tb:Tb}{ks:Dd×Nat}(h:(tb.map (·.1)).Nodup):((nxt d x w tb ks).map (·.1)).Nodup:=by
 unfold nxt;split
 ·exact h
 ·next q =>
  rw[xW,List.nodup_append];refine⟨h,by simp,λy b z a=>?_⟩;simp only[List.map_cons,List.map_nil,List.mem_singleton]at a;rw[a];exactλe=>q (e ▸ b)
theorem Kz{d:Nat}{x:Dd}{w:List Nat}:∀(l:List (Dd×Nat))(tb:Tb),(tb.map (·.1)).Nodup->((l.foldl (nxt d x w) tb).map (·.1)).Nodup
 |[],_,h=>h
 |k:: l,tb,h=>Kz l _ (Ja h)
theorem Ky{d:Nat}{x:Dd}{w:List Nat}{tb:Tb}{ks:Dd×Nat}{G:Dd->Prop}(h:∀y∈tb,G y.1)(b:G (nR d x ks.1)):∀y∈nxt d x w tb ks,G y.1:=by
 unfold nxt;split
 ·exact h
 ·intro y a;rcases oW.mp a with a|a
  ·exact h y a
  ·rw[oQ.mp a];exact b
theorem Wd{tb:Tb}(h:(tb.map (·.1)).Nodup){i:Nat}{x:Dd}{w b:List Nat}(e:tb[i]?=some (x,w))(m:(x,b)∈tb):w=b:=by
 obtain⟨j,a⟩:=wL m;have e1:(tb.map (·.1))[i]?=some x:=by rw[zO,e];rfl
 have c:(tb.map (·.1))[j]?=some x:=by rw[zO,a];rfl
 have hi:i<(tb.map (·.1)).length:=(zqa e1).1;have:i=j:=(List.getElem?_inj hi h).mp (e1.trans c.symm);subst this;rw[e]at a;cases a;rfl
theorem Wc{d:Nat}{ss:List Dd}{n i:Nat}{tb:Tb}(h:tb.length<=i):mJ d ss n i tb=tb:=by
 cases n with
 |zero=>rfl
 |succ n=>unfold mJ;rw[zD ⋯]
theorem Wb{d:Nat}{ss:List Dd}{n i:Nat}{tb:Tb}(h:i<tb.length)(a:0<n):mJ d ss n i tb=mJ d ss (n-1) (i+1) (kX d ss tb i):=by
 obtain⟨m,rfl⟩:∃m,n=m+1:=⟨n-1,⋯⟩;show(if i<tb.length then _ else _)=_;rw[zE h];rfl
theorem Wa{d:Nat}{ss:List Dd}{tb:Tb}{i:Nat}{x:Dd}{w:List Nat}(e:tb[i]?=some (x,w)):kX d ss tb i=ss.zipIdx.foldl (nxt d x w) tb:=by
 unfold kX;rw[e]
def part(d:Nat)(x:Dd)(w:List Nat)(ss:List Dd)(tb:Tb)(i:Nat):Tb:=(ss.zipIdx.take i).foldl (nxt d x w) tb
theorem cD{d:Nat}{x s:Dd}{w:List Nat}{ss:List Dd}{tb:Tb}{i:Nat}(e:ss[i]?=some s):part d x w ss tb (i+1)=nxt d x w (part d x w ss tb i) (s,i):=by
 unfold part;rw[xY,rJ,e,vZ];simp
theorem Xz{d:Nat}{x:Dd}{w:List Nat}{ss:List Dd}{tb:Tb}:part d x w ss tb ss.length=ss.zipIdx.foldl (nxt d x w) tb:=by
 unfold part;rw[wF (by simp)]
theorem Xy{d:Nat}{x:Dd}{w:List Nat}{ss:List Dd}{tb:Tb}(i:Nat):∃r,part d x w ss tb i=tb++r:=cC ..
theorem Kx{d:Nat}{x:Dd}{w:List Nat}{ss:List Dd}{tb:Tb}(i:Nat):(part d x w ss tb i).length<=(ss.zipIdx.foldl (nxt d x w) tb).length:=by
 have e:ss.zipIdx.foldl (nxt d x w) tb=(ss.zipIdx.drop i).foldl (nxt d x w) (part d x w ss tb i):=by
  unfold part;rw[←vZ,xZ]
 obtain⟨r,a⟩:=cC d x w (ss.zipIdx.drop i) (part d x w ss tb i);rw[e,a,yF];omega
def ND(tb:Tb):Prop:=(tb.map (·.1)).Nodup/\∀y∈tb,y.2.length<tb.length
theorem Kw{d:Nat}{x:Dd}{w:List Nat}{tb:Tb}{ks:Dd×Nat}(h:ND tb)(b:(x,w)∈tb):ND (nxt d x w tb ks):=by
 refine⟨Ja h.1,?_⟩;have c:=h.2 _ b;unfold nxt;split
 ·exact h.2
 ·intro y a;rw[yF];rcases oW.mp a with a|a
  ·have:=h.2 y a;simp only[List.length_cons,List.length_nil];omega
  ·rw[oQ.mp a];simp only[List.length_append,List.length_cons,List.length_nil];have e:w.length<tb.length:=c;omega
theorem ok_m(T:Txt K mg t):FnOk P w K mg base CX0 2 t.a_m t.d_m ["most"] sp_m:=by
 apply T.F_m.ok sc_m
 ·obtain⟨n,rfl,b,c,a⟩:=h;refine⟨_,(nJ (mF (PW.pt (kZ (mC cO (pq 0) nI (mB _)) (jX (mC Ap (pq 0) (Bj (v:=(.int 200)) rfl T.g_MOST_MEMBERS) (mB _)))))
   (nJ At)
   mE)),?_⟩
  show tIfS _ _ _ _ [some (.int n)] H;ext;rw[zI (show¬ (n:Int)<1 by omega),zI (show¬ (200:Int)<n by omega)];refine iteF (iteF ?_);exact a
theorem jT{a b:Type}{c:a->b->Prop}{xs:List a}{ys:List b}(h:Paired c xs ys):∀{i:Nat}{x:a},xs[i]?=some x->∃y,ys[i]?=some y/\c x y:=by
 induction h with
 |nil=>intro i x e;simp at e
 |cons f _ d =>
  intro i x e;cases i with
  |zero=>cases e;exact⟨_,rfl,f⟩
  |succ i=>exact d (by simpa using e)
theorem ok_j(T:Txt K mg t):FnOk P w K mg base CX0 2 t.a_j t.d_j ["d","makers"] (sp_j K):=by
 apply T.F_j.ok sc_j
 ·obtain⟨b,d,a,ps,ms,rfl,C,l,p,hl,u⟩:=h;refine⟨_,(nF (mF (mC Ab (pq 0) (lI (nD nI (nD nI nE))) rfl)
   (nJ At)
   mE)
   (nJ (lN yJ rfl (lH (pq 1)) (mM (i:=2) sc_j.nd rfl (Or.inl rfl))
   (nJ (mF (mC jK (jN T.z_len (nU (pq 2))) (pq 0) (mB _))
   (nJ At)
   mE))))),?_⟩
  show tSeq _ _ _ [some (.int d),some (.ref a),none] H;right;refine⟨by show 2<=sizeLine;decide,λk r=>?_⟩;have j:Same H (upd H k (.tup [.int 2,.int 3])):=Same.new r;refine⟨k,_,rfl,.inr (SqT.of nK),rfl,rfl,_,rfl,?_⟩;generalize upd H k (.tup [.int 2,.int 3])=z at j;rw[inV2,zK ⋯];refine iteF ?_;subst e1;refine lO λB eB=>?_;simp only[iSeq];ext;refine⟨b,⟨_,l.up j⟩,?_⟩;refine fA (g:=nS 2) (tb:=B) (nx:=λ_ H'=>Q .non H') (rt:=Q) (λi g e=>∃v,g=[some (.int d),some (.ref a),v]/\Same H e) ⟨_,rfl,j⟩ (λi g e _⟨_,_,c⟩=>l.up c) ?_ ?_
  ·rintro i x g e f ⟨v,rfl,c⟩;rw[zO]at f;cases hp':ps[i]? with
   |none=>rw[hp']at f;cases f
   |some q =>
    rw[hp']at f;cases f;obtain⟨m,y,o⟩:=jT p hp';subst eB;show tIfS _ _ _ _ [some (.int d),some (.ref a),some (.ref q)] e;ext;refine eO (DdS.up o c) λx n=>bI n ?_
    try ext
    rw[hl m (zqb y),zK rfl];refine iteF ?_;exact c
  ·rintro g e ⟨v,rfl,c⟩;exact u e c
theorem ok_z(T:Txt K mg t):∀n:Nat,FnOk P w K mg base CX0 (n+2) t.a_z t.d_z ["thing"] (sp_z n):=by
 intro n
 induction n with
 |zero =>
  apply T.F_z.ok sc_z
  ·obtain⟨x,rfl,⟨i,rfl⟩,f⟩:=h;refine⟨_,(nF (mF (lY (lA (Jq T.h_s T.h_t) (by rfl) T.z_isinstance (nofun) (nD (pq 0) (nD (lI (nD (fO (v:=.ty "list") rfl T.z_list (nofun) rfl) (nD (fO (v:=.ty "tuple") rfl T.z_tuple (nofun) rfl) nE))) nE)))) Ol mE) (nJ (nX (pq 0)))),?_⟩;show tSeq _ _ _ [some (.int i)] H;ext;refine⟨by show 2<=sizeLine;decide,λp c=>⟨_,p,false,rfl,nK,.inl ⟨i,rfl,rfl⟩,false,rfl,?_⟩⟩;refine iteF ?_;exact f _ _ (Same.new c)
 | succ n m =>
  have v:=m;apply T.F_z.ok sc_z
  ·obtain⟨x,rfl,⟨a,xs,rfl,e,hl,k⟩,f⟩:=h;refine⟨_,(nF (mF (lY (lA (Jq T.h_s T.h_t) (by rfl) T.z_isinstance (nofun) (nD (pq 0) (nD (lI (nD (fO (v:=.ty "list") rfl T.z_list (nofun) rfl) (nD (fO (v:=.ty "tuple") rfl T.z_tuple (nofun) rfl) nE))) nE))))
   (nJ (nX (kB (sc:=nM bZ) (N:=N_z) (fr:=[]) (te:=(kP (sp_z n) [] E0 (mG (tVar 0) tNil))) rfl rfl (nofun) rfl (nofun) (lH (pq 0)) (λ_ _ _ C=>(nW v hr.mo T.F_z (nD (pv 0) nE))))))
   mE)
   (nJ (nX (pq 0)))),?_⟩
   show tSeq _ _ _ [some (.ref a)] H;ext;refine⟨by show 2<=sizeLine;decide,λp c=>⟨_,p,true,rfl,nK,.inr ⟨a,xs,rfl,Same.new c _ _ e,rfl⟩,true,rfl,?_⟩⟩;refine iteT ?_;have b:Same H (upd H p (.tup [.ty "list",.ty "tuple"])):=Same.new c;generalize upd H p (.tup [.ty "list",.ty "tuple"])=z at b;exfalso;refine⟨false,⟨_,SqB.lst (b _ _ e)⟩,λl j=>?_⟩;refine kM (λ_ _ _=>True) j (SqB.lst (b _ _ e)) hl (λ_ _ _ _ _ _=>trivial) ?_ ?_
   ·intro i x g zs r d _ q u;subst eB;show kP _ _ _ _ [some x] g q;ext;exact⟨x,rfl,(k x (zqb r)).up (b.trans d),λy D o=>u _ _ o trivial⟩
   ·intro g ys d _ _ _;exact f _ _ (b.trans d)
theorem ok_2(T:Txt K mg t):FnOk P w K mg base CX0 6 t.a_2 t.d_2 pp' (We t.a_14):=by
 have g:=ok_z (P:=P) (w:=w) (base:=base) T 2;apply T.F_2.ok sc_2
 ·obtain⟨e,x,rfl,c,d,i⟩:=h;have n:=2;refine⟨_,(nF (jJ (Ve rfl T.m_16 T.h_8 (nD (pq 0) (nD mL nE))))
   (nJ (Vd T.h_9 (nW g hr.mo T.F_z (nD (pq 1) nE)) (pq 0)))),?_⟩
  show tSeq _ _ _ [some (.ref e),some x] H;unfold Js Jr;ext;refine⟨true,c,by show 1<=sizeLine;decide,x,rfl,d,λy j a=>⟨a _ _ c,?_⟩⟩;exact i _ (λb o f z=>by rw[nN f];exact a _ _ z) nK
theorem Ex{d:Nat}{x:Dd}{w:List Nat}{tb:Tb}{ks:Dd×Nat}:(nxt d x w tb ks).length<=tb.length+1:=by
 unfold nxt;split
 ·omega
 ·rw[yF];exact zG _
def offH(a:Addr)(H:Hp):Hp:=λb=>if b=a then none else H b
theorem Ew{a:Addr}{H:Hp}:Same (offH a H) H:=λb o e=>by
 unfold offH at e
 by_cases z:b=a
 ·rw[zE z]at e;cases e
 ·rw[zD z]at e;exact e
theorem aN{a:Addr}{c d:Hp}(s:jE a c d):Same (offH a c) (offH a d):=λb o e=>by
 unfold offH at e ⊢
 by_cases z:b=a
 ·rw[zE z]at e;cases e
 ·rw[zD z]at e ⊢;exact s _ _ z e
theorem Kv{K:Frag}{a:Addr}{H:Hp}{xs:List V}(e:H a=some (.lst xs)):TK K H (offH a H):=TK.off e (λ_ z=>by cases z) (λ_ _ z=>by cases z) λc b=>by unfold offH;rw[zD b]
def DdR(K:Frag)(a:Addr)(ms:List Dd)(j:Nat)(y:V)(H:Hp):Prop:=∃q m,y=.ref q/\ms[j]?=some m/\DdAt K (offH a H) q m
theorem DdR.mono{K:Frag}{a:Addr}{ms:List Dd}(i:Nat)(y:V)(b c:Hp)(h:DdR K a ms i y b)(s:jE a b c):DdR K a ms i y c:=let ⟨q,m,e,f,d⟩:=h;⟨q,m,e,f,d.up (aN s)⟩
theorem Ku{a:Type}{b:Addr->a->Prop}{D:List a}{ys:List V}(hl:ys.length=D.length)(h:∀(j:Nat) y,ys[j]?=some y->∃p e,y=V.ref p/\D[j]?=some e/\b p e):∃ps:LA,ys=ps.map V.ref/\Paired b ps D:=by
 induction D generalizing ys with
 |nil =>
  obtain rfl:=vC hl;exact⟨[],rfl,.nil⟩
 |cons m ms i =>
  obtain⟨y,ys,rfl⟩:=List.exists_cons_of_length_eq_add_one hl;obtain⟨q,n,rfl,l,d⟩:=h 0 y rfl;cases l;obtain⟨k,rfl,f⟩:=i (oJ hl) λj c g=>h (j+1) c g;exact⟨q:: k,rfl,.cons d f⟩
theorem Xx{K:Frag}{a:Addr}{H:Hp}{ms:List Dd}{ys:List V}(hl:ys.length=ms.length)(h:∀j y,ys[j]?=some y->DdR K a ms j y H):∃c:LA,ys=c.map V.ref/\Paired (DdAt K H) c ms:=Ku hl λj y e=>by
 obtain⟨q,m,a,b,d⟩:=h j y e;exact⟨q,m,a,b,d.up Ew⟩
theorem Ev{H:Hp}{p:Addr}{x:V}{xs:List V}{i:Nat}{I:Int}{Q:VK}(e:H p=some (.lst xs))(a:xs[i]?=some x)(hi:I=i)(q:Q x H):rIxB K (.ref p) (.int I) H Q:=⟨false,p,_,_,_,rfl,rfl,SqB.lst e,kH a hi,q⟩
theorem tyL{H:Hp}{p:Addr}{xs:List V}(e:H p=some (.lst xs)):tyV K "list" (.ref p) H:=.inl ⟨rfl,xs,.inl (.inl e)⟩
def CPv(K:Frag)(H0:Hp)(G:Dd->Prop)(qs:LA)(ss:List Dd)(a as af aw:Addr)(d i most:Nat)(f:Nat->Tb)(k:Nat)(σ:St)(H:Hp):Prop:=
 ∃v7 v8 v9,σ=[some (.int d),some (.ref a),some (.int most),some (.ref as),some (.ref af),some (.ref aw),some (.int i),v7,v8,v9]/\CI K H0 qs ss as af aw (f k) H/\ND (f k)/\(∀y∈f k,G y.1)/\(f k).length<=most
theorem ok_s(T:Txt K mg t):FnOk P w K mg base (CX1 P w) 10 t.a_s t.d_s pn' (sp_s K t.a_14):=by
 have m1:=@ok_1b P w K mg base t T;have o6:=@ok_17 P w K mg base t T;have r6:=@ok_11 P w K mg base t T;have p7:=@ok_2 P w K mg base t T;refine T.F_s.okX sc_s (λvs H Q E h=>?_) (λcdv A outer s H vs Q E hr h=>?_)
 ·obtain⟨b,d,a,ps,ms,most,G,rfl,_⟩:=h;rfl
 ·have c6:=hr.units;obtain⟨b,d,a,ps,ms,most,G,rfl,o7,j5,k7,w0,p9,q5,m6,s5,n4,n3,u9,p4,r0⟩:=h;refine⟨_,(nF (Hc (i:=3) (sc:=nM dY) (N:=N_s) (fr:=[]) (te:=(kP (sp_1b K) [] E0 (mG (tVar 0) tNil))) rfl rfl (nofun) rfl sc_s.nd rfl rfl (nofun) (lH (pq 1)) (λ_ _ _ r4=>(nW m1 hr.mo T.F_1b (nD (pv 0) nE))))
   (nF (nP (i:=4) sc_s.nd rfl (Or.inl rfl) (mS (nD (nW o6 hr.mo T.F_17 (nD (pq 0) nE)) nE)))
   (nF (nP (i:=5) sc_s.nd rfl (Or.inr rfl) (Tr c6 (nU (pq 4)) (mS nE)))
   (nF (nP (i:=6) sc_s.nd rfl (Or.inl rfl) nI)
   (nF (eX PassesOwn.leaving (mC cO (pq 6) (jN T.z_len (pq 4)) (mB _))
   (nF (lN PassesOwn.leaving rfl (dJ rfl T.z_enumerate (nD (pq 3) nE)) (jY rfl (mY (mM (i:=7) sc_s.nd rfl (Or.inl rfl)) (mY (mM (i:=8) sc_s.nd rfl (Or.inl rfl)) jR)))
   (nF (nP (i:=9) sc_s.nd rfl (Or.inl rfl) (nW m1 hr.mo T.F_1b (nD (nW r6 hr.mo T.F_11 (nD (lC ix_B (pq 4) (pq 6) (λ_ _=>rfl)) (nD (pq 8) nE))) nE)))
   (nF (mF (mC (Bd c6) (pq 9) (pq 5) rfl)
   (nF (gW (nH Gp (lC (ix_T c6) (pq 5) (lC ix_B (pq 4) (pq 6) (λ_ _=>rfl)) (λ_ _=>rfl)) (mS (nD (pq 7) nE))) (cK (pq 5) (pq 9) (bN c6)))
   (nJ (jJ (jS xH xT xQ iA (pq 4) (nD (pq 9) nE)))))
   mE)
   (nJ (mF (mC Ap (jN T.z_len (pq 4)) (pq 2) (mB _))
   (nJ (Vh rfl Vk rfl T.m_14 T.h_8.cl yM p7 hr.mo T.b_2 cR (nD (kB (sc:=nM dY) (N:=N_s) (fr:=[("words",5)]) (te:=(tOp (iW K) (tVar 1) (tVar 0))) rfl rfl (nofun) rfl (nofun) (lH (pq 4)) (λ_ _ _ r4=>(lC (ix_T c6) (pv 1) (pv 0) (λ_ _=>rfl)))) nE)))
   mE)))))
   (nJ (As (i:=6) sc_s.nd rfl (Or.inl rfl) nI Ar))))
   (nJ (nX (pq 5)))))))),?_⟩
  show tSeq _ _ _ [some (.int d),some (.ref a),some (.int most),none,none,none,none,none,none,none] H;have v8:ps.length=ms.length:=lV k7;right;exfalso;refine⟨b,⟨_,j5⟩,λas i4=>?_⟩;refine kM (DdR K as (ms.map nO)) i4 j5 (by rw[zqe];omega) DdR.mono ?_ ?_
  ·intro i x k6 zs e3 d5 k4 h4 h7;obtain⟨q,o3,rfl⟩:=iY e3;obtain⟨m,m0,u0⟩:=jT k7 o3;have g9:=p9 m (zqb m0);subst eB;show kP _ _ _ _ [some (.ref q)] k6 h4;ext;refine⟨q,m.1,m.2.1,m.2.2,rfl,DdS.up u0 d5,by rw[g9.sq.1];omega,by rw[g9.len];omega,g9.pos,λr J v c2=>?_⟩;refine h7 _ _ v ⟨r,nO m,rfl,by rw[zO,m0];rfl,?_⟩;exact DdAt.tk (show DdAt K J r (nO m) from c2) (Kv (v _ _ k4))
  ·intro k6 ys d5 b8 i6 d9;obtain⟨S,rfl,j4⟩:=Xx (by rw[i6,zqe,zqe];omega) d9;left;refine⟨d,rfl,o7,λa2 J v j2=>⟨by show 1<=sizeLine;decide,λf b5=>?_⟩⟩;have d2:Same J (upd J f (.lst [.ref a2])):=Same.new b5;have c1:(upd J f (.lst [.ref a2])) f=some (.lst [.ref a2]):=nK;generalize upd J f (.lst [.ref a2])=b7 at*
   have d3:DdAt K b7 a2 (mD d):=DdAt.up j2 d2;have e4:=d2 _ _ (v _ _ b8);have k0:=Paired.mapP j4 λ_ _ z=>z.up (v.trans d2);have h3:=(d5.trans v).trans d2;have s0:H f=none:=by
    cases z:H f with
    |none=>rfl
    |some o=>rw[v _ _ (d5 _ _ z)]at b5;cases b5
   have r7:as≠f:=λz=>by rw[z]at b8;rw[v _ _ b8]at b5;cases b5
   subst e1;refine st λN1 e1=>?_;simp only[Iv];ext;intro g W;have R:Same b7 (upd b7 g (mV g [])):=Same.new W;have e2:(upd b7 g (mV g [])) g=some (mV g []):=nK;have i9:H g=none:=by
    cases z:H g with
    |none=>rfl
    |some o=>rw[h3 _ _ z]at W;cases W
   generalize upd b7 g (mV g [])=e6 at*;ext;refine Ev (i:=0) (R _ _ c1) rfl rfl ?_;refine⟨zZ _,λa4 b0=>?_⟩;have N:Same e6 (upd e6 a4 (.lst [])):=Same.new b0;have ep:(upd e6 a4 (.lst [])) a4=some (.lst []):=nK;have k8:a4≠f:=λz=>by rw[z,R _ _ c1]at b0;cases b0
   have e8:a4≠g:=λz=>by rw[z,e2]at b0;cases b0
   generalize upd e6 a4 (.lst [])=t5 at*;refine⟨a2,rfl,dat (mD d),gL _,(DdAt.up d3 (R.trans N)).dt,N _ _ e2,λh9 b4 i2=>?_⟩;have m4:∀b o,H b=some o->b≠g:=λb o e z=>by rw[z,i9]at e;cases e
   have h8:TK K t5 h9:=TK.off (N _ _ e2) (λ_ z=>by cases z) (λ_ _ z=>by cases z) b4;have e5:as≠g:=λz=>by rw[z]at e4;rw[e4]at W;cases W
   have c7:f≠g:=λz=>by rw[z]at c1;rw[c1]at W;cases W
   have O:CI K H S (ms.map nO) as f g [(mD d,[])] h9:=⟨λb o e=>by rw[b4 b (m4 b o e)];exact N _ _ (R _ _ (h3 _ _ e)),⟨by rw[b4 _ e5];exact N _ _ (R _ _ e4),Paired.mapP k0 λ_ _ z=>DdAt.tk (z.up (R.trans N)) h8⟩,
    ⟨[a2],by rw[b4 _ c7];exact N _ _ (R _ _ c1),.cons (DdAt.tk (DdAt.up d3 (R.trans N)) h8) .nil⟩,⟨_,i2,.cons ⟨rfl,a4,rfl,k8,by rw[b4 _ e8];exact ep⟩ .nil⟩,i4,s0,i9,r7⟩
   clear i2 h8 ep k8 e8 b0 N e2 R W k0 e4 d3 c1 d2 b5 j2 v j4 d9 i6 b8 d5 h3 c7 e5 m4 b4;left;subst e1;refine st λN1 e1=>Bv λB eB=>?_;refine⟨λm c9 H'=>∃(i:Nat)(tb:Tb)(D F C:Option V),c9=[some (.int d),some (.ref a),some (.int most),some (.ref as),some (.ref f),some (.ref g),some (.int i),D,F,C]/\CI K H S (ms.map nO) as f g tb H'/\mJ d (ms.map nO) (201-i) i tb=mJ d (ms.map nO) 201 0 [(mD d,[])]/\ND tb/\(∀y∈tb,G y.1)/\tb.length<=most/\m=201-i,
    ⟨201,0,_,none,none,none,rfl,O,rfl,⟨by simp,λy g1=>by rw[List.mem_singleton.mp g1];exact Nat.zero_lt_one⟩,λy g1=>by rw[oQ.mp g1];exact s5,n3,rfl⟩,?_⟩
   clear O;rintro m c9 t2 ⟨i,tb,D,F,C,rfl,O,X,q4,s8,m9,rfl⟩;ext;obtain⟨fs,s4,q0⟩:=O.fo;have fl:fs.length=tb.length:=lV q0;refine⟨false,f,_,rfl,SqB.lst s4,?_⟩
   try ext
   rw[zqe,fl]
   by_cases hi:i<tb.length
   case neg =>
    rw[zI ⋯];refine iteF ?_;symm;rw[Wc ⋯]at X;obtain⟨kvs,c5,c0⟩:=O.wo;refine p4 (by rw[←X];exact m9) g kvs t2 O.s O.n3 c5 ?_;rw[←X];exact Paired.mapP c0 λ_ _ z=>let ⟨a3,p,Z,_,e7⟩:=z;⟨a3,p,Z,e7⟩
   rw[zK (show(i:Int)<tb.length by omega)];obtain⟨⟨x,u⟩,e3⟩:∃e8,tb[i]?=some e8:=⟨_,zqd hi⟩;have t9:0<201-i:=⋯
   rw[Wb hi t9,Wa e3]at X;have v1:((ms.map nO).zipIdx.foldl (nxt d x u) tb).length<=(mJ d (ms.map nO) 201 0 [(mD d,[])]).length:=by
    obtain⟨r,s3⟩:=Da d (ms.map nO) (201-i-1) (i+1) ((ms.map nO).zipIdx.foldl (nxt d x u) tb);rw[←X,s3,yF];omega
   refine iteT ⟨λi1 H'=>∃(a7:Tb)(D F C:Option V),i1=[some (.int d),some (.ref a),some (.int most),some (.ref as),some (.ref f),some (.ref g),some (.int (i+1:Nat)),D,F,C]/\CI K H S (ms.map nO) as f g a7 H'/\mJ d (ms.map nO) (201-(i+1)) (i+1) a7=mJ d (ms.map nO) 201 0 [(mD d,[])]/\ND a7/\(∀y∈a7,G y.1)/\a7.length<=most,?_,?_⟩
   ·rintro i1 H' ⟨a7,D,F,C,rfl,k1,k2,k3,g7,k5⟩;exact⟨201-(i+1),⋯,i+1,a7,D,F,C,rfl,k1,k2,k3,g7,k5,rfl⟩
   subst eB;refine st λv7 b9=>lO λB eB=>?_;simp only[fU];ext;refine⟨false,⟨_,SqB.lst O.st.1⟩,?_⟩;refine Bk (g:=gTup K 2 (lM (nS 7) (lM (nS 8) gNil))) (tb:=B) (CPv K H G S (ms.map nO) a as f g d i most (part d x u (ms.map nO) tb))
    ⟨_,_,_,rfl,O,q4,s8,m9⟩ (λk c9 H' _⟨_,_,_,_,c,_⟩=>SqB.lst c.st.1) ?_ ?_
   ·rintro k y p c9 j8 n6 ⟨D,F,C,rfl,a9,a5,c8,h5⟩ r1;obtain⟨q,l6,rfl⟩:=iY n6;obtain⟨l,a0,_⟩:=jT a9.st.2 l6;have n7:=Same.new (o:=.tup [.int (k:Int),.ref q]) r1;refine⟨p,[.int k,.ref q],rfl,SqT.of nK,rfl,_,[.ref q],rfl,_,[],rfl,rfl,?_⟩;have f3:=a9.up n7;generalize upd j8 p (.tup [.int (k:Int),.ref q])=p6 at*
    clear a9;obtain⟨w6,t7⟩:=Xy (d:=d) (x:=x) (w:=u) (ss:=ms.map nO) (tb:=tb) k;have M:(part d x u (ms.map nO) tb k)[i]?=some (x,u):=by rw[t7,yP hi];exact e3
    have u7:=Kx (d:=d) (x:=x) (w:=u) (ss:=ms.map nO) (tb:=tb) k;have r2:=Kx (d:=d) (x:=x) (w:=u) (ss:=ms.map nO) (tb:=tb) (k+1);have p8:∀D F C H',CI K H S (ms.map nO) as f g (nxt d x u (part d x u (ms.map nO) tb k) (l,k)) H'->G (nR d x l)->(nxt d x u (part d x u (ms.map nO) tb k) (l,k)).length<=most->CPv K H G S (ms.map nO) a as f g d i most (part d x u (ms.map nO) tb) (k+1) [some (.int d),some (.ref a),some (.int most),some (.ref as),some (.ref f),some (.ref g),some (.int i),D,F,C] H':=λD F C H' c gs s2=>⟨D,F,C,rfl,by rw[cD a0];exact c,by rw[cD a0];exact Kw a5 (zqb M),by rw[cD a0];exact Ky c8 gs,by rw[cD a0];exact s2⟩;rw[cD a0]at r2;generalize CPv K H G S (ms.map nO) a as f g d i most (part d x u (ms.map nO) tb) (k+1)=v4 at*
    generalize part d x u (ms.map nO) tb k=tk at*;obtain⟨l3,l8,j6⟩:∃m∈ms,nO m=l:=by
     have:=zqb a0;obtain⟨m,r8,u3⟩:=oR.mp this;exact⟨m,r8,u3⟩
    have i7:G x:=c8 _ (zqb M);have gs:G (nR d x l):=by rw[←j6];exact n4 x l3 i7 l8
    have p5:=m6 x i7;have fs':lW d l:=by rw[←j6];exact q5 l3 l8
    have h6:=m6 _ gs;subst eB;show tSeq _ _ _ [some (.int d),some (.ref a),some (.int most),some (.ref as),some (.ref f),some (.ref g),some (.int i),some (.int k),some (.ref q),C] p6;refine st λw2 f4=>?_;ext;obtain⟨fs2,n2,j1⟩:=f3.fo;obtain⟨h1,n1⟩:∃h1,fs2[i]?=some h1:=⟨_,zqd (by rw[lV j1];exact(zqa M).1)⟩;obtain⟨w3,l9,t3⟩:=jT j1 n1;rw[M]at l9;cases l9;obtain⟨v0,l5,o0⟩:=jT f3.st.2 l6;rw[a0]at l5;cases l5;refine Ev (i:=i) n2 (by rw[zO,n1];rfl) rfl ?_;refine⟨h1,q,x.1,l.1,x.2.1,l.2.1,x.2.2,l.2.2,d,rfl,kE.s t3,kE.s o0,p5,fs',⋯,⋯,λi8 o2 o8 d9=>?_⟩;have t6:DdAt K o2 i8 (behD d x l):=d9;refine⟨i8,_,_,_,rfl,kE.s t6,?_,?_,h6.pos,λU a6 q2 c2=>?_⟩
    ·have:=h6.sq.1;show(mulM d l.1 x.1).length<=100;have:(mulM d l.1 x.1).length=d:=this;omega
    ·have:=h6.len;have e:(lK (behD d x l).2.2 (behD d x l).2.1).length=(behD d x l).2.1.length:=by unfold lK;simp
     have:(lK (behD d x l).2.2 (behD d x l).2.1).length=d:=this;omega
    have m7:DdAt K a6 U (nR d x l):=c2;have d7:=f3.up (o8.trans q2);subst f4;show tSeq _ _ _ [some (.int d),some (.ref a),some (.int most),some (.ref as),some (.ref f),some (.ref g),some (.int i),some (.int k),some (.ref q),some (.ref U)] a6;refine st λu1 d4=>?_;have m2:∀H',CI K H S (ms.map nO) as f g (nxt d x u tk (l,k)) H'->u1 [some (.int d),some (.ref a),some (.int most),some (.ref as),some (.ref f),some (.ref g),some (.int i),some (.int k),some (.ref q),some (.ref U)] H':=by
     intro H' e0;subst d4;ext;obtain⟨v9,g3,f1⟩:=e0.fo;refine⟨false,f,_,rfl,SqB.lst g3,?_⟩
     try ext
     rw[zqe,lV f1]
     by_cases q9:(nxt d x u tk (l,k)).length<=most
     ·rw[zI ⋯];refine iteF ?_;exact p8 _ _ _ H' e0 gs q9
     ·rw[zK ⋯];refine iteT ?_;have u4:=r0 ⋯;obtain⟨w5,p1,q1⟩:=e0.wo;exfalso;refine⟨false,⟨_,SqB.lst g3⟩,λh2 f5=>?_⟩;refine kM (λ_ y J=>∃p,y=.ref p/\p≠h2/\∃d1:List Nat,d1.length<=201/\J p=some (.lst (d1.map λn=>V.int (n:Nat)))) f5 (SqB.lst g3) (by rw[zqe,lV f1];have:=Ex (d:=d) (x:=x) (w:=u) (tb:=tk) (ks:=(l,k));omega) (λ_ _ _ _⟨p,e1,b9,d1,f4,d4⟩r9=>⟨p,e1,b9,d1,f4,r9 _ _ b9 d4⟩) ?_ ?_
      ·intro j m3 J zs n9 v k4 h4 h7;obtain⟨s7,t8,rfl⟩:=iY n9;obtain⟨u5,s6,d3⟩:=jT f1 t8;subst eB;show tOp _ _ _ [some (.ref s7),some (.ref g)] J h4;ext;rcases Ey (x:=u5.1) q1 with⟨a8,_⟩|⟨g8,e9,a8,f9,t1,c4⟩
       ·exact absurd (oR.mpr ⟨_,zqb s6,rfl⟩) a8
       refine Ez (p1.up v) (gL _) (DdAt.dt (d3.up v)) f9 ?_;refine h7 _ _ (Same.refl _) ⟨e9,rfl,(λz=>by rw[z]at c4;rw[c4]at f5;cases f5),g8,?_,v _ _ c4⟩;have q3:=(Kw (d:=d) (ks:=(l,k)) a5 (zqb M)).2 _ a8;have:=Ex (d:=d) (x:=x) (w:=u) (tb:=tk) (ks:=(l,k));exact yH (wA q3) ⋯
      ·intro J ys v b9 r3 c2;refine⟨by show 1<=sizeLine;decide,λe n0=>⟨e,.ref h2,rfl,nK,?_,λb7 k3 g7=>⟨rfl,g7,?_⟩⟩⟩
       ·have j9:=Same.new (o:=XObj e t.a_14 true) n0;refine⟨h2,ys,rfl,j9 _ _ b9,by rw[r3,zqe,lV f1];have:=Ex (d:=d) (x:=x) (w:=u) (tb:=tk) (ks:=(l,k));omega,λm3 o4=>?_⟩;obtain⟨j,q8⟩:=wL o4;obtain⟨o1,b8,_,d1,u8,d4⟩:=c2 j m3 q8;refine⟨o1,_,b8,j9 _ _ d4,by rw[zqe];omega,λz p0=>?_⟩;obtain⟨n,_,rfl⟩:=oR.mp p0;exact⟨_,rfl⟩
       ·refine u4 _ λb o o5=>?_;have g5:=v _ _ (e0.s b o o5);have g4:b≠e:=λz=>by rw[z,n0]at g5;cases g5
        rw[gK g4];exact k3 b o g4 (by rw[nN g4];exact g5)
    ext;obtain⟨kvs,c5,c0⟩:=d7.wo;refine Wf c5 (gL _) m7.dt ?_;rcases Ey (x:=nR d x l) c0 with⟨a3,Z⟩|⟨g8,e9,a3,Z,i0,e7⟩
    case inr =>
     rw[Z]
     try ext
     refine m2 a6 ?_;have f7:nxt d x u tk (l,k)=tk:=zE (oR.mpr ⟨_,a3,rfl⟩);rw[f7];exact d7
    rw[Z]
    try ext
    rw[zE (by rfl)];obtain⟨a1,h0,d6⟩:=d7.fo;obtain⟨j0,j3⟩:∃j0,a1[i]?=some j0:=⟨_,zqd (by rw[lV d6];exact(zqa M).1)⟩;obtain⟨w4,l2,p3⟩:=jT d6 j3;rw[M]at l2;cases l2;refine Ev (i:=i) h0 (by rw[zO,j3];rfl) rfl ?_;rcases Ey (x:=x) c0 with⟨a8,_⟩|⟨g8,e9,a8,f9,t1,c4⟩
    ·exact absurd (oR.mpr ⟨_,zqb M,rfl⟩) a8
    have q7:=Wd a5.1 M a8;subst q7;have v6:u.length<tk.length:=a5.2 _ (zqb M);have v5:tk.length=kvs.length:=lV c0;have hsz:1000<=sizeLine:=∅
    refine Ez c5 (gL _) (DdAt.dt p3) f9 ?_;refine⟨by show 1<=sizeLine;decide,λd0 s9=>?_⟩;have d8:Same a6 (upd a6 d0 (.lst [.int k])):=Same.new s9;have q6:(upd a6 d0 (.lst [.int k])) d0=some (.lst [.int k]):=nK;generalize upd a6 d0 (.lst [.int k])=f0 at*
    refine⟨e9,d0,_,_,rfl,rfl,d8 _ _ c4,q6,by rw[zqe];show u.length+1<=sizeLine;omega,λI g0=>?_⟩;have l1:Same f0 (upd f0 I (.lst ((u.map λn=>V.int (n:Nat))++[.int k]))):=Same.new g0;have j7:(upd f0 I (.lst ((u.map λn=>V.int (n:Nat))++[.int k]))) I=some (.lst ((u.map λn=>V.int (n:Nat))++[.int k])):=nK;have L:=d7.up (d8.trans l1);have m8:I≠f:=λz=>by rw[z,d8 _ _ h0]at g0;cases g0
    generalize upd f0 I (.lst ((u.map λn=>V.int (n:Nat))++[.int k]))=g2 at*;have c3:=d8.trans l1;have k9:=c5.up c3;have t0:=Paired.mapP c0 λ_ _ z=>(let ⟨a3,p,Z,i0,e7⟩:=z;⟨a3,p,Z,i0,c3 _ _ e7⟩:_/\∃p,_/\p≠f/\g2 p=_);have l4:=DdAt.up m7 c3;have f6:=c3 _ _ h0;have n8:=Paired.mapP d6 λ_ _ z=>DdAt.up z c3;simp only[gSub];ext;have f7:nxt d x u tk (l,k)=tk++[(nR d x l,u++[k])]:=zD a3;have t4:pT kvs (dat (nR d x l)) (.ref I)=kvs++[(dat (nR d x l),.ref I)]:=by
     unfold pT;rw[Z];rfl
    obtain⟨u6,f2,_,_⟩:=k9.ex;have c7:f≠g:=λz=>by rw[z,f2]at f6;cases f6
    have e5:as≠g:=λz=>by have:=L.st.1;rw[z,f2]at this;cases this
    refine⟨g,kvs,U,dat (nR d x l),rfl,rfl,k9,gL _,l4.dt,⋯,λY _ b6 l7=>?_⟩;rw[t4]at l7;have p2:DTr K Y g (kvs++[(dat (nR d x l),V.ref I)]):=l7;have o9:TK K g2 Y:=TK.off f2 (λ_ z=>by cases z) (λ_ _ z=>by cases z) b6;have f8:Y f=some (.lst (a1.map V.ref)):=by rw[b6 f c7];exact f6
    refine⟨tyL f8,f,_,_,rfl,rfl,f8,by rw[zqe,lV d6];omega,m2 _ ?_⟩;rw[f7];have b3:∀c,c≠f->upd Y f (.lst (a1.map V.ref++[.ref U])) c=Y c:=λc X=>nN X;have s1:upd Y f (.lst (a1.map V.ref++[.ref U])) f=some (.lst (a1.map V.ref++[.ref U])):=nK;generalize upd Y f (.lst (a1.map V.ref++[.ref U]))=u2 at*
    have i5:TK K Y u2:=TK.off f8 (λ_ z=>by cases z) (λ_ _ z=>by cases z) b3;have g6:=o9.trans i5;have l0:∀p xs,g2 p=some (.lst xs)->p≠g:=λp xs e z=>by rw[z,f2]at e;cases e
    refine⟨λb o e=>?_,⟨?_,Paired.mapP L.st.2 λ_ _ z=>DdAt.tk z g6⟩,⟨a1++[U],by rw[s1];simp,Paired.snoc (Paired.mapP n8 λ_ _ z=>DdAt.tk z g6) (DdAt.tk l4 g6)⟩,⟨kvs++[(dat (nR d x l),V.ref I)],DTr.tk p2 i5 (b3 g (yI c7)),Paired.snoc (Paired.mapP t0 λ_ _ z=>?_) ⟨rfl,I,rfl,m8,?_⟩⟩,L.n1,L.n2,L.n3,L.x1⟩
    ·have b1:b≠f:=λz=>by rw[z,L.n2]at e;cases e
     have b2:b≠g:=λz=>by rw[z,L.n3]at e;cases e
     rw[b3 b b1,b6 b b2];exact L.s b o e
    ·rw[b3 as L.x1,b6 as e5];exact L.st.1
    ·obtain⟨w1,p,r5,m5,i3⟩:=z;refine⟨w1,p,r5,m5,?_⟩;rw[b3 p m5,b6 p (l0 _ _ i3)];exact i3
    ·rw[b3 I m8,b6 I (l0 _ _ j7),j7];simp
   ·rintro c9 j8 ⟨D,F,C,rfl,a9,a5,c8,h5⟩;have n5:(S.map V.ref).length=(ms.map nO).length:=by rw[zqe];exact lV a9.st.2
    rw[n5,Xz]at a9 a5 c8 h5;subst b9;refine⟨.int i,rfl,?_⟩;unfold tC ipI;refine⟨i,1,rfl,rfl,?_⟩;refine⟨_,D,F,C,rfl,a9,?_,a5,c8,h5⟩;rw[show 201-(i+1)=201-i-1 by omega];exact X
theorem Eu:∀{l a:LI'},l.length=a.length->smA (l.map PyData.int) (a.map PyData.int)=true
 |[],[],_=>rfl
 |_:: l,_:: a,h=>by
  show(sm (.int _) (.int _) && smA (l.map PyData.int) (a.map PyData.int))=true;rw[Eu (by simpa using h)];rfl
theorem Kt{d:Nat}:∀{M a:LM},M.length=a.length->(∀r∈M,r.length=d)->(∀r∈a,r.length=d)->smA (M.map λr=>PyData.tuple (r.map PyData.int)) (a.map λr=>PyData.tuple (r.map PyData.int))=true
 |[],[],_,_,_=>rfl
 |r:: M,e:: a,h,c,f=>by
  show(smA (r.map PyData.int) (e.map PyData.int) && smA (M.map λr=>PyData.tuple (r.map PyData.int)) (a.map λr=>PyData.tuple (r.map PyData.int)))=true;rw[Eu ((c r (.head _)).trans (f e (.head _)).symm),Kt (by simpa using h) (λx b=>c x (.tail _ b)) λx b=>f x (.tail _ b)];rfl
theorem Xw{d:Nat}{x y:Dd}(a:lW d x)(b:lW d y):sm (dat x) (dat y)=true:=by
 show(smA (x.1.map λr=>PyData.tuple (r.map PyData.int)) (y.1.map λr=>PyData.tuple (r.map PyData.int)) && (smA (x.2.1.map PyData.int) (y.2.1.map PyData.int) && (sm (.int _) (.int _) && true)))=true;rw[Kt (a.sq.1.trans b.sq.1.symm) a.sq.2 b.sq.2,Eu (a.len.trans b.len.symm)];rfl
def Xv(d:Nat)(lg lo ls ln:Addr):List (Str×V):=[(Str.ofString "dimension",.int d),(Str.ofString "given",.ref lg),(Str.ofString "ordered",.ref lo),(Str.ofString "shortest",.ref ls),(Str.ofString "numbers",.ref ln)]
abbrev fG1(d:Nat):List (Str×V):=[(Str.ofString "dimension",.int d)]
abbrev fG2(d:Nat)(lg:Addr):List (Str×V):=[(Str.ofString "dimension",.int d),(Str.ofString "given",.ref lg)]
abbrev fG3(d:Nat)(lg lo:Addr):List (Str×V):=[(Str.ofString "dimension",.int d),(Str.ofString "given",.ref lg),(Str.ofString "ordered",.ref lo)]
abbrev fG4(d:Nat)(lg lo ls:Addr):List (Str×V):=[(Str.ofString "dimension",.int d),(Str.ofString "given",.ref lg),(Str.ofString "ordered",.ref lo),(Str.ofString "shortest",.ref ls)]
abbrev fG5(d:Nat)(lg lo ls ln:Addr):List (Str×V):=[(Str.ofString "dimension",.int d),(Str.ofString "given",.ref lg),(Str.ofString "ordered",.ref lo),(Str.ofString "shortest",.ref ls),(Str.ofString "numbers",.ref ln)]
def numT(srt:Tb)(n:Nat):List (PyData×V):=(srt.zipIdx n).map λp=>(dat p.1.1,V.int ((p.2:Nat):Int))
structure GrpF(K:Frag)(t:Adr)(H:Hp)(g:Addr)(d:Nat)(ms:List Dd)(srt:Tb):Prop where
 ex:∃dx lg lo ls ln,H g=some (.ins t.a_l dx (Xv d lg lo ls ln))/\(∃gs:LA,H lg=some (.lst (gs.map V.ref))/\Paired (DdS K H) gs ms) /\
  (∃os:LA,H lo=some (.lst (os.map V.ref))/\Paired (λp x=>Dt K H (.ref p) (dat x.1)) os srt) /\
  (∃ws:LA,H ls=some (.lst (ws.map V.ref))/\Paired (λp(x:Dd×List Nat)=>H p=some (.lst (x.2.map λn=>V.int (n:Nat)))) ws srt)/\DTr K H ln (numT srt 0)
def Ks(K:Frag)(t:Adr):Sp:=λvs H Q E=>E9 λ(b:Bool)(d:Nat)(a x dx:Addr)(ps:LA)(ms:List Dd)(G:Dd->Prop)(most:Nat)=>A17 (vs=[.ref x,.int d,.ref a,.int most]) (H x=some (.ins t.a_l dx [])) ((d=2\/d=3)) (SqB b K H a (ps.map V.ref)) (Paired (DdS K H) ps ms) (ms.length<=200) ((∀s∈ms,lW d s)) ((∀s∈ms,lW d (nO s))) ((∀x,G x->lW d x)) (G (mD d)) ((∀x s,G x->s∈ms->G (nR d x (nO s)))) (1<=most) (most<=200) ((∀y∈mJ d (ms.map nO) 201 0 [(mD d,[])],lW d y.1)) (((mJ d (ms.map nO) 201 0 [(mD d,[])]).map (·.1)).Nodup) (((mJ d (ms.map nO) 201 0 [(mD d,[])]).length<=most->∀srt H',(∀b o,b≠x->H b=some o->H' b=some o)->GrpF K t H' x d ms srt->srt.Perm (mJ d (ms.map nO) 201 0 [(mD d,[])])->srt.Pairwise (λp q=>lx (fl (dat q.1)) (fl (dat p.1))=false)->Q .non H')) ((most<(mJ d (ms.map nO) 201 0 [(mD d,[])]).length->∀H',Same H H'->E (.ref t.a_14) none H'))
theorem Kr{c d:Type}{f:c->d}:∀{l:List d}{tb:List c},l.Perm (tb.map f)->∃srt:List c,srt.Perm tb/\srt.map f=l
 |[],tb,h=>by
  have:=h.length_eq;rw[zqe]at this;exact⟨[],by rw[List.length_eq_zero_iff.mp this.symm],rfl⟩
 | b:: l,tb,h=>by
  obtain⟨a,g,e⟩:=oR.mp (h.mem_iff.mp (zV));obtain⟨s,r,rfl⟩:=List.append_of_mem g;have i:(b:: l).Perm (b:: (s++r).map f):=by
   refine h.trans ?_;rw[xW,zM,e,xW];exact List.perm_middle
  obtain⟨srt,p,q⟩:=Kr (List.Perm.cons_inv i);exact⟨a:: srt,(List.Perm.cons a p).trans List.perm_middle.symm,by rw[zM,e,q]⟩
def KX(x:Addr)(H H':Hp):Prop:=∀b o,b≠x->H b=some o->H' b=some o
theorem KX.same{x:Addr}{H H':Hp}(s:Same H H'):KX x H H':=λb o _ e=>s b o e
theorem KX.put{x:Addr}{H:Hp}{o:HO}:KX x H (upd H x o):=λb c a e=>by rw[nN a];exact e
theorem KX.trans{x:Addr}{H f g:Hp}(a:KX x H f)(b:KX x f g):KX x H g:=λc o d e=>b c o d (a c o d e)
theorem KX.tk{K:Frag}{x C c:Addr}{fs:List (Str×V)}{H H':Hp}(k:KX x H H')(e:H x=some (.ins C c fs)):TK K H H':=by
 have a:∀b xs,H b=some (.tup xs)->H' b=some (.tup xs):=λb xs q=>k b _ (λz=>by rw[z,e]at q;cases q) q;refine⟨a,λb xs q=>?_⟩;rcases q with(q|⟨d,q⟩)|q
 ·exact .inl (.inl (a _ _ q))
 ·exact .inl (.inr ⟨d,k b _ (λz=>by rw[z,e]at q;cases q) q⟩)
 ·exact .inr q
theorem Xu{H:Hp}{x:Dd}{w:List Nat}{p:Addr}:∀{tb:Tb}{kvs:List (PyData×V)},TbAt H tb kvs->(tb.map (·.1)).Nodup->(x,w)∈tb->vT kvs (dat x)=some (.ref p)->H p=some (.lst (w.map λn=>V.int (n:Nat))):=by
 intro tb kvs h
 induction h with
 |nil=>intro _ a;cases a
 |@cons y d tb kvs f _ g =>
  intro b a e;obtain⟨e1,q,i,c⟩:=f;rw[zM,rL]at b;rcases xC.mp a with a|a
  ·rw[←a]at e1 c;rw[iI e1,i]at e;cases e;exact c
  ·have ne:¬ d.1=dat x:=λq=>b.1 (by rw[Db.mp (e1.symm.trans q)];exact oR.mpr ⟨_,a,rfl⟩);rw[iJ ne]at e;exact g b.2 a e
theorem Xt{K:Frag}{H:Hp}{C x d a:Addr}{fs:List (Str×V)}{o:HO}{b:Bool}{xs:List V}(e:H x=some (.ins C d fs))(h:SqB b K H a xs):SqB b K (upd H x o) a xs:=by
 cases b with
 |false =>
  rcases(show SqL K H a xs from h) with(h|⟨c,h⟩)|h
  ·exact(.inl (.inl (by rw[nN (λz=>by rw[z,e]at h;cases h)];exact h)):SqL K (upd H x o) a xs)
  ·exact(.inl (.inr ⟨c,by rw[nN (λz=>by rw[z,e]at h;cases h)];exact h⟩):SqL K (upd H x o) a xs)
  ·exact(.inr h:SqL K (upd H x o) a xs)
 |true =>
  rcases(show SqT K H a xs from h) with(h|⟨c,h⟩)|h
  ·exact(.inl (.inl (by rw[nN (λz=>by rw[z,e]at h;cases h)];exact h)):SqT K (upd H x o) a xs)
  ·exact(.inl (.inr ⟨c,by rw[nN (λz=>by rw[z,e]at h;cases h)];exact h⟩):SqT K (upd H x o) a xs)
  ·exact(.inr h:SqT K (upd H x o) a xs)
theorem Xs{H:Hp}{v:V}{ds:List PyData}(h:Dt K H v (.tuple ds)):∃q,v=V.ref q:=by
 cases h;exact⟨_,rfl⟩
theorem Et{H:Hp}{b:St}{i:Nat}{C x a:Addr}{fs:List (Str×V)}{f:Str}{v:V}{Q:VK}(d:b[i]?=some (some (V.ref x)))(e:H x=some (.ins C a fs))(c:Cls K C)(n:gX K C f)(l:fs.lookup f=some v)(q:Q v H):tFld K (tVar i) f b H Q:=⟨_,d,x,C,a,fs,v,rfl,e,c,n,l,q⟩
theorem Xr{H:Hp}:∀{tb:Tb}{kvs:List (PyData×V)},TbAt H tb kvs->∀y∈tb,∃p,vT kvs (dat y.1)=some (V.ref p):=by
 intro tb kvs h
 induction h with
 |nil=>intro y a;cases a
 | @cons z b tb kvs e _ c =>
  intro y a;obtain⟨e1,p,d,_⟩:=e
  by_cases q:b.1=dat y.1
  ·exact⟨p,by rw[iI q,d]⟩
  ·rw[iJ q];rcases xC.mp a with a|a
   ·exact absurd (by rw[e1,a]) q
   ·exact c y a
theorem Xq{K:Frag}{H:Hp}{ps:List (V×PyData)}{zs:List V}{n:Nat}(hl:zs.length=ps.length)(c:∀p∈ps,tT 4 p.2=true/\Dt K H p.1 p.2/\∃q,p.1=V.ref q)(f:∀j y,zs[j]?=some y->∃p m,y=V.ref p/\ps[j]?=some m/\H p=some (.tup [m.1,.int ((n+j:Nat):Int)])):
  ∃ts:List (Addr×PyData×Addr×V),zs=ts.map (λt=>V.ref t.1)/\(ts.map (·.2.1)=ps.map (·.2)/\ts.map (λt=>(t.2.1,t.2.2.2))=(ps.zipIdx n).map λp=>(p.1.2,V.int ((p.2:Nat):Int)))/\∀t∈ts,SqT K H t.1 [.ref t.2.2.1,t.2.2.2]/\tT 4 t.2.1=true/\Dt K H (.ref t.2.2.1) t.2.1:=by
 induction ps generalizing zs n with
 |nil =>
  obtain rfl:=vC hl;exact⟨[],rfl,⟨rfl,rfl⟩,λ_ h=>nomatch h⟩
 | cons p ps G =>
  obtain⟨z,zs,rfl⟩:=List.exists_cons_of_length_eq_add_one hl;obtain⟨a,m,e1,u,d⟩:=f 0 z rfl;cases u;obtain⟨v,e,q,k⟩:=c p (.head _);obtain⟨ts,C,⟨l,J⟩,F⟩:=G (zs:=zs) (n:=n+1) (oJ hl) (λx I=>c x (.tail _ I)) λj y o=>by
   obtain⟨i,L,r,g,D⟩:=f (j+1) y o;exact⟨i,L,r,g,by rw[D,show n+(j+1)=n+1+j by omega]⟩
  rw[k]at d e;refine⟨(a,p.2,q,.int ((n+0:Nat):Int)):: ts,by rw[e1,C];rfl,⟨by rw[zM,zM,l],by rw[zM,uF,zM,J];rfl⟩,λt b=>?_⟩;rcases xC.mp b with b|b
  ·rw[b];exact⟨SqT.of d,v,e⟩
  ·exact F t b
theorem ord_of{K:Frag}{H:Hp}:∀{ps:List (V×PyData)}{srt:Tb},(srt.map λy=>dat y.1)=ps.map (·.2)->(∀p∈ps,Dt K H p.1 p.2/\(∃q,p.1=V.ref q))->∃a:LA,ps.map (·.1)=a.map V.ref/\Paired (λp(x:Dd×List Nat)=>Dt K H (.ref p) (dat x.1)) a srt
 |[],[],_,_=>⟨[],rfl,.nil⟩
 |[],_:: _,h,_=>by simp at h
 |_:: _,[],h,_=>by simp at h
 |p:: ps,y:: srt,e,h=>by
  rw[zM,zM,yY]at e;obtain⟨a,e1,f⟩:=ord_of (ps:=ps) (srt:=srt) e.2 λx d=>h x (.tail _ d);obtain⟨c,q,b⟩:=h p (.head _);rw[b,←e.1]at c;exact⟨q:: a,by rw[zM,zM,e1,b],.cons c f⟩
theorem Xp{H:Hp}{kvs:List (PyData×V)}{srt:Tb}{ys:List V}(hl:ys.length=srt.length)(h:∀(j:Nat) y,ys[j]?=some y->∃p m,y=V.ref p/\srt[j]?=some m/\vT kvs (dat m.1)=some (V.ref p))
  (f:∀m∈srt,∀p,vT kvs (dat m.1)=some (V.ref p)->H p=some (.lst (m.2.map λn=>V.int (n:Nat)))):∃d:LA,ys=d.map V.ref/\Paired (λp(x:Dd×List Nat)=>H p=some (.lst (x.2.map λn=>V.int (n:Nat)))) d srt:=Ku hl λj y e=>by
 obtain⟨p,m,a,b,c⟩:=h j y e;exact⟨p,m,a,b,f m (zqb b) p c⟩
theorem Kq:∀{srt:Tb}{ps:List (V×PyData)},(srt.map λy=>dat y.1)=ps.map (·.2)->∀n,((srt.zipIdx n).map λp=>(dat p.1.1,V.int ((p.2:Nat):Int)))=(ps.zipIdx n).map λp=>(p.1.2,V.int ((p.2:Nat):Int))
 |[],[],_,_=>rfl
 |[],_:: _,h,_=>by simp at h
 |_:: _,[],h,_=>by simp at h
 |y:: srt,p:: ps,e,n=>by
  rw[zM,zM,yY]at e;rw[uF,uF,zM,zM,Kq e.2 (n+1),e.1]
structure GI(K:Frag)(H0:Hp)(C x dx wd:Addr)(fs:List (Str×V))(tb:Tb)(kvs:List (PyData×V))(H:Hp):Prop where
 hx:H x=some (.ins C dx fs)
 s:∀b o,b≠x->H0 b=some o->H b=some o
 D:DTr K H wd kvs
 T:TbAt H tb kvs
theorem GI.up{K:Frag}{d H H':Hp}{C x c a:Addr}{fs:List (Str×V)}{tb:Tb}{kvs:List (PyData×V)}(h:GI K d C x c a fs tb kvs H)(s:Same H H'):GI K d C x c a fs tb kvs H':=
 ⟨s _ _ h.hx,λb o i e=>s _ _ (h.s b o i e),h.D.up s,Paired.mapP h.T λ_ _ z=>let ⟨f,p,j,g⟩:=z;⟨f,p,j,s _ _ g⟩⟩
theorem aO{K:Frag}{H:Hp}{C x a:Addr}{fs fs':List (Str×V)}(e:H x=some (.ins C a fs)):TK K H (upd H x (.ins C a fs')):=TK.off e (λ_ z=>by cases z) (λ_ _ z=>by cases z) λ_ b=>nN b
theorem GI.put{K:Frag}{g H:Hp}{C x c a:Addr}{fs:List (Str×V)}{tb:Tb}{kvs:List (PyData×V)}(h:GI K g C x c a fs tb kvs H)(fs':List (Str×V)):GI K g C x c a fs' tb kvs (upd H x (.ins C c fs')):=by
 have k:a≠x:=λz=>by
  obtain⟨_,_,xs,e,_⟩:=h.D;rw[z,h.hx]at e;cases e
 refine⟨nK,λb o f e=>?_,DTr.tk h.D (aO h.hx) (nN k),Paired.mapP h.T λ_ _ z=>?_⟩
 ·rw[nN f];exact h.s b o f e
 ·obtain⟨i,p,j,d⟩:=z;have:p≠x:=λq=>by rw[q,h.hx]at d;cases d
  exact⟨i,p,j,by rw[nN this];exact d⟩
theorem ok_0(T:Txt K mg t):FnOk P w K mg base (CX1 P w) 12 t.a_0 t.d_0 ph' (Ks K t):=by
 have h0:=@ok_m P w K mg base t T;have i1:=@ok_j P w K mg base t T;have h4:=@ok_s P w K mg base t T;refine T.F_0.okX sc_0 (λvs H Q E h=>?_) (λcdv A outer s H vs Q E hr h=>?_)
 ·obtain⟨b,d,a,x,g,ps,ms,G,most,rfl,_⟩:=h;rfl
 ·have c3:=hr.units;obtain⟨b,d,a,x,g,ps,ms,G,most,rfl,f9,e6,b9,c5,d3,f0,j4,g4,f7,g6,d9,b5,l8,g3,b8,f3⟩:=h;refine⟨_,(nF (jJ (nW h0 hr.mo T.F_m (nD (pv 3) nE)))
   (nF (jJ (nW i1 hr.mo T.F_j (nD (pv 1) (nD (pv 2) nE))))
   (nF (nP (i:=4) sc_0.nd rfl (Or.inr rfl) (cV h4 hr.mo rfl T.F_s.m T.F_s.kp T.F_s.b .nil Bw (nD (pv 1) (nD (pv 2) (nD (pv 3) nE)))))
   (nF (dC (pv 0) (pv 1) rfl)
   (nF (dC (pv 0) (jA bE rfl T.z_list (nofun) (nD (pv 2) nE)) rfl)
   (nF (dC (pv 0) (lA (Vz (N:=200) Wg c3 rfl) rfl T.z_sorted (nofun) (nD (pv 4) nE)) rfl)
   (nF (dC (pv 0) (kB (sc:=nM s_0) (N:=N_0) (fr:=[("words",4)]) (te:=(tOp (iW K) (tVar 1) (tVar 0))) rfl rfl (nofun) rfl (nofun) (lH (Am (pv 0) rfl)) (λ_ _ _ a3=>(lC (ix_T c3) (pv 1) (pv 0) (λ_ _=>rfl)))) rfl)
   (nJ (dC (pv 0) (jA (Vq c3 rfl) rfl T.z_dict (nofun) (nD (gE (xs:=["number","member"]) (fr:=[]) (g:=(gTup K 2 (lM (nS 0) (lM (nS 1) gNil)))) (tt:=(tEl (tTup (mG (tVar 1) (mG (tVar 0) tNil))))) (jD (sc:=nM s_0) (N:=N_0) rfl rfl (nofun)) rfl (dJ rfl T.z_enumerate (nD (Am (pv 0) rfl) nE)) (λ_ _ _ a3=>(jY rfl (mY (jM (N:=["number","member"]) (i:=0) a3 rfl (nofun)) (mY (jM (N:=["number","member"]) (i:=1) a3 rfl (nofun)) jR)))) (λ_ _ _ a3=>(jL (lI (nD (pv 1) (nD (pv 0) nE)))))) nE)) rfl))))))))),?_⟩
  show tSeq _ _ _ [some (.ref x),some (.int d),some (.ref a),some (.int most),none] H;right;refine⟨most,rfl,d9,b5,?_⟩;left;refine⟨b,d,a,ps,ms,rfl,e6,b9,c5,λs h2=>(f0 s h2).sq.1,λm6 b0=>?_⟩;left;refine⟨b,d,a,ps,ms,most,G,rfl,e6,b9.up b0,Paired.mapP c5 λ_ _ z=>z.up b0,d3,f0,j4,g4,f7,g6,d9,b5,λa1 d5 kvs J c6 m9 h7 g5=>?_,λa1 J c6=>f3 a1 J (b0.trans c6)⟩;have b8:=b8 a1;have n1:=yH a1 b5;clear f3;generalize mJ d (ms.map nO) 201 0 [(mD d,[])]=tb at*
  have d4:=b0.trans c6;have c1:=d4 _ _ f9;subst e1;refine st λN1 e1=>?_;simp only[sFld];ext;have e9:GI K H t.a_l x g d5 [] tb kvs J:=⟨c1,λb o _ e=>d4 _ _ e,h7,g5⟩;refine⟨_,_,_,c1,T.cl_l,T.h_1,∅,?_⟩;have e8:=e9.put (fG1 d);have sq3:SqB b K (upd J x (.ins t.a_l g (fG1 d))) a (ps.map V.ref):=Xt c1 (b9.up d4);show N1 _ (upd J x (.ins t.a_l g (fG1 d)));generalize upd J x (.ins t.a_l g (fG1 d))=a4 at*
  clear e9;subst e1;refine st λN1 e1=>?_;simp only[sFld];ext;refine⟨b,a,_,rfl,sq3,λc c2=>?_⟩;have i7:Same a4 (upd a4 c (.lst (ps.map V.ref))):=Same.new c2;have h3:(upd a4 c (.lst (ps.map V.ref))) c=some (.lst (ps.map V.ref)):=nK;have l4:c≠x:=λz=>by rw[z,e8.hx]at c2;cases c2
  have g2:=e8.up i7;generalize upd a4 c (.lst (ps.map V.ref))=F at*
  refine⟨_,_,_,g2.hx,T.cl_l,T.h_m,by show 1<1000;decide,?_⟩;have a7:=g2.put (fG2 d c);have i0:KX x F (upd F x (.ins t.a_l g (fG2 d c))):=KX.put;show N1 _ (upd F x (.ins t.a_l g (fG2 d c)));generalize upd F x (.ins t.a_l g (fG2 d c))=n0 at*
  subst e1;refine st λN1 e1=>?_;simp only[sFld];ext;have m4:tb.length=kvs.length:=lV a7.T;have e0:∀I∈kvs,∃y∈tb,I.1=dat y.1:=λI Y=>by
   obtain⟨y,S,z⟩:=Ce a7.T I Y;exact⟨y,S,z.1⟩
  have l9:=g4 _ f7;refine⟨d5,kvs,[.tuple ((List.replicate d (0:Int)).map PyData.int),.int 1],(idM d).map (λr=>PyData.tuple (r.map PyData.int)),rfl,⋯,a7.D,λI Y=>?_,λlo u R d0 n2 a6 a2 a8 i8=>?_⟩
  ·obtain⟨y,S,e⟩:=e0 I Y;rw[e];exact Xw l9 (l8 y S)
  have Z:=a7.up d0;have h8:=i0.trans (KX.same d0);refine⟨_,_,_,Z.hx,T.cl_l,T.h_6,by show 2<1000;decide,?_⟩;have pl:u.length<=200:=by
   have:=a8.length_eq;rw[zqe,zqe]at this;omega
  have m7:=a6;have U:=Z.put (fG3 d c lo);have b4:lo≠x:=λz=>by rw[z,Z.hx]at a6;cases a6
  have l2:KX x F (upd R x (.ins t.a_l g (fG3 d c lo))):=h8.trans KX.put;have c9:(upd R x (.ins t.a_l g (fG3 d c lo))) lo=some (.lst (u.map (·.1))):=by rw[nN b4];exact a6
  have O:∀p∈u,tT 4 p.2=true/\Dt K (upd R x (.ins t.a_l g (fG3 d c lo))) p.1 p.2:=λp f=>⟨(a2 p f).1,jF (aO Z.hx).t 4 (a2 p f).1 (jF (kC d0) 4 (a2 p f).1 (a2 p f).2)⟩;show N1 _ (upd R x (.ins t.a_l g (fG3 d c lo)));generalize upd R x (.ins t.a_l g (fG3 d c lo))=m8 at*
  -- every member is a reference to one of the dict's keys
  have mem:∀p∈u,∃y∈tb,p.2=dat y.1:=λp f=>by
   have:p.2∈kvs.map (·.1):=a8.mem_iff.mp (oR.mpr ⟨p,f,rfl⟩);obtain⟨I,Y,e⟩:=oR.mp this;obtain⟨y,S,c7⟩:=e0 I Y;exact⟨y,S,by rw[←e,c7]⟩
  have e2:kvs.map (·.1)=tb.map λy=>dat y.1:=by
   have:∀{H':Hp}{tb:Tb}{kvs:List (PyData×V)},TbAt H' tb kvs->kvs.map (·.1)=tb.map λy=>dat y.1:=by
    intro H' tb kvs h
    induction h with
    |nil=>rfl
    |cons b7 _ k2=>rw[zM,zM,k2,b7.1]
   exact this U.T
  obtain⟨srt,e4,W⟩:=Kr (f:=λy:Dd×List Nat=>dat y.1) (l:=u.map (·.2)) (tb:=tb) (by rw[←e2];exact a8);have j6:srt.length=u.length:=by have:=wG List.length W;simpa using this
  have c8:∀p∈u,∃q,p.1=V.ref q:=λp f=>by
   obtain⟨y,_,e⟩:=mem p f;have f8:=(O p f).2;rw[e]at f8;exact Xs f8
  subst e1;refine st λN1 e1=>?_;simp only[sFld];refine mQ λB eB=>?_;simp only[iSeq];refine Et rfl U.hx T.cl_l T.h_6 rfl ?_;refine⟨false,lo,rfl,⟨_,SqB.lst c9⟩,λk c0=>?_⟩;refine kM (λj y _=>∃(p:Addr)(m:Dd×List Nat),y=V.ref p/\srt[j]?=some m/\vT kvs (dat m.1)=some (V.ref p)) c0 (SqB.lst c9) (by rw[zqe];omega) (λ_ _ _ _ h _=>h) ?_ ?_
  ·intro i y C zs b2 D f4 d6 d7;obtain⟨p,f,rfl⟩:=iY b2;have d8:=zqb f;obtain⟨q,l7⟩:=c8 p d8;obtain⟨j9,g8,j3⟩:=mem p d8;obtain⟨f2,e5⟩:=O p d8;subst eB;show tOp _ _ _ [some p.1,some (.ref d5)] C d6;ext;rw[l7]at e5 ⊢;have N:=U.up D;obtain⟨k0,c4⟩:=Xr N.T j9 g8;rw[←j3]at c4;refine Ez N.D f2 (jF (kC D) 4 f2 e5) c4 ?_;have h5:∃m,srt[i]?=some m/\dat m.1=p.2:=by
    have e:=wG (λl=>l[i]?) W;simp only[List.getElem?_map,f,Option.map_some]at e;cases hm2:srt[i]? with
    |none=>rw[hm2]at e;cases e
    |some m=>rw[hm2]at e;exact⟨m,rfl,yA e⟩
   obtain⟨m,d2,m2⟩:=h5;exact d7 _ _ (Same.refl _) ⟨k0,m,rfl,d2,by rw[m2];exact c4⟩
  ·intro C ys D g9 h9 k1;have N:=U.up D;have e3:k≠x:=λz=>by rw[z,U.hx]at c0;cases c0
   have i9:=l2.trans (KX.same D);have i6:KX x F (upd C x (.ins t.a_l g (fG4 d c lo k))):=i9.trans KX.put;have j7:(upd C x (.ins t.a_l g (fG4 d c lo k))) k=some (.lst ys):=by rw[nN e3];exact g9
   refine⟨.ref x,rfl,x,_,_,_,rfl,N.hx,T.cl_l,T.h_2,by show 3<1000;decide,?_⟩;have e7:=N.put (fG4 d c lo k);have d1:(upd C x (.ins t.a_l g (fG4 d c lo k))) lo=some (.lst (u.map (·.1))):=by rw[nN b4];exact D _ _ c9
   have M:∀p∈u,tT 4 p.2=true/\Dt K (upd C x (.ins t.a_l g (fG4 d c lo k))) p.1 p.2:=λp f=>⟨(O p f).1,jF (aO N.hx).t 4 (O p f).1 (jF (kC D) 4 (O p f).1 (O p f).2)⟩;show N1 _ (upd C x (.ins t.a_l g (fG4 d c lo k)));generalize upd C x (.ins t.a_l g (fG4 d c lo k))=m5 at*
   subst e1;simp only[sFld];ext;refine mQ λB eB=>?_;simp only[fU];ext;refine Et rfl e7.hx T.cl_l T.h_6 rfl ?_;refine⟨false,lo,rfl,⟨_,SqB.lst d1⟩,λg1 i5=>?_⟩;refine Rc (λj y H=>∃p m,y=V.ref p/\p≠g1/\u[j]?=some m/\H p=some (.tup [m.1,.int (j:Int)])) i5 (SqB.lst d1) (by rw[zqe];omega) (λ_ _ _ _⟨p,m,e,n,d2,h⟩k7=>⟨p,m,e,n,d2,k7 _ _ n h⟩) ?_ ?_
   ·intro i y b3 zs b2 a0 f4 d6 d7;obtain⟨p,f,rfl⟩:=iY b2;subst eB;show tTup _ [some (.int i),some p.1] b3 d6;ext;refine⟨by show 2<=sizeLine;decide,λq b6=>?_⟩;refine d7 _ _ (Same.new b6) ⟨q,p,rfl,(λz=>by rw[z,f4]at b6;cases b6),f,nK⟩
   ·intro b3 zs a0 k5 j8 b7;obtain⟨ts,m0,⟨h1,l3⟩,l1⟩:=Xq (K:=K) (H:=b3) (ps:=u) (zs:=zs) (n:=0) (by rw[j8,zqe]) (λp f=>⟨(M p f).1,jF (kC a0) 4 (M p f).1 (M p f).2,c8 p f⟩) λj y j1=>by
     obtain⟨p,m,k8,_,j0,i2⟩:=b7 j y j1;exact⟨p,m,k8,j0,by rw[wQ];exact i2⟩
    have k3:=e7.up a0;have l0:(u.map (·.2)).Nodup:=a8.nodup_iff.mpr (by
     rw[e2,show(tb.map λy=>dat y.1)=(tb.map (·.1)).map dat by rw[wJ];rfl];exact List.Pairwise.map dat (λa b h e=>h (Db.mp e)) g3)
    refine⟨g1,ts,rfl,by rw[←m0];exact .inl (.inl k5),l1,by rw[h1];exact l0,λv L f1 _ g0=>?_⟩;have b1:=k3.up f1;refine⟨_,_,_,b1.hx,T.cl_l,T.h_7,by show 4<1000;decide,?_⟩;have a5:=a0.trans f1;have f6:=aO (K:=K) (fs':=(fG5 d c lo k v)) b1.hx;have a9:=b1.put (fG5 d c lo k v);show Q .non (upd L x (.ins t.a_l g (fG5 d c lo k v)));have m3:KX x L (upd L x (.ins t.a_l g (fG5 d c lo k v))):=KX.put;have j5:(upd L x (.ins t.a_l g (fG5 d c lo k v))) k=some (.lst ys):=by rw[nN e3];exact a5 _ _ j7
    have i4:v≠x:=λz=>by
     obtain⟨_,_,xs,e,_⟩:=g0;rw[z,b1.hx]at e;cases e
    have j2:=DTr.tk g0 f6 (nN i4);have i3:(upd L x (.ins t.a_l g (fG5 d c lo k v))) lo=some (.lst (u.map (·.1))):=by rw[nN b4];exact a5 _ _ d1
    generalize upd L x (.ins t.a_l g (fG5 d c lo k v))=X at*;have h6:KX x F X:=((i6.trans (KX.same a5)).trans m3);have k6:TK K H X:=KX.tk (λb o m1 e=>a9.s b o m1 e) f9;refine b8 srt X a9.s ⟨g,c,lo,k,v,a9.hx,⟨ps,h6 _ _ l4 h3,Paired.mapP c5 λ_ _ z=>DdS.tk z k6⟩,?_,?_,?_⟩ e4 ?_
    ·obtain⟨l5,k9,g7⟩:=ord_of (K:=K) (H:=X) (ps:=u) (srt:=srt) W λp f=>⟨jF f6.t 4 (M p f).1 (jF (kC a5) 4 (M p f).1 (M p f).2),c8 p f⟩;exact⟨l5,by rw[i3,k9],g7⟩
    ·obtain⟨l6,w1,k4⟩:=Xp (H:=X) (srt:=srt) (kvs:=kvs) (ys:=ys) (by rw[h9,zqe,j6]) k1 λm d3 p e=>Xu (x:=m.1) (w:=m.2) a9.T g3 (e4.mem_iff.mp d3) e;exact⟨l6,by rw[←w1];exact j5,k4⟩
    ·have c7:numT srt 0=ts.map λt=>(t.2.1,t.2.2.2):=by
      rw[l3];unfold numT;exact Kq W 0
     rw[c7];exact j2
    ·have f5:(u.map (·.2)).Pairwise λp q=>lx (fl q) (fl p)=false:=List.pairwise_map.mpr i8;rw[←W]at f5;exact List.pairwise_map.mp f5
theorem GrpF.up{H H':Hp}{g:Addr}{d:Nat}{ms:List Dd}{srt:Tb}(h:GrpF K t H g d ms srt)(s:Same H H'):GrpF K t H' g d ms srt:=by
 obtain⟨m,n,lo,p,l,o,⟨gs,q,a⟩,⟨i,b,f⟩,⟨j,e,c⟩,k⟩:=h;exact⟨m,n,lo,p,l,s _ _ o,⟨gs,s _ _ q,Paired.mapP a λ_ _ z=>DdS.up z s⟩,⟨i,s _ _ b,Paired.mapP f λ_ x z=>jF (kC s) 4 (gL x.1) z⟩,⟨j,s _ _ e,Paired.mapP c λ_ _ z=>s _ _ z⟩,k.up s⟩
def sp_1(K:Frag)(t:Adr):Sp:=λvs H Q _=>E4 λ(g:Addr)(d:Nat)(ms:List Dd)(srt:Tb)=>A3 (vs=[.ref g]) (GrpF K t H g d ms srt) (∀l os H',Same H H'->H l=none->H' l=some (.lst (os.map V.ref))->Paired (λp x=>Dt K H' (.ref p) (dat x.1)) os srt->Q (.ref l) H')
theorem ok_1(T:Txt K mg t):FnOk P w K mg base CX0 2 t.a_1 t.d_1 ["self"] (sp_1 K t):=by
 apply T.F_1.ok sc_1
 ·obtain⟨g,d,ms,srt,rfl,⟨j,k,lo,m,i,e,_,⟨c,a,b⟩,_⟩,f⟩:=h;refine⟨_,(nJ (nX (jA bE rfl T.z_list (nofun) (nD (Am (pv 0) rfl) nE)))),?_⟩;show tRet _ _ [some (.ref g)] H;simp only[tRet,tCB,mG,tNil];refine Et rfl e T.cl_l T.h_6 rfl ?_;refine⟨false,lo,_,rfl,SqB.lst a,λl hl=>?_⟩;exact f l c _ (Same.new hl) hl nK (Paired.mapP b λ_ x z=>jF (kC (Same.new hl)) 4 (gL x.1) z)
theorem sq1{b:LM}(h:Sq 1 b):∃a,b=[[a]]:=by
 obtain⟨hl,hr⟩:=h
 match b,hl with
 |[r],_ =>
  have:=hr r (by simp)
  match r,this with
  |[a],_=>exact⟨a,rfl⟩
theorem len2{r:LI'}(h:r.length=2):∃a b,r=[a,b]:=by match r,h with|[a,b],_=>exact⟨a,b,rfl⟩
theorem len3{r:LI'}(h:r.length=3):∃a b c,r=[a,b,c]:=by match r,h with|[a,b,c],_=>exact⟨a,b,c,rfl⟩
theorem len4{r:LI'}(h:r.length=4):∃a b c d,r=[a,b,c,d]:=by match r,h with|[a,b,c,d],_=>exact⟨a,b,c,d,rfl⟩
theorem sq2{e:LM}(h:Sq 2 e):∃a b c d,e=[[a,b],[c,d]]:=by
 obtain⟨hl,hr⟩:=h
 match e,hl with
 |[r,s],_ =>
  obtain⟨a,b,rfl⟩:=len2 (hr r (by simp));obtain⟨c,d,rfl⟩:=len2 (hr s (by simp));exact⟨a,b,c,d,rfl⟩
theorem sq3{k:LM}(h:Sq 3 k):∃a b c d e f g i j,k=[[a,b,c],[d,e,f],[g,i,j]]:=by
 obtain⟨hl,hr⟩:=h
 match k,hl with
 |[r,s,t],_ =>
  obtain⟨a,b,c,rfl⟩:=len3 (hr r (by simp));obtain⟨d,e,f,rfl⟩:=len3 (hr s (by simp));obtain⟨g,i,j,rfl⟩:=len3 (hr t (by simp));exact⟨a,b,c,d,e,f,g,i,j,rfl⟩
theorem sq4{v:LM}(h:Sq 4 v):∃a b c d e f g i j k l m n o p q,v=[[a,b,c,d],[e,f,g,i],[j,k,l,m],[n,o,p,q]]:=by
 obtain⟨hl,hr⟩:=h
 match v,hl with
 |[r,s,t,u],_ =>
  obtain⟨a,b,c,d,rfl⟩:=len4 (hr r (by simp));obtain⟨e,f,g,i,rfl⟩:=len4 (hr s (by simp));obtain⟨j,k,l,m,rfl⟩:=len4 (hr t (by simp));obtain⟨n,o,p,q,rfl⟩:=len4 (hr u (by simp));exact⟨a,b,c,d,e,f,g,i,j,k,l,m,n,o,p,q,rfl⟩
theorem id2:idM 2=[[1,0],[0,1]]:=nofun
theorem id3:idM 3=[[1,0,0],[0,1,0],[0,0,1]]:=nofun
theorem Xo(a b v:Int)(c:0<v):gcdI (a*v) (b*v)=gcdI a b*v:=by
 unfold gcdI;rw[Int.gcd_mul_right];have:((v.natAbs:Nat):Int)=v:=⋯
 rw[vV,this]
theorem Xn{u v:Int}(b:0<v)(ts:LI'):gl (u*v) (ts.map (·*v))=gl u ts*v:=by
 have e:∀(ts:LI')(a:Int),(ts.map (·*v)).foldl gcdI (a*v)=ts.foldl gcdI a*v:=by
  intro ts
  induction ts with
  |nil=>intro a;rfl
  |cons t r d=>intro a;rw[zM,wB,wB,Xo _ _ _ b,d]
 unfold gl;have:absI (u*v)=absI u*v:=by
  unfold absI;rcases Int.lt_or_le u 0 with l|l
  ·have c:u*v<0:=Int.mul_neg_of_neg_of_pos l b;rw[zE l,zE c,oK]
  ·have c:0<=u*v:=oB l (xR b);rw[zD ⋯,zD ⋯]
 rw[this,e]
def Cong(u:Int)(xs ys:LI'):Prop:=xs.length=ys.length/\∀(i:Nat)(x y:Int),xs[i]?=some x->ys[i]?=some y->u∣x-y
theorem Xm{u x y:Int}(a:0<u)(h:u∣x-y):x.fmod u=y.fmod u:=by
 rw[yN _ (xR a),yN _ (xR a)];exact Int.emod_eq_emod_iff_emod_sub_eq_zero.mpr (Int.emod_eq_zero_of_dvd h)
theorem Cong.rest{u:Int}(b:0<u)(ns:LI'):Cong u ns (lK u ns):=by
 refine⟨by simp[lK],λi x y e1 a=>?_⟩;unfold lK at a;rw[zO,e1]at a;cases yA a;have:=Wu b x;have d:=yN (x.fmod u-x) (xR b);rw[d]at this;have c:=Int.dvd_of_emod_eq_zero this;have:=Int.dvd_neg.mpr c
 rwa[Int.neg_sub]at this
theorem Cong.gl{u:Int}{xs ys:LI'}(h:Cong u xs ys):Cw.gl u xs=Cw.gl u ys:=by
 have c:∀{xs ys:LI'}{d:Int},Cong u xs ys->d∣u->(∀t∈xs,d∣t)->∀t∈ys,d∣t:=λ{xs ys d}h m k t n=>by
  obtain⟨i,hi,e⟩:=uI n;have f:i<xs.length:=by rw[h.1];exact hi
  have a:=h.2 i xs[i] t (by simp[f]) (by simp[hi,e]);have b:=k _ (wS f);have g:=Int.dvd_sub b (Int.dvd_trans m a)
  rwa[show xs[i]-(xs[i]-t)=t by omega]at g
 have j:Cong u ys xs:=⟨h.1.symm,λi x y e1 l=>by
  have:=Int.dvd_neg.mpr (h.2 i y x l e1)
  rwa[Int.neg_sub]at this⟩
 exact Wz λd=>⟨λ⟨a,b⟩=>⟨a,c h a b⟩,λ⟨a,b⟩=>⟨a,c j a b⟩⟩
theorem Cong.red{u:Int}{xs ys:LI'}(q:0<u)(h:Cong u xs ys):redU u xs=redU u ys/\lK (redU u xs) (redT u xs)=lK (redU u ys) (redT u ys):=by
 have o:=h.gl;have e:cs u xs=cs u ys:=by unfold cs;rw[o]
 have a:=iM xs (show u≠0 by omega);have d:redU u xs=redU u ys:=by unfold redU;rw[e]
 refine⟨d,?_⟩;have g:0<redU u xs:=fJ xs ⋯;have k:redU u xs*cs u xs=u:=jO a (kW (gl_u u xs));rw[←d];unfold lK redT;refine tK (by simp[h.1]) λi b c=>?_;simp at b c;simp only[List.getElem_map];have j:=h.2 i xs[i] ys[i] (by simp[b]) (by simp[c]);have l:∀x y:Int,u∣x-y->cs u xs∣x->cs u ys∣y->redU u xs∣x.fdiv (cs u xs)-y.fdiv (cs u ys):=λx y p m f=>by
  have e1:x.fdiv (cs u xs)*cs u xs=x:=jO a m;rw[←e]at f ⊢;have n:y.fdiv (cs u xs)*cs u xs=y:=jO a f;refine Int.dvd_of_mul_dvd_mul_right a ?_;rw[k,Int.sub_mul,e1,n];exact p
 exact Xm g (l _ _ j (kW (eM (wS b))) (kW (eM (wS c))))
theorem Kp{u:Int}:∀(r ts c:LI'),Cong u ts c->u∣dotI r ts-dotI r c
 |[],ts,c,_=>by simp[dotI]
 |x:: r,[],c,h=>by
  have:c=[]:=vC h.1.symm;subst this;simp[dotI]
 |x:: r,t:: ts,[],h=>by have:=h.1;simp at this
 |x:: r,t:: ts,t':: c,h=>by
  have e:=Kp r ts c ⟨by have:=h.1;simpa using this,λi a b e1 d=>h.2 (i+1) a b (by simpa using e1) (by simpa using d)⟩;have f:=h.2 0 t t' rfl rfl;have e1:dotI (x:: r) (t:: ts)=x*t+dotI r ts:=by simp[dotI]
  have d:dotI (x:: r) (t':: c)=x*t'+dotI r c:=by simp[dotI]
  rw[e1,d,show x*t+dotI r ts-(x*t'+dotI r c)=x*(t-t')+(dotI r ts-dotI r c) by rw[Int.mul_sub];omega];exact Int.dvd_add (Int.dvd_mul_of_dvd_right f) e
theorem Xl{N:LM}{ns ts c b:LI'}{v u:Int}(e:Cong v ns c)(j:Cong u ts b):Cong (v*u) (movT N ns v ts u) (movT N c v b u):=by
 refine⟨by unfold movT;rw[uH,uH,e.1],λi x y e1 a=>?_⟩;unfold movT at e1 a;rw[rF]at e1 a;cases en:N[i]? with
 |none=>rw[en]at e1;cases e1
 | some r =>
  rw[en]at e1 a;cases e3:ns[i]? with
  |none=>rw[e3]at e1;cases e1
  | some n =>
   cases e4:c[i]? with
   |none=>rw[e4]at a;cases a
   |some d =>
    rw[e3]at e1;rw[e4]at a;cases yA e1;cases yA a;obtain⟨k,o⟩:=Kp r ts b j;obtain⟨m,l⟩:=e.2 i n d e3 e4;refine⟨k+m,?_⟩;have g:dotI r ts=dotI r b+u*k:=⋯
    have f:n=d+v*m:=⋯
    rw[g,f];grind
theorem Sq.mul{n:Nat}{A B:LM}(a:Sq n A):Sq n (mulM n A B):=by
 refine⟨by simp[mulM,a.1],λr hr=>?_⟩;obtain⟨z,_,rfl⟩:=oR.mp hr;simp
theorem eP{d:Nat}:Sq d (idM d):=⟨by simp[idM],λr hr=>by
 obtain⟨i,_,rfl⟩:=oR.mp hr;simp⟩
theorem mul2(a b c d e g f d':Int):mulM 2 [[a,b],[c,d]] [[e,g],[f,d']]=[[a*e+b*f,a*g+b*d'],[c*e+d*f,c*g+d*d']]:=by simp[mulM,dotI,colI,List.range,List.range.loop]
theorem mul3(a b c d e f g i j k n o d' m q g' p l:Int):mulM 3 [[a,b,c],[d,e,f],[g,i,j]] [[k,n,o],[d',m,q],[g',p,l]]=[[a*k+(b*d'+c*g'),a*n+(b*m+c*p),a*o+(b*q+c*l)],[d*k+(e*d'+f*g'),d*n+(e*m+f*p),d*o+(e*q+f*l)],[g*k+(i*d'+j*g'),g*n+(i*m+j*p),g*o+(i*q+j*l)]]:=by
 simp[mulM,dotI,colI,List.range,List.range.loop]
theorem mul_assoc{d:Nat}(r:d=2\/d=3){A B C:LM}(m:Sq d A)(k:Sq d B)(l:Sq d C):mulM d (mulM d A B) C=mulM d A (mulM d B C):=by
 rcases r with e|e <;> subst e
 ·obtain⟨a,b,c,d,rfl⟩:=sq2 m;obtain⟨n,v,p,d',rfl⟩:=sq2 k;obtain⟨o,b2,q,u,rfl⟩:=sq2 l;simp only[mul2,List.cons.injEq,and_true];refine⟨⟨?_,?_⟩,?_,?_⟩ <;> grind
 ·obtain⟨a,b,c,d,e,f,g,i,j,rfl⟩:=sq3 m;obtain⟨n,v,p,d',z,I,g',J,L,rfl⟩:=sq3 k;obtain⟨o,b2,q,u,G,y,x,D,F,rfl⟩:=sq3 l;simp only[mul3,List.cons.injEq,and_true];refine⟨⟨?_,?_,?_⟩,⟨?_,?_,?_⟩,?_,?_,?_⟩ <;> grind
theorem jU{d:Nat}(l:d=2\/d=3){A:LM}(k:Sq d A):mulM d (idM d) A=A/\mulM d A (idM d)=A:=by
 rcases l with e|e <;> subst e
 ·obtain⟨a,b,c,d,rfl⟩:=sq2 k;rw[id2,mul2,mul2];simp
 ·obtain⟨a,b,c,d,e,f,g,i,j,rfl⟩:=sq3 k;rw[id3,mul3,mul3];simp
theorem v2{v:LI'}(h:v.length=2):∃x y,v=[x,y]:=len2 h
theorem v3{v:LI'}(h:v.length=3):∃x y z,v=[x,y,z]:=len3 h
def mv(M:LM)(v:LI'):LI':=M.map λr=>dotI r v
def va(v w:LI'):LI':=List.zipWith (·+·) v w
theorem Ko{d:Nat}{A:LM}{v:LI'}(h:Sq d A):(mv A v).length=d:=by unfold mv;rw[zqe];exact h.1
theorem mv2(a b c e x y:Int):mv [[a,b],[c,e]] [x,y]=[a*x+b*y,c*x+e*y]:=by simp[mv,dotI]
theorem mv3(a b c d f g i e j x y z:Int):mv [[a,b,c],[d,f,g],[i,e,j]] [x,y,z]=[a*x+(b*y+c*z),d*x+(f*y+g*z),i*x+(e*y+j*z)]:=by simp[mv,dotI]
theorem Xk{d:Nat}(j:d=2\/d=3){A B:LM}(i:Sq d A)(f:Sq d B){v:LI'}(g:v.length=d):mv (mulM d A B) v=mv A (mv B v):=by
 rcases j with rfl|rfl
 ·obtain⟨a,b,c,e,rfl⟩:=sq2 i;obtain⟨k,N,m,q,rfl⟩:=sq2 f;obtain⟨x,y,rfl⟩:=v2 g;rw[mul2,mv2,mv2,mv2];simp only[List.cons.injEq,and_true];refine⟨?_,?_⟩ <;> grind
 ·obtain⟨O,l,F,G,o,D,J,p,r,rfl⟩:=sq3 i;obtain⟨b1,b2,I,n,u,M,R,C,L,rfl⟩:=sq3 f;obtain⟨x,y,z,rfl⟩:=v3 g;rw[mul3,mv3,mv3,mv3];simp only[List.cons.injEq,and_true];refine⟨?_,?_,?_⟩ <;> grind
theorem Xj{d:Nat}(b:d=2\/d=3){v:LI'}(a:v.length=d):mv (idM d) v=v:=by
 rcases b with rfl|rfl
 ·obtain⟨x,y,rfl⟩:=v2 a;rw[id2,mv2];simp
 ·obtain⟨x,y,z,rfl⟩:=v3 a;rw[id3,mv3];simp
def smul(k:Int)(T:LI'):LI':=T.map λt=>k*t
theorem Kn{k:Int}{T:LI'}:(smul k T).length=T.length:=by unfold smul;rw[zqe]
theorem Km(c a b:Int):smul c [a,b]=[c*a,c*b]:=rfl
theorem Kl(c a b e:Int):smul c [a,b,e]=[c*a,c*b,c*e]:=rfl
theorem Xi{d:Nat}(i:d=2\/d=3){A:LM}(f:Sq d A){v:LI'}(g:v.length=d)(c:Int):mv A (smul c v)=smul c (mv A v):=by
 rcases i with rfl|rfl
 ·obtain⟨a,b,c,e,rfl⟩:=sq2 f;obtain⟨x,y,rfl⟩:=v2 g;rw[Km,mv2,mv2,Km];simp only[List.cons.injEq,and_true];refine⟨?_,?_⟩ <;> grind
 ·obtain⟨o,m,j,k,p,r,q,n,l,rfl⟩:=sq3 f;obtain⟨x,y,z,rfl⟩:=v3 g;rw[Kl,mv3,mv3,Kl];simp only[List.cons.injEq,and_true];refine⟨?_,?_,?_⟩ <;> grind
structure Chg(d:Nat)(P P':LM):Prop where
 p:Sq d P
 q:Sq d P'
 l:mulM d P' P=idM d
 r:mulM d P P'=idM d
theorem Chg.id{d:Nat}(a:d=2\/d=3):Chg d (idM d) (idM d):=⟨eP,eP,(jU a eP).1,(jU a eP).1⟩
theorem Chg.then{d:Nat}(a:d=2\/d=3){P b R c:LM}(h:Chg d P b)(g:Chg d R c):Chg d (mulM d R P) (mulM d b c):=by
 refine⟨g.p.mul,h.q.mul,?_,?_⟩
 ·rw[mul_assoc a h.q g.q g.p.mul,←mul_assoc a g.q g.p h.p,g.l,(jU a h.p).1,h.l]
 ·rw[mul_assoc a g.p h.p h.q.mul,←mul_assoc a h.p h.q g.q,h.r,(jU a g.q).1,g.r]
def cjM(d:Nat)(P P' M:LM):LM:=mulM d (mulM d P M) P'
theorem Kk{d:Nat}{P a:LM}(h:Chg d P a)(M:LM):Sq d (cjM d P a M):=h.p.mul.mul
def vs(v w:LI'):LI':=List.zipWith (· - ·) v w
theorem Xh{d:Nat}{v w:LI'}(b:v.length=d)(a:w.length=d):(va v w).length=d:=by unfold va;rw[uH,b,a,Nat.min_self]
def cjT(d:Nat)(P P' M:LM)(ts S:LI'):LI':=vs (va (mv P ts) S) (mv (cjM d P P' M) S)
theorem Kj{d:Nat}(a:d=2\/d=3){P c A B:LM}(h:Chg d P c)(b:Sq d A)(e:Sq d B):mulM d (cjM d P c B) (cjM d P c A)=cjM d P c (mulM d B A):=by
 unfold cjM;rw[mul_assoc a h.p.mul h.q h.p.mul.mul,mul_assoc a h.p b h.q,←mul_assoc a h.q h.p b.mul,h.l,(jU a b.mul).1,←mul_assoc a h.p.mul b h.q,mul_assoc a h.p e b]
def stE(i j:Nat)(m:Int)(a b:Nat):Int:=if a=b then 1 else if a=i/\b=j then m else 0
def stM(d i j:Nat)(m:Int):LM:=(List.range d).map λa=>(List.range d).map λb=>if a=b then 1 else if a=i/\b=j then m else 0
def vst(i j:Nat)(m:Int)(v:LI'):LI':=v.set i (v.getD i 0+m*v.getD j 0)
def mixR(d:Nat)(x y:LI')(m:Int):LI':=(List.range d).map λk=>x.getD k 0+m*y.getD k 0
def colR(d i j:Nat)(m:Int)(row:LI'):LI':=(List.range d).map λk=>row.getD k 0-(if k=j then 1 else 0)*m*row.getD i 0
def Ki(d i j:Nat)(m:Int)(A:LM):LM:=(A.set i (mixR d (A.getD i []) (A.getD j []) m)).map (colR d i j m)
theorem cE{d i j:Nat}{m:Int}:Sq d (stM d i j m):=⟨by simp[stM],λr hr=>by
 obtain⟨a,_,rfl⟩:=oR.mp hr;simp⟩
theorem Es{a:Type}{d k:Nat}{f:Nat->a}{z:a}(h:k<d):((List.range d).map f).getD k z=f k:=by
 rw[zqc,zO,yV h];rfl
theorem cF{a:Type}{d:Nat}{l:List a}{z:a}(h:l.length=d):l=(List.range d).map λk=>l.getD k z:=by
 refine tK (by simp[h]) λk b c=>?_;rw[tE,qQ,zqc,zqd b];rfl
theorem Kh{b:Type}{d i:Nat}{f:Nat->b}{v:b}:((List.range d).map f).set i v=(List.range d).map λa=>if a=i then v else f a:=by
 refine tK (by simp) λk c g=>?_;rw[tE,qQ,List.getElem_set]
 by_cases e:i=k
 ·rw[zE e,zE e.symm]
 ·rw[zD e,zD (yI e),tE,qQ]
theorem jV{a:Type}{d:Nat}{f g:Nat->a}(h:∀k,k<d->f k=g k):(List.range d).map f=(List.range d).map g:=vD λk b=>h k (oZ.mp b)
theorem eQ{x y:Int}{r c:LI'}:dotI (x:: r) (y:: c)=x*y+dotI r c:=by simp[dotI]
theorem Er{n:Int}{a:Nat}:∀{c:LI'}{s:Nat},dotI ((List.range' s c.length).map λb=>if a=b then n else 0) c=if s<=a then n*c.getD (a-s) 0 else 0
 |[],s=>by simp[dotI]
 | x:: c,s=>by
  rw[zT,List.range'_succ,zM,eQ,Er]
  by_cases h:a=s
  ·subst h;rw[zE rfl,zD ⋯,zE (zG _),uY,wW];rfl
  ·rw[zD h,sD,xV]
   by_cases d:s<=a
   ·rw[zE d,zE ⋯,show a-s=(a-(s+1))+1 by omega];rfl
   ·rw[zD d,zD ⋯]
theorem Kg{f g:Nat->Int}:∀{l:List Nat}{c:LI'},dotI (l.map λb=>f b+g b) c=dotI (l.map f) c+dotI (l.map g) c
 |[],c=>by simp[dotI]
 |b:: l,[]=>by simp[dotI]
 |b:: l,x:: c=>by
  rw[zM,zM,zM,eQ,eQ,eQ,Kg,Int.add_mul];omega
theorem Ep{d a i j:Nat}(n:i≠j){m:Int}{c:LI'}(l:c.length=d):dotI ((List.range d).map (stE i j m a)) c=c.getD a 0+if a=i then m*c.getD j 0 else 0:=by
 have e:stE i j m a=λb=>(if a=b then(1:Int) else 0)+if j=b then(if a=i then m else 0) else 0:=funext λb=>by
  unfold stE
  by_cases k:a=b
  ·subst k;rw[zE rfl,zE rfl]
   by_cases f:j=a
   ·rw[zE f,zD (λz=>n ⋯),wW]
   ·rw[zD f,wW]
  ·rw[zD k,zD k,xV]
   by_cases f:j=b
   ·by_cases g:a=i
    ·rw[zE ⟨g,f.symm⟩,zE f,zE g]
    ·rw[zD (λz=>g z.1),zE f,zD g]
   ·rw[zD (λz=>f z.2.symm),zD f]
 subst l;rw[e,Kg,List.range_eq_range',Er,Er,zE (zZ _),zE (zZ _),oM];show c.getD a 0+_*c.getD j 0=_
 by_cases h:a=i
 ·rw[zE h,zE h]
 ·rw[zD h,zD h,sD]
theorem Kf{A:LM}{a k:Nat}:(colI k A).getD a 0=(A.getD a []).getD k 0:=by
 unfold colI;rw[zqc,zO,zqc (l:=A)];cases A[a]? <;> rfl
theorem Ke:∀{r c:LI'},dotI r c=dotI c r
 |[],c=>by cases c <;> rfl
 |x:: r,[]=>rfl
 |x:: r,y:: c=>by rw[eQ,eQ,Ke,xJ]
theorem Xg{i j a k:Nat}{n:Int}:stE i j n a k=stE j i n k a:=by
 unfold stE
 by_cases h:a=k
 ·rw[zE h,zE h.symm]
 ·rw[zD h,zD (yI h)]
  by_cases z:a=i/\k=j
  ·rw[zE z,zE z.symm]
  ·rw[zD z,zD (λw=>z w.symm)]
theorem Kd{d i j:Nat}{m:Int}(c:i≠j){A:LM}(e:A.length=d):mulM d (stM d i j m) A=(List.range d).map λa=>(List.range d).map λk=>(A.getD a []).getD k 0+if a=i then m*(A.getD j []).getD k 0 else 0:=by
 unfold mulM stM;rw[wJ];refine jV λa _=>jV λk _=>?_;have b:(colI k A).length=d:=by unfold colI;rw[zqe,e]
 have:=Ep (a:=a) (m:=m) c b;rw[Kf,Kf]at this;exact this
theorem Xf{d i j:Nat}{n:Int}(b:i≠j){B:LM}(c:∀r∈B,r.length=d):mulM d B (stM d i j n)=B.map λr=>(List.range d).map λk=>r.getD k 0+if k=j then n*r.getD i 0 else 0:=by
 unfold mulM;refine vD λr hr=>jV λk f=>?_;have e:colI k (stM d i j n)=(List.range d).map (stE j i n k):=by
  unfold colI stM;rw[wJ];refine jV λa _=>?_;show((List.range d).map (stE i j n a)).getD k 0=_;rw[Es f,Xg]
 rw[e,Ke,Ep (yI b) (c r hr)]
theorem Kc{d i j:Nat}{m:Int}(n:i≠j)(l:j<d):mulM d (stM d i j m) (stM d i j (-m))=idM d:=by
 rw[Kd n cE.1];unfold idM;refine jV λa g=>jV λk o=>?_;have e:∀a,a<d->(((stM d i j (-m)).getD a []).getD k 0)=stE i j (-m) a k:=λa g=>by
  unfold stM;rw[Es g];exact Es o
 rw[e a g,e j l];unfold stE
 by_cases f:a=k
 ·rw[zE f,zE f]
  by_cases b:a=i
  ·rw[zE b,zD ⋯,zD ⋯,rQ,wW]
  ·rw[zD b,wW]
 ·rw[zD f,zD f]
  by_cases b:a=i
  ·rw[zE b]
   by_cases c:k=j
   ·rw[zE ⟨b,c⟩,zE c.symm,qI,Int.add_left_neg]
   ·rw[zD (λz=>c z.2),zD (yI c),zD (λz=>c z.2),rQ,wW]
  ·rw[zD (λz=>b z.1),zD b,wW]
theorem Xe{d i j:Nat}{m:Int}(n:d=2\/d=3)(hi:i<d)(g:j<d)(c:i≠j):Chg d (stM d i j m) (stM d i j (-m))/\(∀v:LI',v.length=d->mv (stM d i j m) v=vst i j m v)/\∀A,Sq d A->Ki d i j m A=cjM d (stM d i j m) (stM d i j (-m)) A:=by
 refine⟨⟨cE,cE,?_,Kc c g⟩,λv f=>?_,λA b=>?_⟩
 ·have:=Kc (d:=d) (m:=-m) c g;rw[Int.neg_neg]at this;exact this
 ·unfold mv stM vst;rw[wJ]
  conv=>rhs;rw[cF (z:=0) f,Kh,←cF f]
  refine jV λa _=>?_;show dotI ((List.range d).map (stE i j m a)) v=_;rw[Ep c f]
  by_cases h:a=i
  ·rw[zE h,zE h,h]
  ·rw[zD h,zD h,wW]
 ·unfold cjM;rw[Xf c cE.mul.2,Kd c b.1];unfold Ki;have e:A.set i (mixR d (A.getD i []) (A.getD j []) m)=(List.range d).map λa=>(List.range d).map λk=>(A.getD a []).getD k 0+if a=i then m*(A.getD j []).getD k 0 else 0:=by
   conv=>lhs;rw[cF (l:=A) (z:=[]) b.1,Kh,←cF b.1]
   refine jV λa l=>?_
   by_cases h:a=i
   ·rw[zE h];unfold mixR;refine jV λk _=>?_;rw[zE h,h]
   ·rw[zD h];have hr:(A.getD a []).length=d:=b.2 _ (by rw[zqc,zqd (by rw[b.1];exact l)];exact wS _)
    conv=>lhs;rw[cF (z:=0) hr]
    exact jV λk _=>by rw[zD h,wW]
  rw[e];refine vD λr _=>jV λk _=>?_
  by_cases h:k=j
  ·rw[zE h,zE h,oM,oK,Int.sub_eq_add_neg]
  ·rw[zD h,zD h,sD,sD,Int.sub_zero,wW]
structure Stp where
 i:Nat
 j:Nat
 m:Int
structure Stp.Ok(d:Nat)(s:Stp):Prop where
 hi:s.i<d
 hj:s.j<d
 ne:s.i≠s.j
 m2:s.m.natAbs<=1000000
def chP(d:Nat):List Stp->LM
 |[]=>idM d
 |s:: L=>mulM d (stM d s.i s.j s.m) (chP d L)
def chQ(d:Nat):List Stp->LM
 |[]=>idM d
 |s:: L=>mulM d (chQ d L) (stM d s.i s.j (-s.m))
theorem fL{d:Nat}(a:d=2\/d=3):∀{L:List Stp},(∀s∈L,s.Ok d)->Chg d (chP d L) (chQ d L)
 |[],_=>Chg.id a
 |s:: L,h=>by
  have o:=h s (zV ..);exact(fL a λz b=>h z (zN _ b)).then a (Xe a o.hi o.hj o.ne).1
def LeM(N:Nat)(A:LM):Prop:=∀r∈A,∀z∈r,z.natAbs<=N
theorem Kb{d i j:Nat}{m:Int}{N:Nat}(h:m.natAbs<=N)(c:1<=N):LeM N (stM d i j m):=λr hr z e=>by
 obtain⟨a,_,rfl⟩:=oR.mp hr;obtain⟨b,_,rfl⟩:=oR.mp e;split
 ·exact c
 ·split
  ·exact h
  ·omega
theorem Ka{A B:Nat}:∀(r ns:LI'),(∀z∈r,z.natAbs<=A)->(∀z∈ns,z.natAbs<=B)->(dotI r ns).natAbs<=r.length*(A*B)
 |[],ns,_,_=>by simp[dotI]
 |_:: _,[],_,_=>by simp[dotI]
 |a:: r,b:: ns,d,e=>by
  have f:=Ka r ns (λz c=>d z (zN _ c)) λz c=>e z (zN _ c);unfold dotI at f ⊢;rw[xD,List.sum_cons,zT,pM];have e1:(a*b).natAbs<=A*B:=by rw[xN];exact yZ (d a zV) (e b zV)
  have j:=sE (a*b) (List.zipWith (λg i=>g*i) r ns).sum;omega
theorem Xd{N:Nat}{A:LM}(h:LeM N A)(k:Nat):∀z∈colI k A,z.natAbs<=N:=λz a=>by
 unfold colI at a;obtain⟨r,hr,rfl⟩:=oR.mp a;rw[zqc];cases e:r[k]? with
 |none=>exact zZ _
 |some y=>exact h r hr y (zqb e)
theorem aP{d A B:Nat}{M N:LM}(b:Sq d M)(f:LeM A M)(e:LeM B N):LeM (d*(A*B)) (mulM d M N):=λr hr z c=>by
 obtain⟨x,a,rfl⟩:=oR.mp hr;obtain⟨k,_,rfl⟩:=oR.mp c;have:=Ka x (colI k N) (f x a) (Xd e k);rw[b.2 x a]at this;exact this
theorem Lz{c:Int}:∀{r v:LI'},dotI r (smul c v)=c*dotI r v
 |[],v=>by simp[dotI]
 |_:: _,[]=>by simp[dotI,smul]
 |a:: r,x:: v=>by
  have:=Lz (c:=c) (r:=r) (v:=v);unfold dotI smul at this ⊢;simp only[List.map_cons,List.zipWith_cons_cons,List.sum_cons];rw[this];grind
def canD(M:LM)(ts:LI')(U:Int):Dd:=(M,lK (redU U ts) (redT U ts),redU U ts)
theorem Xc{M:LM}{ts b:LI'}{U:Int}(c:0<U)(h:Cong U ts b):canD M ts U=canD M b U:=by
 obtain⟨a,d⟩:=h.red c;unfold canD;rw[a,←a,d,a]
theorem aQ{U:Int}{ts:LI'}(a:0<U):cs U ts=gl U ts/\0<cs U ts:=by
 have:=Dk ts (show U≠0 by omega);unfold cs;rw[zD ⋯];exact⟨rfl,this⟩
theorem Ly{U:Int}{ts:LI'}(a:0<U):∃c,0<c/\ts=smul c (redT U ts)/\U=c*redU U ts/\0<redU U ts:=by
 obtain⟨e,b⟩:=aQ (ts:=ts) a;refine⟨cs U ts,b,?_,?_,fJ ts ⋯⟩
 ·unfold smul redT;rw[wJ]
  conv=>lhs;rw[←List.map_id ts]
  refine vD λt d=>?_;show t=cs U ts*t.fdiv (cs U ts);rw[xJ];exact(jO ⋯ (kW (eM d))).symm
 ·rw[xJ];exact(jO ⋯ (kW (gl_u U ts))).symm
theorem Xb{U k:Int}{ts:LI'}(b:0<U)(a:0<k):redT (k*U) (smul k ts)=redT U ts/\redU (k*U) (smul k ts)=redU U ts:=by
 have d:0<k*U:=zY a b;have c:cs (k*U) (smul k ts)=k*cs U ts:=by
  rw[(aQ d).1,(aQ b).1,xJ k U,xJ k (gl U ts),←Xn a];unfold smul;congr 1;exact vD λt _=>xJ k t
 have e:=(aQ (ts:=ts) b).2;refine⟨?_,?_⟩
 ·unfold redT;rw[c];unfold smul;rw[wJ];exact vD λt f=>by
   show(k*t).fdiv (k*cs U ts)=_;exact Int.mul_fdiv_mul_of_pos _ _ a
 ·unfold redU;rw[c];exact Int.mul_fdiv_mul_of_pos _ _ a
theorem aR{M:LM}{U k:Int}{ts:LI'}(a:0<U)(d:0<k):canD M (smul k ts) (k*U)=canD M ts U:=by
 obtain⟨b,c⟩:=Xb (ts:=ts) a d;unfold canD;rw[b,c]
theorem Xa{N:LM}{ns ts:LI'}{c e u v:Int}:movT N (smul e ns) (e*v) (smul c ts) (c*u)=smul (e*c) (movT N ns v ts u):=by
 unfold movT
 induction N generalizing ns with
 |nil=>rfl
 | cons r N b =>
  cases ns with
  |nil=>rfl
  |cons n ns =>
   have:=b (ns:=ns);unfold smul at this ⊢;rw[zM,xD,xD,zM,this];have a:=Lz (c:=c) (r:=r) (v:=ts);unfold smul at a;rw[a];congr 1;grind
theorem gM{d:Nat}{M N:LM}{ts ns:LI'}{U V:Int}(j:0<U)(i:0<V):nR d (canD M ts U) (canD N ns V)=canD (mulM d N M) (movT N ns V ts U) (V*U):=by
 obtain⟨c,m,e1,f,a⟩:=Ly (ts:=ts) j;obtain⟨e,l,n,g,b⟩:=Ly (ts:=ns) i;have k1:canD (mulM d N M) (movT N ns V ts U) (V*U)=canD (mulM d N M) (movT N (redT V ns) (redU V ns) (redT U ts) (redU U ts)) (redU V ns*redU U ts):=by
  have hh:V*U=(e*c)*(redU V ns*redU U ts):=by
   conv=>lhs;rw[f,g]
   grind
  have k:movT N ns V ts U=smul (e*c) (movT N (redT V ns) (redU V ns) (redT U ts) (redU U ts)):=by
   rw[←Xa,←e1,←f,←n,←g]
  rw[hh,k,aR (zY b a) (zY l m)]
 rw[k1];exact Xc (zY b a) (Xl (Cong.rest b _) (Cong.rest a _)) |>.symm
def frD(d:Nat)(P P':LM)(s:LI')(su p:Int)(R:LM)(t:LI'):Dd:=canD (cjM d P P' R) (cjT d P P' R (smul su t) (smul p s)) (p*su)
theorem Yz{N:LM}{ns ts:LI'}{U:Int}:movT N ns U ts U=smul U (va (mv N ts) ns):=by
 unfold movT va mv
 induction N generalizing ns with
 |nil=>rfl
 | cons r N a =>
  cases ns with
  |nil=>rfl
  |cons n ns =>
   have:=a (ns:=ns);unfold smul at this ⊢;rw[xD,zM,xD,zM,this];congr 1;grind
theorem Lx{f:Type}:∀{l L:List f},l.Nodup->(∀x∈l,x∈L)->l.length<=L.length
 |[],L,_,_=>zZ _
 | a:: l,L,g,h=>by
  obtain⟨s,t,e⟩:=List.append_of_mem (h a zV);have d:=rL.mp g;have:=Lx (L:=s++t) d.2 λx c=>by
   have b:=h x (zN _ c);rw[e]at b;rcases oW.mp b with b|b
   ·exact xE _ b
   ·rcases xC.mp b with rfl|b
    ·exact absurd c d.1
    ·exact yC _ b
  rw[e];simp only[List.length_append,List.length_cons]at this ⊢;omega
theorem Lw{d:Nat}{x:Dd}{w:List Nat}{G:Dd->Prop}:∀(l:List (Dd×Nat))(tb:Tb),(∀k∈l,G (nR d x k.1))->(∀y∈tb,G y.1)->∀y∈l.foldl (nxt d x w) tb,G y.1
 |[],_,_,h=>h
 |k:: l,tb,a,h=>Lw l _ (λk' b=>a k' (zN _ b)) (Ky h (a k zV))
theorem Lv{ss:List Dd}{k:Dd×Nat}(h:k∈ss.zipIdx):k.1∈ss/\ss[k.2]?=some k.1:=by
 obtain⟨i,hi⟩:=wL h;rw[rJ]at hi;cases e:ss[i]? with
 |none=>rw[e]at hi;cases hi
 |some s =>
  rw[e]at hi;cases hi;exact⟨zqb e,by simpa using e⟩
theorem Yy{d:Nat}{ss:List Dd}{G:Dd->Prop}(a:∀x,G x->∀s∈ss,G (nR d x s)){tb:Tb}{i:Nat}(h:∀y∈tb,G y.1):∀y∈kX d ss tb i,G y.1:=by
 unfold kX;cases e:tb[i]? with
 |none=>exact h
 |some c=>exact Lw _ _ (λk b=>a _ (h _ (zqb e)) _ (Lv b).1) h
theorem Lu{d:Nat}{ss:List Dd}{G:Dd->Prop}(a:∀x,G x->∀s∈ss,G (nR d x s)):∀(n i:Nat)(tb:Tb),(∀y∈tb,G y.1)->∀y∈mJ d ss n i tb,G y.1
 |0,_,_,h=>h
 |n+1,i,tb,h=>by
  unfold mJ;split
  ·exact Lu a n (i+1) _ (Yy a h)
  ·exact h
theorem Yx{d:Nat}{ss:List Dd}{tb:Tb}{i:Nat}(h:(tb.map (·.1)).Nodup):((kX d ss tb i).map (·.1)).Nodup:=by
 unfold kX;split
 ·exact h
 ·exact Kz _ _ h
theorem Ls{d:Nat}{ss:List Dd}:∀(n i:Nat)(tb:Tb),(tb.map (·.1)).Nodup->((mJ d ss n i tb).map (·.1)).Nodup
 |0,_,_,h=>h
 |n+1,i,tb,h=>by
  unfold mJ;split
  ·exact Ls n (i+1) _ (Yx h)
  ·exact h
abbrev tab(d:Nat)(ss:List Dd)(N:Nat):Tb:=mJ d ss N 0 [(mD d,[])]
theorem Eo{d:Nat}{ss:List Dd}{N:Nat}:((tab d ss N).map (·.1)).Nodup:=Ls N 0 _ (by simp)
theorem cG{d:Nat}{ss:List Dd}{N:Nat}{G:Dd->Prop}(b:G (mD d))(c:∀x,G x->∀s∈ss,G (nR d x s)):∀y∈tab d ss N,G y.1:=Lu c N 0 _ λy a=>by rw[oQ.mp a];exact b
theorem Lr{d:Nat}{x:Dd}{w:List Nat}:∀(l:List (Dd×Nat))(tb:Tb),∀k∈l,nR d x k.1∈(l.foldl (nxt d x w) tb).map (·.1)
 | k:: l,tb,k',a=>by
  rw[wB];rcases xC.mp a with rfl|a
  ·have h:nR d x k'.1∈(nxt d x w tb k').map (·.1):=by
    unfold nxt;split
    ·assumption
    ·simp
   obtain⟨r,e⟩:=cC d x w l (nxt d x w tb k');rw[e,xW];exact xE _ h
  ·exact Lr l _ k' a
theorem Yw{d:Nat}{ss:List Dd}{tb:Tb}{i:Nat}{a:Dd×List Nat}(e:tb[i]?=some a){s:Dd}(c:s∈ss):nR d a.1 s∈(kX d ss tb i).map (·.1):=by
 unfold kX;rw[e];obtain⟨j,b⟩:=wL c;exact Lr ss.zipIdx tb (s,j) (zqb (i:=j) (by rw[rJ,b];simp))
theorem Lq{d:Nat}{ss:List Dd}:∀(n i:Nat)(tb:Tb),(∀j,j<i->∀a,tb[j]?=some a->∀s∈ss,nR d a.1 s∈tb.map (·.1))->(mJ d ss n i tb).length<=n+i->∀a∈mJ d ss n i tb,∀s∈ss,nR d a.1 s∈(mJ d ss n i tb).map (·.1)
 |0,i,tb,h,hl=>λa g s c=>by
  obtain⟨j,b⟩:=wL g;have:=(zqa b).1;unfold mJ at hl this b ⊢;exact h j ⋯ _ b s c
 | n+1,i,tb,h,hl=>by
  unfold mJ at hl ⊢;split
  ·next q =>
   rw[zE q]at hl;obtain⟨r,f⟩:=Jb d ss tb i;refine Lq n (i+1) _ (λj b a e s c=>?_) ⋯;rcases uX j i with l|l
   ·rw[f,yP ⋯]at e;rw[f,xW];exact xE _ (h j l a e s c)
   ·have:j=i:=⋯
    subst this;rw[f,yP ⋯]at e;exact Yw e c
  ·next q =>
   intro a g s c;obtain⟨j,b⟩:=wL g;have:=(zqa b).1;exact h j ⋯ _ b s c
theorem Lp{d:Nat}{ss:List Dd}{N:Nat}(h:(tab d ss N).length<=N):∀b∈tab d ss N,∀s∈ss,nR d b.1 s∈(tab d ss N).map (·.1):=Lq N 0 _ (λj a=>absurd a (Nat.not_lt_zero j)) h
theorem En{d:Nat}{ss:List Dd}{N:Nat}:(mD d,[])∈tab d ss N:=by
 obtain⟨r,e⟩:=Da d ss N 0 [(mD d,[])];unfold tab;rw[e];simp
def aS(d:Nat)(ss:List Dd)(w:List Nat):Dd:=w.foldl (λx k=>nR d x (ss.getD k (mD d))) (mD d)
def WdOk(d:Nat)(ss:List Dd)(y:Dd×List Nat):Prop:=y.1=aS d ss y.2/\∀k∈y.2,k<ss.length
theorem Lo{d:Nat}{ss:List Dd}{x:Dd}{w:List Nat}(c:WdOk d ss (x,w)):∀(l:List (Dd×Nat))(tb:Tb),(∀k∈l,ss[k.2]?=some k.1)->(∀y∈tb,WdOk d ss y)->∀y∈l.foldl (nxt d x w) tb,WdOk d ss y
 |[],_,_,h=>h
 | k :: l,tb,hl,h=>by
  refine Lo c l _ (λk' f=>hl k' (zN _ f)) λy a=>?_;unfold nxt at a;split at a
  ·exact h y a
  ·rcases oW.mp a with a|a
   ·exact h y a
   ·rw[oQ.mp a];have e:=hl k zV;refine⟨?_,λj b=>?_⟩
    ·show nR d x k.1=aS d ss (w++[k.2]);unfold aS;rw[vZ,wB,List.foldl_nil];show _=nR d (aS d ss w) _;rw[←c.1,zqc,e];rfl
    ·rcases oW.mp b with b|b
     ·exact c.2 j b
     ·rw[oQ.mp b];exact(zqa e).1
theorem Ln{d:Nat}{ss:List Dd}:∀(n i:Nat)(tb:Tb),(∀y∈tb,WdOk d ss y)->∀y∈mJ d ss n i tb,WdOk d ss y
 |0,_,_,h=>h
 | n+1,i,tb,h=>by
  unfold mJ;split
  ·refine Ln n (i+1) _ ?_;unfold kX;cases e:tb[i]? with
   |none=>exact h
   |some b=>exact Lo (h _ (zqb e)) _ _ (λk a=>(Lv a).2) h
  ·exact h
theorem Yv{d:Nat}{ss:List Dd}{N:Nat}:∀y∈tab d ss N,WdOk d ss y:=Ln N 0 _ λy a=>by rw[oQ.mp a];exact⟨rfl,λk b=>by cases b⟩
def famG:Nat->List LM
 |0=>[[[0,-1],[1,0]],[[-1,0],[0,1]]]
 |1=>[[[1,-1],[1,0]],[[0,1],[1,0]]]
 |2=>[[[0,-1,0],[1,0,0],[0,0,1]],[[0,0,1],[1,0,0],[0,1,0]],[[-1,0,0],[0,-1,0],[0,0,-1]]]
 |_=>[[[1,-1,0],[1,0,0],[0,0,1]],[[0,1,0],[1,0,0],[0,0,1]],[[1,0,0],[0,1,0],[0,0,-1]]]
def famD(k:Nat):Nat:=if k<2 then 2 else 3
def Yu(d:Nat)(gs l:List LM):List LM:=(l.flatMap λA=>gs.map λg=>mulM d g A).foldl (λacc M=>if acc.contains M then acc else acc++[M]) l
def Em(d:Nat)(gs:List LM):Nat->List LM->List LM
 |0,l=>l
 |n+1,l=>Em d gs n (Yu d gs l)
def pgL(k:Nat):List LM:=Em (famD k) (famG k) 10 [idM (famD k)]
def invM(d:Nat)(A:LM):LM:=mulM d A (mulM d (mulM d A A) (mulM d (mulM d (mulM d A A) (mulM d A A)) (mulM d (mulM d A A) (mulM d A A))))
def Lm(k:Nat):Bool:=
 (pgL k).contains (idM (famD k)) && (famG k).all (λg=>(pgL k).contains g) &&
 (pgL k).all (λA=>(famG k).all λg=>(pgL k).contains (mulM (famD k) g A)) &&
 (pgL k).all (λA=>decide (mulM (famD k) A (invM (famD k) A)=idM (famD k)) && decide (mulM (famD k) (invM (famD k) A) A=idM (famD k))) &&
 (pgL k).all (λA=>decide (A.length=famD k) && A.all λr=>decide (r.length=famD k) && r.all λz=>decide (z.natAbs<=1))
theorem Yt:(List.range 4).all Lm=true:=nofun
theorem gN(k:Nat):famD k=2\/famD k=3:=by unfold famD;split <;> simp
theorem Ll{M:LM}:∀(xs acc:List LM),M∈xs.foldl (λacc M=>if acc.contains M then acc else acc++[M]) acc->M∈acc\/M∈xs
 |[],_,h=>.inl h
 | x:: xs,acc,h=>by
  rcases Ll xs _ h with q|q
  ·dsimp only at q;split at q
   ·exact .inl q
   ·rcases oW.mp q with q|q
    ·exact .inl q
    ·exact .inr (by rw[oQ.mp q];exact .head _)
  ·exact .inr (.tail _ q)
theorem Lk{P:LM->Prop}{d:Nat}{gs:List LM}(a:∀A,P A->∀g∈gs,P (mulM d g A)):∀(n:Nat)(l:List LM),(∀A∈l,P A)->∀M∈Em d gs n l,P M
 |0,_,h=>h
 |n+1,l,h=>Lk a n _ λM c=>by
  rcases Ll _ _ c with q|q
  ·exact h M q
  ·obtain⟨A,e,q⟩:=List.mem_flatMap.mp q;obtain⟨g,b,rfl⟩:=oR.mp q;exact a A (h A e) g b
structure Fam(k:Nat):Prop where
 one:idM (famD k)∈pgL k
 gen:∀g∈famG k,g∈pgL k
 mul:∀A∈pgL k,∀B∈pgL k,mulM (famD k) A B∈pgL k
 inv:∀A∈pgL k,∃B∈pgL k,mulM (famD k) A B=idM (famD k)/\mulM (famD k) B A=idM (famD k)
 sq:∀A∈pgL k,Sq (famD k) A
 wee:∀A∈pgL k,∀r∈A,∀z∈r,z.natAbs<=1
theorem eT{k:Nat}(q:k<4):Fam k:=by
 have h:=wI.mp Yt k (oZ.mpr q);simp only[Lm,Bool.and_eq_true,List.all_eq_true,decide_eq_true_eq,List.contains_iff_mem]at h;obtain⟨⟨⟨⟨n,f⟩,j⟩,l⟩,d⟩:=h;have i:=gN k;have b:∀A∈pgL k,Sq (famD k) A:=λA a=>⟨(d A a).1,λr hr=>((d A a).2 r hr).1⟩;have mul:∀A∈pgL k,∀B∈pgL k,mulM (famD k) A B∈pgL k:=λA a=>(Lk (P:=λA=>Sq (famD k) A/\∀B∈pgL k,mulM (famD k) A B∈pgL k) (gs:=famG k) (λA⟨m,o⟩g e=>⟨(b g (f g e)).mul,λB c=>by
  rw[mul_assoc i (b g (f g e)) m (b B c)];exact j _ (o B c) g e⟩) 10 [idM (famD k)] (λA a=>by
   rw[oQ.mp a];exact⟨eP,λB c=>by rw[(jU i (b B c)).1];exact c⟩) A a).2
 have sq2:=λA a=>mul A a A a;have sq4:=λA a=>mul _ (sq2 A a) _ (sq2 A a);exact⟨n,f,mul,λA a=>⟨invM (famD k) A,mul A a _ (mul _ (sq2 A a) _ (mul _ (sq4 A a) _ (sq4 A a))),l A a⟩,b,λA a r hr z p=>((d A a).2 r hr).2 z p⟩
theorem Ys{d:Nat}{c:Int}:smul c (List.replicate d 0)=List.replicate d 0:=by
 unfold smul;rw[List.map_replicate,rQ]
theorem El{d:Nat}(b:d=2\/d=3){M:LM}{U:Int}(a:0<U):canD M (List.replicate d 0) U=(M,List.replicate d 0,1):=by
 have h:=aR (M:=M) (ts:=List.replicate d 0) (U:=1) (k:=U) ⋯ a;rw[Ys,qI]at h;rw[h];have:lK (redU 1 (List.replicate d 0)) (redT 1 (List.replicate d 0))=List.replicate d 0/\redU 1 (List.replicate d 0)=1:=by
  rcases b with rfl|rfl <;> decide +kernel
 unfold canD;rw[this.1,this.2]
def Rs(d:Nat)(x:Dd):Prop:=∃M ts U,Sq d M/\ts.length=d/\0<U/\x=canD M ts U
theorem Yr{d:Nat}{N:LM}{ns ts:LI'}{u v:Int}(a:Sq d N)(b:ns.length=d):(movT N ns v ts u).length=d:=by
 unfold movT;rw[uH,a.1,b,Nat.min_self]
theorem Rs.step{d:Nat}{x y:Dd}(e:Rs d x)(f:Rs d y):Rs d (nR d x y):=by
 obtain⟨M,ts,U,i,lt,b,rfl⟩:=e;obtain⟨N,ns,V,c,g,a,rfl⟩:=f;exact⟨_,_,_,c.mul,Yr c g,zY a b,gM b a⟩
theorem Yq{d:Nat}(q:d=2\/d=3){N O:LM}(j:Sq d N)(k:Sq d O){ts ns f:LI'}(lt:ts.length=d)(i:ns.length=d)(lo:f.length=d){U V g:Int}:
  movT O f g (movT N ns V ts U) (V*U)=movT (mulM d O N) (movT O f g ns V) (g*V) ts U:=by
 rcases q with rfl|rfl
 ·obtain⟨a,b,c,e,rfl⟩:=sq2 j;obtain⟨u,Z,y,F,rfl⟩:=sq2 k;obtain⟨o,p,rfl⟩:=v2 lt;obtain⟨l,n,rfl⟩:=v2 i;obtain⟨m,r,rfl⟩:=v2 lo;rw[mul2];simp only[movT,dotI,List.zipWith_cons_cons,List.zipWith_nil_left,List.sum_cons,List.sum_nil,List.cons.injEq,and_true];refine⟨?_,?_⟩ <;> grind
 ·obtain⟨a0,x,R,S,C,M,W,D,G,rfl⟩:=sq3 j;obtain⟨b1,b2,T,z,I,Y,a2,L,X,rfl⟩:=sq3 k;obtain⟨o,p,a1,rfl⟩:=v3 lt;obtain⟨l,n,J,rfl⟩:=v3 i;obtain⟨m,r,v,rfl⟩:=v3 lo;rw[mul3];simp only[movT,dotI,List.zipWith_cons_cons,List.zipWith_nil_left,List.sum_cons,List.sum_nil,List.cons.injEq,and_true];refine⟨?_,?_,?_⟩ <;> grind
theorem Lj{d:Nat}(e:d=2\/d=3){x y z:Dd}(j:Rs d x)(l:Rs d y)(m:Rs d z):nR d (nR d x y) z=nR d x (nR d y z):=by
 obtain⟨M,ts,U,i,lt,b,rfl⟩:=j;obtain⟨N,ns,V,g,k,a,rfl⟩:=l;obtain⟨O,n,o,f,lo,c,rfl⟩:=m;rw[gM b a,gM (zY a b) c,gM a c,gM b (zY c a),mul_assoc e f g i,Yq e g f lt k lo,oG]
theorem Yp{d:Nat}(a:d=2\/d=3):Rs d (mD d):=⟨idM d,List.replicate d 0,1,eP,by simp,⋯,(El a ⋯).symm⟩
theorem Yo{d:Nat}(a:d=2\/d=3):mD d=canD (idM d) (List.replicate d 0) 1:=(El a ⋯).symm
theorem Li{d:Nat}(j:d=2\/d=3){N:LM}(g:Sq d N){ns:LI'}(f:ns.length=d){V:Int}:movT N ns V (List.replicate d 0) 1=ns/\movT (idM d) (List.replicate d 0) 1 ns V=ns:=by
 rcases j with rfl|rfl
 ·obtain⟨a,b,c,e,rfl⟩:=sq2 g;obtain⟨i,k,rfl⟩:=v2 f;rw[id2];simp[movT,dotI,List.replicate]
 ·obtain⟨q,o,l,m,r,x,u,p,n,rfl⟩:=sq3 g;obtain⟨i,k,v,rfl⟩:=v3 f;rw[id3];simp[movT,dotI,List.replicate]
theorem aT{d:Nat}(a:d=2\/d=3){x:Dd}(e:Rs d x):nR d (mD d) x=x/\nR d x (mD d)=x:=by
 obtain⟨M,ts,U,b,lt,c,rfl⟩:=e;rw[Yo a];refine⟨?_,?_⟩
 ·rw[gM ⋯ c,(Li a b lt).1,(jU a b).2,qI]
 ·rw[gM c ⋯,(Li a b lt).2,(jU a b).1,oM]
theorem Ek{d:Nat}:∀{v:LI'},v.length=d->va v (smul (-1) v)=List.replicate d 0/\va (smul (-1) v) v=List.replicate d 0
 |[],h=>by subst h;exact⟨rfl,rfl⟩
 |a:: v,h=>by
  obtain⟨m,rfl⟩:∃m,d=m+1:=⟨v.length,by rw[←h];rfl⟩;have:=Ek (v:=v) (d:=m) (by simpa using h);unfold va smul at this ⊢;rw[zM,xD,xD,this.1,this.2,vE,show a+-1*a=0 by omega,show -1*a+a=0 by omega];exact⟨rfl,rfl⟩
structure Grp(d:Nat)(T:List Dd):Prop where
 dim:d=2\/d=3
 nd:T.Nodup
 rs:∀x∈T,Rs d x
 one:mD d∈T
 mul:∀x∈T,∀y∈T,nR d x y∈T
 inv:∀x∈T,∃y∈T,nR d x y=mD d/\nR d y x=mD d
theorem Lh{d:Nat}(i:d=2\/d=3){ss T:List Dd}(g:∀x∈T,Rs d x)(b:∀s∈ss,Rs d s)(e:∀x∈T,∀s∈ss,nR d x s∈T){x:Dd}(f:x∈T):∀(w:List Nat),(∀k∈w,k<ss.length)->∀y,Rs d y->nR d x y∈T->nR d x (w.foldl (λx k=>nR d x (ss.getD k (mD d))) y)∈T
 |[],_,y,_,h=>h
 | k:: w,c,y,l,h=>by
  rw[wB];have m:=c k zV;have a:ss.getD k (mD d)∈ss:=by
   rw[zqc,zqd m];exact wS m
  refine Lh i g b e f w (λj n=>c j (zN _ n)) _ (l.step (b _ a)) ?_;rw[←Lj i (g x f) l (b _ a)];exact e _ h _ a
theorem Yn{c:Type}{l L:List c}(f:l.Nodup)(sub:∀x∈l,x∈L)(hl:L.length<=l.length){a:c}(d:a∈L):a∈l:=by
 refine Classical.byContradiction λe=>?_;have:=Lx (l:=a:: l) (L:=L) (rL.mpr ⟨e,f⟩) λx b=>by
  rcases xC.mp b with rfl|b
  ·exact d
  ·exact sub x b
 rw[zT]at this;omega
theorem Lg{c i:Type}{f:c->i}:∀{l:List c},l.Nodup->(∀x∈l,∀y∈l,f x=f y->x=y)->(l.map f).Nodup
 |[],_,_=>by simp
 |a:: l,n,h=>by
  rw[zM,rL];have g:=rL.mp n;refine⟨λk=>?_,Lg g.2 λx j y m=>h x (zN _ j) y (zN _ m)⟩;obtain⟨b,d,e⟩:=oR.mp k;exact g.1 ((h b (zN _ d) a zV e) ▸ d)
theorem LeM.le{A B:Nat}{M:LM}(h:LeM A M)(a:A<=B):LeM B M:=λr hr z b=>yH (h r hr z b) a
theorem Lf{d:Nat}:LeM 1 (idM d):=λr hr z a=>by
 obtain⟨i,_,rfl⟩:=oR.mp hr;obtain⟨j,_,rfl⟩:=oR.mp a;split <;> decide
theorem aU{U:Int}{ts:LI'}(i:0<U):(∀z∈redT U ts,∃t∈ts,z.natAbs<=t.natAbs)/\0<redU U ts/\redU U ts<=U:=by
 have b:=iM ts (show U≠0 by omega);have g:0<redU U ts:=fJ ts ⋯;refine⟨λz c=>?_,g,?_⟩
 ·unfold redT at c;obtain⟨t,d,rfl⟩:=oR.mp c;refine⟨t,d,?_⟩;have e:t.fdiv (cs U ts)*cs U ts=t:=jO b (kW (eM d));have a:=wG Int.natAbs e;rw[xN]at a;have:1<=(cs U ts).natAbs:=⋯
  rw[←a];exact Nat.le_mul_of_pos_right _ this
 ·have e:redU U ts*cs U ts=U:=jO b (kW (gl_u U ts));have a:=wG Int.natAbs e;rw[xN]at a;have f:1<=(cs U ts).natAbs:=⋯
  have:=Nat.le_mul_of_pos_right (redU U ts).natAbs f;omega
theorem fms(x y:Int)(h:0<y):0<=x.fmod y/\x.fmod y<y:=⟨sQ x h,qJ x h⟩
structure Amb(d:Nat)(G:Dd->Prop):Prop where
 dim:d=2\/d=3
 rs:∀x,G x->Rs d x
 fine:∀x,G x->lW d x
 one:G (mD d)
 mul:∀x y,G x->G y->G (nR d x y)
 inv:∀x,G x->∃y,G y/\nR d x y=mD d/\nR d y x=mD d
theorem Ym{d:Nat}{G:Dd->Prop}(A:Amb d G){ss:List Dd}(l:∀s∈ss,G s){N:Nat}(D:(tab d ss N).length<=N):Grp d ((tab d ss N).map (·.1)):=by
 have c:=A.dim;have F:=cG (N:=N) A.one λx a s g=>A.mul x s a (l s g);have inT:∀x∈(tab d ss N).map (·.1),G x:=λx a=>by
  obtain⟨y,b,rfl⟩:=oR.mp a;exact F y b
 have f:∀x∈(tab d ss N).map (·.1),Rs d x:=λx a=>A.rs x (inT x a);have v:∀s∈ss,Rs d s:=λs g=>A.rs s (l s g);have q:∀x∈(tab d ss N).map (·.1),∀s∈ss,nR d x s∈(tab d ss N).map (·.1):=λx a s g=>by
  obtain⟨y,b,rfl⟩:=oR.mp a;exact Lp D y b s g
 have mul:∀x∈(tab d ss N).map (·.1),∀y∈(tab d ss N).map (·.1),nR d x y∈(tab d ss N).map (·.1):=λx a y b=>by
  obtain⟨z,i,rfl⟩:=oR.mp b;obtain⟨e,p⟩:=Yv z i;rw[e];exact Lh c f v q a z.2 p _ (Yp c) (by rw[(aT c (f x a)).2];exact a)
 have one:mD d∈(tab d ss N).map (·.1):=oR.mpr ⟨_,En,rfl⟩;refine⟨c,Eo,f,one,mul,λm k=>?_⟩;obtain⟨n,I,e1,r⟩:=A.inv m (inT m k);have o:=A.rs n I;have j:∀x∈(tab d ss N).map (·.1),nR d (nR d x m) n=x:=λx a=>by
  rw[Lj c (f x a) (f m k) o,e1,(aT c (f x a)).2]
 have u:(((tab d ss N).map (·.1)).map λx=>nR d x m).Nodup:=Lg Eo λx a y b e=>by rw[←j x a,←j y b,e]
 have i:mD d∈((tab d ss N).map (·.1)).map λx=>nR d x m:=Yn u (λz i=>by
  obtain⟨x,a,rfl⟩:=oR.mp i;exact mul x a m k) (rW (zqe ..).symm) one
 obtain⟨y,b,e⟩:=oR.mp i;have C:y=n:=by
  have:=j y b;rw[e,(aT c o).1]at this;exact this.symm
 subst C;exact⟨y,b,e1,r⟩
theorem Le{d:Nat}(b:d=2\/d=3):∀{L:List Stp},(∀s∈L,s.Ok d)->LeM (3000000^L.length) (chP d L)/\LeM (3000000^L.length) (chQ d L)
 |[],_=>⟨Lf,Lf⟩
 | s:: L,h=>by
  obtain⟨f,i⟩:=Le b (L:=L) λz a=>h z (zN _ a);have o:=h s zV;have c:=fL b (L:=L) λz a=>h z (zN _ a);have g:=o.m2;rw[zT,pK];have e:d*(1000000*3000000^L.length)<=3000000^L.length*3000000:=by
   have:d*(1000000*3000000^L.length)<=3*(1000000*3000000^L.length):=xK _ ⋯;omega
  refine⟨(aP cE (Kb g ∅) f).le e,?_⟩;have:=aP c.q i (Kb (d:=d) (i:=s.i) (j:=s.j) (m:=-s.m) (N:=1000000) ⋯ ∅);rw[rX (3000000^L.length) 1000000]at this;exact this.le e
structure Fr4 where
 k:Nat
 L:List Stp
 U:Int
structure Fr4.Ok(F:Fr4):Prop where
 k:F.k<4
 ok:∀s∈F.L,s.Ok (famD F.k)
 l3:F.L.length<=3
 u0:0<F.U
 u1:F.U<2^100
def Fr4.cj(F:Fr4)(R:LM):LM:=cjM (famD F.k) (chP (famD F.k) F.L) (chQ (famD F.k) F.L) R
def InG(F:Fr4)(x:Dd):Prop:=∃R∈pgL F.k,∃ts:LI',ts.length=famD F.k/\x=canD (F.cj R) ts F.U
theorem Ej{a:Fr4}(h:a.Ok){R:LM}(g:R∈pgL a.k):mW 140 (a.cj R):=by
 have M:=eT h.k;have d:=gN a.k;have c:=fL d h.ok;obtain⟨j,l⟩:=Le d h.ok;have b:3000000^a.L.length<=3000000^3:=yW ∅ h.l3;have w:LeM 1 R:=M.wee R g;have f:=aP c.p (j.le b) w;have i:=aP (c.p.mul (B:=R)) f (l.le b);intro r hr z k;have:=i r hr z k;have e:famD a.k*(famD a.k*(3000000^3*1)*3000000^3)<=3*(3*(3000000^3*1)*3000000^3):=yZ ⋯ (xK _ (xK _ ⋯));have m:3*(3*(3000000^3*1)*3000000^3)<2^140:=∅
 omega
theorem Yl{d:Nat}{C:LM}{ts:LI'}{U:Int}(f:Sq d C)(e:mW 140 C)(hl:ts.length=d)(c:0<U)(i:U<2^100):lW d (canD C ts U):=by
 obtain⟨_,b,g⟩:=aU (ts:=ts) c;refine⟨f,by show(lK _ (redT _ ts)).length=_;unfold lK redT;rw[zqe,zqe];exact hl,b,λr hr z a=>zL (e r hr z a) (yW ∅ ∅),λz a=>?_,?_⟩
 ·obtain⟨y,_,rfl⟩:=oR.mp a;have:=fms y _ b;exact zL (show _<2^100 by omega) (yW ∅ ∅)
 ·show redU U ts<_;exact Int.lt_of_lt_of_le (show redU U ts<2^100 by omega) ∅
theorem Ld{F:Fr4}(h:F.Ok):F.cj (idM (famD F.k))=idM (famD F.k):=by
 have c:=fL (gN F.k) h.ok;unfold Fr4.cj cjM;rw[(jU (gN F.k) c.p).2,c.r]
theorem Ei{a:Fr4}(h:a.Ok){b R2:LM}(c:b∈pgL a.k)(d:R2∈pgL a.k){ts ns:LI'}:nR (famD a.k) (canD (a.cj b) ts a.U) (canD (a.cj R2) ns a.U)=canD (a.cj (mulM (famD a.k) R2 b)) (va (mv (a.cj R2) ts) ns) a.U:=by
 have M:=eT h.k;rw[gM h.u0 h.u0,Yz,aR h.u0 h.u0];unfold Fr4.cj;rw[Kj (gN a.k) (fL (gN a.k) h.ok) (M.sq _ c) (M.sq _ d)]
theorem Yk{a:Fr4}(h:a.Ok):Amb (famD a.k) (InG a):=by
 have M:=eT h.k;have e:=gN a.k;have c:=fL e h.ok;have d:∀R,Sq (famD a.k) (a.cj R):=λR=>Kk c R;have i:canD (a.cj (idM (famD a.k))) (List.replicate (famD a.k) 0) a.U=mD (famD a.k):=by rw[Ld h,El e h.u0];rfl
 refine⟨e,?_,?_,⟨_,M.one,List.replicate (famD a.k) 0,by simp,i.symm⟩,?_,?_⟩
 ·rintro x ⟨R,b,ts,hl,rfl⟩;exact⟨_,_,_,d R,hl,h.u0,rfl⟩
 ·rintro x ⟨R,b,ts,hl,rfl⟩;exact Yl (d R) (Ej h b) hl h.u0 h.u1
 ·rintro x y ⟨n,j,ts,l1,rfl⟩ ⟨R2,k,ns,l2,rfl⟩;exact⟨_,M.mul _ k _ j,_,Xh (Ko (d R2)) l2,Ei h j k⟩
 ·rintro x ⟨R,b,ts,hl,rfl⟩;obtain⟨B,f,e1,l⟩:=M.inv R b;have g:(mv (a.cj B) ts).length=famD a.k:=Ko (d B);refine⟨canD (a.cj B) (smul (-1) (mv (a.cj B) ts)) a.U,⟨B,f,_,by rw[Kn];exact g,rfl⟩,?_,?_⟩
  ·rw[Ei h b f,l,(Ek g).1,i]
  ·have m:mv (a.cj R) (mv (a.cj B) ts)=ts:=by
    rw[←Xk e (d R) (d B) hl];show mv (mulM _ (cjM _ _ _ R) (cjM _ _ _ B)) ts=ts;rw[Kj e c (M.sq B f) (M.sq R b),e1];show mv (a.cj (idM _)) ts=ts;rw[Ld h,Xj e hl]
   rw[Ei h f b,e1,Xi e (d R) g,m,(Ek hl).2,i]
theorem Yj{d:Nat}(b:d=2\/d=3){ss:List Dd}{N:Nat}(h:(tab d ss N).length<=N){s:Dd}(c:s∈ss)(a:Rs d s):s∈(tab d ss N).map (·.1):=by
 have:=Lp h _ En s c;rw[(aT b a).1]at this;exact this
theorem Lc{K:Frag}{H:Hp}{ns:LI'}{xs:List V}(h:Dts K H xs (ns.map PyData.int)):xs=ns.map V.int:=by
 induction ns generalizing xs with
 |nil=>cases h;rfl
 |cons n ns b=>cases h with|cons a h=>cases a;rw[b h];rfl
theorem Lb{K:Frag}{H:Hp}:∀{M:LM}{xs:List V},Dts K H xs (M.map λr=>PyData.tuple (r.map PyData.int))->∃ps:LA,xs=ps.map V.ref/\ps.length=M.length/\∀(i:Nat) p r,ps[i]?=some p->M[i]?=some r->SqT K H p (r.map V.int)
 |[],_,.nil=>⟨[],rfl,rfl,λi p r e=>by cases e⟩
 | r:: M,_,.cons (x:=x) d f=>by
  obtain⟨ps,e,l,h⟩:=Lb f;cases d with
  |tup a b =>
   rename_i q ys;rw[Lc b]at a;refine⟨q:: ps,by rw[e];rfl,by rw[zT,zT,l],λi p s e1 c=>?_⟩;cases i with
   |zero=>cases e1;cases c;exact a
   |succ i=>exact h i p s e1 c
theorem La{K:Frag}{H:Hp}{p:Addr}{x:Dd}(h:Dt K H (.ref p) (dat x)):DdS K H p x:=by
 obtain⟨M,ts,u⟩:=x;have h':Dt K H (.ref p) (.tuple [.tuple (M.map λr=>.tuple (r.map PyData.int)),.tuple (ts.map PyData.int),.int u]):=h;cases h' with
 | tup a b =>
  cases b with
  | cons b1 b =>
   cases b with
   | cons b2 b =>
    cases b with
    | cons d b =>
     cases b;cases d;cases b1 with
     | tup c g =>
      cases b2 with
      |tup e1 e =>
       rw[Lc e]at e1;obtain⟨ps,rfl,l,f⟩:=Lb g;exact⟨_,_,a,⟨ps,c,l,f⟩,e1⟩
structure Told(d:Nat)(ss:List Dd)(srt:Tb):Prop where
 p:srt.Perm (tab d ss 201)
 o:srt.Pairwise λp q=>lx (fl (dat q.1)) (fl (dat p.1))=false
 l:(tab d ss 201).length<=200
section
variable {d:Nat} {G:Dd->Prop} {ss ss':List Dd} {srt srt':Tb}
theorem Told.mem(h:Told d ss srt){x:Dd}:x∈srt.map (·.1)↔x∈(tab d ss 201).map (·.1):=(h.p.map _).mem_iff
theorem Told.len(h:Told d ss srt):srt.length<=200:=by rw[h.p.length_eq];exact h.l
theorem Told.good(A:Amb d G)(c:∀s∈ss,G s)(h:Told d ss srt):∀x∈srt.map (·.1),G x:=λx a=>by
 obtain⟨y,b,rfl⟩:=oR.mp (h.mem.mp a);exact cG A.one (λx a s h=>A.mul x s a (c s h)) y b
theorem Grp.perm{T c:List Dd}(g:Grp d T)(p:c.Perm T):Grp d c:=by
 have m:∀{x},x∈c↔x∈T:=p.mem_iff;exact⟨g.dim,p.nodup_iff.mpr g.nd,λx a=>g.rs x (m.mp a),m.mpr g.one,λx a y b=>m.mpr (g.mul x (m.mp a) y (m.mp b)),λx a=>let ⟨y,b,e⟩:=g.inv x (m.mp a);⟨y,m.mpr b,e⟩⟩
theorem Told.grp(A:Amb d G)(a:∀s∈ss,G s)(h:Told d ss srt):Grp d (srt.map (·.1)):=(Ym A a (yH h.l ∅)).perm (h.p.map _)
end
section
variable {d:Nat} {T L:List Dd}
def cut(d:Nat)(L R:List Dd)(y:Dd)(n:Nat):List Dd:=R.filter λx=>decide (x∉(L.take n).map λl=>nR d l y)
structure Cos(d:Nat)(T L R:List Dd)(c:Nat):Prop where
 nd:R.Nodup
 sub:∀x∈R,x∈T
 cl:∀x∈R,∀l∈L,nR d l x∈R
 len:c*L.length+R.length=T.length
def run(d:Nat)(L:List Dd):List Dd->List Dd×Nat->List Dd×Nat
 |[],s=>s
 |y:: ys,(R,c)=>if y∈R then run d L ys (cut d L R y L.length,c+1) else run d L ys (R,c)
end
structure Rw(H0 H:Hp)(a:Addr)(M:LM):Prop where
 s:Same H0 H
 n:H0 a=none
 m:MatD H0 H a M
def Mkr(k:Nat)(L:List Stp)(su:Int)(x:Dd):Prop:=∃R∈pgL k,∃(ts:LI')(u:Int),ts.length=famD k/\jP 250 ts/\0<u/\u<=200/\x=(cjM (famD k) (chP (famD k) L) (chQ (famD k) L) R,redT (u*su) ts,redU (u*su) ts)
structure MsOk(d:Nat)(G:Dd->Prop)(ms:List Dd):Prop where
 f:∀s∈ms,lW d s
 g:∀s∈ms,G (nO s)
 l:ms.length<=200
theorem Yi{d:Nat}{G:Dd->Prop}(A:Amb d G){ms:List Dd}(h:MsOk d G ms):∀x s,G x->s∈ms->G (nR d x (nO s)):=λx s a b=>A.mul x _ a (h.g s b)
theorem cH{d:Nat}{G:Dd->Prop}(A:Amb d G){ms:List Dd}(h:MsOk d G ms):∀s∈ms.map nO,G s:=λs b=>by
 obtain⟨m,a,rfl⟩:=oR.mp b;exact h.g m a
theorem Yh{d:Nat}{G:Dd->Prop}(A:Amb d G){ms:List Dd}(h:MsOk d G ms):∀y∈tab d (ms.map nO) 201,lW d y.1:=λy a=>A.fine _ (cG A.one (λx b s c=>A.mul x s b (cH A h s c)) y a)
theorem Mz{K:Frag}{t:Adr}{d most:Nat}{G:Dd->Prop}{ms:List Dd}{H f:Hp}{a x i:Addr}{b:Bool}{ps:LA}{Q:VK}{E:XK}(A:Amb d G)(h:MsOk d G ms)(n:f x=some (.ins t.a_l i []))(c:Same H f)(l:SqB b K H a (ps.map V.ref))(u:Paired (DdS K H) ps ms)(r:1<=most)(j:most<=200)
  (v:H x=none)
  (y:most<(tab d (ms.map nO) 201).length->∀H',Same H H'->E (.ref t.a_14) none H')(C:(tab d (ms.map nO) 201).length<=most->∀srt H',Same H H'->GrpF K t H' x d ms srt->Told d (ms.map nO) srt->Q .non H'):
  Ks K t [.ref x,.int d,.ref a,.int most] f Q E:=by
 refine⟨b,d,a,x,i,ps,ms,G,most,rfl,n,A.dim,l.up c,Paired.mapP u λ_ _ z=>DdS.up z c,h.l,h.f,λs m=>A.fine _ (h.g s m),A.fine,A.one,Yi A h,r,j,Yh A h,Eo,λhl srt H' k g p o=>?_,λhl H' q=>y hl H' (c.trans q)⟩;exact C hl srt H' (λb o e=>k b o (λz=>by rw[z,v]at e;cases e) (c _ _ e)) g ⟨p,o,yH hl j⟩
theorem My{H:Hp}{C x a:Addr}(nx:H x=none)(b:H a=none)(ne:a≠x):Same H (upd (upd H a (.own x)) x (.ins C a []))/\(upd (upd H a (.own x)) x (.ins C a [])) x=some (.ins C a []):=
 ⟨(Same.new b).trans (Same.new (by rw[nN (yI ne)];exact nx)),nK⟩
theorem Yg{K:Frag}{H:Hp}{p:Addr}{x:Dd}(h:DdS K H p x):Dt K H (.ref p) (dat x):=by
 obtain⟨d,e,b,c,a⟩:=h;exact .tup b (.cons (Dt.matB c) (.cons (Dt.intsB (b:=true) a) (.cons (.int _) .nil)))
theorem Mx{K:Frag}{H:Hp}{b:LA}{srt:Tb}(h:Paired (λp(x:Dd×List Nat)=>Dt K H (.ref p) (dat x.1)) b srt):Paired (DdS K H) b (srt.map (·.1)):=by
 induction h with
 |nil=>exact .nil
 |cons a _ c=>exact .cons (La a) c
section
variable {H:Hp} {g:Addr} {d:Nat} {ms:List Dd} {srt:Tb} {Q:VK}
theorem Mw(h:GrpF K t H g d ms srt)(k:∀l b H',Same H H'->H l=none->H' l=some (.lst (b.map V.ref))->Paired (λp(x:Dd×List Nat)=>Dt K H' (.ref p) (dat x.1)) b srt->Q (.ref l) H'):∃a fs,H g=some (.ins t.a_l a fs)/\fs.lookup (Str.ofString "members")=none/\sp_1 K t [.ref g] H Q E0:=by
 obtain⟨a,f,lo,i,e,c,_⟩:=id h.ex;exact⟨a,_,c,rfl,g,d,ms,srt,rfl,h,k⟩
end
theorem Yf{xs:List V}{k:Nat}(h:k<=xs.length):cutV xs (some (k:Int)) none=xs.drop k:=by
 unfold cutV;rw[HT.sIx_none,HT.sIx_nat,pR h,wF (by simp)]
theorem Mv{k:Nat}{L:List Stp}{su:Int}:∀{ms:List Dd},(∀m∈ms,Mkr k L su m)->∃V:Int,0<V/\V<=((200^ms.length:Nat):Int)/\∀m∈ms,∃R∈pgL k,∃(ts:LI')(u:Int),ts.length=famD k/\jP 250 ts/\0<u/\u<=200/\u∣V/\m=(cjM (famD k) (chP (famD k) L) (chQ (famD k) L) R,redT (u*su) ts,redU (u*su) ts)
 |[],_=>⟨1,∅,∅,λ_ h=>(by cases h)⟩
 | m:: ms,h=>by
  obtain⟨V,l,o,j⟩:=Mv (ms:=ms) λx c=>h x (.tail _ c);obtain⟨R,d,ts,u,lt,f,g,i,e⟩:=h m (.head _);refine⟨u*V,zY g l,?_,λx c=>?_⟩
  ·rw[zT,pK,vV,xJ];exact vJ o i ⋯ ⋯
  ·rcases xC.mp c with rfl|c
   ·exact⟨R,d,ts,u,lt,f,g,i,⟨V,rfl⟩,e⟩
   ·obtain⟨R,d,ts,p,lt,f,a,b,n,e⟩:=j x c;exact⟨R,d,ts,p,lt,f,a,b,Int.dvd_trans n ⟨u,xJ _ _⟩,e⟩
theorem Mu{k:Nat}{L:List Stp}{su:Int}{ms:List Dd}(S:k<4)(F:∀s∈L,s.Ok (famD k))(O:L.length<=3)(i:0<su)(o:su<=1000)(hl:ms.length<=3)(h:∀m∈ms,Mkr k L su m):∃G,Amb (famD k) G/\MsOk (famD k) G ms/\(∀x,G x->mW 1000 x.1/\jP 1000 x.2.1/\x.2.2<2^1000)/\∀m∈ms,jP 1000 m.2.1/\m.2.2<2^1000:=by
 obtain⟨V,J,a0,v⟩:=Mv (ms:=ms) h;have v2:V<=8000000:=Int.le_trans a0 (Int.ofNat_le.mpr (yH (yW ∅ hl) ∅));have M:0<V*su:=zY J i;have I:V*su<=8000000*1000:=vJ v2 o ⋯ ∅;have X:V*su<2^100:=uN I ∅;have n:(⟨k,L,V*su⟩:Fr4).Ok:=⟨S,F,O,M,X⟩;have A:=Yk n;have Y:(2:Nat)^140<=2^1000:=yW ∅ ∅;have kD:∀{C:LM}{ts:LI'}{U:Int},0<U->U<=8000000*1000->mW 140 C->mW 1000 (canD C ts U).1/\jP 1000 (canD C ts U).2.1/\(canD C ts U).2.2<2^1000:=by
  intro C ts U T a2 Z;obtain⟨_,l,N⟩:=aU (ts:=ts) T;have W:redU U ts<1099511627776:=⋯
  refine⟨λr hr z a=>zL (Z r hr z a) Y,λz a=>?_,?_⟩
  ·obtain⟨y,_,rfl⟩:=oR.mp a;have:=fms y _ l;exact zL (show _<1099511627776 by omega) (show 2^40<=_ from yW ∅ ∅)
  ·show redU U ts<_;exact Int.lt_of_lt_of_le W (nofun)
 refine⟨InG ⟨k,L,V*su⟩,A,⟨λm e=>?_,λm e=>?_,⋯⟩,?_,λm e=>?_⟩
 ·obtain⟨R,d,ts,u,lt,g,c,f,j,rfl⟩:=v m e;have us:0<u*su:=zY c i;obtain⟨D,l,N⟩:=aU (ts:=ts) us;have us2:u*su<=200*1000:=vJ f o ⋯ ⋯;refine⟨Kk (fL (gN k) F) R,by unfold redT;rw[zqe];exact lt,l,(show mW 140 _ from Ej n d).le ∅,λz a=>?_,?_⟩
  ·obtain⟨t,q,p⟩:=D z a;exact wC p (zL (g t q) (yW ∅ ∅))
  ·show redU (u*su) ts<_;exact uN (show redU (u*su) ts<=200000 by omega) (nofun)
 ·obtain⟨R,d,ts,u,lt,g,c,f,⟨b,j⟩,rfl⟩:=v m e;have w0:0<b:=Classical.byContradiction λa1=>absurd (j ▸ J:0<u*b) (Int.not_lt.mpr (Int.mul_nonpos_of_nonneg_of_nonpos (xR c) (Int.not_lt.mp a1)));refine⟨R,d,smul b ts,by rw[Kn];exact lt,?_⟩;show canD _ ts (u*su)=canD _ (smul b ts) (V*su);rw[j,show u*b*su=b*(u*su) by grind,aR (zY c i) w0];rfl
 ·rintro x ⟨R,d,ts,lt,rfl⟩;exact kD M I (Ej n d)
 ·obtain⟨R,d,ts,u,lt,g,c,f,j,rfl⟩:=v m e;have us:0<u*su:=zY c i;obtain⟨D,l,N⟩:=aU (ts:=ts) us;have us2:u*su<=200*1000:=vJ f o ⋯ ⋯;refine⟨λz a=>?_,?_⟩
  ·obtain⟨t,q,p⟩:=D z a;exact wC p (zL (g t q) (yW ∅ ∅))
  ·show redU (u*su) ts<_;exact uN (show redU (u*su) ts<=200000 by omega) (nofun)
theorem Mt{K:Frag}{H H':Hp}{p:Addr}{x:Dd}(h:DdS K H p x)(k:TK K H H'):DdS K H' p x:=La (jF k.t 4 (gL x) (Yg h))
theorem Mr{d:Nat}:(tab d [] 201).length=1:=rfl
theorem Mq{d b:Type}{c:d->b->Prop}{x:d}{y:b}{xs:List d}{ys:List b}(h:Paired c xs ys)(e:c x y):Paired c (xs++[x]) (ys++[y]):=by
 induction h with
 |nil=>exact .cons e .nil
 |cons a _ f=>exact .cons a f
theorem Ye{b a:Type}{c:b->a->Prop}{x:b}{y:a}{xs:List b}{ys:List a}(h:Paired c (x:: xs) (y:: ys)):Paired c xs ys:=by cases h;assumption
def GN(K:Frag)(t:Adr)(H:Hp)(d:Nat)(ms:List Dd)(v:V):Prop:=(v=.non/\200<(tab d (ms.map nO) 201).length)\/∃g srt,v=.ref g/\GrpF K t H g d ms srt/\Told d (ms.map nO) srt
theorem dvs(x y:Int)(a:y≠0)(b:y.natAbs<1073741824):iS x y:=⟨a,zL ((pV ⋯).mpr (show y.natAbs<2^30 from b)) ∅⟩
def far(M:LM)(ts:LI')(u n m i j:Int)(k:Nat):Int:=((M.getD k []).getD 0 0*i*m+(M.getD k []).getD 1 0*j*n)*u+ts.getD k 0*n*m
def offP(M:LM)(ts:LI')(u n m i j:Int):Prop:=(far M ts u n m i j 0).fmod (m*u)≠0\/(far M ts u n m i j 1).fmod (n*u)≠0
def rch0(M:LM)(ts:LI')(u n m i j:Int):Int:=((far M ts u n m i j 0).fdiv (m*u)).fmod n
def rch1(M:LM)(ts:LI')(u n m i j:Int):Int:=((far M ts u n m i j 1).fdiv (n*u)).fmod m
def si(m k:Nat):Int:=(k:Int).fdiv m
def sj(m k:Nat):Int:=(k:Int).fmod m
def offK(M:LM)(ts:LI')(u:Int)(n m k:Nat):Prop:=offP M ts u n m (si m k) (sj m k)
def Off(M:LM)(ts:LI')(u:Int)(n m:Nat):Prop:=M.length=3\/∃k,k<n*m/\offK M ts u n m k
def r0K(M:LM)(ts:LI')(u:Int)(n m k:Nat):Int:=rch0 M ts u n m (si m k) (sj m k)
def r1K(M:LM)(ts:LI')(u:Int)(n m k:Nat):Int:=rch1 M ts u n m (si m k) (sj m k)
theorem eV{A B C D:Int}(b:0<B)(c:0<D)(h:A*D=C*B):A.fdiv B=C.fdiv D/\(A.fmod B=0↔C.fmod D=0):=by
 rw[wE _ (xR b),wE _ (xR c),yN _ (xR b),yN _ (xR c)];have e1:D*A/(D*B)=A/B:=Int.mul_ediv_mul_of_pos _ _ c;have f:B*C/(B*D)=C/D:=Int.mul_ediv_mul_of_pos _ _ b;have a:D*A%(D*B)=D*(A%B):=Int.mul_emod_mul_of_pos _ _ c;have d:B*C%(B*D)=B*(C%D):=Int.mul_emod_mul_of_pos _ _ b;have e:D*A=B*C:=by rw[xJ D A,h,xJ]
 have g:D*B=B*D:=xJ _ _;rw[e,g]at e1 a;refine⟨by rw[←e1,f],?_⟩;rw[d]at a;constructor
 ·intro z;rw[z,rQ]at a;rcases Int.mul_eq_zero.mp a with q|q
  ·omega
  ·exact q
 ·intro z;rw[z,rQ]at a;rcases Int.mul_eq_zero.mp a.symm with q|q
  ·omega
  ·exact q
theorem redX{u:Int}{ns:LI'}(h:u≠0){t:Int}(a:t∈ns):t*redU u ns=t.fdiv (cs u ns)*u:=Wx h a
theorem Mp{f:LM}(h:Sq 2 f):∃a b c e,f=[[a,b],[c,e]]:=by
 obtain⟨g,d⟩:=h
 match f,g,d with
 |[[a,b],[c,e]],_,_=>exact⟨a,b,c,e,rfl⟩
 |[[],_],_,d=>exact absurd (d [] (by simp)) (by simp)
 |[[_],_],_,d=>exact absurd (d _ zV) (by simp)
 |[_:: _:: _:: _,_],_,d=>exact absurd (d _ zV) (by simp)
 |[[_,_],[]],_,d=>exact absurd (d [] (by simp)) (by simp)
 |[[_,_],[_]],_,d=>exact absurd (d _ (zN _ zV)) (by simp)
 |[[_,_],_:: _:: _:: _],_,d=>exact absurd (d _ (zN _ zV)) (by simp)
theorem alg2{a b c l u k v x f n m i j:Int}(g:i*m*v=c*(n*m))(d:j*n*v=l*(n*m))(d0:((a*c+b*l)*u+k*v)*x=f*(u*v)):f*n*(m*u)*v=((a*i*m+b*j*n)*u+k*n*m)*x*v:=by
 have e:f*n*(m*u)*v=(f*(u*v))*(n*m):=by clear g d d0;grind
 have o:((a*c+b*l)*u+k*v)*x*(n*m)=(a*(c*(n*m))+b*(l*(n*m)))*u*x+k*v*x*(n*m):=by clear g d d0 e;grind
 rw[e,←d0,o,←g,←d];clear g d d0 e o;grind
theorem sw4(X m n u v:Int):X*m*(n*u)*v=X*n*(m*u)*v:=by grind
theorem Yd{M:LM}{ts:LI'}{u n m i j:Int}(L:Sq 2 M)(I:ts.length=2)(G:0<u)(J:0<n)(z:0<m):
  ∃x r:Int,redT (u*redU (n*m) [i*m,j*n]) (movT M ts u (redT (n*m) [i*m,j*n]) (redU (n*m) [i*m,j*n]))=[x,r]/\0<redU (u*redU (n*m) [i*m,j*n]) (movT M ts u (redT (n*m) [i*m,j*n]) (redU (n*m) [i*m,j*n])) /\
   x*n*(m*u)=far M ts u n m i j 0*redU (u*redU (n*m) [i*m,j*n]) (movT M ts u (redT (n*m) [i*m,j*n]) (redU (n*m) [i*m,j*n])) /\
   r*m*(n*u)=far M ts u n m i j 1*redU (u*redU (n*m) [i*m,j*n]) (movT M ts u (redT (n*m) [i*m,j*n]) (redU (n*m) [i*m,j*n])):=by
 obtain⟨a,b,c,e,rfl⟩:=Mp L;obtain⟨k,g,rfl⟩:=len2 I;have p:n*m≠0:=xU (zY J z);have l:0<redU (n*m) [i*m,j*n]:=fJ _ p;have y:=redX p (t:=i*m) (ns:=[i*m,j*n]) (by simp);have q:=redX p (t:=j*n) (ns:=[i*m,j*n]) (by simp);have D:redT (n*m) [i*m,j*n]=[(i*m).fdiv (cs (n*m) [i*m,j*n]),(j*n).fdiv (cs (n*m) [i*m,j*n])]:=rfl;rw[D];generalize (i*m).fdiv (cs (n*m) [i*m,j*n])=d at*
 generalize (j*n).fdiv (cs (n*m) [i*m,j*n])=f at*;generalize redU (n*m) [i*m,j*n]=v at*
 have o:u*v≠0:=xU (zY G l);have C:movT [[a,b],[c,e]] [k,g] u [d,f] v=[(a*d+b*f)*u+k*v,(c*d+e*f)*u+g*v]:=by
  unfold movT dotI;simp
 rw[C];have d0:=redX o (t:=(a*d+b*f)*u+k*v) (ns:=[(a*d+b*f)*u+k*v,(c*d+e*f)*u+g*v]) (by simp);have F:=redX o (t:=(c*d+e*f)*u+g*v) (ns:=[(a*d+b*f)*u+k*v,(c*d+e*f)*u+g*v]) (by simp);refine⟨_,_,rfl,fJ _ o,?_,?_⟩
 ·refine Int.eq_of_mul_eq_mul_right (xU l) ?_;exact alg2 y q d0
 ·refine Int.eq_of_mul_eq_mul_right (xU l) ?_;show _*m*(n*u)*v=((c*i*m+e*j*n)*u+g*n*m)*_*v;exact(sw4 _ _ _ _ _).trans (alg2 (a:=c) (b:=e) y q F)
theorem gO{x n q:Int}(a:0<n):(x-q*n).fmod n=x.fmod n:=by
 rw[yN _ (xR a),yN _ (xR a)];exact Int.sub_mul_emod_self_right ..
theorem aV{x n q:Int}(a:0<n):(x-q*n).fdiv n=x.fdiv n-q:=by
 rw[wE _ (xR a),wE _ (xR a),Int.sub_eq_add_neg,←oK,Int.add_mul_ediv_right _ _ (xU a)];rfl
theorem Mo{M:LM}{ts:LI'}{u n m i j:Int}(c:ts.length=2)(k:Nat)(d:k<2):∃q,far M (ts.map λx=>x.fmod u) u n m i j k=far M ts u n m i j k-q*(n*m*u):=by
 obtain⟨b,a,rfl⟩:=len2 c;rcases(show k=0\/k=1 by omega) with rfl|rfl
 ·refine⟨b.fdiv u,?_⟩;show(_*i*m+_*j*n)*u+b.fmod u*n*m=(_*i*m+_*j*n)*u+b*n*m-_;rw[rO];grind
 ·refine⟨a.fdiv u,?_⟩;show(_*i*m+_*j*n)*u+a.fmod u*n*m=(_*i*m+_*j*n)*u+a*n*m-_;rw[rO];grind
theorem Eh{M:LM}{ts:LI'}{u n m i j:Int}(k:ts.length=2)(e:0<u)(d:0<n)(b:0<m):
  (offP M (ts.map λx=>x.fmod u) u n m i j↔offP M ts u n m i j)/\rch0 M (ts.map λx=>x.fmod u) u n m i j=rch0 M ts u n m i j/\rch1 M (ts.map λx=>x.fmod u) u n m i j=rch1 M ts u n m i j:=by
 obtain⟨c,p⟩:=Mo (M:=M) (u:=u) (n:=n) (m:=m) (i:=i) (j:=j) k 0 ∅;obtain⟨a,e1⟩:=Mo (M:=M) (u:=u) (n:=n) (m:=m) (i:=i) (j:=j) k 1 ∅;have g:=zY b e;have f:=zY d e;have o:c*(n*m*u)=(c*n)*(m*u):=by grind
 have l:a*(n*m*u)=(a*m)*(n*u):=by grind
 unfold offP rch0 rch1;rw[p,e1,o,l,gO g,gO f,aV g,aV f,gO d,gO b];exact⟨oE,rfl,rfl⟩
theorem Yc{M:LM}{ts:LI'}{u:Int}{n m:Nat}(c:Sq ts.length M)(a:ts.length=2\/ts.length=3)(b:0<u)(e:1<=n)(d:1<=m):Off M (ts.map λx=>x.fmod u) u n m↔Off M ts u n m:=by
 rcases a with a|a
 ·unfold Off offK;have:∀k,offP M (ts.map λx=>x.fmod u) u n m (si m k) (sj m k)↔offP M ts u n m (si m k) (sj m k):=λk=>(Eh a b ⋯ ⋯).1;simp only[this]
 ·unfold Off;rw[c.1,a];simp
def DrAt(H:Hp)(dr:Addr)(D:List Str)(n m:Nat):Prop:=H dr=some (.tup (D.map V.str))/\D.length=n/\∀x∈D,x.length=m
def iZ(H:Hp)(l:Addr)(N:Nat)(f g:Nat->Int):Prop:=∃ys,H l=some (.lst ys)/\ys.length=N/\∀k<N,∃q,ys[k]?=some (.ref q)/\H q=some (.tup [.int (f k),.int (g k)])
theorem iZ.up{H H':Hp}{l:Addr}{N:Nat}{f g:Nat->Int}(h:iZ H l N f g)(s:Same H H'):iZ H' l N f g:=let ⟨ys,d,e,a⟩:=h;⟨ys,s _ _ d,e,λk i=>let ⟨q,b,c⟩:=a k i;⟨q,b,s _ _ c⟩⟩
def jW(n m:Nat):Prop:=1<=n/\n<=6/\1<=m/\m<=6
def sp_15:Sp:=λvs H Q _=>E2 λ(n m:Nat)=>A3 (vs=[.int n,.int m]) (jW n m) (∀l H',Same H H'->iZ H' l (n*m) (si m) (sj m)->Q (.ref l) H')
def sp_u(K:Frag)(C:Addr):Sp:=λvs H Q E=>E6 λ(q:Addr)(x0 x1 x:Int)(n m:Nat)=>A7 (vs=[.ref q,.int n,.int m]) (kN H q [x0,x1] x) (0<x) (x.natAbs.log2<9000) (jW n m) ((((x0*n).fmod x≠0\/(x1*m).fmod x≠0)->E (.ref C) none H)) ((¬ ((x0*n).fmod x≠0\/(x1*m).fmod x≠0)->∀p H',Same H H'->H' p=some (.tup [.int (((x0*n).fdiv x).fmod n),.int (((x1*m).fdiv x).fmod m)])->Q (.ref p) H'))
def sp_4(K:Frag)(C:Addr):Sp:=λvs H Q E=>E7 λ(p:Addr)(M:LM)(ts:LI')(u:Int)(n m d:Nat)=>A7 (vs=[.ref p,.int n,.int m]) (kO K H p M ts u) (Fine d M ts u) ((d=2\/d=3)) (jW n m) ((Off M ts u n m->∀H',Same H H'->E (.ref C) none H')) ((¬ Off M ts u n m->∀l H',Same H H'->H l=none->iZ H' l (n*m) (r0K M ts u n m) (r1K M ts u n m)->Q (.ref l) H'))
def sp_5(K:Frag):Sp:=λvs H Q _=>E8 λ(p:Addr)(M:LM)(ts:LI')(u:Int)(i j n m:Nat)=>A10 (vs=[.ref p,.int i,.int j,.int n,.int m]) (kO K H p M ts u) (Fine 2 M ts u) (mW 1000 M) (jP 1000 ts) (jW n m) (i<n) (j<m) ((offP M ts u n m i j->∀H',Same H H'->Q .non H')) ((¬ offP M ts u n m i j->∀q H',Same H H'->H' q=some (.tup [.int (rch0 M ts u n m i j),.int (rch1 M ts u n m i j)])->Q (.ref q) H'))
theorem Yb{H H':Hp}{b:Addr}(s:Same H H')(h:H' b=none):H b=none:=by
 cases q:H b with
 |none=>rfl
 |some o=>rw[s _ _ q]at h;cases h
theorem Ya{K:Frag}{b1 b2:Bool}{d c:Addr}{xs ys:List V}{g:TG}{tb:TS}{nx:St->Hp->Prop}{rt:VK}{a:St}{H:Hp}(b:Nat->St->Hp->Prop)(f:b 0 a H)(l:xs.length=ys.length)(hl:∀i a H,i<=xs.length->b i a H->SqB b1 K H d xs/\SqB b2 K H c ys)
  (j:∀i x y p a H,xs[i]?=some x->ys[i]?=some y->b i a H->H p=none->g (.ref p) a (upd H p (.tup [x,y])) λe m=>tb {nx:=b (i+1),rt:=rt,bk:=nx,ct:=b (i+1)} e m)(k:∀a H,b xs.length a H->nx a H):bH (Itz K b1 d b2 c) g tb nx rt a H:=
 Re (D:={nx:=nx,rt:=rt,bk:=nx,ct:=nx}) b f l hl j k
theorem cI{n m k:Nat}(f:1<=m)(e:k<n*m):0<=si m k/\si m k<n/\0<=sj m k/\sj m k<m:=by
 unfold si sj;have a:(0:Int)<=m:=⋯
 rw[wE _ a,yN _ a];have e1:((k/m:Nat):Int)=(k:Int)/(m:Int):=rfl;have b:((k%m:Nat):Int)=(k:Int)%(m:Int):=rfl;have c:k/m<n:=Nat.div_lt_of_lt_mul (by rw[rX];exact e);have d:k%m<m:=Nat.mod_lt _ ⋯;rw[←e1,←b];exact⟨qR _,Int.ofNat_lt.mpr c,qR _,Int.ofNat_lt.mpr d⟩
theorem Eg{m i j:Nat}(b:j<m):si m (i*m+j)=i/\sj m (i*m+j)=j:=by
 unfold si sj;have a:(0:Int)<=m:=⋯
 rw[wE _ a,yN _ a];have e1:(((i*m+j)/m:Nat):Int)=((i*m+j:Nat):Int)/(m:Int):=rfl;have c:(((i*m+j)%m:Nat):Int)=((i*m+j:Nat):Int)%(m:Int):=rfl;have d:(i*m+j)/m=i:=by rw[rX,Nat.mul_add_div ⋯,Nat.div_eq_of_lt b,tX]
 have e:(i*m+j)%m=j:=by rw[rX,Nat.mul_add_mod,Nat.mod_eq_of_lt b]
 rw[←e1,←c,d,e];exact⟨rfl,rfl⟩
theorem ok_15(T:Txt K mg t):FnOk P w K mg base CX0 1 t.a_15 t.d_15 ["n","m"] sp_15:=by
 apply T.F_15.ok sc_15
 ·obtain⟨n,m,rfl,⟨M,x,N,r⟩,J⟩:=h;refine⟨_,(nJ (nX (kB (sc:=nM s_15) (N:=N_15) (fr:=[("m",1)]) (te:=(tTup (mG (tOp (rI iS λi j=>.int (i.fdiv j)) (tVar 0) (tVar 1)) (mG (tOp (rI (λ_ j=>j≠0) λi j=>.int (i.fmod j)) (tVar 0) (tVar 1)) tNil)))) rfl rfl (nofun) rfl (nofun) (lQ rfl T.z_range (nD (nH mK (pq 0) (pq 1)) nE)) (λ_ _ _ R=>(lI (nD (nH lD (pv 0) (pv 1)) (nD (nH mH (pv 0) (pv 1)) nE))))))),?_⟩;show tRet _ _ [some (.int n),some (.int m)] H;ext;refine mQ λB eB=>?_;simp only[lF];ext;have O:n*m<=6*6:=yZ x r;have G:(n:Int)*(m:Int)=((n*m:Nat):Int):=by rw[vV]
  rw[G];refine⟨vK (nA.mpr ⋯),⋯,⋯,λo I=>?_⟩;rw[zW];refine iE (len:=n*m) (λk y H'=>∃q,y=.ref q/\q≠o/\H' q=some (.tup [.int (si m k),.int (sj m k)])) I ⋯ (λi y L a⟨q,d,l,e⟩u=>⟨q,d,l,u _ _ l e⟩) ?_ ?_
  ·intro k a zs v g b D F;subst eB;show tTup _ [some (.int (0+(k:Int))),some (.int m)] a D;ext;rw[xV];refine⟨dvs _ _ ⋯ ⋯,⋯,?_⟩;refine⟨by show 2<=sizeLine;decide,λp c=>F _ _ (Same.new c) ⟨p,rfl,λz=>?_,nK⟩⟩;rw[z,b]at c;cases c
  ·intro a ys g b hl C;exact J o a g ⟨ys,b,hl,λk v=>by
    have f:k<ys.length:=⋯
    obtain⟨q,d,_,e⟩:=C k ys[k] (by rw[zqd f]);exact⟨q,by rw[zqd f,d],e⟩⟩
theorem ok_u(T:Txt K mg t):FnOk P w K mg base (CX1 P w) 1 t.a_u t.d_u ["spot","n","m"] (sp_u K t.a_b):=by
 refine T.F_u.okX sc_u (λvs H Q E h=>?_) (λcdv A outer s H vs Q E hr h=>?_)
 ·obtain⟨q,j,i,x,n,m,rfl,_⟩:=h;rfl
 ·obtain⟨q,j,i,x,n,m,rfl,e,u,g,⟨z,o,v,r⟩,f,k⟩:=h;refine⟨_,(nF (nP (i:=3) sc_u.nd rfl (Or.inl rfl) (nU (pq 0)))
   (nF (nP (i:=4) sc_u.nd rfl (Or.inl rfl) (nH mK (nU (nU (pq 0))) (pq 1)))
   (nF (nP (i:=5) sc_u.nd rfl (Or.inl rfl) (nH mK (nU (nU (pq 0))) (pq 2)))
   (nF (mF (PW.pt (kZ (mC jK (nH mH (pq 4) (pq 3)) nI (mB _)) (jX (mC jK (nH mH (pq 5) (pq 3)) nI (mB _)))))
   (nJ (iD rfl iC rfl T.m_b T.x_b yM (nD mL nE)))
   mE)
   (nJ (nX (lI (nD (nH mH (nH lD (pq 4) (pq 3)) (pq 1)) (nD (nH mH (nH lD (pq 5) (pq 3)) (pq 2)) nE))))))))),?_⟩
  show tSeq _ _ _ [some (.ref q),some (.int n),some (.int m),none,none,none] H;right;refine Jd e ?_;left;refine De e λy d=>⟨true,y,_,_,_,rfl,rfl,SqB.tup d,rfl,?_⟩;ext;refine⟨uA (nA.mpr ⋯),?_⟩;left;refine De e λy d=>⟨true,y,_,_,_,rfl,rfl,SqB.tup d,rfl,?_⟩;ext;refine⟨uA (nA.mpr ⋯),?_⟩;left;have b:¬ x=0:=⋯
  refine⟨b,?_⟩
  by_cases c:(j*n).fmod x=0
  ·rw[zK c];refine iteF ⟨b,?_⟩
   by_cases a:(i*m).fmod x=0
   ·rw[zK a];refine iteF ?_;symm;refine⟨⟨b,g⟩,⋯,⟨b,g⟩,⋯,by show 2<=sizeLine;decide,λp l=>k (by simp[c,a]) p _ (Same.new l) nK⟩
   ·rw[zI a];refine iteT ?_;simp only[kK];ext;exact⟨∅,f (.inr a)⟩
  ·rw[zI c];refine iteT ?_;simp only[kK];ext;exact⟨∅,f (.inl c)⟩
theorem kN.ne{H:Hp}{p a:Addr}{ns:LI'}{u:Int}{zs:List V}(h:kN H p ns u)(e:H a=some (.lst zs)):∃q,p≠a/\q≠a/\H p=some (.tup [.ref q,.int u])/\H q=some (.tup (ns.map V.int)):=by
 obtain⟨q,b,c⟩:=h;refine⟨q,λz=>?_,λz=>?_,b,c⟩
 ·rw[z,e]at b;cases b
 ·rw[z,e]at c;cases c
theorem Zz{n:Int}(h:n.natAbs<=1000):n.natAbs<2^1000:=wC h (nofun)
theorem Zy{ns:LI'}(h:jP 1000 ns):jP 200000 ns:=λz a=>zL (h z a) (yW ∅ ∅)
theorem Mn{u:Int}{ns:LI'}(a:u≠0):redU u ns∣u:=⟨cs u ns,(jO (iM ns a) (kW (gl_u u ns))).symm⟩
theorem Zx{c t:Int}(a:c≠0)(h:c∣t):(t.fdiv c).natAbs<=t.natAbs:=by
 have e:=jO a h;have b:(t.fdiv c).natAbs*c.natAbs=t.natAbs:=by rw[←xN,e]
 have:1<=c.natAbs:=⋯
 calc (t.fdiv c).natAbs=(t.fdiv c).natAbs*1:=(Nat.mul_one _).symm
  _<=(t.fdiv c).natAbs*c.natAbs:=qF _ this
  _=t.natAbs:=b
theorem Zw{n m:Nat}{i j:Int}(u:0<=i)(v:i<n)(q:0<=j)(C:j<m)(D:1<=n)(d:n<=6)(I:1<=m)(f:m<=6):
  jP 1000 (redT (n*m) [i*m,j*n])/\0<redU (n*m) [i*m,j*n]/\redU (n*m) [i*m,j*n]<=36/\True:=by
 have J:n*m<=6*6:=yZ d f;have e:(n:Int)*m=((n*m:Nat):Int):=by rw[vV]
 have k:(0:Int)<(n:Int)*m:=zY ⋯ ⋯;have b:(n:Int)*m≠0:=xU k;have l:0<redU (n*m) [i*m,j*n]:=fJ _ b;refine⟨λx o=>?_,l,?_,trivial⟩
 ·obtain⟨y,g,rfl⟩:=oR.mp o;have r:=Zx (iM [i*m,j*n] b) (kW (eM (u:=n*m) g));have p:y.natAbs<=1000:=by
   obtain⟨a,rfl⟩:=yE u;obtain⟨c,rfl⟩:=yE q;have G:a*m<=6*6:=yZ ⋯ f;have F:c*n<=6*6:=yZ ⋯ d;rcases xC.mp g with z|z
   ·rw[z,←vV];omega
   ·rw[oQ.mp z,←vV];omega
  exact Zz (yH r p)
 ·have:=Int.le_of_dvd k (Mn (ns:=[i*m,j*n]) b);omega
theorem ok_4(T:Txt K mg t):FnOk P w K mg base (CX1 P w) 4 t.a_4 t.d_4 ["one","n","m"] (sp_4 K t.a_b):=by
 have e0:=@ok_15 P w K mg base t T;have c6:=@ok_v P w K mg base t T;have d9:=@ok_13 P w K mg base t T;have e4:=@ok_u P w K mg base t T;refine T.F_4.okX sc_4 (λvs H Q E h=>?_) (λcdv A outer s H vs Q E hr h=>?_)
 ·obtain⟨p,M,ts,u,n,m,d,rfl,_⟩:=h;rfl
 ·obtain⟨p,M,ts,u,n,m,d,rfl,a7,a,c8,⟨a0,O,I,S⟩,b4,d4⟩:=h;refine⟨_,(nF (mF (mC jK (jN T.z_len (nU (pq 0))) nI (mB _))
   (nJ (iD rfl iC rfl T.m_b T.x_b yM (nD mL nE)))
   mE)
   (nF (Hc (i:=3) (sc:=nM s_4) (N:=N_4) (fr:=[("n",1),("m",2)]) (te:=(kP (sp_v K t.a_1d) [] E0 (mG (tLst (mG (tOp (rI (λi j=>IntMulOk i j) λi j=>.int (i*j)) (tOp (rIxB K) (tVar 0) (tC (.int 0))) (tVar 2)) (mG (tOp (rI (λi j=>IntMulOk i j) λi j=>.int (i*j)) (tOp (rIxB K) (tVar 0) (tC (.int 1))) (tVar 1)) tNil))) (mG (tOp (rI (λi j=>IntMulOk i j) λi j=>.int (i*j)) (tVar 1) (tVar 2)) tNil)))) rfl rfl (nofun) rfl sc_4.nd rfl rfl (nofun) (lH (nW e0 hr.mo T.F_15 (nD (pq 1) (nD (pq 2) nE)))) (λ_ _ _ Z=>(dD c6 hr.mo rfl T.F_v.m T.F_v.kp T.F_v.b .nil dE (nD (mS (nD (nH mK (nU (pv 0)) (pv 2)) (nD (nH mK (nU (pv 0)) (pv 1)) nE))) (nD (nH mK (pv 1) (pv 2)) nE)))))
   (nJ (nX (Sa (xs:=["spot"]) (fr:=[("one",0),("n",1),("m",2)]) (g:=(nS 0)) (jD (sc:=nM s_4) (N:=N_4) rfl rfl (nofun)) rfl Hg (lH (pq 3)) (λ_ _ _ _ Z=>(jM (N:=["spot","one","n","m"]) (i:=0) Z rfl (nofun))) (λ_ _ _ _ Z f9=>(jL (Hd e4 hr.mo rfl T.F_u.m T.F_u.kp T.F_u.b .nil f9 (nD (nW d9 hr.mo T.F_13 (nD (pq 1) (nD (pq 0) nE))) (nD (pq 2) (nD (pq 3) nE))))))))))),?_⟩
  show tSeq _ _ _ [some (.ref p),some (.int n),some (.int m),none] H;right;refine eO a7 λx f3=>bI f3 ?_
  try ext
  rw[a.sq.1];rcases c8 with rfl|rfl
  ·refine iteF ?_;left;exfalso;refine⟨n,m,rfl,⟨a0,O,I,S⟩,λl1 b7 a4 d2=>?_⟩;obtain⟨ys,a5,g5,d0⟩:=d2;have g1:n*m<=6*6:=yZ O S;have e5:(0:Int)<(n:Int)*m:=zY ⋯ ⋯;have f8:kD ((n:Int)*m):=by
    have e:(n:Int)*m=((n*m:Nat):Int):=by rw[vV]
    unfold kD;rw[e];exact wC (show _<=36 by omega) (nofun)
   refine⟨false,l1,rfl,⟨_,SqB.lst a5⟩,λb5 f4=>?_⟩;refine kM (λk y H'=>∃q c,y=.ref q/\q≠b5/\c≠b5/\H' q=some (.tup [.ref c,.int (redU (n*m) [si m k*m,sj m k*n])])/\H' c=some (.tup ((redT (n*m) [si m k*m,sj m k*n]).map V.int))) f4 (SqB.lst a5) ⋯
    (λi y b7 D⟨q,c,F,C,v,e8,R⟩N=>⟨q,c,F,C,v,N _ _ C e8,N _ _ v R⟩) ?_ ?_
   ·intro k x D zs G o L a2 a3;have e6:k<ys.length:=(zqa G).1;obtain⟨q,b0,c0⟩:=d0 k ⋯;rw[G]at b0;cases b0;subst eB;show kP _ _ _ _ [some (.ref q),some (.int n),some (.int m)] D a2;ext;have b:=cI (n:=n) I (show k<n*m by omega);refine⟨true,q,_,_,_,rfl,rfl,SqB.tup (o _ _ c0),rfl,?_⟩;ext;refine⟨uA (nA.mpr ⋯),true,q,_,_,_,rfl,rfl,SqB.tup (o _ _ c0),rfl,?_⟩;ext;refine⟨uA (nA.mpr ⋯),by show 2<=sizeLine;decide,λe3 c9=>⟨uA (nA.mpr ⋯),?_⟩⟩;refine⟨false,e3,[si m k*m,sj m k*n],(n:Int)*m,rfl,SqB.lst nK,(show 2<=100 by decide),f8,λz=>?_,λ_ _ f1 g l d7=>?_⟩
    ·rcases z with z|z
     ·exact absurd z (xU e5)
     ·cases z
    ·have c1:Same D g:=(Same.new c9).trans l;obtain⟨c,c3,d5,Y,a1⟩:=d7.ne (c1 _ _ L);exact a3 _ _ c1 ⟨f1,c,rfl,c3,d5,Y,a1⟩
   ·intro D zs o L g3 e7;symm;exfalso;refine⟨false,⟨_,SqB.lst L⟩,λb6 a8=>?_⟩;refine kM (λk y H'=>¬ offK M ts u n m k/\∃q,y=.ref q/\q≠b6/\H' q=some (.tup [.int (r0K M ts u n m k),.int (r1K M ts u n m k)])) a8 (SqB.lst L) ⋯
     (λi y b7 D⟨W,q,F,C,v⟩N=>⟨W,q,F,C,N _ _ C v⟩) ?_ ?_
    ·intro k x g g2 G l e9 a2 a3;have e6:k<zs.length:=(zqa G).1;have f:k<n*m:=⋯
     obtain⟨q,c,rfl,_,_,Y,a1⟩:=e7 k x G;subst eB;show cU _ _ _ _ [some (.ref q),some (.ref p),some (.int n),some (.int m)] g a2;ext;have b:=cI (n:=n) I f;have a9:Same H g:=(a4.trans o).trans l;obtain⟨g0,v2,v3,g8⟩:=Zw (i:=si m k) (j:=sj m k) b.1 b.2.1 b.2.2.1 b.2.2.2 a0 O I S;refine⟨p,q,M,ts,_,u,_,2,rfl,a7.up a9,kN.s ⟨c,l _ _ Y,l _ _ a1⟩,a,∅,∅,rfl,Zy g0,v2,uN v3 (nofun),λr g4 X b8=>?_⟩;obtain⟨c2,b2,c4,J,f5,d8⟩:=Yd (i:=si m k) (j:=sj m k) a.sq a.len a.pos (show(0:Int)<n by omega) (show(0:Int)<m by omega);rw[c4]at b8;have d1:(redU (u*redU (n*m) [si m k*m,sj m k*n]) (movT M ts u (redT (n*m) [si m k*m,sj m k*n]) (redU (n*m) [si m k*m,sj m k*n]))).natAbs.log2<9000:=by
      obtain⟨sm,ps⟩:=Je a.pos a.bu v2 (uN v3 (nofun));exact Di (Dh sm (xU ps) (Mn (xU ps))) (xU J)
     generalize redU (u*redU (n*m) [si m k*m,sj m k*n]) (movT M ts u (redT (n*m) [si m k*m,sj m k*n]) (redU (n*m) [si m k*m,sj m k*n]))=x at*;have b3:=a.pos;obtain⟨f6,d3⟩:=eV J (zY (show(0:Int)<m by omega) b3) f5;obtain⟨f2,c7⟩:=eV J (zY (show(0:Int)<n by omega) b3) d8;have b1:((c2*n).fmod x≠0\/(b2*m).fmod x≠0)↔offK M ts u n m k:=by
      unfold offK offP;rw[qH,qH,d3,c7]
     refine⟨r,c2,b2,x,n,m,rfl,b8,J,d1,⟨a0,O,I,S⟩,λz=>b4 (.inr ⟨k,f,b1.mp z⟩) _ (a9.trans X),λz f7 g7 a6 R=>?_⟩;refine a3 _ _ (X.trans a6) ⟨λf0=>z (b1.mpr f0),f7,rfl,λc5=>?_,?_⟩
     ·have:=a6 _ _ (X _ _ e9);rw[←c5,R]at this;cases this
     ·rw[R,f6,f2];rfl
    ·intro g U l d6 g6 e2;have get:∀k,k<n*m->¬ offK M ts u n m k/\∃q,U[k]?=some (.ref q)/\g q=some (.tup [.int (r0K M ts u n m k),.int (r1K M ts u n m k)]):=λk f=>by
      have b9:k<U.length:=⋯
      obtain⟨W,q,F,_,v⟩:=e2 k U[k] (by rw[zqd b9]);exact⟨W,q,by rw[zqd b9,F],v⟩
     refine d4 (λz=>?_) b6 g ((a4.trans o).trans l) (Yb (a4.trans o) a8) ⟨U,d6,⋯,λk f=>(get k f).2⟩;rcases z with z|⟨k,f,z⟩
     ·rw[a.sq.1]at z;cases z
     ·exact(get k f).1 z
  ·refine iteT ?_;simp only[kK];ext;exact⟨∅,b4 (.inl (by rw[a.sq.1])) H (Same.refl _)⟩
theorem mulS{a b:Int}(h:b.natAbs<=1000000):IntMulOk a b:=uA (nA.mpr ⋯)
theorem Mm{a b:Int}{x y:Nat}(c:a.natAbs<2^x)(d:b.natAbs<2^y):(a*b).natAbs<2^(x+y):=by
 rw[xN,sL];exact Nat.mul_lt_mul'' c d
theorem ok_5(T:Txt K mg t):FnOk P w K mg base CX0 1 t.a_5 t.d_5 pd' (sp_5 K):=by
 apply T.F_5.ok sc_5
 ·obtain⟨p,M,ts,u,i,j,n,m,rfl,c8,G,L,b6,d3,hi,f0,a1,a4⟩:=h;obtain⟨e4,c3,e9,c0⟩:=d3;obtain⟨a,b,c,e,rfl⟩:=Mp G.sq;obtain⟨d,f,rfl⟩:=len2 G.len;have b5:=G.pos;have Z:=fK G.pos G.bu;refine⟨_,(nF (gW (pq 0) (jY rfl (mY (mM (i:=5) sc_5.nd rfl (Or.inl rfl)) (mY (mM (i:=6) sc_5.nd rfl (Or.inl rfl)) (mY (mM (i:=7) sc_5.nd rfl (Or.inl rfl)) jR)))))
   (nF (nP (i:=8) sc_5.nd rfl (Or.inl rfl) (mS nE))
   (nF (lN yJ rfl (Bq rfl T.z_zip (nD (pq 5) (nD (pq 6) nE))) (jY rfl (mY (mM (i:=9) sc_5.nd rfl (Or.inl rfl)) (mY (mM (i:=10) sc_5.nd rfl (Or.inl rfl)) jR)))
   (nF (nP (i:=11) sc_5.nd rfl (Or.inl rfl) (nH kF (nH mK (nH mK (nU (pq 9)) (pq 1)) (pq 4)) (nH mK (nH mK (nU (pq 9)) (pq 2)) (pq 3))))
   (nJ (jJ (jS xH xT xQ iA (pq 8) (nD (nH kF (nH mK (pq 11) (pq 7)) (nH mK (nH mK (pq 10) (pq 3)) (pq 4))) nE))))))
   (nF (mF (PW.pt (kZ (mC jK (nH mH (nU (pq 8)) (nH mK (pq 4) (pq 7))) nI (mB _)) (jX (mC jK (nH mH (nU (pq 8)) (nH mK (pq 3) (pq 7))) nI (mB _)))))
   (nJ (nX gR))
   mE)
   (nJ (nX (lI (nD (nH mH (nH lD (nU (pq 8)) (nH mK (pq 4) (pq 7))) (pq 3)) (nD (nH mH (nH lD (nU (pq 8)) (nH mK (pq 3) (pq 7))) (pq 4)) nE))))))))),?_⟩
  show tSeq _ _ _ [some (.ref p),some (.int i),some (.int j),some (.int n),some (.int m),none,none,none,none,none,none,none] H;refine st λN1 e1=>?_;obtain⟨a2,pt,d5,d7,b8⟩:=c8;refine⟨p,_,rfl,d5,rfl,_,_,rfl,_,_,rfl,_,_,rfl,rfl,?_⟩;show N1 [some (.ref p),some (.int i),some (.int j),some (.int n),some (.int m),some (.ref a2),some (.ref pt),some (.int u),none,none,none,none] H;left;refine⟨zZ _,λl hl=>?_⟩;have R:Same H (upd H l (.lst [])):=Same.new hl;have b7:(upd H l (.lst [])) l=some (.lst []):=nK;generalize upd H l (.lst [])=e2 at R b7;subst e1;refine st λN1 e1=>lO λB eB=>?_;simp only[iZip];ext;obtain⟨xs,b0,a5,c4⟩:=d7.walk;refine⟨true,⟨_,b0.up R⟩,true,⟨_,(kC R _ _ b8:SqB true _ _ _ _)⟩,?_⟩;refine Ya (xs:=xs) (ys:=[.int d,.int f]) (tb:=B) (λk U g=>∃a0 X J,U=[some (.ref p),some (.int i),some (.int j),some (.int n),some (.int m),some (.ref a2),some (.ref pt),some (.int u),some (.ref l),a0,X,J]/\Same H g /\
   g l=some (.lst (([far [[a,b],[c,e]] [d,f] u n m i j 0,far [[a,b],[c,e]] [d,f] u n m i j 1].take k).map V.int))) ⟨none,none,none,rfl,R,b7⟩ (by rw[a5];rfl)
   (λk U g _⟨_,_,_,_,o,_⟩=>⟨b0.up o,(kC o _ _ b8:SqB true _ _ _ _)⟩) ?_ ?_
  ·rintro k x y q U g c6 Y ⟨a0,X,J,rfl,o,F⟩ O;obtain⟨D,r,rfl,a6,c7⟩:=c4 k x c6;have e6:k<2:=(zqa Y).1;refine⟨q,_,rfl,SqT.of nK,rfl,_,_,rfl,_,_,rfl,rfl,?_⟩;subst eB;have W:Same H (upd g q (.tup [.ref D,y])):=o.trans (Same.new O);have d4:l≠q:=λz=>by rw[z,O]at F;cases F
   have a3:(upd g q (.tup [.ref D,y])) l=_:=(nN d4).trans F;generalize upd g q (.tup [.ref D,y])=d8 at W a3;obtain⟨v,C,tk,rfl,rfl,e8,f1,e5,d2⟩:∃v C tk:Int,r=[v,C]/\y=.int tk/\v.natAbs<2^1000/\C.natAbs<2^1000/\tk.natAbs<2^1000/\[far [[a,b],[c,e]] [d,f] u n m i j 0,far [[a,b],[c,e]] [d,f] u n m i j 1].take (k+1)=[far [[a,b],[c,e]] [d,f] u n m i j 0,far [[a,b],[c,e]] [d,f] u n m i j 1].take k++[(v*i*m+C*j*n)*u+tk*n*m]:=by
    rcases(show k=0\/k=1 by omega) with rfl|rfl
    ·cases a6;cases Y;exact⟨a,b,d,rfl,rfl,L [a,b] (by simp) a (by simp),L [a,b] (by simp) b (by simp),b6 d (by simp),rfl⟩
    ·cases a6;cases Y;exact⟨c,e,f,rfl,rfl,L [c,e] (by simp) c (by simp),L [c,e] (by simp) e (by simp),b6 f (by simp),rfl⟩
   show tSeq _ _ _ [some (.ref p),some (.int i),some (.int j),some (.int n),some (.int m),some (.ref a2),some (.ref pt),some (.int u),some (.ref l),some (.ref D),some (.int tk),J] d8;have b3:=c7.up W;refine st λe7 c5=>?_;ext;refine⟨true,D,_,_,_,rfl,rfl,b3,rfl,?_⟩;ext;refine⟨mulS ⋯,mulS ⋯,true,D,_,_,_,rfl,rfl,b3,rfl,?_⟩;ext;refine⟨mulS ⋯,mulS ⋯,?_⟩;have d6:(v*i*m+C*j*n).natAbs<2^1020:=by
    have k1:(v*i*m).natAbs<=v.natAbs*6*6:=by
     rw[xN,xN,tW,tW];exact yZ (qF _ ⋯) c0
    have k2:(C*j*n).natAbs<=C.natAbs*6*6:=by
     rw[xN,xN,tW,tW];exact yZ (qF _ ⋯) c3
    have k3:=sE (v*i*m) (C*j*n);have e3:(2:Nat)^1020=1048576*2^1000:=nofun
    have k5:=pS 1000;generalize (2:Nat)^1000=f2 at*
    omega
   subst c5;ext;refine⟨.inl ⟨rfl,_,SqL.of a3⟩,vA (kJ d6) (kJ Z) ∅,mulS ⋯,mulS ⋯,?_⟩;refine⟨l,_,_,rfl,rfl,a3,iQ (by rw[zqe,xA];omega),Same.over hl W,?_⟩;rw[d2,xW];exact nK
  ·rintro U g ⟨a0,X,J,rfl,o,F⟩;have d0:xs.length=2:=a5;rw[d0]at F;left;have I:g l=some (.lst [.int (far [[a,b],[c,e]] [d,f] u n m i j 0),.int (far [[a,b],[c,e]] [d,f] u n m i j 1)]):=F;have c1:offP [[a,b],[c,e]] [d,f] u n m i j↔((far [[a,b],[c,e]] [d,f] u n m i j 0).fmod (m*u)≠0\/(far [[a,b],[c,e]] [d,f] u n m i j 1).fmod (n*u)≠0):=oE;have c9:rch0 [[a,b],[c,e]] [d,f] u n m i j=((far [[a,b],[c,e]] [d,f] u n m i j 0).fdiv (m*u)).fmod n:=rfl;have b9:rch1 [[a,b],[c,e]] [d,f] u n m i j=((far [[a,b],[c,e]] [d,f] u n m i j 1).fdiv (n*u)).fmod m:=rfl;rw[c1]at a1 a4;rw[c9,b9]at a4;generalize far [[a,b],[c,e]] [d,f] u n m i j 0=a8 at*
   generalize far [[a,b],[c,e]] [d,f] u n m i j 1=a7 at*;have b4:((m:Int)*u)≠0:=xU (zY ⋯ b5);have b2:((n:Int)*u)≠0:=xU (zY ⋯ b5);have d1:((m:Int)*u).natAbs<2^(3+1500):=Mm (show(m:Int).natAbs<2^3 by omega) Z;have d9:((n:Int)*u).natAbs<2^(3+1500):=Mm (show(n:Int).natAbs<2^3 by omega) Z;have e0:iS a8 ((m:Int)*u):=⟨b4,zL ((pV ⋯).mpr d1) ∅⟩;have c2:iS a7 ((n:Int)*u):=⟨b2,zL ((pV ⋯).mpr d9) ∅⟩;have b1:IntMulOk (m:Int) u:=vK (nA.mpr ⋯);have a9:IntMulOk (n:Int) u:=vK (nA.mpr ⋯);refine⟨false,l,_,_,_,rfl,rfl,SqB.lst I,rfl,b1,?_⟩;ext;refine⟨b4,?_⟩
   by_cases N:a8.fmod (m*u)=0
   ·rw[zK N];refine iteF ?_;refine⟨false,l,_,_,_,rfl,rfl,SqB.lst I,rfl,a9,?_⟩;ext;refine⟨b2,?_⟩
    by_cases S:a7.fmod (n*u)=0
    ·rw[zK S];refine iteF ?_;symm;refine⟨false,l,_,_,_,rfl,rfl,SqB.lst I,rfl,b1,?_⟩;ext;refine⟨e0,⋯,false,l,_,_,_,rfl,rfl,SqB.lst I,rfl,a9,?_⟩;ext;refine⟨c2,⋯,by show 2<=sizeLine;decide,λq O=>?_⟩;exact a4 (by simp[N,S]) q _ (o.trans (Same.new O)) nK
    ·rw[zI S];exact iteT (a1 (.inr S) _ o)
   ·rw[zI N];exact iteT (a1 (.inl N) _ o)
def Zv:Str:= "abcdefghijklmnopqrstuvwxyz"
def inT(x:Str)(c:Nat):Bool:=!(Builtin.Str.occurrences x ⟨#[c]⟩ 0 x.length 1).isEmpty
def okc(c:Nat):Bool:=decide (V.str (⟨#[c]⟩:Str)=V.str ".") || inT Zv c
def Ef(z:Str):Bool:=z.cps.toList.all okc
def kY(z:Str):Bool:=!decide (V.str z=V.str (Str.ofString "")) && Ef z
def sp_o:Sp:=λvs H Q _=>E1 λ(z:Str)=>A3 (vs=[.str z]) (z.length<=1000) (∀H',Same H H'->Q (.bl (kY z)) H')
def sp_n:Sp:=λvs H Q _=>E1 λ(n:Int)=>A2 (vs=[.int n]) (Q (.bl (decide (1<=n/\n<=6))) H)
def sp_a(C:Addr):Sp:=λvs H Q E=>E3 λ(n m:Int)(z:Str)=>A4 (vs=[.int n,.int m,.str z]) (z.length<=1000) ((¬ ((1<=n/\n<=6)/\(1<=m/\m<=6)/\kY z=true)->∀H',Same H H'->E (.ref C) none H')) ((((1<=n/\n<=6)/\(1<=m/\m<=6)/\kY z=true)->∀H',Same H H'->Q .non H'))
def Zu(b:Bool):Str:=if b then "off" else "drawing"
def excE(t:Adr)(b:Bool):Addr:=if b then t.a_b else t.a_9
def sp_p(t:Adr):Sp:=λvs H Q _=>E2 λ(e:Addr)(b:Bool)=>A3 (vs=[.ref e]) (H e=some (dF e (.ref (excE t b)))) (∀H',Same H H'->Q (.str (Zu b)) H')
theorem ok_n(T:Txt K mg t):FnOk P w K mg base CX0 1 t.a_n t.d_n ["number"] sp_n:=by
 apply T.F_n.ok sc_n
 ·obtain⟨n,rfl,q⟩:=h;refine⟨_,(nJ (nX (Fr (iP Fj nI (pq 0) (mB _)) (Av (iP Fj (pq 0) (Bj (v:=(.int 6)) rfl T.g_LONGEST) (mB _)))))),?_⟩;show tRet _ _ [some (.int n)] H;ext
  by_cases z:1<=n
  ·rw[zK z];refine iteT ?_;have e:decide (1<=n/\n<=6)=decide (n<=6):=by
    by_cases y:n<=6
    ·rw[zK y,zK ⟨z,y⟩]
    ·rw[zI y,zI λh=>y h.2]
   rw[e]at q;exact q
  ·rw[zI z];refine iteF ?_;rw[zI λh=>z h.1]at q;exact q
theorem ok_o(T:Txt K mg t):FnOk P w K mg base CX0 1 t.a_o t.d_o ["text"] sp_o:=by
 apply T.F_o.ok sc_o
 ·obtain⟨z,rfl,v,k⟩:=h;refine⟨_,(nJ (nX (Fr (iP cN (pq 0) mL (mB _)) (Av (lA (Sj rfl) rfl T.z_all (nofun) (nD (kB (sc:=nM aG) (N:=N_o) (fr:=[]) (te:=(tOrV (tOp rEq (tVar 0) (tC (.str "."))) (tOp (λx y H Q=>∃i j,x=.str i/\y=.str j/\Q (.bl (!(Builtin.Str.occurrences j i 0 j.length 1).isEmpty)) H) (tVar 0) (tC (.str "abcdefghijklmnopqrstuvwxyz"))))) rfl rfl (nofun) rfl (nofun) (Sh (pq 0)) (λ_ _ _ D=>(Oq (iP cM (pv 0) mL (mB _)) (Av (iP Pz (pv 0) (Bj (v:=(.str "abcdefghijklmnopqrstuvwxyz")) rfl T.g_SMALL_LETTERS) rfl))))) nE)))))),?_⟩;show tRet _ _ [some (.str z)] H;ext
  by_cases a:V.str z=V.str (Str.ofString "")
  ·refine⟨rfl,false,by rw[zK a];rfl,iteF ?_⟩;have:=k H (Same.refl _);unfold kY at this;rw[zK a]at this;exact this
  refine⟨rfl,true,by rw[zI a];rfl,iteT ?_⟩;refine mQ λB eB=>?_;simp only[iStr];ext;refine⟨z,rfl,λu q=>Sg (λj y _=>∃c,z.cps.toList[j]?=some c/\y=.bl (okc c)) q v (λ_ _ _ _ r _=>r) ?_ ?_⟩
  ·intro i c d zs o f C p g;have e:z.cps.toList[i]?=some c:=by simpa using o
   subst eB;show tOrV _ _ [some (.str ⟨#[c]⟩)] d p;ext
   by_cases b:V.str (⟨#[c]⟩:Str)=V.str (Str.ofString ".")
   ·refine⟨rfl,true,by rw[zK b],iteT (g _ _ (Same.refl _) ⟨c,e,?_⟩)⟩;unfold okc;rw[zK b,Bool.true_or]
   ·refine⟨rfl,false,by rw[zI b],iteF ⟨_,rfl,_,rfl,g _ _ (Same.refl _) ⟨c,e,?_⟩⟩⟩;unfold okc;rw[zI b,Bool.false_or];rfl
  ·intro d ys f e1 l m;have n:ys=(z.cps.toList.map okc).map V.bl:=by
    rw[wJ];exact kR (by simpa using l) m
   subst n;refine⟨u,rfl,_,SqL.of e1,?_⟩;have:(z.cps.toList.map okc).all id=kY z:=by
    unfold kY Ef;rw[zI a,List.all_map];rfl
   rw[this];exact k d f
theorem ok_a(T:Txt K mg t):FnOk P w K mg base (CX1 P w) 2 t.a_a t.d_a po' (sp_a t.a_9):=by
 have f:=@ok_n P w K mg base t T;have g:=@ok_o P w K mg base t T;refine T.F_a.okX sc_a (λvs H Q E h=>?_) (λcdv A outer s H vs Q E hr h=>?_)
 ·obtain⟨n,m,z,rfl,_⟩:=h;rfl
 ·obtain⟨n,m,z,rfl,i,c,j⟩:=h;refine⟨_,(nF (mF (PW.pt (kZ (gU (lY (nW f hr.mo T.F_n (nD (pq 0) nE)))) (jX (gU (lY (nW f hr.mo T.F_n (nD (pq 1) nE)))))))
   (nJ (iD rfl iC rfl T.m_9 T.x_9 yM (nD mL nE)))
   mE)
   (nJ (mF (gU (lY (nW g hr.mo T.F_o (nD (pq 2) nE))))
   (nJ (iD rfl iC rfl T.m_9 T.x_9 yM (nD mL nE)))
   mE))),?_⟩
  show tSeq _ _ _ [some (.int n),some (.int m),some (.str z)] H;right;refine⟨n,rfl,_,rfl,?_⟩
  by_cases b:1<=n/\n<=6
  ·rw[zK b];refine iteF ⟨m,rfl,_,rfl,?_⟩
   by_cases a:1<=m/\m<=6
   ·rw[zK a];refine iteF ?_;symm;refine⟨z,rfl,i,λe d=>⟨_,rfl,?_⟩⟩;cases hg:kY z
    ·refine iteT ?_;simp only[kK];ext;exact⟨∅,c (λq=>by rw[hg]at q;cases q.2.2) e d⟩
    ·exact iteF (j ⟨b,a,hg⟩ e d)
   ·rw[zI a];refine iteT ?_;simp only[kK];ext;exact⟨∅,c (λq=>a q.2.1) H (Same.refl _)⟩
  ·rw[zI b];refine iteT ?_;simp only[kK];ext;exact⟨∅,c (λq=>b q.1) H (Same.refl _)⟩
theorem ecls(T:Txt K mg t)(b:Bool):cW K (excE t b):=by
 cases b
 ·exact⟨T.w_ga,T.w_gt,T.w_ca,T.e_cg,T.e_tk,T.w_ob,T.w_bx,by
   have q:=T.w_ob;unfold PySem.W.mroIn at q;show(PySem.W.clsIn K t.a_9).isSome=true;cases e:PySem.W.clsIn K t.a_9 with
   |none=>rw[e]at q;cases q
   |some c=>rfl⟩
 ·exact⟨T.h_u,T.h_v,T.h_w,T.e_cg,T.e_tk,T.h_x,T.h_y,by
   have q:=T.h_x;unfold PySem.W.mroIn at q;show(PySem.W.clsIn K t.a_b).isSome=true;cases e:PySem.W.clsIn K t.a_b with
   |none=>rw[e]at q;cases q
   |some c=>rfl⟩
theorem ok_p(T:Txt K mg t):cX P w K mg base 1 t.a_p t.d_p ["_law_e"] (sp_p t):=by
 refine T.F_p.okA sc_p (λvs H Q E h=>?_) (λcdv A outer s H vs Q E hr h=>?_)
 ·obtain⟨e,b,rfl,_⟩:=h;rfl
 ·obtain⟨e,b,rfl,r,n⟩:=h;refine⟨_,(nF (nP (i:=1) sc_p.nd rfl (Or.inl rfl) (mS nE))
   (nF (mF (lY (lA gD rfl T.z_isinstance (nofun) (nD (pq 0) (nD (gT (v:=.ref t.a_9) rfl T.m_9 rfl) nE))))
   (nJ (jJ (jS xH xT xQ iA (pq 1) (nD mL nE))))
   mE)
   (nF (mF (lY (lA gD rfl T.z_isinstance (nofun) (nD (pq 0) (nD (gT (v:=.ref t.a_b) rfl T.m_b rfl) nE))))
   (nJ (jJ (jS xH xT xQ iA (pq 1) (nD mL nE))))
   mE)
   (nF (mF (PW.pt (kZ (lY (lA gD rfl T.z_isinstance (nofun) (nD (pq 0) (nD (gT (v:=.ref t.a_1e) rfl T.m_1e rfl) nE)))) (kZ (lY (lA gD rfl T.z_isinstance (nofun) (nD (pq 0) (nD (gT (v:=.ref t.a_19) rfl T.m_19 rfl) nE)))) (kZ (lY (lA gD rfl T.z_isinstance (nofun) (nD (pq 0) (nD (gT (v:=.ref t.a_1f) rfl T.m_1f rfl) nE)))) (jX (lY (lA gD rfl T.z_isinstance (nofun) (nD (pq 0) (nD (gT (v:=.ref t.a_14) rfl T.m_14 rfl) nE)))))))))
   (nJ (jJ (jS xH xT xQ iA (pq 1) (nD mL nE))))
   mE)
   (nF (mF (PW.pt (kZ (mC jK (jN T.z_len (pq 1)) nI (mB _)) (jX (gU (lY (lA gD rfl T.z_isinstance (nofun) (nD (pq 0) (nD (fO (v:=.ty "ValueError") rfl T.z_ValueError (nofun) rfl) nE))))))))
   (nJ (nX mL))
   mE)
   (nJ (nX (nU (pq 1))))))))),?_⟩
  show tSeq _ _ _ [some (.ref e),none] H;right;refine⟨zZ _,λp k=>?_⟩;have g:Same H (upd H p (.lst [])):=Same.new k;have ep:(upd H p (.lst [])) p=some (.lst []):=nK;generalize upd H p (.lst [])=i at g ep;have d:∀{H':Hp}(c:V)(l:Bool)(j:VK),Same H H'->Gi c=true->kitOne K (.ref (excE t b)) (clsV c)=some l->j (.bl l) H'->rIsi K [.ref e,c] H' j:=λc l j q u v o=>⟨_,_,_,_,rfl,.exc (q _ _ r) (ecls T b),u,v,o⟩;cases b
  ·left;refine d _ _ _ g rfl T.h_5 ⟨_,rfl,iteT ?_⟩;refine⟨.inl ⟨rfl,_,SqL.of ep⟩,p,_,_,rfl,rfl,ep,iQ (zZ _),?_⟩;have a:=Same.over (o:=.lst [.str (Str.ofString "drawing")]) k g;have f:(upd i p (.lst [.str (Str.ofString "drawing")])) p=some (.lst [.str (Str.ofString "drawing")]):=nK;show N1 _ (upd i p (.lst [.str (Str.ofString "drawing")]));generalize upd i p (.lst [.str (Str.ofString "drawing")])=m at a f ⊢;left;refine d _ _ _ a rfl T.h_c ⟨_,rfl,iteF ?_⟩;left;refine d _ _ _ a rfl T.h_h ⟨_,rfl,iteF (d _ _ _ a rfl T.h_p ⟨_,rfl,iteF (d _ _ _ a rfl T.h_q ⟨_,rfl,iteF (d _ _ _ a rfl T.h_i ⟨_,rfl,iteF ?_⟩)⟩)⟩)⟩;left;refine⟨false,p,_,rfl,SqB.lst f,?_⟩;refine⟨_,_,rfl,rfl,_,rfl,iteF (d _ _ _ a rfl T.w_VE ⟨_,rfl,iteF ?_⟩)⟩;symm;exact⟨false,p,_,_,_,rfl,rfl,SqB.lst f,rfl,n m a⟩
  ·left;refine d _ _ _ g rfl T.h_3 ⟨_,rfl,iteF ?_⟩;left;refine d _ _ _ g rfl T.h_b ⟨_,rfl,iteT ?_⟩;refine⟨.inl ⟨rfl,_,SqL.of ep⟩,p,_,_,rfl,rfl,ep,iQ (zZ _),?_⟩;have a:=Same.over (o:=.lst [.str (Str.ofString "off")]) k g;have f:(upd i p (.lst [.str (Str.ofString "off")])) p=some (.lst [.str (Str.ofString "off")]):=nK;show N1 _ (upd i p (.lst [.str (Str.ofString "off")]));generalize upd i p (.lst [.str (Str.ofString "off")])=m at a f ⊢;left;refine d _ _ _ a rfl T.h_f ⟨_,rfl,iteF (d _ _ _ a rfl T.h_n ⟨_,rfl,iteF (d _ _ _ a rfl T.h_o ⟨_,rfl,iteF (d _ _ _ a rfl T.h_g ⟨_,rfl,iteF ?_⟩)⟩)⟩)⟩;left;refine⟨false,p,_,rfl,SqB.lst f,?_⟩;refine⟨_,_,rfl,rfl,_,rfl,iteF (d _ _ _ a rfl T.h_z ⟨_,rfl,iteF ?_⟩)⟩;symm;exact⟨false,p,_,_,_,rfl,rfl,SqB.lst f,rfl,n m a⟩
theorem Ml{k:Nat}(c:k<4){R:LM}(a:R∈pgL k):mW 1000 R:=λr hr z b=>wC ((eT c).wee R a r hr z b) (Nat.one_lt_two_pow ∅)
def sp_i(K:Frag):Sp:=λvs H Q _=>E4 λ(a b:Addr)(A B:LM)=>A8 (vs=[.ref a,.ref b]) (MatL H a A) (MatL H b B) (Sq 2 A) (Sq 2 B) (mW 1000 A) (mW 1000 B) (∀r H',Same H H'->MatL H' r (mulM 2 A B)->Q (.ref r) H')
def famS(so:Int):Nat:=if so=2 then 1 else 0
def sp_q:Sp:=λvs H Q _=>E2 λ(so c:Int)=>A2 (vs=[.int so,.int c]) (∀r H' R,Same H H'->MatL H' r R->R∈pgL (famS so)->Q (.ref r) H')
theorem aW{a b c e x y z w:Int}:mulM 2 [[a,b],[c,e]] [[x,y],[z,w]]=[[a*x+b*z,a*y+b*w],[c*x+e*z,c*y+e*w]]:=by
 simp[mulM,dotI,colI,List.range,List.range.loop]
theorem Ee{H:Hp}{a:Addr}{x y z w:Int}(h:MatL H a [[x,y],[z,w]]):∃p q,H a=some (.lst [.ref p,.ref q])/\p≠a/\q≠a/\H p=some (.lst [.int x,.int y])/\H q=some (.lst [.int z,.int w]):=by
 obtain⟨ps,c,d,b⟩:=h
 match ps,d with
 |[p,q],_=>exact⟨p,q,c,(b 0 p _ rfl rfl).1,(b 1 q _ rfl rfl).1,(b 0 p _ rfl rfl).2,(b 1 q _ rfl rfl).2⟩
theorem Mj{H:Hp}{a p q:Addr}{x y z w:Int}(e:H a=some (.lst [.ref p,.ref q]))(d:p≠a)(f:q≠a)(g:H p=some (.lst [.int x,.int y]))(c:H q=some (.lst [.int z,.int w])):MatL H a [[x,y],[z,w]]:=by
 refine⟨[p,q],e,rfl,λi r s e1 b=>?_⟩
 match i,e1,b with
 |0,e1,b=>cases e1;cases b;exact⟨d,g⟩
 |1,e1,b=>cases e1;cases b;exact⟨f,c⟩
 |i+2,e1,b=>simp at e1
theorem ok_i(T:Txt K mg t):FnOk P w K mg base CX0 1 t.a_i t.d_i pj' (sp_i K):=by
 apply T.F_i.ok sc_i
 ·obtain⟨a,b,d9,e0,rfl,d4,c1,c3,b4,J,I,d5⟩:=h;refine⟨_,(nF (nP (i:=2) sc_i.nd rfl (Or.inl rfl) (mS nE))
   (nF (gW (pq 1) (Hm rfl (mY (mM (i:=3) sc_i.nd rfl (Or.inr rfl)) (mY (mM (i:=4) sc_i.nd rfl (Or.inr rfl)) jR))))
   (nF (lN yJ rfl (lH (pq 0)) (mM (i:=5) sc_i.nd rfl (Or.inr rfl))
   (nJ (jJ (jS xH xT xQ iA (pq 2) (nD (kB (sc:=nM aH) (N:=N_i) (fr:=[("_law_up",3),("_law_down",4),("_law_row",5)]) (te:=(tOp (rI0 λi j=>.int (i+j)) (tOp (rI (λi j=>IntMulOk i j) λi j=>.int (i*j)) (tOp (rIxB K) (tVar 3) (tC (.int 0))) (tOp (rIxB K) (tVar 1) (tVar 0))) (tOp (rI (λi j=>IntMulOk i j) λi j=>.int (i*j)) (tOp (rIxB K) (tVar 3) (tC (.int 1))) (tOp (rIxB K) (tVar 2) (tVar 0))))) rfl rfl (nofun) rfl (nofun) (lQ rfl T.z_range (nD nI nE)) (λ_ _ _ e2=>(nH kF (nH mK (nU (pv 3)) (lC ix_B (pv 1) (pv 0) (λ_ _=>rfl))) (nH mK (nU (pv 3)) (lC ix_B (pv 2) (pv 0) (λ_ _=>rfl)))))) nE)))))
   (nJ (nX (pq 2)))))),?_⟩
  show tSeq _ _ _ [some (.ref a),some (.ref b),none,none,none,none] H;obtain⟨q,k,n,o,rfl⟩:=sq2 c3;obtain⟨b1,b2,d,c,rfl⟩:=sq2 b4;obtain⟨a4,Y,a0,_,_,b5,c7⟩:=Ee d4;obtain⟨M,G,d3,_,_,b0,a6⟩:=Ee c1;have mo:∀{x y:Int},x∈[q,k,n,o]->y∈[b1,b2,d,c]->IntMulOk x y:=λ{x y}a3 a2=>by
   have b8:x.natAbs<2^1000:=by
    simp only[List.mem_cons,List.not_mem_nil,or_false]at a3;rcases a3 with rfl|rfl|rfl|rfl
    ·exact J [x,k] (by simp) x (by simp)
    ·exact J [q,x] (by simp) x (by simp)
    ·exact J [x,o] (by simp) x (by simp)
    ·exact J [n,x] (by simp) x (by simp)
   have d0:y.natAbs<2^1000:=by
    simp only[List.mem_cons,List.not_mem_nil,or_false]at a2;rcases a2 with rfl|rfl|rfl|rfl
    ·exact I [y,b2] (by simp) y (by simp)
    ·exact I [b1,y] (by simp) y (by simp)
    ·exact I [y,c] (by simp) y (by simp)
    ·exact I [d,y] (by simp) y (by simp)
   exact vA (kJ b8) (kJ d0) ∅
  right;refine⟨zZ _,λm Z=>?_⟩;have R:Same H (upd H m (.lst [])):=Same.new Z;have X:MatL (upd H m (.lst [])) m []:=kA.mat nK kA.nil;generalize upd H m (.lst [])=d8 at R X;left;refine⟨false,b,_,rfl,SqB.lst (R _ _ d3),rfl,_,_,rfl,_,_,rfl,rfl,?_⟩;subst e1;refine st λN1 e1=>lO λB eB=>?_;simp only[iSeq];ext;refine⟨false,⟨_,SqB.lst (R _ _ a0)⟩,?_⟩;refine fA (g:=nS 5) (tb:=B) (λi U z=>∃v,U=[some (.ref a),some (.ref b),some (.ref m),some (.ref M),some (.ref G),v]/\Same H z/\MatL z m ((mulM 2 [[q,k],[n,o]] [[b1,b2],[d,c]]).take i)) ⟨none,rfl,R,X⟩ (λ_ _ _ _⟨_,_,D,_⟩=>SqB.lst (D _ _ a0)) ?_ ?_
  ·rintro i y U z u ⟨v,rfl,D,C⟩;obtain⟨p,g,f,rfl,W,c4,b3,tk⟩:∃p g f,y=.ref p/\H p=some (.lst [.int g,.int f])/\g∈[q,k,n,o]/\f∈[q,k,n,o]/\(mulM 2 [[q,k],[n,o]] [[b1,b2],[d,c]]).take (i+1)=(mulM 2 [[q,k],[n,o]] [[b1,b2],[d,c]]).take i++[[g*b1+f*d,g*b2+f*c]]:=by
    rw[aW]
    match i,u with
    |0,u=>cases u;exact⟨a4,q,k,rfl,b5,by simp,by simp,rfl⟩
    |1,u=>cases u;exact⟨Y,n,o,rfl,c7,by simp,by simp,rfl⟩
    |i+2,u=>simp at u
   obtain⟨d6,a1⟩:∃zs,z m=some (.lst zs):=let ⟨ps,h,_⟩:=C;⟨_,h⟩
   subst eB;show Au _ _ [some (.ref a),some (.ref b),some (.ref m),some (.ref M),some (.ref G),some (.ref p)] z;ext;refine⟨.inl ⟨rfl,_,SqL.of a1⟩,?_⟩;refine mQ λB eB=>?_;simp only[lF];ext;refine⟨∅,∅,λl hl=>?_⟩;refine iE (len:=2) (λj y _=>∃x,[g*b1+f*d,g*b2+f*c][j]?=some x/\y=.int x) hl ∅ (λ_ _ _ _ r _=>r) ?_ ?_
   ·intro j a5 zs c6 L d7 c5 c9;have O:=D.trans L;subst eB;show tOp _ _ _ [some (.int (0+(j:Int))),some (.ref M),some (.ref G),some (.ref p)] a5 c5;ext;obtain⟨F,N,b7,b6,c8,d1,S⟩:∃F N,[b1,b2][j]?=some F/\[d,c][j]?=some N/\F∈[b1,b2,d,c]/\N∈[b1,b2,d,c]/\[g*b1+f*d,g*b2+f*c][j]?=some (g*F+f*N):=by
     match j,c6 with
     |0,_=>exact⟨b1,d,rfl,rfl,by simp,by simp,rfl⟩
     |1,_=>exact⟨b2,c,rfl,rfl,by simp,by simp,rfl⟩
    refine⟨false,p,_,_,_,rfl,rfl,SqB.lst (O _ _ W),rfl,false,M,_,_,_,rfl,rfl,SqB.lst (O _ _ b0),kH (fW b7) ⋯,?_⟩;ext;refine⟨mo c4 c8,false,p,_,_,_,rfl,rfl,SqB.lst (O _ _ W),rfl,false,G,_,_,_,rfl,rfl,SqB.lst (O _ _ a6),kH (fW b6) ⋯,?_⟩;ext;exact⟨mo b3 d1,c9 _ _ (Same.refl _) ⟨_,S,rfl⟩⟩
   ·intro a5 ys L c0 c2 a8;have a9:ys=[g*b1+f*d,g*b2+f*c].map V.int:=kR (by simpa using c2) λj y e=>by
     obtain⟨x,S,rfl⟩:=a8 j y e;exact⟨x,S,rfl⟩
    subst a9;have ne:l≠m:=yI (mX a1 hl);obtain⟨zs,d2,b9,a7⟩:=(C.up L).app c0 ne;refine⟨m,zs,_,rfl,rfl,d2,iQ (by rw[b9,xA,aW];simp;omega),?_⟩;exact⟨Same.over Z (D.trans L),by rw[tk];exact a7⟩
  ·rintro U z ⟨v,rfl,D,C⟩;symm;refine d5 m z D ?_;rw[show(([V.ref a4,V.ref Y]).length)=2 from rfl]at C;rw[aW]at C ⊢;exact C
theorem Zt(k:Nat)(a:k<2):(pgL k).all (λR=>(pgL k).contains [R.getD 1 [],R.getD 0 []])=true:=by
 match k,a with
 |0,_=>decide +kernel
 |1,_=>decide +kernel
theorem Mi{k:Nat}(a:k<2){R:LM}(h:R∈pgL k):[R.getD 1 [],R.getD 0 []]∈pgL k:=by
 have:=wI.mp (Zt k a) R h
 rwa[List.contains_iff_mem]at this
theorem Zs{x y:Int}(b:x=1\/x=-1)(a:y=1\/y=-1):[[x,0],[0,y]]∈pgL 0:=by
 rcases b with rfl|rfl <;> rcases a with rfl|rfl <;> decide +kernel
theorem Ed{H c d:Hp}{b a p:Addr}{x y z w:Int}(m:H b=none)(e1:c=upd H b (.lst [.int x,.int y]))(n:c a=none)(j:d=upd c a (.lst [.int z,.int w]))(e:d p=none):Same H (upd d p (.lst [.ref b,.ref a]))/\MatL (upd d p (.lst [.ref b,.ref a])) p [[x,y],[z,w]]:=by
 have l:Same H c:=e1 ▸ Same.new m;have f:Same c d:=j ▸ Same.new n;have g:=Same.new (o:=.lst [.ref b,.ref a]) e;have k:c b=some (.lst [.int x,.int y]):=by rw[e1,nK]
 have i:d a=some (.lst [.int z,.int w]):=by rw[j,nK]
 exact⟨(l.trans f).trans g,Mj nK (mX (f _ _ k) e) (mX i e) (g _ _ (f _ _ k)) (g _ _ i)⟩
theorem fs2(a:Int):famS a<2:=by unfold famS;split <;> decide
theorem fd2{k:Nat}(a:k<2):famD k=2:=by
 match k,a with
 |0,_=>rfl
 |1,_=>rfl
theorem fsq{k:Nat}(a:k<2){R:LM}(h:R∈pgL k):Sq 2 R:=by
 have:=(eT (show k<4 by omega)).sq R h;rw[fd2 a]at this;exact this
theorem Mh{K:Frag}{H:Hp}{r:Addr}{R:LM}(m:Sq 2 R)(h:MatL H r R){i:Addr->Hp->Prop}(q:∀p H',Same H H'->MatL H' p [R.getD 1 [],R.getD 0 []]->i p H'):rIxB K (.ref r) (.int 1) H λx d=>rIxB K (.ref r) (.int 0) d λy d=>[x,y].length<=sizeLine/\∀p,d p=none->i p (upd d p (.lst [x,y])):=by
 obtain⟨a,b,c,e,rfl⟩:=sq2 m;obtain⟨n,l,j,_,_,k,g⟩:=Ee h;refine⟨false,r,_,_,_,rfl,rfl,SqB.lst j,rfl,false,r,_,_,_,rfl,rfl,SqB.lst j,rfl,by show 2<=sizeLine;decide,λp f=>?_⟩;have s:=Same.new (o:=.lst [.ref l,.ref n]) f;exact q p _ s (Mj nK (mX g f) (mX k f) (s _ _ g) (s _ _ k))
theorem ok_q(T:Txt K mg t):FnOk P w K mg base CX0 2 t.a_q t.d_q pk' sp_q:=by
 have Z:=@ok_i P w K mg base t T;apply T.F_q.ok sc_q
 ·obtain⟨f,c,rfl,a0⟩:=h;refine⟨_,(nF (nP (i:=2) sc_q.nd rfl (Or.inl rfl) (mS (nD (mS (nD nI (nD nI nE))) (nD (mS (nD nI (nD nI nE))) nE))))
   (nF (mF (mC jC (pq 0) nI (mB _))
   (nF (nP (i:=2) sc_q.nd rfl (Or.inl rfl) (mS (nD (mS (nD (nH Aq nI (nH mK nI (nH mH (pq 1) nI))) (nD nI nE))) (nD (mS (nD nI (nD (nH Aq nI (nH mK nI (nH mH (nH lD (pq 1) nI) nI))) nE))) nE))))
   (nJ (mF (mC jC (nH mH (nH lD (pq 1) nI) nI) nI (mB _))
   (nJ (nP (i:=2) sc_q.nd rfl (Or.inl rfl) (mS (nD (nU (pq 2)) (nD (nU (pq 2)) nE)))))
   mE)))
   mE)
   (nF (mF (mC jC (pq 0) nI (mB _))
   (nF (lN yJ rfl (lQ rfl T.z_range (nD (nH mH (pq 1) nI) nE)) (mM (i:=3) sc_q.nd rfl (Or.inl rfl))
   (nJ (nP (i:=2) sc_q.nd rfl (Or.inl rfl) (nW Z hr.mo T.F_i (nD (mS (nD (mS (nD nI (nD (eY eZ nI) nE))) (nD (mS (nD nI (nD nI nE))) nE))) (nD (pq 2) nE))))))
   (nJ (mF (mC jC (nH mH (nH lD (pq 1) nI) nI) nI (mB _))
   (nJ (nP (i:=2) sc_q.nd rfl (Or.inl rfl) (mS (nD (nU (pq 2)) (nD (nU (pq 2)) nE)))))
   mE)))
   mE)
   (nJ (nX (pq 2)))))),?_⟩
  show tSeq _ _ _ [some (.int f),some (.int c),none,none] H;right;refine⟨by show 2<=sizeLine;decide,λm i=>⟨by show 2<=sizeLine;decide,λn l=>⟨by show 2<=sizeLine;decide,λp j=>?_⟩⟩⟩;obtain⟨y,N⟩:=Ed i rfl l rfl j;generalize upd (upd (upd H m (.lst [.int 1,.int 0])) n (.lst [.int 0,.int 1])) p (.lst [.ref m,.ref n])=U at y N ⊢;clear i l j;subst e1;refine st λN1 e1=>?_;have W:[[1,0],[0,1]]∈pgL (famS f):=by unfold famS;split <;> decide +kernel
  have C:∀a r R,Same H a->MatL a r R->R∈pgL (famS f)->N1 [some (.int f),some (.int c),some (.ref r),none] a:=by
   intro a r R u e b;subst e1;refine st λN1 e1=>?_;have G:∀v a r R,Same H a->MatL a r R->R∈pgL (famS f)->N1 [some (.int f),some (.int c),some (.ref r),v] a:=by
    intro v a r R u e b;symm;exact a0 r a R u e b
   ext;refine ite2 (λh=>?_) (λ_=>G _ _ _ _ u e b);have es:f=2:=by simpa using h
   subst es;refine st λa4 X=>lO λB eB=>?_;simp only[lF];ext;have a5:=fms c 6 ∅;refine⟨∅,⋯,⋯,?_⟩;refine gG (g:=nS 3) (tb:=B) (λ_ J a=>∃(r:Addr)(R:LM)(v:Option V),J=[some (.int 2),some (.int c),some (.ref r),v]/\Same H a/\MatL a r R/\R∈pgL 1) ⟨r,R,none,rfl,u,e,b⟩ ?_ ?_
   ·rintro k J I a1 ⟨r,R,v,rfl,x,e,b⟩;have o:=eT (show 1<4 by decide);have mg:[[1,-1],[1,0]]∈pgL 1:=o.gen _ ∅;subst eB;show tAsg _ _ _ [some (.int 2),some (.int c),some (.ref r),some (.int (0+(k:Int)))] I;ext;refine⟨by show 2<=sizeLine;decide,λL i=>⟨by show 2<=sizeLine;decide,λM l=>⟨by show 2<=sizeLine;decide,λq j=>?_⟩⟩⟩;obtain⟨d,g⟩:=Ed i rfl l rfl j;generalize upd (upd (upd I L (.lst [.int 1,.int (-1)])) M (.lst [.int 1,.int 0])) q (.lst [.ref L,.ref M])=O at d g ⊢;refine⟨q,r,_,_,rfl,g,e.up d,o.sq _ mg,o.sq _ b,Ml ∅ mg,Ml ∅ b,λY S z D=>?_⟩;exact⟨Y,rfl,(x.trans d).trans z,_,D,o.mul _ mg _ b⟩
   ·rintro J I ⟨r,R,v,rfl,x,e,b⟩;subst X;ext;refine⟨dvs _ _ ∅ ∅,∅,ite2 (λ_=>?_) (λ_=>G _ _ _ _ x e b)⟩;exact Mh (fsq ∅ b) e λp O d g=>G _ _ _ _ (x.trans d) g (Mi ∅ b)
  ext;refine ite2 (λh=>?_) (λ_=>C _ _ _ y N W);have es:f=1:=by simpa using h
  subst es;have a3:=fms c 2 ∅;have a2:=fms (c.fdiv 2) 2 ∅;refine⟨∅,vK ∅,by show 2<=sizeLine;decide,λm i=>⟨dvs _ _ ∅ ∅,∅,vK ∅,by show 2<=sizeLine;decide,λn l=>⟨by show 2<=sizeLine;decide,λp j=>?_⟩⟩⟩;obtain⟨d,g⟩:=Ed i rfl l rfl j;generalize upd (upd (upd U m (.lst [.int (1-2*c.fmod 2),.int 0])) n (.lst [.int 0,.int (1-2*(c.fdiv 2).fmod 2)])) p (.lst [.ref m,.ref n])=O at d g ⊢;have F:[[1-2*c.fmod 2,0],[0,1-2*(c.fdiv 2).fmod 2]]∈pgL 0:=Zs ⋯ ⋯;refine⟨dvs _ _ ∅ ∅,∅,ite2 (λ_=>?_) (λ_=>C _ _ _ (y.trans d) g F)⟩;exact Mh (fsq ∅ F) g λp S z D=>C _ _ _ ((y.trans d).trans z) D (Mi ∅ F)
theorem ok_d(T:Txt K mg t):FnOk P w K mg base CX0 1 t.a_d t.d_d pj' sp_d:=by
 apply T.F_d.ok sc_d
 ·obtain⟨a,b,rfl,k⟩:=h;refine⟨_,(nF (nP (i:=0) sc_d.nd rfl (Or.inl rfl) (lA dB rfl T.z_abs (nofun) (nD (pq 0) nE)))
   (nF (nP (i:=1) sc_d.nd rfl (Or.inl rfl) (lA dB rfl T.z_abs (nofun) (nD (pq 1) nE)))
   (nF (eX yJ (mC Ap (pq 1) nI (mB _))
   (nJ (Oj (i:=0) (j:=1) rfl sc_d.nd rfl rfl ∅ rfl rfl (nD (pq 1) (nD (nH mH (pq 0) (pq 1)) nE)) rfl)))
   (nJ (nX (pq 0)))))),?_⟩
  show tSeq _ _ _ [some (.int a),some (.int b)] H;ext;refine⟨λm f c=>∃g l,f=[some (.int g),some (.int l)]/\c=H/\0<=g/\0<=l/\Int.gcd g l=Int.gcd a b/\m=l.toNat,
   ⟨_,_,_,rfl,rfl,aK a,aK b,Jm a b,rfl⟩,?_⟩
  rintro m f c ⟨g,l,rfl,rfl,i,hl,e,rfl⟩;ext
  by_cases z:0<l
  ·rw[zK z];refine iteT ⟨λd H'=>d=[some (.int l),some (.int (g.fmod l))]/\H'=c,?_,⋯,rfl,rfl⟩;rintro d H' ⟨rfl,rfl⟩;have l1:=qJ g z;have l2:=sQ g z;exact⟨(g.fmod l).toNat,⋯,_,_,rfl,rfl,hl,l2,by rw[Jn];exact e,rfl⟩
  ·rw[zI z];refine iteF ?_;rw[Jl e i ⋯];exact k
theorem Zr{u:Int}{ns:LI'}(a:0<u):gl u ns=cs u ns:=by
 unfold cs;rw[zD ⋯]
theorem Zq{u:Int}{ns:LI'}(b:0<u)(a:kD u)(x:Int):iS x (cs u ns):=by
 have h:=iM ns (show u≠0 by omega);exact⟨h,Di (Dh a ⋯ (kW (gl_u u ns))) h⟩
def sp_g(K:Frag):Sp:=λvs H Q _=>E5 λ(so c o:Int)(n m:Nat)=>A3 (vs=[.int so,.int c,.int o,.int n,.int m]) (jW n m) (∀r H' x,Same H H'->DdAt K H' r x->Mkr (famS so) [] 1 x->Q (.ref r) H')
def sp_k(K:Frag)(t:Adr):Sp:=λvs H Q _=>E4 λ(a:Addr)(ps:LA)(ms:List Dd)(G:Dd->Prop)=>A7 (vs=[.ref a]) (H a=some (.lst (ps.map V.ref))) (Paired (DdS K H) ps ms) (Amb 2 G) (MsOk 2 G ms) ((200<(tab 2 (ms.map nO) 201).length->∀H',Same H H'->Q .non H')) (∀g srt H',Same H H'->GrpF K t H' g 2 ms srt->Told 2 (ms.map nO) srt->Q (.ref g) H')
theorem Zp(a b:Int){u:Int}(c:0<u):gcdI (gcdI a b) u=cs u [a,b]:=by
 rw[←Zr c];unfold gl;simp only[List.foldl_cons,List.foldl_nil];unfold gcdI absI;rw[zD ⋯,Int.gcd_comm (↑(Int.gcd a b)) u,←Int.gcd_assoc]
theorem Zo{R:LM}(a:Sq 2 R):cjM 2 (chP 2 []) (chQ 2 []) R=R:=by
 unfold cjM chP chQ;rw[(jU (.inl rfl) a).1,(jU (.inl rfl) a).2]
theorem ok_g(T:Txt K mg t):FnOk P w K mg base CX0 3 t.a_g t.d_g pa' (sp_g K):=by
 have l:=@ok_d P w K mg base t T;have Y:=@ok_q P w K mg base t T;apply T.F_g.ok sc_g
 ·obtain⟨b,c,o,n,m,rfl,⟨b0,b1,b4,a9⟩,O⟩:=h;refine⟨_,(nF (nP (i:=5) sc_g.nd rfl (Or.inl rfl) (nW Y hr.mo T.F_q (nD (pq 0) (nD (pq 1) nE))))
   (nF (nP (i:=6) sc_g.nd rfl (Or.inl rfl) (nH mK (pq 3) (pq 4)))
   (nF (nP (i:=7) sc_g.nd rfl (Or.inl rfl) (mS (nD (nH mK (nH mH (pq 2) (pq 3)) (pq 4)) (nD (nH mK (nH mH (nH lD (pq 2) (pq 3)) (pq 4)) (pq 3)) nE))))
   (nF (mF (mC jC (nH mH (nH lD (pq 1) nI) nI) nI (mB _))
   (nJ (nP (i:=6) sc_g.nd rfl (Or.inl rfl) (nH mK (pq 6) (nH kF nI (nH mH (pq 2) nI)))))
   mE)
   (nF (nP (i:=8) sc_g.nd rfl (Or.inl rfl) (nW l hr.mo T.F_d (nD (nW l hr.mo T.F_d (nD (nU (pq 7)) (nD (nU (pq 7)) nE))) (nD (pq 6) nE))))
   (nJ (nX (lI (nD (jA gF rfl T.z_tuple (nofun) (nD (kB (sc:=nM aI) (N:=N_g) (fr:=[]) (te:=(tCB (dM K) (mG (tVar 0) tNil))) rfl rfl (nofun) rfl (nofun) (lH (pq 5)) (λ_ _ _ b7=>(jA gF rfl T.z_tuple (nofun) (nD (pv 0) nE)))) nE)) (nD (lI (nD (nH lD (nU (pq 7)) (pq 8)) (nD (nH lD (nU (pq 7)) (pq 8)) nE))) (nD (nH lD (pq 6) (pq 8)) nE))))))))))),?_⟩
  show tSeq _ _ _ [some (.int b),some (.int c),some (.int o),some (.int n),some (.int m),none,none,none,none] H;right;refine⟨b,c,rfl,λr u R a3 Z g=>?_⟩;left;refine⟨vK (nA.mpr ⋯),?_⟩;left;have V:=fms o n ⋯;have S:=fms (o.fdiv n) m ⋯;refine⟨⋯,mulS ⋯,dvs _ _ ⋯ ⋯,⋯,mulS ⋯,by show 2<=sizeLine;decide,λp M=>?_⟩;have b2:0<=o.fmod n*m/\o.fmod n*m<=6*6:=⟨oB V.1 ⋯,vJ ⋯ ⋯ ⋯ ⋯⟩;have b3:0<=(o.fdiv n).fmod m*n/\(o.fdiv n).fmod m*n<=6*6:=⟨oB S.1 ⋯,vJ ⋯ ⋯ ⋯ ⋯⟩;have D:0<(n:Int)*m:=zY ⋯ ⋯;have a6:(n:Int)*m<=6*6:=vJ ⋯ ⋯ ⋯ ⋯;generalize o.fmod n*m=a0 at*
  generalize (o.fdiv n).fmod m*n=a at*;generalize (n:Int)*m=U at*
  have x:=Same.new (o:=.lst [.int a0,.int a]) M;have ep:(upd u p (.lst [.int a0,.int a])) p=some (.lst [.int a0,.int a]):=nK;have a8:=Z.up x;have X:=a3.trans x;generalize upd u p (.lst [.int a0,.int a])=G at*
  subst e1;refine st λN1 e1=>?_;have C:∀U:Int,0<U->U<=200->N1 [some (.int b),some (.int c),some (.int o),some (.int n),some (.int m),some (.ref r),some (.int U),some (.ref p),none] G:=by
   intro U i N;left;refine⟨false,p,_,_,_,rfl,rfl,SqB.lst ep,rfl,false,p,_,_,_,rfl,rfl,SqB.lst ep,rfl,_,_,rfl,_,_,rfl,?_⟩;rw[Zp _ _ i];have a5:kD U:=by
    unfold kD;exact wC (show _<=200 by omega) (nofun)
   have j:=Zq (ns:=[a0,a]) i a5;symm;exfalso;have L:=a8.b (K:=K);obtain⟨xs,a1,_⟩:=L.walk;refine⟨false,⟨_,a1⟩,λl1 a7=>?_⟩;subst eB;have b8:R.length<=100:=by rw[(fsq (fs2 b) g).1];decide
   refine Jc L ⋯ a7 λJ zs W d e=>?_;refine⟨l1,_,rfl,.inl ⟨SqL.of d,λl2 I=>?_⟩⟩;have f:Same G (upd J l2 (.tup zs)):=W.trans (Same.new I);replace e:=e l2 I;generalize upd J l2 (.tup zs)=b5 at f e;have F:=f _ _ ep;refine⟨false,p,_,_,_,rfl,rfl,SqB.lst F,rfl,_,_,rfl,rfl,j a0,false,p,_,_,_,rfl,rfl,SqB.lst F,rfl,_,_,rfl,rfl,j a,by show 2<=sizeLine;decide,λv a2=>⟨j U,by show 3<=sizeLine;decide,λq a4=>?_⟩⟩;have y:=Same.new (o:=.tup [.int (a0.fdiv (cs U [a0,a])),.int (a.fdiv (cs U [a0,a]))]) a2;have k:=Same.new (o:=.tup [.ref l2,.ref v,.int (U.fdiv (cs U [a0,a]))]) a4;refine O q _ (R,redT U [a0,a],redU U [a0,a]) (((X.trans f).trans y).trans k) ⟨l2,v,nK,(e.up y).up k,k _ _ nK⟩ ⟨R,g,[a0,a],U,?_,?_,i,N,?_⟩
   ·rw[fd2 (fs2 b)];rfl
   ·intro z d;have:z.natAbs<=36:=by
     rcases xC.mp d with rfl|d
     ·omega
     ·rw[oQ.mp d];omega
    exact wC this (nofun)
   ·rw[fd2 (fs2 b),Zo (fsq (fs2 b) g),qI]
  ext;have b6:=fms o 3 ∅;refine⟨dvs _ _ ∅ ∅,∅,ite2 (λ_=>⟨∅,mulS ⋯,C _ (zY D ⋯) ?_⟩) (λ_=>C _ D ⋯)⟩;exact Int.le_trans (vJ (c:=6*6) (d:=4) a6 ⋯ ⋯ ⋯) ∅
theorem ok_k(T:Txt K mg t):FnOk P w K mg base CX0 14 t.a_k t.d_k ["_law_makers"] (sp_k K t):=by
 have j:=@ok_0 P w K mg base t T;apply T.F_k.ok sc_k
 ·obtain⟨a,ps,ms,G,rfl,f,i,A,e,k,l⟩:=h;refine⟨_,(nF (nP (i:=1) sc_k.nd rfl (Or.inl rfl) gR)
   (nF (Sl rfl rfl rfl rfl T.m_14 (λ_ _ _ c =>
   (nJ (nP (i:=1) sc_k.nd rfl (Or.inl rfl) (Vf (C:=t.a_l) (T.mk_l) j hr.mo rfl T.m_l T.bd_Group___init__ (dvs:=[.int 200]) (.cons ⟨_,rfl⟩ .nil) c (nD nI (nD (pq 0) nE)))))) (λ_ =>
   (nJ (nP (i:=1) sc_k.nd rfl (Or.inl rfl) gR))))
   (nJ (nX (pq 1))))),?_⟩
  show tSeq _ _ _ [some (.ref a),none] H;ext;unfold Hl;simp only[Ju];ext;intro x n nx m ne;obtain⟨d,e1⟩:=My (C:=t.a_l) nx m ne;refine Mz (d:=2) (most:=200) A e e1 d (SqB.lst f) i ∅ ∅ nx (λhl H' b=>?_) λhl srt H' b g o=>?_
  ·exact⟨T.h_e,k hl H' b⟩
  ·exact⟨rfl,l x srt H' b g o⟩
abbrev Seat:=Int×Int
def OnP(x:Dd)(n m:Int)(s:Seat):Prop:=¬ offP x.1 x.2.1 x.2.2 n m s.1 s.2
def rc(x:Dd)(n m:Int)(s:Seat):Seat:=(rch0 x.1 x.2.1 x.2.2 n m s.1 s.2,rch1 x.1 x.2.1 x.2.2 n m s.1 s.2)
def InS(n m:Int)(s:Seat):Prop:=0<=s.1/\s.1<n/\0<=s.2/\s.2<m
theorem aX{x:Dd}{n m:Int}(b:0<n)(a:0<m){s:Seat}:InS n m (rc x n m s):=⟨(fms _ _ b).1,(fms _ _ b).2,(fms _ _ a).1,(fms _ _ a).2⟩
theorem Zn{M:LM}{ts ns:LI'}{u v n m i j:Int}(g:0<u)(l:0<v)(f:0<n)(c:0<m)(h:∀k<2,ts.getD k 0*v=ns.getD k 0*u):
  (offP M ts u n m i j↔offP M ns v n m i j)/\rch0 M ts u n m i j=rch0 M ns v n m i j/\rch1 M ts u n m i j=rch1 M ns v n m i j:=by
 have d:∀k<2,far M ts u n m i j k*v=far M ns v n m i j k*u:=λk q=>by
  have:=h k q;unfold far;generalize (M.getD k []).getD 0 0*i*m+(M.getD k []).getD 1 0*j*n=X;generalize ts.getD k 0=a at*
  generalize ns.getD k 0=b at*;have e:a*n*m*v=b*n*m*u:=by
   rw[show a*n*m*v=a*v*(n*m) by grind,this];grind
  grind
 obtain⟨p,o⟩:=eV (A:=far M ts u n m i j 0) (B:=m*u) (C:=far M ns v n m i j 0) (D:=m*v) (zY c g) (zY c l) (by have:=d 0 ∅;grind);obtain⟨b1,b2⟩:=eV (A:=far M ts u n m i j 1) (B:=n*u) (C:=far M ns v n m i j 1) (D:=n*v) (zY f g) (zY f l) (by have:=d 1 ∅;grind);unfold offP rch0 rch1;rw[p,b1,qH,qH,qH,qH,o,b2];exact⟨oE,rfl,rfl⟩
theorem Zm{a b c e g l u p q r s w0 w1 v n m i j f d:Int}(k:Nat)(C:k<2)(y:far [[a,b],[c,e]] [g,l] u n m i j 0=m*u*f)(z:far [[a,b],[c,e]] [g,l] u n m i j 1=n*u*d):
  far (mulM 2 [[p,q],[r,s]] [[a,b],[c,e]]) [(p*g+q*l)*v+w0*u,(r*g+s*l)*v+w1*u] (v*u) n m i j k=u*far [[p,q],[r,s]] [w0,w1] v n m f d k:=by
 rw[aW];have x:(a*i*m+b*j*n)*u+g*n*m=m*u*f:=y;have o:(c*i*m+e*j*n)*u+l*n*m=n*u*d:=z;rcases(show k=0\/k=1 by omega) with rfl|rfl
 ·show((p*a+q*c)*i*m+(p*b+q*e)*j*n)*(v*u)+((p*g+q*l)*v+w0*u)*n*m=u*((p*f*m+q*d*n)*v+w0*n*m);have:u*((p*f*m+q*d*n)*v+w0*n*m)=v*(p*(m*u*f)+q*(n*u*d))+w0*u*n*m:=by grind
  rw[this,←x,←o];grind
 ·show((r*a+s*c)*i*m+(r*b+s*e)*j*n)*(v*u)+((r*g+s*l)*v+w1*u)*n*m=u*((r*f*m+s*d*n)*v+w1*n*m);have:u*((r*f*m+s*d*n)*v+w1*n*m)=v*(r*(m*u*f)+s*(n*u*d))+w1*u*n*m:=by grind
  rw[this,←x,←o];grind
theorem Zl{M:LM}{ts:LI'}{u n m i j a b:Int}(l:0<u)(g:0<n)(d:0<m):
  (offP M ts u n m (i-a*n) (j-b*m)↔offP M ts u n m i j)/\rch0 M ts u n m (i-a*n) (j-b*m)=rch0 M ts u n m i j/\rch1 M ts u n m (i-a*n) (j-b*m)=rch1 M ts u n m i j:=by
 have e:∀k,far M ts u n m (i-a*n) (j-b*m) k=far M ts u n m i j k-((M.getD k []).getD 0 0*a+(M.getD k []).getD 1 0*b)*(n*m*u):=λk=>by
  unfold far;generalize (M.getD k []).getD 0 0=x;generalize (M.getD k []).getD 1 0=y;grind
 have p:=zY d l;have o:=zY g l;unfold offP rch0 rch1;rw[e 0,e 1];generalize (M.getD 0 []).getD 0 0*a+(M.getD 0 []).getD 1 0*b=f;generalize (M.getD 1 []).getD 0 0*a+(M.getD 1 []).getD 1 0*b=c;rw[show f*(n*m*u)=(f*n)*(m*u) by grind,show c*(n*m*u)=(c*m)*(n*u) by grind,gO p,gO o,aV p,aV o,gO g,gO d];exact⟨oE,rfl,rfl⟩
theorem Mg{x y:Dd}{n m:Int}(Y:Sq 2 x.1)(a0:Sq 2 y.1)(lx:x.2.1.length=2)(b4:y.2.1.length=2)(c0:0<x.2.2)(Z:0<y.2.2)(G:0<n)(D:0<m){z:Seat}(b0:OnP x n m z):
  (OnP (nR 2 x y) n m z↔OnP y n m (rc x n m z))/\rc (nR 2 x y) n m z=rc y n m (rc x n m z):=by
 obtain⟨M,ts,u⟩:=x;obtain⟨N,c5,v⟩:=y;obtain⟨a,b,c,e,rfl⟩:=sq2 Y;obtain⟨p,q,r,s,rfl⟩:=sq2 a0;obtain⟨d,f,rfl⟩:=len2 lx;obtain⟨w0,w1,rfl⟩:=len2 b4;obtain⟨i,j⟩:=z;have L:0<u:=c0;have J:0<v:=Z;have b3:¬ offP [[a,b],[c,e]] [d,f] u n m i j:=b0;have c6:=zY D L;have c7:=zY G L;obtain⟨a9,c1⟩:(far [[a,b],[c,e]] [d,f] u n m i j 0).fmod (m*u)=0/\(far [[a,b],[c,e]] [d,f] u n m i j 1).fmod (n*u)=0:=by
  unfold offP at b3;omega
 have a3:far [[a,b],[c,e]] [d,f] u n m i j 0=m*u*(far [[a,b],[c,e]] [d,f] u n m i j 0).fdiv (m*u):=by
  have:=Int.mul_fdiv_add_fmod (far [[a,b],[c,e]] [d,f] u n m i j 0) (m*u);rw[a9]at this;omega
 have a4:far [[a,b],[c,e]] [d,f] u n m i j 1=n*u*(far [[a,b],[c,e]] [d,f] u n m i j 1).fdiv (n*u):=by
  have:=Int.mul_fdiv_add_fmod (far [[a,b],[c,e]] [d,f] u n m i j 1) (n*u);rw[c1]at this;omega
 have a1:rc (([[a,b],[c,e]],[d,f],u):Dd) n m (i,j)=(((far [[a,b],[c,e]] [d,f] u n m i j 0).fdiv (m*u)).fmod n,((far [[a,b],[c,e]] [d,f] u n m i j 1).fdiv (n*u)).fmod m):=rfl;rw[a1];generalize (far [[a,b],[c,e]] [d,f] u n m i j 0).fdiv (m*u)=o at*
 generalize (far [[a,b],[c,e]] [d,f] u n m i j 1).fdiv (n*u)=C at*;have F:0<v*u:=zY J L;have R:=λk O=>Zm (p:=p) (q:=q) (r:=r) (s:=s) (w0:=w0) (w1:=w1) (v:=v) k O a3 a4;obtain⟨c2,X⟩:=eV (A:=far (mulM 2 [[p,q],[r,s]] [[a,b],[c,e]]) [(p*d+q*f)*v+w0*u,(r*d+s*f)*v+w1*u] (v*u) n m i j 0) (B:=m*(v*u)) (C:=far [[p,q],[r,s]] [w0,w1] v n m o C 0) (D:=m*v) (zY D F) (zY D J) (by rw[R 0 ∅];grind);obtain⟨b1,b2⟩:=eV (A:=far (mulM 2 [[p,q],[r,s]] [[a,b],[c,e]]) [(p*d+q*f)*v+w0*u,(r*d+s*f)*v+w1*u] (v*u) n m i j 1) (B:=n*(v*u)) (C:=far [[p,q],[r,s]] [w0,w1] v n m o C 1) (D:=n*v) (zY G F) (zY G J) (by rw[R 1 ∅];grind);have b7:movT [[p,q],[r,s]] [w0,w1] v [d,f] u=[(p*d+q*f)*v+w0*u,(r*d+s*f)*v+w1*u]:=by
  simp[movT,dotI]
 have c3:nR 2 ([[a,b],[c,e]],[d,f],u) ([[p,q],[r,s]],[w0,w1],v)=(mulM 2 [[p,q],[r,s]] [[a,b],[c,e]],(redT (v*u) [(p*d+q*f)*v+w0*u,(r*d+s*f)*v+w1*u]).map (λx=>x.fmod (redU (v*u) [(p*d+q*f)*v+w0*u,(r*d+s*f)*v+w1*u])),redU (v*u) [(p*d+q*f)*v+w0*u,(r*d+s*f)*v+w1*u]):=by
  unfold nR behD nO lK;simp only[b7]
 rw[c3];generalize (p*d+q*f)*v+w0*u=l at*
 generalize (r*d+s*f)*v+w1*u=g at*;generalize hMM:mulM 2 [[p,q],[r,s]] [[a,b],[c,e]]=I at*
 have V:0<redU (v*u) [l,g]:=fJ _ (xU F);obtain⟨c4,b6,a8⟩:=Eh (M:=I) (ts:=redT (v*u) [l,g]) (i:=i) (j:=j) (by unfold redT;rfl) V G D;obtain⟨a2,a5,b8⟩:=Zn (M:=I) (ts:=redT (v*u) [l,g]) (ns:=[l,g]) (i:=i) (j:=j) V F G D (λk O=>by
  rcases(show k=0\/k=1 by omega) with rfl|rfl
  ·exact(redX (xU F) (t:=l) (ns:=[l,g]) (by simp)).symm
  ·exact(redX (xU F) (t:=g) (ns:=[l,g]) (by simp)).symm)
 obtain⟨S,T,U⟩:=Zl (M:=[[p,q],[r,s]]) (ts:=[w0,w1]) (i:=o) (j:=C) (a:=o.fdiv n) (b:=C.fdiv m) J G D;have a7:o-o.fdiv n*n=o.fmod n:=by rw[rO,xJ]
 have b5:C-C.fdiv m*m=C.fmod m:=by rw[rO,xJ]
 rw[a7,b5]at S T U;have a6:offP I [l,g] (v*u) n m i j↔offP [[p,q],[r,s]] [w0,w1] v n m o C:=by
  unfold offP;rw[qH,qH,qH,qH,X,b2]
 have b9:rch0 I [l,g] (v*u) n m i j=rch0 [[p,q],[r,s]] [w0,w1] v n m o C:=by unfold rch0;rw[c2]
 have W:rch1 I [l,g] (v*u) n m i j=rch1 [[p,q],[r,s]] [w0,w1] v n m o C:=by unfold rch1;rw[b1]
 refine⟨?_,?_⟩
 ·show(¬ offP _ _ _ _ _ _ _) ↔ ¬ offP _ _ _ _ _ _ _;rw[c4,a2,a6,←S]
 ·show(rch0 _ _ _ _ _ _ _,rch1 _ _ _ _ _ _ _)=(rch0 _ _ _ _ _ _ _,rch1 _ _ _ _ _ _ _);rw[b6,a8,a5,b8,b9,W,←T,←U]
theorem cJ{n m:Int}(o:0<n)(l:0<m){z:Seat}(f:InS n m z):OnP (mD 2) n m z/\rc (mD 2) n m z=z:=by
 obtain⟨i,j⟩:=z;obtain⟨g,b,e,c⟩:=f;have a:far (idM 2) [0,0] 1 n m i j 0=i*(m*1):=by
  show((1:Int)*i*m+0*j*n)*1+0*n*m=_;grind
 have e1:far (idM 2) [0,0] 1 n m i j 1=j*(n*1):=by
  show((0:Int)*i*m+1*j*n)*1+0*n*m=_;grind
 have k:(i*(m*1)).fmod (m*1)=0:=Int.fmod_eq_zero_of_dvd ⟨i,xJ _ _⟩;have d:(j*(n*1)).fmod (n*1)=0:=Int.fmod_eq_zero_of_dvd ⟨j,xJ _ _⟩;have es:mD 2=(idM 2,[0,0],1):=rfl;rw[es];refine⟨λh=>?_,?_⟩
 ·have h':(far (idM 2) [0,0] 1 n m i j 0).fmod (m*1)≠0\/(far (idM 2) [0,0] 1 n m i j 1).fmod (n*1)≠0:=h;rw[a,e1,k,d]at h';simp at h'
 ·show(((far (idM 2) [0,0] 1 n m i j 0).fdiv (m*1)).fmod n,((far (idM 2) [0,0] 1 n m i j 1).fdiv (n*1)).fmod m)=(i,j);rw[a,e1,qC _ ⋯,qC _ ⋯,Int.fmod_eq_of_lt g b,Int.fmod_eq_of_lt e c]
theorem Mf{x:Dd}{n m:Int}(lx:x.2.1.length=2)(c:0<x.2.2)(d:0<n)(b:0<m){z:Seat}:(OnP (nO x) n m z↔OnP x n m z)/\rc (nO x) n m z=rc x n m z:=by
 obtain⟨f,e,a⟩:=Eh (M:=x.1) (ts:=x.2.1) (i:=z.1) (j:=z.2) lx c d b;refine⟨not_congr f,?_⟩;show(rch0 _ _ _ _ _ _ _,rch1 _ _ _ _ _ _ _)=(rch0 _ _ _ _ _ _ _,rch1 _ _ _ _ _ _ _);unfold nO lK;rw[e,a]
structure OnT(n m:Int)(T ss:List Dd):Prop where
 n0:0<n
 m0:0<m
 g:Grp 2 T
 f:∀x∈T,Sq 2 x.1/\x.2.1.length=2/\0<x.2.2
 on:∀x∈T,∀z,InS n m z->OnP x n m z
 s:∀k∈ss,k∈T
 t:T ⊆ (tab 2 ss 201).map (·.1)
theorem Zk{G:Dd->Prop}{ss:List Dd}{n m:Int}(A:Amb 2 G)(f:∀s∈ss,G s)(e:0<n)(b:0<m)(k:∀s∈ss,∀z,InS n m z->OnP s n m z):∀y∈tab 2 ss 201,∀z,InS n m z->OnP y.1 n m z:=λy i =>
 (cG (G:=λx=>G x/\∀z,InS n m z->OnP x n m z) ⟨A.one,λz d=>(cJ e b d).1⟩ (λx j s c=>by
  obtain⟨g,o⟩:=j;have a:=A.fine x g;have fs:=A.fine s (f s c);exact⟨A.mul x s g (f s c),λz d=>(Mg a.sq fs.sq a.len fs.len a.pos fs.pos e b (o z d)).1.mpr (k s c _ (aX e b))⟩) y i).2
section
variable {n m:Int} {T ss:List Dd}
def orb(T:List Dd)(n m:Int)(s:Seat):List Seat:=T.map λx=>rc x n m s
theorem jQ{s t:Seat}:t∈orb T n m s ↔ ∃x∈T,rc x n m s=t:=oR
theorem OnT.refl(h:OnT n m T ss){s:Seat}(a:InS n m s):s∈orb T n m s:=jQ.mpr ⟨_,h.g.one,(cJ h.n0 h.m0 a).2⟩
theorem OnT.in(h:OnT n m T ss){s t:Seat}(a:t∈orb T n m s):InS n m t:=by
 obtain⟨x,_,rfl⟩:=jQ.mp a;exact aX h.n0 h.m0
theorem OnT.step(h:OnT n m T ss){s:Seat}(d:InS n m s){x y:Dd}(a:x∈T)(e:y∈T):rc (nR 2 x y) n m s=rc y n m (rc x n m s):=by
 obtain⟨g,f,b⟩:=h.f x a;obtain⟨b1,b2,c⟩:=h.f y e;exact(Mg g b1 f b2 b c h.n0 h.m0 (h.on x a s d)).2
theorem OnT.trans(h:OnT n m T ss){s t w:Seat}(e:InS n m s)(a:t∈orb T n m s)(b:w∈orb T n m t):w∈orb T n m s:=by
 obtain⟨x,d,rfl⟩:=jQ.mp a;obtain⟨y,c,rfl⟩:=jQ.mp b;exact jQ.mpr ⟨_,h.g.mul x d y c,h.step e d c⟩
theorem OnT.symm(h:OnT n m T ss){s t:Seat}(d:InS n m s)(a:t∈orb T n m s):s∈orb T n m t:=by
 obtain⟨x,c,rfl⟩:=jQ.mp a;obtain⟨y,b,e,_⟩:=h.g.inv x c;refine jQ.mpr ⟨y,b,?_⟩;rw[←h.step d c b,e];exact(cJ h.n0 h.m0 d).2
abbrev Pnt:=(Seat->Option Nat)×Nat
def lL(T:List Dd)(n m:Int)(st:Pnt)(s:Seat):Pnt:=if(st.1 s).isSome then st else(λt=>if t∈orb T n m s then some st.2 else st.1 t,st.2+1)
def mP(T:List Dd)(n m:Int)(S:List Seat):Pnt:=S.foldl (lL T n m) (λ_=>none,0)
def Inv2(T:List Dd)(n m:Int)(f:Seat->Option Nat):Prop:=∀z w,InS n m z->w∈orb T n m z->f w=f z
theorem Zj(h:OnT n m T ss){st:Pnt}{s:Seat}(e:InS n m s)(i:Inv2 T n m st.1):Inv2 T n m (lL T n m st s).1:=by
 unfold lL;split
 ·exact i
 ·intro z w d c;have f:=h.in c
  by_cases a:z∈orb T n m s
  ·show(if w∈orb T n m s then _ else _)=(if z∈orb T n m s then _ else _);rw[zE a,zE (h.trans e a c)]
  ·show(if w∈orb T n m s then _ else _)=(if z∈orb T n m s then _ else _);rw[zD a,zD (λb=>a (h.trans e b (h.symm d c)))];exact i z w d c
theorem Eb(h:OnT n m T ss):∀(S:List Seat)(st:Pnt),(∀s∈S,InS n m s)->Inv2 T n m st.1->Inv2 T n m (S.foldl (lL T n m) st).1
 |[],_,_,i=>i
 |s:: S,st,a,i=>Eb h S _ (λt b=>a t (.tail _ b)) (Zj h (a s (.head _)) i)
theorem Zi{st:Pnt}{s t:Seat}(h:(st.1 t).isSome):((lL T n m st s).1 t).isSome:=by
 unfold lL;split
 ·exact h
 ·show((if t∈orb T n m s then _ else _):Option Nat).isSome;split
  ·rfl
  ·exact h
theorem Me{t:Seat}:∀(S:List Seat)(st:Pnt),(st.1 t).isSome->((S.foldl (lL T n m) st).1 t).isSome
 |[],_,h=>h
 |s:: S,st,h=>Me S _ (Zi h)
theorem Ea{t:Seat}(b:t∈orb T n m t):∀(S:List Seat)(st:Pnt),t∈S->((S.foldl (lL T n m) st).1 t).isSome
 |[],_,a=>by cases a
 | s:: S,st,a=>by
  rcases xC.mp a with rfl|a
  ·refine Me S _ ?_;unfold lL;split
   ·assumption
   ·show((if t∈orb T n m t then _ else _):Option Nat).isSome;rw[zE b];rfl
  ·exact Ea b S _ a
structure Fl(T ss:List Dd)(n m:Int)(f0 f:Seat->Option Nat)(c:Nat)(s:Seat)(W:List Seat):Prop where
 out:∀t,t∉orb T n m s->f t=f0 t
 inn:∀t∈orb T n m s,f t=some c\/f t=none
 src:f s=some c
 wt:∀w∈W,f w=some c/\w∈orb T n m s
 cl:∀t∈orb T n m s,f t=some c->t∉W->∀k∈ss,f (rc k n m t)=some c
def put(f:Seat->Option Nat)(s:Seat)(c:Nat):Seat->Option Nat:=λt=>if t=s then some c else f t
theorem Fl.start(h:OnT n m T ss){b:Seat->Option Nat}{c:Nat}{s:Seat}(d:InS n m s)(i:Inv2 T n m b)(e:b s=none):Fl T ss n m b (put b s c) c s [s]:=by
 have g:=h.refl d;refine⟨λt a=>zD λ(z:t=s)=>a (z ▸ g),λt a=>?_,zE rfl,λw j=>?_,λt a f k=>?_⟩
 ·unfold put;split
  ·exact .inl rfl
  ·refine .inr ?_;rw[i s t d a];exact e
 ·rw[oQ.mp j];exact⟨zE rfl,g⟩
 ·refine False.elim ?_;unfold put at f;rw[zD (λ(z:t=s)=>k (z ▸ oQ.mpr rfl)),i s t d a,e]at f;cases f
structure FlI(T ss:List Dd)(n m:Int)(f0 f:Seat->Option Nat)(c:Nat)(s z:Seat)(W:List Seat)(i:Nat):Prop where
 out:∀t,t∉orb T n m s->f t=f0 t
 inn:∀t∈orb T n m s,f t=some c\/f t=none
 src:f s=some c
 wt:∀w∈W,f w=some c/\w∈orb T n m s
 zz:f z=some c/\z∈orb T n m s
 cl:∀t∈orb T n m s,f t=some c->t∉W->t≠z->∀k∈ss,f (rc k n m t)=some c
 pt:∀k∈ss.take i,f (rc k n m z)=some c
theorem Fl.pop{b f:Seat->Option Nat}{c:Nat}{s z:Seat}{d:List Seat}(h:Fl T ss n m b f c s (d++[z])):FlI T ss n m b f c s z d 0 :=
 ⟨h.out,h.inn,h.src,λw e=>h.wt w (xE _ e),h.wt z (by simp),λt l i j g k a=>h.cl t l i (λq=>by
  rcases oW.mp q with q|q
  ·exact j q
  ·exact g (oQ.mp q)) k a,λk a=>by simp at a⟩
theorem FlI.done{a f:Seat->Option Nat}{c:Nat}{s z:Seat}{b:List Seat}(h:FlI T ss n m a f c s z b ss.length):Fl T ss n m a f c s b:=
 ⟨h.out,h.inn,h.src,h.wt,λt j g i k d=>by
  by_cases e:t=z
  ·subst e;exact h.pt k (by rw[vL];exact d)
  ·exact h.cl t j g i e k d⟩
theorem FlI.there(h:OnT n m T ss){e f:Seat->Option Nat}{c:Nat}{s z:Seat}{g:List Seat}{i:Nat}{k:Dd}(a:InS n m s)(d:FlI T ss n m e f c s z g i)(b:ss[i]?=some k):rc k n m z∈orb T n m s:=h.trans a d.zz.2 (jQ.mpr ⟨k,h.s k (zqb b),rfl⟩)
theorem FlI.had(h:OnT n m T ss){g f:Seat->Option Nat}{c:Nat}{s z:Seat}{j:List Seat}{i:Nat}{k:Dd}(l:InS n m s)(a:FlI T ss n m g f c s z j i)(b:ss[i]?=some k)(e:f (rc k n m z)≠none):FlI T ss n m g f c s z j (i+1):=by
 refine⟨a.out,a.inn,a.src,a.wt,a.zz,a.cl,λk' d=>?_⟩;rw[xY,b]at d;rcases oW.mp d with q|q
 ·exact a.pt k' q
 ·have:k'=k:=by simpa using q
  subst this;rcases a.inn _ (a.there h l b) with q|q
  ·exact q
  ·exact absurd q e
theorem FlI.add(h:OnT n m T ss){o f:Seat->Option Nat}{c:Nat}{s z:Seat}{p:List Seat}{i:Nat}{k:Dd}(x:InS n m s)(a:FlI T ss n m o f c s z p i)(l:ss[i]?=some k)(e:f (rc k n m z)=none):FlI T ss n m o (put f (rc k n m z) c) c s z (p++[rc k n m z]) (i+1):=by
 have u:=a.there h x l;generalize hy:rc k n m z=y at*
 have d:∀t,f t=some c->put f y c t=some c:=λt g=>by unfold put;split <;> first|rfl|exact g
 refine⟨λt b=>?_,λt b=>?_,d _ a.src,λw v=>?_,⟨d _ a.zz.1,a.zz.2⟩,λt b g r C k' j=>?_,λk' j=>?_⟩
 ·unfold put;rw[zD (λ(q:t=y)=>b (q ▸ u))];exact a.out t b
 ·unfold put;split
  ·exact .inl rfl
  ·exact a.inn t b
 ·rcases oW.mp v with q|q
  ·exact⟨d _ (a.wt w q).1,(a.wt w q).2⟩
  ·rw[oQ.mp q];exact⟨zE rfl,u⟩
 ·have D:t≠y:=λq=>r (by rw[q];simp);unfold put at g;rw[zD D]at g;exact d _ (a.cl t b g (λq=>r (xE _ q)) C k' j)
 ·rw[xY,l]at j;rcases oW.mp j with q|q
  ·exact d _ (a.pt k' q)
  ·have:k'=k:=by simpa using q
   rw[this,hy];exact zE rfl
theorem Fl.end(h:OnT n m T ss){i f:Seat->Option Nat}{c:Nat}{s:Seat}(g:InS n m s)(d:Fl T ss n m i f c s []):f=λt=>if t∈orb T n m s then some c else i t:=by
 have l:∀y∈tab 2 ss 201,y.1∈T/\f (rc y.1 n m s)=some c:=cG (G:=λx=>x∈T/\f (rc x n m s)=some c) ⟨h.g.one,by rw[(cJ h.n0 h.m0 g).2];exact d.src⟩ (λx b k e=>by
  refine⟨h.g.mul x b.1 k (h.s k e),?_⟩;rw[h.step g b.1 (h.s k e)];exact d.cl _ (jQ.mpr ⟨x,b.1,rfl⟩) b.2 (by simp) k e)
 refine funext λt=>?_
 by_cases a:t∈orb T n m s
 ·rw[zE a];obtain⟨x,b,rfl⟩:=jQ.mp a;obtain⟨y,j,rfl⟩:=oR.mp (h.t b);exact(l y j).2
 ·rw[zD a,d.out t a]
def free(S:List Seat)(f:Seat->Option Nat):Nat:=(S.filter λt=>(f t).isNone).length
theorem Md{f:Seat->Option Nat}{y:Seat}{c:Nat}:∀(S:List Seat),free S (put f y c)<=free S f
 |[]=>zG _
 | a:: S=>by
  have b:=Md (f:=f) (y:=y) (c:=c) S;unfold free at b ⊢;rw[rA,rA];unfold put at b ⊢
  by_cases h:a=y
  ·rw[zE h];show(List.filter _ S).length<=_;split
   ·rw[zT];omega
   ·exact b
  ·rw[zD h];split
   ·rw[zT,zT];omega
   ·exact b
theorem Mc{f:Seat->Option Nat}{y:Seat}{c:Nat}(e:f y=none):∀{S:List Seat},y∈S->free S (put f y c)+1<=free S f
 | a:: S,d=>by
  have le:=Md (f:=f) (y:=y) (c:=c) S;unfold free at le ⊢;rw[rA,rA]
  by_cases h:a=y
  ·subst h;rw[zD (show¬ (put f a c a).isNone=true by unfold put;rw[zE rfl];simp),if_pos (show(f a).isNone=true by rw[e];rfl),zT];omega
  ·have b:=Mc (c:=c) e (S:=S) (by
    rcases xC.mp d with q|q
    ·exact absurd q.symm h
    ·exact q)
   unfold free at b;have g:put f y c a=f a:=zD h;rw[g];split
   ·rw[zT,zT];omega
   ·exact b
end
def pk(s:Seat):PyData:=.tuple [.int s.1,.int s.2]
theorem Mb{s t:Seat}:pk s=pk t↔s=t:=by
 obtain⟨a,b⟩:=s;obtain⟨c,e⟩:=t;simp[pk]
theorem pk_t(s:Seat):tT 4 (pk s)=true:=rfl
def sgZ(z:Str)(c:Nat):Str:=⟨#[z.cps.toList.getD (c%z.length) 0]⟩
def GrAt(K:Frag)(H:Hp)(a:Addr)(n m:Int)(z:Str)(f:Seat->Option Nat)(L:Nat):Prop:=∃kvs,DTr K H a kvs/\kvs.length<=L/\∀s,InS n m s->vT kvs (pk s)=(f s).map λc=>V.str (sgZ z c)
def nY(n m:Nat):List Seat:=(List.range (n*m)).map λk=>(si m k,sj m k)
def offT(T:List Dd)(n m:Nat):Prop:=∃x∈T,Off x.1 x.2.1 x.2.2 n m
def sp_7(K:Frag)(t:Adr):Sp:=λvs H Q E=>E7 λ(g:Addr)(n m:Nat)(z:Str)(d:Nat)(ms:List Dd)(srt:Tb)=>A10 (vs=[.ref g,.int n,.int m,.str z]) (GrpF K t H g d ms srt) ((d=2\/d=3)) (jW n m) (1<=z.length) (z.length<=1000) (srt.length<=200) ((∀x∈srt.map (·.1),lW d x)) ((offT (srt.map (·.1)) n m->∀H',Same H H'->E (.ref t.a_b) none H')) ((¬ offT (srt.map (·.1)) n m->∀r H',Same H H'->GrAt K H' r n m z (mP (srt.map (·.1)) n m (nY n m)).1 100000->Q (.ref r) H'))
def rowZ(z:Str)(m:Nat)(f:Seat->Option Nat)(i:Nat):Str:=Txt.join ("" :Str) ((List.range m).map λ(j:Nat)=>sgZ z ((f ((i:Int),(j:Int))).getD 0))
def jH(z:Str)(n m:Nat)(f:Seat->Option Nat):List Str:=(List.range n).map (rowZ z m f)
def hJ(n m:Int)(z:Str):Prop:=(1<=n/\n<=6)/\(1<=m/\m<=6)/\kY z=true
def sp_10(K:Frag)(t:Adr):Sp:=λvs H Q E=>E7 λ(g:Addr)(n m:Int)(z:Str)(d:Nat)(ms:List Dd)(srt:Tb)=>A10 (vs=[.ref g,.int n,.int m,.str z]) (GrpF K t H g d ms srt) ((d=2\/d=3)) (z.length<=1000) (srt.length<=200) ((∀x∈srt.map (·.1),lW d x)) (mD d∈srt.map (·.1)) ((¬ hJ n m z->∀H',Same H H'->E (.ref t.a_9) none H')) ((hJ n m z->offT (srt.map (·.1)) n.toNat m.toNat->∀H',Same H H'->E (.ref t.a_b) none H')) ((hJ n m z->¬ offT (srt.map (·.1)) n.toNat m.toNat->∀r H',Same H H'->H' r=some (.tup ((jH z n.toNat m.toNat (mP (srt.map (·.1)) n m (nY n.toNat m.toNat)).1).map V.str))->Q (.ref r) H'))
theorem Zh:100001<sizeLine:=∅
theorem Ma{k:PyData}{v:V}{k':PyData}:∀{kvs:List (PyData×V)},vT (kvs.map λa=>if a.1=k then(a.1,v) else a) k'=if k'=k then(if(vT kvs k').isSome then some v else none) else vT kvs k'
 |[]=>by simp[vT]
 | p:: r=>by
  have b:=Ma (k:=k) (v:=v) (k':=k') (kvs:=r);rw[zM]
  by_cases e:p.1=k'
  ·rw[iI e]
   by_cases h:k'=k
   ·rw[zE h,zE (e.trans h),iI (show((p.1,v):PyData×V).1=k' from e)];rfl
   ·rw[zD h,zD (λq=>h (e.symm.trans q)),iI e]
  ·have c:¬ (if p.1=k then(p.1,v) else p).1=k':=by split <;> exact e
   rw[iJ c,iJ e,b]
theorem Nz{k:PyData}{v:V}{k':PyData}:∀{kvs:List (PyData×V)},vT (kvs++[(k,v)]) k'=if(vT kvs k').isSome then vT kvs k' else if k'=k then some v else none
 |[]=>by
  rw[rR]
  by_cases h:k'=k
  ·rw[iI h.symm,zD (by simp[vT]),zE h]
  ·rw[iJ (λq=>h q.symm),zD (by simp[vT]),zD h];simp[vT]
 |p:: r=>by
  have a:=Nz (k:=k) (v:=v) (k':=k') (kvs:=r);rw[List.cons_append]
  by_cases e:p.1=k'
  ·rw[iI e,iI e];rfl
  ·rw[iJ e,iJ e,a]
theorem Zg{kvs:List (PyData×V)}{k k':PyData}{v:V}:vT (pT kvs k v) k'=if k'=k then some v else vT kvs k':=by
 unfold pT;split
 ·rename_i h;rw[Ma]
  by_cases e:k'=k
  ·rw[zE e,zE e,zE (by rw[e];exact h)]
  ·rw[zD e,zD e]
 ·rename_i h;rw[Nz]
  by_cases e:k'=k
  ·rw[zE e,zE e,zD (by rw[e];exact h)]
  ·rw[zD e,zD e];split
   ·rfl
   ·rename_i q;cases hv:vT kvs k' with
    |none=>rfl
    |some w=>rw[hv]at q;simp at q
theorem GrAt.up{K:Frag}{H H':Hp}{a:Addr}{n m:Int}{z:Str}{f:Seat->Option Nat}{L:Nat}(h:GrAt K H a n m z f L)(s:Same H H'):GrAt K H' a n m z f L:=let ⟨kvs,d,l,v⟩:=h;⟨kvs,d.up s,l,v⟩
theorem GrAt.le{K:Frag}{H:Hp}{a:Addr}{n m:Int}{z:Str}{f:Seat->Option Nat}{L b:Nat}(h:GrAt K H a n m z f L)(l:L<=b):GrAt K H a n m z f b:=let ⟨kvs,d,l1,v⟩:=h;⟨kvs,d,yH l1 l,v⟩
theorem GrAt.ne{K:Frag}{H:Hp}{a b:Addr}{n m:Int}{z:Str}{f:Seat->Option Nat}{L:Nat}(h:GrAt K H a n m z f L){xs:List V}(e:H b=some (.lst xs)\/H b=some (.tup xs)):b≠a:=λw=>by
 obtain⟨kvs,d,_⟩:=h;obtain⟨ys,c,_⟩:=d.ex;rw[w,c]at e;rcases e with e|e <;> cases e
theorem aY{K:Frag}{H:Hp}{q:Addr}{s:Seat}(h:H q=some (.tup [.int s.1,.int s.2])):Dt K H (.ref q) (pk s):=.tup (SqT.of h) (.cons (.int _) (.cons (.int _) .nil))
theorem Fz{K:Frag}{H:Hp}{a q:Addr}{n m:Int}{z:Str}{f:Seat->Option Nat}{L c:Nat}{s:Seat}{Q:Hp->Prop}(g:GrAt K H a n m z f L)(b:H q=some (.tup [.int s.1,.int s.2]))(r:L<=100000)
  (k:∀H',(∀c o,c≠a->H c=some o->H' c=some o)->GrAt K H' a n m z (put f s c) (L+1)->Q H'):Ha K (.ref a) (.ref q) (.str (sgZ z c)) H Q:=by
 obtain⟨kvs,d,l,j⟩:=g;refine⟨a,kvs,q,pk s,rfl,rfl,d,pk_t s,aY b,wC (yH l (⋯:L<=100001)) Zh,λH' i _ d'=>k H' i ⟨_,d',yH (Iz _ _ _) ⋯,λt p=>?_⟩⟩;rw[Zg];unfold put
 by_cases e:t=s
 ·rw[zE (Mb.mpr e),zE e];rfl
 ·rw[zD (λw=>e (Mb.mp w)),zD e];exact j t p
theorem Fy{K:Frag}{H:Hp}{a q:Addr}{n m:Int}{z:Str}{f:Seat->Option Nat}{L:Nat}{s:Seat}{b:Bool}{Q:VK}(g:GrAt K H a n m z f L)(i:InS n m s)(c:H q=some (.tup [.int s.1,.int s.2]))(k:Q (.bl (if b=true then !(f s).isSome else(f s).isSome)) H):rInT K b (.ref q) (.ref a) H Q:=by
 obtain⟨kvs,d,l,e⟩:=g;refine⟨a,kvs,q,pk s,rfl,rfl,d,pk_t s,aY c,?_⟩;rw[e s i,sF];exact k
theorem Ny{K:Frag}{H:Hp}{a q:Addr}{n m:Int}{z:Str}{f:Seat->Option Nat}{L c:Nat}{s:Seat}{Q:VK}(g:GrAt K H a n m z f L)(j:InS n m s)(b:H q=some (.tup [.int s.1,.int s.2]))(e:f s=some c)(k:Q (.str (sgZ z c)) H):iW K (.ref a) (.ref q) H Q:=by
 obtain⟨kvs,d,l,i⟩:=g;exact⟨a,kvs,q,pk s,_,rfl,rfl,d,pk_t s,aY b,by rw[i s j,e];rfl,k⟩
def puts(f:Seat->Option Nat)(l:List Seat)(c:Nat):Seat->Option Nat:=l.foldl (λf s=>put f s c) f
theorem Nx{c:Nat}{t:Seat}:∀{l:List Seat}{f:Seat->Option Nat},puts f l c t=if t∈l then some c else f t
 |[],f=>by simp[puts]
 | s:: l,f=>by
  have a:=Nx (c:=c) (t:=t) (l:=l) (f:=put f s c);show puts (put f s c) l c t=_;rw[a]
  by_cases h:t∈l
  ·rw[zE h,zE (.tail _ h)]
  ·rw[zD h];unfold put
   by_cases e:t=s
   ·rw[zE e,zE (by rw[e];exact .head _)]
   ·rw[zD e,zD (λq=>by rcases xC.mp q with q|q;exact e q;exact h q)]
theorem Zf{f:Seat->Option Nat}{l:List Seat}{c:Nat}{s:Seat}:puts f (l++[s]) c=put (puts f l c) s c:=by
 unfold puts;rw[vZ];rfl
theorem Nw{T:List Dd}{n m:Int}{S:List Seat}{s:Seat}:mP T n m (S++[s])=lL T n m (mP T n m S) s:=by
 unfold mP;rw[vZ];rfl
theorem iZ.off{H:Hp}{l a:Addr}{N:Nat}{f g:Nat->Int}{zs:List V}(h:iZ H l N f g)(n:l≠a)(e:H a=some (.lst zs)):iZ (offH a H) l N f g:=by
 obtain⟨ys,i,j,c⟩:=h;refine⟨ys,by unfold offH;rw[zD n];exact i,j,λk m=>?_⟩;obtain⟨q,d,b⟩:=c k m;exact⟨q,d,by unfold offH;rw[zD (λz=>by rw[z,e]at b;cases b)];exact b⟩
theorem Fx{z:Str}{c:Nat}{H:Hp}{Q:VK}(d:1<=z.length)(b:z.length<=1000)(q:Q (.str (sgZ z c)) H):rIxS (.str z) (.int ((c:Int).fmod (z.length:Int))) H Q:=by
 have e:(c:Int).fmod (z.length:Int)=((c%z.length:Nat):Int):=by rw[yN _ ⋯];rfl
 have hl:c%z.length<z.cps.toList.length:=by
  have:z.cps.toList.length=z.length:=by simp[Str.length]
  have:=Nat.mod_lt c (show 0<z.length by omega);omega
 rw[e];refine⟨_,_,z.cps.toList[c%z.length],rfl,rfl,wA (eN ⋯),kH (by rw[zqd hl]) rfl,?_⟩;have a:sgZ z c=⟨#[z.cps.toList[c%z.length]]⟩:=by
  unfold sgZ;rw[zqc,zqd hl];rfl
 rw[←a];exact q
def WayR(a:Addr)(T:List Dd)(n m:Nat)(j:Nat)(y:V)(H:Hp):Prop:=∃q x,y=.ref q/\T[j]?=some x/\¬ Off x.1 x.2.1 x.2.2 n m/\iZ (offH a H) q (n*m) (r0K x.1 x.2.1 x.2.2 n m) (r1K x.1 x.2.1 x.2.2 n m)
theorem ok_7(T:Txt K mg t):FnOk P w K mg base (CX1 P w) 6 t.a_7 t.d_7 pi' (sp_7 K t):=by
 have g0:=@ok_1 P w K mg base t T;have g1:=@ok_15 P w K mg base t T;have d7:=@ok_4 P w K mg base t T;refine T.F_7.okX sc_7 (λvs H Q E h=>?_) (λcdv A outer s H vs Q E hr h=>?_)
 ·obtain⟨g,n,m,z,d,ms,srt,rfl,_⟩:=h;rfl
 ·have c0:=hr.units;obtain⟨g,n,m,z,d,ms,srt,rfl,e4,e5,a5,g2,g7,l2,f5,c1,a1⟩:=h;refine⟨_,(nF (Tz (i:=4) (xs:=["member"]) (fr:=[("n",1),("m",2)]) (g:=(nS 0)) (jD (sc:=nM s_7) (N:=N_7) rfl rfl (nofun)) rfl Hg sc_7.nd rfl rfl (lH (Fd (C:=t.a_l) (pq 0) T.cl_l T.me_1 g0 hr.mo T.b_1 .nil cR)) (λ_ _ _ _ c4=>(jM (N:=["member","n","m"]) (i:=0) c4 rfl (nofun))) (λ_ _ _ _ c4 h9=>(jL (Hd d7 hr.mo rfl T.F_4.m T.F_4.kp T.F_4.b .nil h9 (nD (pq 0) (nD (pq 1) (nD (pq 2) nE)))))))
   (nF (nP (i:=5) sc_7.nd rfl (Or.inl rfl) Iw)
   (nF (nP (i:=6) sc_7.nd rfl (Or.inl rfl) nI)
   (nF (PS.nox (lN yJ rfl (dJ rfl T.z_enumerate (nD (nW g1 hr.mo T.F_15 (nD (pq 1) (nD (pq 2) nE))) nE)) (jY rfl (mY (mM (i:=7) sc_7.nd rfl (Or.inl rfl)) (mY (mM (i:=8) sc_7.nd rfl (Or.inl rfl)) jR)))
   (nJ (mF (mC (Bd c0) (pq 8) (pq 5) rfl)
   (nF (PS.nox (lN yJ rfl (lH (pq 4)) (mM (i:=9) sc_7.nd rfl (Or.inl rfl))
   (nJ (gW (lC fR (pq 3) (nH mH (pq 6) (lA Aa rfl T.z_len (nofun) (nD (pq 3) nE))) (λ_ _=>rfl)) (cK (pq 5) (lC ix_B (pq 9) (pq 7) (λ_ _=>rfl)) (bN c0))))))
   (nJ (As (i:=6) sc_7.nd rfl (Or.inl rfl) nI Ar)))
   mE))))
   (nJ (nX (pq 5))))))),?_⟩
  show tSeq _ _ _ [some (.ref g),some (.int n),some (.int m),some (.str z),none,none,none,none,none,none] H;right;refine mQ λB eB=>?_;simp only[iSeq,Al];ext;refine Mw e4 λl h2 i4 d5 i8 c2 h4=>⟨false,l,rfl,⟨_,SqB.lst c2⟩,λI h1=>?_⟩;have c6:=Mx h4;have lo:h2.length=(srt.map (·.1)).length:=lV c6;have j0:(srt.map (·.1)).length<=200:=by rw[zqe];exact l2
  generalize srt.map (·.1)=TT at*;refine kM (WayR I TT n m) h1 (SqB.lst c2) (by rw[zqe];omega) (λ_ _ _ _⟨q,x,e,f6,e6,g8⟩g4=>⟨q,x,e,f6,e6,g8.up (aN g4)⟩) ?_ ?_
  ·intro j y F zs M S c7 h7 h8;obtain⟨p,ep,rfl⟩:=iY M;obtain⟨x,G,a7⟩:=jT c6 ep;subst eB;show cU _ _ _ _ [some (.ref p),some (.int n),some (.int m)] F h7;ext;refine⟨p,x.1,x.2.1,x.2.2,n,m,d,rfl,DdS.up a7 S,f5 x (zqb G),e5,a5,λoff a4 J=>c1 ⟨x,zqb G,off⟩ a4 ((d5.trans S).trans J),λnon f3 a4 J c3 a2=>?_⟩;exact h8 _ _ J ⟨f3,x,rfl,G,non,a2.off (λz=>by rw[z,c7]at c3;cases c3) (J _ _ c7)⟩
  ·intro F ys S b9 a3 c8;rw[zqe,lo]at a3;have e3:¬ offT TT n m:=λ⟨x,a7,off⟩=>by
    obtain⟨j,b7⟩:=wL a7;have f9:=(zqa b7).1;obtain⟨q,i2,_,d6,d2,_⟩:=c8 j ys[j] (by rw[zqd ⋯]);rw[b7]at d6;cases d6;exact d2 off
   replace a1:=a1 e3;clear eB B c1;subst e1;refine st λN1 e1=>?_;simp only[Bb];ext;intro a b4 g3;have J:Same F (upd F a (mV a [])):=Same.new b4;generalize upd F a (mV a [])=a4 at*
   left;subst e1;refine st λN1 e1=>lO λB eB=>?_;simp only[fU];ext;refine⟨n,m,rfl,a5,λb0 L b6 a2=>?_⟩;obtain⟨zs,a8,f8,e8⟩:=a2;obtain⟨i5,e2,h6,h3⟩:=id a5;have i1:n*m<=6*6:=yZ e2 h3;have a9:GrAt K L a n m z (mP TT n m ((nY n m).take 0)).1 (0*200):=⟨[],g3.up b6,zZ _,λs b1=>rfl⟩;have U:∀{b o},F b=some o->b≠a:=λ{b o}e w=>by rw[w,b4]at e;cases e
   have R:=J.trans b6;refine⟨false,b0,rfl,⟨_,SqB.lst a8⟩,?_⟩;have e7:b0≠a:=a9.ne (.inl a8);have c5:(nY n m).length=n*m:=by unfold nY;simp
   refine Bk (g:=gTup K 2 (lM (nS 7) (lM (nS 8) gNil))) (tb:=B) (λi C D=>∃a0 a6 u,C=[some (.ref g),some (.int n),some (.int m),some (.str z),some (.ref I),some (.ref a),some (.int (mP TT n m ((nY n m).take i)).2),a0,a6,u]/\KX a L D/\GrAt K D a n m z (mP TT n m ((nY n m).take i)).1 (i*200))
    ⟨none,none,none,rfl,λb o _ e=>e,a9⟩ (λi C D _⟨_,_,_,_,k,_⟩=>SqB.lst (k _ _ e7 a8)) ?_ ?_
   ·rintro k y p C D M ⟨a0,a6,u,rfl,k5,V⟩ g9;have N:k<n*m:=by have:=(zqa M).1;omega
    obtain⟨q,d1,b3⟩:=e8 k N;rw[M]at d1;cases d1;have f2:q≠a:=a9.ne (.inr b3);refine⟨p,[.int k,.ref q],rfl,SqT.of nK,rfl,_,[.ref q],rfl,_,[],rfl,rfl,?_⟩;have d0:=Same.new (o:=.tup [.int (k:Int),.ref q]) g9;have Y:KX a L (upd D p (.tup [.int (k:Int),.ref q])):=λb o X e=>d0 _ _ (k5 b o X e);have Z:=V.up d0;generalize upd D p (.tup [.int (k:Int),.ref q])=d9 at*
    have W:=cI (n:=n) h6 N;have b1:InS n m ((si m k,sj m k):Seat):=⟨W.1,W.2.1,W.2.2.1,W.2.2.2⟩;have g5:(nY n m)[k]?=some (si m k,sj m k):=by
     unfold nY;rw[zO,yV N];rfl
    have tk:mP TT n m ((nY n m).take (k+1))=lL TT n m (mP TT n m ((nY n m).take k)) (si m k,sj m k):=by
     rw[xY,g5];exact Nw
    rw[tk];generalize mP TT n m ((nY n m).take k)=f at*
    subst eB;show tIfS _ _ _ _ [some (.ref g),some (.int n),some (.int m),some (.str z),some (.ref I),some (.ref a),some (.int f.2),some (.int k),some (.ref q),u] d9;ext;refine Fy Z b1 (Y _ _ f2 b3) ⟨_,rfl,?_⟩;cases hf:f.1 (si m k,sj m k) with
    |some c =>
     refine iteF ?_;have ep:lL TT n m f (si m k,sj m k)=f:=by unfold lL;rw[hf];rfl
     rw[ep];exact⟨rfl,Y,Z.le ⋯⟩
    | none =>
     refine iteT ?_;refine st λi7 g6=>lO λB eB=>?_;simp only[iSeq];ext;have d4:∀{v},KX a L v->v I=some (.lst ys):=λ{v}r=>r _ _ (U b9) (R _ _ b9);refine⟨false,⟨_,SqB.lst (d4 Y)⟩,?_⟩;refine fA (g:=nS 9) (tb:=B) (λj C v=>∃u,C=[some (.ref g),some (.int n),some (.int m),some (.str z),some (.ref I),some (.ref a),some (.int f.2),some (.int k),some (.ref q),u]/\KX a L v/\GrAt K v a n m z (puts f.1 ((orb TT n m (si m k,sj m k)).take j) f.2) (k*200+j)) ⟨u,rfl,Y,by rw[List.take_zero];exact Z⟩ (λ_ _ _ _⟨_,_,r,_⟩=>SqB.lst (d4 r)) ?_ ?_
     ·rintro j y C v e0 ⟨u,rfl,r,O⟩;obtain⟨c9,x,rfl,G,d2,f0⟩:=c8 j y e0;obtain⟨i9,b8,i6,h0⟩:=f0.up Ew;obtain⟨i0,f7,d3⟩:=h0 k N;have d8:=r _ _ (U b8) (R _ _ b8);have e9:=r _ _ (U d3) (R _ _ d3);have f9:j<TT.length:=(zqa G).1;have f4:(orb TT n m (si m k,sj m k)).take (j+1)=(orb TT n m (si m k,sj m k)).take j++[rc x n m (si m k,sj m k)]:=by
       rw[xY];unfold orb;rw[zO,G];rfl
      rw[f4,Zf];subst eB;show tAsg _ _ _ [some (.ref g),some (.int n),some (.int m),some (.str z),some (.ref I),some (.ref a),some (.int f.2),some (.int k),some (.ref q),some (.ref c9)] v;simp only[tAsg,gSub];ext;refine⟨z,rfl,wA (eN ⋯),⋯,Fx g2 g7 ?_⟩;refine⟨false,c9,_,_,_,rfl,rfl,SqB.lst d8,kH f7 rfl,?_⟩;exact Fz (s:=rc x n m (si m k,sj m k)) O e9 ⋯ λi3 f1 h5=>⟨λb o X e=>f1 b o X (r b o X e),h5⟩
     ·rintro C v ⟨u,rfl,r,O⟩;subst g6;have b5:(orb TT n m (si m k,sj m k)).length=ys.length:=by unfold orb;rw[zqe,a3]
      rw[←b5,vL]at O;have ep:lL TT n m f (si m k,sj m k)=(puts f.1 (orb TT n m (si m k,sj m k)) f.2,f.2+1):=by
       unfold lL;rw[hf];show(_,_)=_;congr 1;refine funext λt'=>?_;exact Nx.symm
      rw[ep];simp only[tAug,ipI];ext;exact⟨⋯,r,O.le (by rw[b5,a3];omega)⟩
   ·rintro C D ⟨a0,a6,u,rfl,k5,V⟩;symm;rw[f8,←c5,vL]at V;refine a1 a D (λb o e=>?_) (V.le (by rw[c5];omega));have b2:=S _ _ (d5 _ _ e);exact k5 _ _ (U b2) (R _ _ b2)
theorem Nv{xs:List Str}{a:Str}(d:∀x∈xs,x.length<=2000)(b:xs.length<=10)(c:a.length<=1):JoinOk a xs=true:=by
 unfold JoinOk;rw[wY];refine PySem.StrLaws.joinFits (B:=2000) d ?_;have:xs.length*2000<=10*2000:=xK _ b;have:xs.length*a.length<=10*1:=yZ b c;omega
theorem Ze{z:Str}(h:kY z=true):1<=z.length:=by
 unfold kY at h;rw[zQ,wY,decide_eq_false_iff_not]at h;refine Nat.pos_of_ne_zero λe=>h.1 ?_;obtain⟨a⟩:=z;have:a=#[]:=Array.eq_empty_of_size_eq_zero e;subst this;rfl
theorem ok_10(T:Txt K mg t):FnOk P w K mg base (CX1 P w) 7 t.a_10 t.d_10 pi' (sp_10 K t):=by
 have b9:=@ok_a P w K mg base t T;have c1:=@ok_7 P w K mg base t T;refine T.F_10.okX sc_10 (λvs H Q E h=>?_) (λcdv A outer s H vs Q E hr h=>?_)
 ·obtain⟨g,n,m,z,d,ms,srt,rfl,_⟩:=h;rfl
 ·have b4:=hr.units;obtain⟨g,n,m,z,d,ms,srt,rfl,a8,N,M,l2,a5,one,R,O,X⟩:=h;refine⟨_,(nF (jJ (cV b9 hr.mo rfl T.F_a.m T.F_a.kp T.F_a.b .nil Bw (nD (pq 1) (nD (pq 2) (nD (pq 3) nE)))))
   (nF (nP (i:=4) sc_10.nd rfl (Or.inr rfl) (cV c1 hr.mo rfl T.F_7.m T.F_7.kp T.F_7.b .nil Bw (nD (pq 0) (nD (pq 1) (nD (pq 2) (nD (pq 3) nE))))))
   (nJ (nX (jA gF rfl T.z_tuple (nofun) (nD (gE (xs:=["i"]) (fr:=[("m",2),("given",4)]) (g:=(nS 0)) (tt:=(tEl (tBM K "str" (Bg K) (tC (.str "")) (mG (kG (lF (mG (tVar 1) tNil)) (nS 0) (tEl (tOp (iW K) (tVar 2) (tTup (mG (tVar 1) (mG (tVar 0) tNil))))) 1 [("i",0),("given",2)]) tNil)))) (jD (sc:=nM s_10) (N:=N_10) rfl rfl (nofun)) rfl (lQ rfl T.z_range (nD (pq 1) nE)) (λ_ _ _ I=>(dI (N:=["i","m","given"]) (i:=0) I rfl (nofun) rfl)) (λ_ _ _ I=>(jL (jS sT rG rE Bf mL (nD (kB (N:=["i","m","given"]) (fr:=[("i",0),("given",2)]) (te:=(tOp (iW K) (tVar 2) (tTup (mG (tVar 1) (mG (tVar 0) tNil))))) I rfl (nofun) rfl (nofun) (lQ rfl T.z_range (nD (pv 1) nE)) (λ_ _ _ c9=>(lC (ix_T b4) (pv 2) (lI (nD (pv 1) (nD (pv 0) nE))) (λ_ _=>rfl)))) nE))))) nE)))))),?_⟩
  show tSeq _ _ _ [some (.ref g),some (.int n),some (.int m),some (.str z),none] H;right;refine⟨n,m,z,rfl,M,R,λgood c6 G=>?_⟩;obtain⟨⟨c7,c8⟩,⟨d0,c5⟩,a3⟩:=id good;obtain⟨b,rfl⟩:=yE (show 0<=n by omega);obtain⟨a,rfl⟩:=yE (show 0<=m by omega);have U:=O good;have o:=X good;rw[zW,zW]at U o;clear O X R;have sm:jW b a:=⟨⋯,⋯,⋯,⋯⟩;left;refine⟨g,b,a,z,d,ms,srt,rfl,a8.up G,N,sm,Ze a3,M,l2,a5,λoff S C=>U off S (G.trans C),λnon r S C b2=>?_⟩;replace o:=o non;have b5:(0:Int)<b:=⋯
  have b8:(0:Int)<a:=⋯
  have all:∀i j:Nat,i<b->j<a->InS b a ((i:Int),(j:Int))/\∃c,(mP (srt.map (·.1)) b a (nY b a)).1 ((i:Int),(j:Int))=some c:=λi j hi k=>by
   have q:InS b a ((i:Int),(j:Int)):=⟨by show(0:Int)<=i;omega,by show(i:Int)<b;omega,by show(0:Int)<=j;omega,by show(j:Int)<a;omega⟩;refine⟨q,oX.mp (Ea ?_ _ _ ?_)⟩
   ·rcases N with rfl|rfl
    ·exact jQ.mpr ⟨_,one,(cJ b5 b8 q).2⟩
    ·exact absurd ⟨_,one,.inl rfl⟩ non
   ·have e:=Eg (i:=i) k;have a2:i*a+j<b*a:=by
     have a6:(i+1)*a<=b*a:=xK _ hi;rw[sI]at a6;omega
    refine oR.mpr ⟨i*a+j,oZ.mpr a2,?_⟩;rw[e.1,e.2]
  generalize (mP (srt.map (·.1)) b a (nY b a)).1=f at*;symm;refine mQ λB eB=>?_;simp only[lF];ext;refine⟨⋯,⋯,λc2 c0=>?_⟩;rw[zW];refine iE (len:=b) (λi y _=>i<b/\y=.str (rowZ z a f i)) c0 ⋯ (λ_ _ _ _ r _=>r) ?_ ?_
  ·intro i Y zs hi D c4 b3 b6;subst eB;show tBM _ _ _ _ _ [some (.int (0+(i:Int))),some (.int a),some (.ref r)] Y b3;ext;refine⟨rfl,?_⟩;refine mQ λB eB=>?_;simp only[lF];ext;refine⟨⋯,⋯,λZ c3=>?_⟩;rw[zW];refine iE (len:=a) (λj y _=>j<a/\y=.str (sgZ z ((f ((i:Int),(j:Int))).getD 0))) c3 ⋯ (λ_ _ _ _ r _=>r) ?_ ?_
   ·intro j W d2 k u d1 b0 a9;subst eB;show tOp _ _ _ [some (.int (0+(j:Int))),some (.int (0+(i:Int))),some (.ref r)] W b0;ext;rw[xV,xV];obtain⟨q,c,J⟩:=all i j hi k;refine⟨by show 2<=sizeLine;decide,λp a1=>?_⟩;have L:=Same.new (o:=.tup [.int (i:Int),.int (j:Int)]) a1;refine Ny (s:=((i:Int),(j:Int))) (((b2.up D).up u).up L) q nK J (a9 _ _ L ⟨k,by rw[J];rfl⟩)
   ·intro W ys u b1 F a4;have v:ys=((List.range a).map λ(j:Nat)=>sgZ z ((f ((i:Int),(j:Int))).getD 0)).map V.str:=by
     refine kR (by simpa using F) λj y e=>?_;obtain⟨k,rfl⟩:=a4 j y e;exact⟨_,by rw[zO,yV k];rfl,rfl⟩
    subst v;refine⟨false,_,Z,_,rfl,rfl,SqB.lst b1,Nv (λx b7=>?_) (by simp;omega) ∅,b6 _ _ u ⟨hi,rfl⟩⟩;obtain⟨j,_,rfl⟩:=oR.mp b7;show 1<=2000
    decide
  ·intro Y ys D a7 F a0;have v:ys=(jH z b a f).map V.str:=by
    unfold jH;refine kR (by simpa using F) λi y e=>?_;obtain⟨hi,rfl⟩:=a0 i y e;exact⟨_,by rw[zO,yV hi];rfl,rfl⟩
   subst v;refine⟨c2,_,rfl,.inl ⟨SqL.of a7,λl hl=>?_⟩⟩;exact o l _ (((G.trans C).trans D).trans (Same.new hl)) nK
structure GrpS(K:Frag)(t:Adr)(H:Hp)(g:Addr)(d:Nat)(ms:List Dd)(srt:Tb):Prop where
 gg:GrpF K t H g d ms srt
 dd:d=2\/d=3
 l:srt.length<=200
 f:∀x∈srt.map (·.1),lW d x
 o:mD d∈srt.map (·.1)
theorem GrpS.up{H H':Hp}{g:Addr}{d:Nat}{ms:List Dd}{srt:Tb}(h:GrpS K t H g d ms srt)(s:Same H H'):GrpS K t H' g d ms srt:=⟨h.gg.up s,h.dd,h.l,h.f,h.o⟩
def sp_f(K:Frag)(t:Adr):Sp:=λvs H Q _=>E7 λ(g:Addr)(n m:Int)(z:Str)(d:Nat)(ms:List Dd)(srt:Tb)=>A6 (vs=[.ref g,.int n,.int m,.str z]) (GrpS K t H g d ms srt) (z.length<=1000) ((¬ hJ n m z->∀r H',Same H H'->H' r=some (.lst [.str "drawing",.non])->Q (.ref r) H')) ((hJ n m z->offT (srt.map (·.1)) n.toNat m.toNat->∀r H',Same H H'->H' r=some (.lst [.str "off",.non])->Q (.ref r) H')) ((hJ n m z->¬ offT (srt.map (·.1)) n.toNat m.toNat->∀r dr H',Same H H'->H' r=some (.lst [.str "done",.ref dr])->H' dr=some (.tup ((jH z n.toNat m.toNat (mP (srt.map (·.1)) n m (nY n.toNat m.toNat)).1).map V.str))->Q (.ref r) H'))
theorem ok_f(T:Txt K mg t):FnOk P w K mg base CX0 8 t.a_f t.d_f pb' (sp_f K t):=by
 have v:=@ok_10 P w K mg base t T;have y:cX P w K mg base 1 t.a_p t.d_p ["_law_e"] (sp_p t):=ok_p T;apply T.F_f.ok sc_f
 ·obtain⟨g,n,m,z,d,ms,srt,rfl,c,x,D,u,C⟩:=h;refine⟨_,(nF (nP (i:=4) sc_f.nd rfl (Or.inl rfl) gR)
   (nF (nP (i:=5) sc_f.nd rfl (Or.inl rfl) mL)
   (nF (Qd (i:=6) rfl rfl rfl sc_f.nd rfl rfl rfl T.m_16 (λ_ _ _ o =>
   (nJ (nP (i:=4) sc_f.nd rfl (Or.inl rfl) (cV v hr.mo rfl T.F_10.m T.F_10.kp T.F_10.b .nil o (nD (pq 0) (nD (pq 1) (nD (pq 2) (nD (pq 3) nE)))))))) (λ_ =>
   (nJ (nP (i:=5) sc_f.nd rfl (Or.inl rfl) (Rz y ((hr.a.mark _).mono ⋯) rfl T.F_p.m T.F_p.kp T.F_p.b .nil (nD (pq 6) nE))))))
   (nJ (nX (mS (nD (pq 5) (nD (pq 4) nE)))))))),?_⟩
  show tSeq _ _ _ [some (.ref g),some (.int n),some (.int m),some (.str z),none,none,none] H;right;left;subst e1;refine st λN1 e1=>?_;simp only[tTry];ext;refine⟨g,n,m,z,d,ms,srt,rfl,c.gg,c.dd,x,c.l,c.f,c.o,λq k b=>⟨T.wm,λe i=>⟨e,false,rfl,nK,λF f=>?_⟩⟩,λgood off k b=>⟨T.om,λe i=>⟨e,true,rfl,nK,λF f=>?_⟩⟩,λgood non r k b l=>?_⟩
  ·have j:=(b.trans (Same.new i)).trans f;symm;exact⟨by show 2<=sizeLine;decide,λp a=>D q p _ (j.trans (Same.new a)) nK⟩
  ·have j:=(b.trans (Same.new i)).trans f;symm;exact⟨by show 2<=sizeLine;decide,λp a=>u good off p _ (j.trans (Same.new a)) nK⟩
  ·symm;exact⟨by show 2<=sizeLine;decide,λp a=>C good non p r _ (b.trans (Same.new a)) nK (Same.new a _ _ l)⟩
theorem fM{c:Int}{d:Nat}(h:0<d):∃n:Nat,c.fmod d=n/\n<d:=by
 have:=fms c d ⋯;exact⟨(c.fmod d).toNat,⋯,⋯⟩
def sp_c(K:Frag)(t:Adr):Sp:=λvs H Q _=>E6 λ(g:Addr)(c:Int)(z:Str)(d:Nat)(ms:List Dd)(srt:Tb)=>A4 (vs=[.ref g,.int c,.str z]) (GrpS K t H g d ms srt) (z.length<=1000) (∀H',Same H H'->Q (.bl true) H')
def badT:List Str:=["","aB","a/","a b","0"]
theorem Zd:∀x∈badT,kY x=false/\x.length<=1000:=nofun
theorem ok_c(T:Txt K mg t):FnOk P w K mg base CX0 9 t.a_c t.d_c pf' (sp_c K t):=by
 have M:=@ok_f P w K mg base t T;apply T.F_c.ok sc_c
 ·obtain⟨g,c,z,d,ms,srt,rfl,F,U,N⟩:=h;refine⟨_,(nF (nP (i:=3) sc_c.nd rfl (Or.inl rfl) (lC ix_B (mS (nD nI (nD nI (nD (nH Aq (eY eZ nI) (nH mH (pq 1) nI)) (nD (nH kF nI (nH mH (pq 1) (nH Oa nI nI))) (nD nI nE)))))) (nH mH (pq 1) nI) (λ_ _=>rfl)))
   (nF (nP (i:=4) sc_c.nd rfl (Or.inl rfl) (nH kF nI (nH mH (nH lD (pq 1) nI) nI)))
   (nF (mF (mC jC (pq 3) nI (mB _))
   (nJ (nP (i:=2) sc_c.nd rfl (Or.inl rfl) (lC ix_B (mS (nD mL (nD mL (nD mL (nD mL (nD mL nE)))))) (nH mH (nH lD (pq 1) nI) nI) (λ_ _=>rfl))))
   mE)
   (nF (mF (mC jC (nH mH (nH lD (pq 1) nI) nI) nI (mB _))
   (nJ (nX (iP cM (nU (nW M hr.mo T.F_f (nD (pq 0) (nD (pq 4) (nD (pq 3) (nD (pq 2) nE)))))) mL (mB _))))
   mE)
   (nJ (nX (iP cM (nU (nW M hr.mo T.F_f (nD (pq 0) (nD (pq 3) (nD (pq 4) (nD (pq 2) nE)))))) mL (mB _)))))))),?_⟩
  show tSeq _ _ _ [some (.ref g),some (.int c),some (.str z),none,none] H;right;refine⟨∅,⟨∅,∅,∅⟩,nofun,by show 5<=sizeLine;decide,λp j=>⟨∅,?_⟩⟩;have R:(0:Int)<10^Int.toNat 30:=nofun
  generalize (10:Int)^Int.toNat 30=tt at*;have a1:=fms c 9 ∅;have a2:=fms c tt R;obtain⟨k,L,S⟩:=fM (c:=c) (d:=5) ∅;obtain⟨x,D,a0⟩:∃x:Int,([0,7,-1-c.fmod 9,7+c.fmod tt,3]:LI')[k]?=some x/\(¬ (1<=x/\x<=6)\/x=3):=by
   match k,S with
   |0,_=>exact⟨_,rfl,.inl ⋯⟩
   |1,_=>exact⟨_,rfl,.inl ⋯⟩
   |2,_=>exact⟨_,rfl,.inl ⋯⟩
   |3,_=>exact⟨_,rfl,.inl ⋯⟩
   |4,_=>exact⟨_,rfl,.inr rfl⟩
  have J:=Same.new (o:=.lst ([0,7,-1-c.fmod 9,7+c.fmod tt,3].map V.int)) j;refine⟨false,p,_,_,_,rfl,rfl,SqB.lst nK,kH (fW D) L,?_⟩;show N1 _ (upd H p (.lst ([0,7,-1-c.fmod 9,7+c.fmod tt,3].map V.int)));generalize upd H p (.lst ([0,7,-1-c.fmod 9,7+c.fmod tt,3].map V.int))=O at*
  clear D L j;left;refine⟨dvs _ _ ∅ ∅,∅,?_⟩;generalize 1+(c.fdiv 5).fmod 6=i;subst e1;refine st λN1 e1=>?_;have C:∀(b:Str)(m:Hp),Same H m->b.length<=1000->(¬ (1<=x/\x<=6)\/kY b=false)->N1 [some (.ref g),some (.int c),some (.str b),some (.int x),some (.int i)] m:=by
   intro b m l I u;have b1:¬ hJ x i b:=λh=>by
    rcases u with q|q
    ·exact q h.1
    ·rw[h.2.2]at q;cases q
   have b2:¬ hJ i x b:=λh=>by
    rcases u with q|q
    ·exact q h.2.1
    ·rw[h.2.2]at q;cases q
   have G:∀r a,Same m a->a r=some (.lst [.str "drawing",.non])->∀{o:VK},o (.str "drawing") a->rIxB K (.ref r) (.int 0) a o:=λr a e f o q=>⟨false,r,_,_,_,rfl,rfl,SqB.lst f,rfl,q⟩;left;refine⟨dvs _ _ ∅ ∅,∅,ite2 (λ_=>?_) (λ_=>?_)⟩
   ·refine⟨g,i,x,b,d,ms,srt,rfl,F.up l,I,λ_ r a e f=>G r a e f ?_,λh=>absurd h b2,λh=>absurd h b2⟩;exact⟨rfl,by rw[zK rfl];exact N a (l.trans e)⟩
   ·symm;refine⟨g,x,i,b,d,ms,srt,rfl,F.up l,I,λ_ r a e f=>G r a e f ?_,λh=>absurd h b1,λh=>absurd h b1⟩;exact⟨rfl,by rw[zK rfl];exact N a (l.trans e)⟩
  ext
  by_cases n:x=3
  ·rw[zK n];refine iteT ?_;obtain⟨k2,X,Y⟩:=fM (c:=c.fdiv 5) (d:=5) ∅;obtain⟨y,v⟩:∃y,badT[k2]?=some y:=⟨_,zqd (show k2<badT.length from Y)⟩;obtain⟨W,Z⟩:=Zd y (zqb v);refine⟨by show 5<=sizeLine;decide,λp j=>⟨dvs _ _ ∅ ∅,∅,false,p,badT.map V.str,_,.str y,rfl,rfl,SqB.lst nK,kH (by rw[zO,v];rfl) X,?_⟩⟩;exact C y _ (J.trans (Same.new j)) Z (.inr W)
  ·rw[zI n];exact iteF (C z O J U (.inl (a0.resolve_right n)))
def Wee(x:Dd):Prop:=lW 2 x/\mW 1000 x.1/\jP 1000 x.2.1
def OffX(x:Dd)(n m:Nat):Prop:=Off x.1 x.2.1 x.2.2 n m
def OfP(x:Dd)(n m i j:Nat):Prop:=offP x.1 x.2.1 x.2.2 n m i j
theorem Nu{x:Dd}{n m i j:Nat}(hi:i<n)(b:j<m)(h:OfP x n m i j):OffX x n m:=by
 have e:=Eg (i:=i) b;have c:i*m+j<n*m:=by
  have a:(i+1)*m<=n*m:=xK _ hi;rw[sI]at a;omega
 refine .inr ⟨i*m+j,c,?_⟩;unfold offK;rw[e.1,e.2];exact h
theorem Nt{x:Dd}{n m:Nat}(c:Sq 2 x.1)(d:1<=m)(h:∀i j:Nat,i<n->j<m->¬ OfP x n m i j):¬ OffX x n m:=λq=>by
 rcases q with q|⟨k,f,q⟩
 ·rw[c.1]at q;cases q
 ·obtain⟨a0,g,e,b1⟩:=cI (n:=n) d f;obtain⟨i,a⟩:=yE a0;obtain⟨j,b⟩:=yE e;refine h i j ⋯ ⋯ ?_;unfold OfP;rw[←a,←b];exact q
def sp_x(K:Frag):Sp:=λvs H Q _=>E5 λ(a:Addr)(ps:LA)(ms:List Dd)(n m:Nat)=>A7 (vs=[.ref a,.int n,.int m]) (H a=some (.lst (ps.map V.ref))) (Paired (DdS K H) ps ms) ((∀x∈ms,Wee x)) (jW n m) (((∃x∈ms,OffX x n m)->∀H',Same H H'->Q (.bl true) H')) (((∀x∈ms,¬ OffX x n m)->∀H',Same H H'->Q (.bl false) H'))
theorem ok_x(T:Txt K mg t):FnOk P w K mg base CX0 2 t.a_x t.d_x pg' (sp_x K):=by
 have a1:=@ok_5 P w K mg base t T;apply T.F_x.ok sc_x
 ·obtain⟨a,ps,ms,n,m,rfl,O,L,a6,M,a0,a5⟩:=h;obtain⟨a8,a9,a4,a7⟩:=id M;refine⟨_,(nF (lN yJ rfl (lH (pq 0)) (mM (i:=3) sc_x.nd rfl (Or.inl rfl))
   (nJ (lN yJ rfl (lQ rfl T.z_range (nD (pq 1) nE)) (mM (i:=4) sc_x.nd rfl (Or.inl rfl))
   (nJ (lN yJ rfl (lQ rfl T.z_range (nD (pq 2) nE)) (mM (i:=5) sc_x.nd rfl (Or.inl rfl))
   (nJ (mF (mC Ao (nW a1 hr.mo T.F_5 (nD (pq 3) (nD (pq 4) (nD (pq 5) (nD (pq 1) (nD (pq 2) nE)))))) gR (mB _))
   (nJ (nX gQ))
   mE)))))))
   (nJ (nX gQ))),?_⟩
  show tSeq _ _ _ [some (.ref a),some (.int n),some (.int m),none,none,none] H;refine st λN1 e1=>lO λB eB=>?_;simp only[iSeq];ext;refine⟨false,⟨_,SqB.lst O⟩,?_⟩;have X:ps.length=ms.length:=lV L;refine fA (g:=nS 3) (tb:=B) (λi c l=>∃v3 d b,c=[some (.ref a),some (.int n),some (.int m),v3,d,b]/\Same H l/\∀x∈ms.take i,¬ OffX x n m) ⟨_,_,_,rfl,Same.refl _,λx G=>by simp at G⟩ (λ_ _ _ _⟨_,_,_,_,f,_⟩=>SqB.lst (f _ _ O)) ?_ ?_
  ·rintro k y c l Y ⟨v3,d,b,rfl,f,o⟩;obtain⟨p,ep,rfl⟩:=iY Y;obtain⟨x,R,G⟩:=jT L ep;have W:=zqb R;obtain⟨I,Z,a3⟩:=a6 x W;subst eB;show tFor _ _ _ _ [some (.ref a),some (.int n),some (.int m),some (.ref p),d,b] l;refine lO λB eB=>?_;simp only[lF];ext;refine⟨⋯,⋯,?_⟩;rw[zW];refine gG (g:=nS 4) (tb:=B) (λi c v=>∃d b,c=[some (.ref a),some (.int n),some (.int m),some (.ref p),d,b]/\Same H v/\∀g j:Nat,g<i->j<m->¬ OfP x n m g j) ⟨_,_,rfl,f,λg j h=>absurd h ⋯⟩ ?_ ?_
   ·rintro i c v hi ⟨d,b,rfl,C,F⟩;subst eB;show tFor _ _ _ _ [some (.ref a),some (.int n),some (.int m),some (.ref p),some (.int (0+(i:Int))),b] v;rw[xV];refine lO λB eB=>?_;simp only[lF];ext;refine⟨⋯,⋯,?_⟩;rw[zW];refine gG (g:=nS 5) (tb:=B) (λj c u=>∃b,c=[some (.ref a),some (.int n),some (.int m),some (.ref p),some (.int i),b]/\Same H u/\∀r:Nat,r<j->¬ OfP x n m i r) ⟨_,rfl,C,λj h=>absurd h ⋯⟩ ?_ ?_
    ·rintro j c u U ⟨b,rfl,e,D⟩;subst eB;show tIfS _ _ _ _ [some (.ref a),some (.int n),some (.int m),some (.ref p),some (.int i),some (.int (0+(j:Int)))] u;rw[xV];ext;refine⟨p,x.1,x.2.1,x.2.2,i,j,n,m,rfl,DdS.up G e,I,Z,a3,M,hi,U,λoff J z=>?_,λnon q J z b0=>?_⟩
     ·exact a0 ⟨x,W,Nu hi U off⟩ J (e.trans z)
     ·refine⟨e.trans z,λr h'=>?_⟩;rcases Nat.lt_succ_iff_lt_or_eq.mp h' with q|q
      ·exact D r q
      ·rw[q];exact non
    ·rintro c u ⟨b,rfl,e,D⟩;refine⟨_,_,rfl,e,λg j a2 V=>?_⟩;rcases Nat.lt_succ_iff_lt_or_eq.mp a2 with q|q
     ·exact F g j q V
     ·rw[q];exact D j V
   ·rintro c v ⟨d,b,rfl,C,F⟩;refine⟨_,_,_,rfl,C,λN S=>?_⟩;rw[xY,R]at S;rcases oW.mp S with q|q
    ·exact o N q
    ·have:N=x:=by simpa using q
     rw[this];exact Nt I.sq a4 F
  ·rintro c l ⟨v3,d,b,rfl,f,o⟩;symm;rw[zqe,X,vL]at o;exact a5 o l f
theorem Nr{x y:Str}(h:x.cps.toList=y.cps.toList):x=y:=by
 cases x;cases y;congr 1;exact Array.toList_inj.mp h
theorem Zc(x:Str):x++("" :Str)=x:=Nr (by
 show(x.cps++("" :Str).cps).toList=_;have:("" :Str).cps=#[]:=nofun
 rw[this];simp)
theorem Nq(x y:Str):(x++y).cps.toList=x.cps.toList++y.cps.toList:=by show(x.cps++y.cps).toList=_;rw[yK]
theorem Zb(y:Str)(L:List Str):Txt.join y L=Str.join y L:=by
 unfold Txt.join;rw[PySem.StrLaws.glued_eq_join]
def catS(xs:List Str):Str:=xs.foldl (·++·) ""
theorem Np:("" :Str).cps.toList=[]:=nofun
theorem No:∀(xs:List Str)(a:Str),(xs.foldl (·++·) a).cps.toList=a.cps.toList++xs.flatMap λx=>x.cps.toList
 |[],a=>by simp
 |x:: r,a=>by rw[wB,No r,Nq,pG,yO]
theorem Nn(xs:List Str):(catS xs).cps.toList=xs.flatMap λx=>x.cps.toList:=by
 unfold catS;rw[No,Np,rR]
theorem aZ:∀xs:List Str,Txt.join ("" :Str) xs=catS xs:=by
 intro xs;rw[Zb];refine Nr ?_;rw[Nn];have:∀xs:List Str,(Str.join ("" :Str) xs).cps.toList=xs.flatMap λx=>x.cps.toList:=by
  intro xs
  induction xs with
  |nil=>exact Np
  | cons p r a =>
   cases r with
   |nil=>show p.cps.toList=_;simp
   |cons q r =>
    show(p++("" :Str)++Str.join ("" :Str) (q:: r)).cps.toList=_;rw[Zc,Nq,a];simp only[List.flatMap_cons]
 exact this xs
theorem Az(g:Nat->Nat)(l:List Nat):(catS (l.map λj=>(⟨#[g j]⟩:Str))).cps.toList=l.map g:=by
 rw[Nn,List.flatMap_map]
 induction l with
 |nil=>rfl
 |cons a l b=>rw[pG,b,zM];rfl
theorem Za{z:Str}{m i j:Nat}{f:Seat->Option Nat}(a:j<m):(rowZ z m f i).cps.toList[j]?=some (z.cps.toList.getD ((f ((i:Int),(j:Int))).getD 0%z.length) 0):=by
 unfold rowZ sgZ;rw[aZ,Az (λj=>z.cps.toList.getD ((f ((i:Int),(j:Int))).getD 0%z.length) 0),zO,yV a];rfl
theorem Nm{K:Frag}{H:Hp}{a:Addr}{z:Str}{n m i:Nat}{f:Seat->Option Nat}{Q:VK}(h:H a=some (.tup ((jH z n m f).map V.str)))(hi:i<n)(q:Q (.str (rowZ z m f i)) H):rIxB K (.ref a) (.int i) H Q:=by
 have e:(jH z n m f)[i]?=some (rowZ z m f i):=by
  unfold jH;rw[zO,yV hi];rfl
 exact⟨true,a,_,_,_,rfl,rfl,SqB.tup h,kH (by rw[zO,e];rfl) rfl,q⟩
theorem Nl{H:Hp}{z:Str}{m i j:Nat}{f:Seat->Option Nat}{Q:VK}(a:j<m)(c:m<=6)(q:Q (.str (sgZ z ((f ((i:Int),(j:Int))).getD 0))) H):rIxS (.str (rowZ z m f i)) (.int j) H Q:=by
 have l:(rowZ z m f i).length=m:=by
  have:(rowZ z m f i).cps.toList.length=m:=by
   unfold rowZ sgZ;rw[aZ,Az (λj=>z.cps.toList.getD ((f ((i:Int),(j:Int))).getD 0%z.length) 0)];simp
  have b:(rowZ z m f i).cps.toList.length=(rowZ z m f i).length:=by simp[Str.length]
  omega
 exact⟨_,_,_,rfl,rfl,wA (eN ⋯),kH (Za a) rfl,q⟩
def sp_r(K:Frag):Sp:=λvs H Q _=>E8 λ(dr l:Addr)(os:LA)(TT:List Dd)(n m:Nat)(z:Str)(f:Seat->Option Nat)=>A8 (vs=[.ref dr,.ref l,.int n,.int m]) (H dr=some (.tup ((jH z n m f).map V.str))) (H l=some (.lst (os.map V.ref))) (Paired (DdS K H) os TT) ((∀x∈TT,Wee x)) (jW n m) ((∀x∈TT,∀s,InS n m s->OnP x n m s/\f (rc x n m s)=f s)) (∀H',Same H H'->Q (.bl true) H')
theorem ok_r(T:Txt K mg t):FnOk P w K mg base CX0 2 t.a_r t.d_r pc' (sp_r K):=by
 have a4:=@ok_5 P w K mg base t T;apply T.F_r.ok sc_r
 ·obtain⟨e,l,b8,TT,n,m,z,f,rfl,S,hl,Z,b6,M,b2,b7⟩:=h;obtain⟨c0,c1,c3,L⟩:=id M;refine⟨_,(nF (lN yJ rfl (lH (pq 1)) (mM (i:=4) sc_r.nd rfl (Or.inl rfl))
   (nJ (lN yJ rfl (lQ rfl T.z_range (nD (pq 2) nE)) (mM (i:=5) sc_r.nd rfl (Or.inl rfl))
   (nJ (lN yJ rfl (lQ rfl T.z_range (nD (pq 3) nE)) (mM (i:=6) sc_r.nd rfl (Or.inl rfl))
   (nF (nP (i:=7) sc_r.nd rfl (Or.inl rfl) (nW a4 hr.mo T.F_5 (nD (pq 4) (nD (pq 5) (nD (pq 6) (nD (pq 2) (nD (pq 3) nE)))))))
   (nJ (mF (PW.pt (kZ (mC Ao (pq 7) gR (mB _)) (jX (mC cN (lC fR (lC ix_B (pq 0) (nU (pq 7)) (λ_ _=>rfl)) (nU (pq 7)) (λ_ _=>rfl)) (lC fR (lC ix_B (pq 0) (pq 5) (λ_ _=>rfl)) (pq 6) (λ_ _=>rfl)) (mB _)))))
   (nJ (nX gQ))
   mE))))))))
   (nJ (nX gQ))),?_⟩
  show tSeq _ _ _ [some (.ref e),some (.ref l),some (.int n),some (.int m),none,none,none,none] H;refine st λN1 e1=>lO λB eB=>?_;simp only[iSeq];ext;refine⟨false,⟨_,SqB.lst hl⟩,?_⟩;refine fA (g:=nS 4) (tb:=B) (λ_ c o=>∃J d b a,c=[some (.ref e),some (.ref l),some (.int n),some (.int m),J,d,b,a]/\Same H o) ⟨_,_,_,_,rfl,Same.refl _⟩ (λ_ _ _ _⟨_,_,_,_,_,g⟩=>SqB.lst (g _ _ hl)) ?_ ?_
  ·rintro k y c o X ⟨J,d,b,a,rfl,g⟩;obtain⟨p,ep,rfl⟩:=iY X;obtain⟨x,a5,b3⟩:=jT Z ep;have U:=zqb a5;obtain⟨W,Y,a6⟩:=b6 x U;subst eB;show tFor _ _ _ _ [some (.ref e),some (.ref l),some (.int n),some (.int m),some (.ref p),d,b,a] o;refine lO λB eB=>?_;simp only[lF];ext;refine⟨⋯,⋯,?_⟩;rw[zW];refine gG (g:=nS 5) (tb:=B) (λ_ c v=>∃d b a,c=[some (.ref e),some (.ref l),some (.int n),some (.int m),some (.ref p),d,b,a]/\Same H v) ⟨_,_,_,rfl,g⟩ ?_ ?_
   ·rintro i c v hi ⟨d,b,a,rfl,I⟩;subst eB;show tFor _ _ _ _ [some (.ref e),some (.ref l),some (.int n),some (.int m),some (.ref p),some (.int (0+(i:Int))),b,a] v;rw[xV];refine lO λB eB=>?_;simp only[lF];ext;refine⟨⋯,⋯,?_⟩;rw[zW];refine gG (g:=nS 6) (tb:=B) (λ_ c u=>∃b a,c=[some (.ref e),some (.ref l),some (.int n),some (.int m),some (.ref p),some (.int i),b,a]/\Same H u) ⟨_,_,rfl,I⟩ ?_ ?_
    ·rintro j c u N ⟨b,a,rfl,r⟩;have b0:InS n m ((i:Int),(j:Int)):=⟨by show(0:Int)<=i;omega,by show(i:Int)<n;omega,by show(0:Int)<=j;omega,by show(j:Int)<m;omega⟩;obtain⟨a8,same⟩:=b2 x U _ b0;subst eB;show tSeq _ _ _ [some (.ref e),some (.ref l),some (.int n),some (.int m),some (.ref p),some (.int i),some (.int (0+(j:Int))),a] u;rw[xV];refine st λc2 a3=>?_;ext;refine⟨p,x.1,x.2.1,x.2.2,i,j,n,m,rfl,DdS.up b3 r,W,Y,a6,M,hi,N,λoff=>absurd off a8,λnon q b9 a2 C=>?_⟩;have D:=r.trans a2;have b4:=aX (x:=x) (n:=n) (m:=m) ⋯ ⋯ (s:=((i:Int),(j:Int)));obtain⟨a0,b5,a9,b1⟩:=id b4;subst a3;ext;obtain⟨O,G⟩:=yE a0;obtain⟨R,F⟩:=yE a9;have V:rch0 x.1 x.2.1 x.2.2 n m i j=(O:Int):=G;have a7:rch1 x.1 x.2.1 x.2.2 n m i j=(R:Int):=F;have a1:rc x n m ((i:Int),(j:Int))=((O:Int),(R:Int)):=Prod.ext G F;rw[V,a7]at C;rw[a1]at same;rw[G]at b5;rw[F]at b1;refine iteF ⟨true,q,_,_,_,rfl,rfl,SqB.tup C,rfl,Nm (D _ _ S) ⋯ ?_⟩;refine⟨true,q,_,_,_,rfl,rfl,SqB.tup C,rfl,Nl ⋯ L ?_⟩;refine Nm (D _ _ S) hi (Nl N L ?_);rw[same];exact⟨rfl,false,by simp,iteF D⟩
    ·rintro c u ⟨b,a,rfl,r⟩;exact⟨_,_,_,rfl,r⟩
   ·rintro c v ⟨d,b,a,rfl,I⟩;exact⟨_,_,_,_,rfl,I⟩
  ·rintro c o ⟨J,d,b,a,rfl,g⟩;symm;exact b7 o g
def sp_8(K:Frag):Sp:=λvs H Q _=>E7 λ(a:Addr)(ps:LA)(ms:List Dd)(n m:Nat)(z:Str)(TT:List Dd)=>A9 (vs=[.ref a,.int n,.int m,.str z]) (H a=some (.lst (ps.map V.ref))) (Paired (DdS K H) ps ms) ((∀x∈ms,Wee x)) (jW n m) (1<=z.length) (z.length<=1000) (OnT n m TT (ms.map nO)) (∀r H',Same H H'->H' r=some (.tup ((jH z n m (mP TT n m (nY n m)).1).map V.str))->Q (.ref r) H')
theorem Fw{n m i j:Nat}(hi:i<n)(c:j<m):i*m+j<n*m/\(nY n m)[i*m+j]?=some ((i:Int),(j:Int)):=by
 have e:=Eg (i:=i) c;have a:i*m+j<n*m:=by
  have b:(i+1)*m<=n*m:=xK _ hi;rw[sI]at b;omega
 refine⟨a,?_⟩;unfold nY;rw[zO,yV a];show some (si m (i*m+j),sj m (i*m+j))=_;rw[e.1,e.2]
theorem Ay{n m:Nat}(a:1<=m):∀s∈nY n m,InS n m s:=λs c=>by
 obtain⟨k,d,rfl⟩:=oR.mp c;have b:=cI (n:=n) a (oZ.mp d);exact⟨b.1,b.2.1,b.2.2.1,b.2.2.2⟩
theorem AA{n m:Nat}{s:Seat}(h:InS n m s):s∈nY n m:=by
 obtain⟨i,j⟩:=s;obtain⟨a0,d,c,b1⟩:=h;obtain⟨b,rfl⟩:=yE a0;obtain⟨a,rfl⟩:=yE c;have e:(b:Int)<n:=d;have f:(a:Int)<m:=b1;exact zqb (Fw (n:=n) (m:=m) (i:=b) (j:=a) ⋯ ⋯).2
theorem Fv{n m:Nat}(h:n*m<=36)(f:Seat->Option Nat):free (nY n m) f<=36:=by
 unfold free;refine yH (List.length_filter_le _ _) ?_;unfold nY;simpa using h
theorem AB{K:Frag}{H H':Hp}{a b:Addr}{kvs:List (PyData×V)}(d:DTr K H a kvs)(i:H b=none)(k:∀c o,c≠a->c≠b->H c=some o->H' c=some o):TK K H H':=by
 obtain⟨xs,e,_⟩:=d.ex;have f:∀{c o},H c=some o->c≠b:=λ{c o}q w=>by rw[w,i]at q;cases q
 have g:∀c ys,H c=some (.tup ys)->H' c=some (.tup ys):=λc ys q=>k c _ (λw=>by rw[w,e]at q;cases q) (f q) q;refine⟨g,λc ys q=>?_⟩;rcases q with(q|⟨j,q⟩)|q
 ·exact .inl (.inl (g _ _ q))
 ·exact .inl (.inr ⟨j,k c _ (λw=>by rw[w,e]at q;cases q) (f q) q⟩)
 ·exact .inr q
theorem GrAt.tk{K:Frag}{H H':Hp}{a:Addr}{n m:Int}{z:Str}{f:Seat->Option Nat}{L:Nat}(h:GrAt K H a n m z f L)(e:H' a=H a)(tk:TK K H H'):GrAt K H' a n m z f L:=by
 obtain⟨kvs,⟨l,y,xs,b,c,r⟩,l1,v⟩:=h;exact⟨kvs,⟨l,y,xs,e.trans b,c,r.keeps tk.t⟩,l1,v⟩
theorem Nk{f d:Type}{e:f->d->Prop}{y:d}:∀{xs:List f}{ys:List d},Paired e xs (ys++[y])->∃c x,xs=c++[x]/\Paired e c ys/\e x y
 |_,[],.cons a .nil=>⟨[],_,rfl,.nil,a⟩
 |_,b:: ys,.cons a h=>by
  obtain⟨c,x,rfl,g,i⟩:=Nk h;exact⟨_:: c,x,rfl,.cons a g,i⟩
theorem Nj{K:Frag}{H:Hp}{b:LA}{Wt:List Seat}(h:Paired (λq(s:Seat)=>H q=some (.tup [.int s.1,.int s.2])) b Wt):Dts K H (b.map V.ref) (Wt.map pk):=by
 induction h with
 |nil=>exact .nil
 |cons a _ c=>exact .cons (aY a) c
theorem Ni(l:List Seat):iT 5 (.list (l.map pk))=true:=by
 show(l.map pk).all (iT 4)=true;rw[wI];intro d a;obtain⟨x,_,rfl⟩:=oR.mp a;exact fB 4 _ (pk_t x)
theorem pk_nil{l:List Seat}:l=[]↔PyData.list (l.map pk)=PyData.list (([]:List Seat).map pk):=by
 cases l <;> simp
theorem ok_8(T:Txt K mg t):FnOk P w K mg base CX0 3 t.a_8 t.d_8 pe' (sp_8 K):=by
 have r5:=@ok_5 P w K mg base t T;apply T.F_8.ok sc_8
 ·have b5:=hr.units;obtain⟨a,ps,ms,n,m,z,TT,rfl,e3,j6,n6,k6,j8,k7,Z,n8⟩:=h;obtain⟨t3,m2,h8,q9⟩:=id k6;refine⟨_,(nF (nP (i:=4) sc_8.nd rfl (Or.inr rfl) Iw)
   (nF (nP (i:=5) sc_8.nd rfl (Or.inl rfl) nI)
   (nF (lN yJ rfl (lQ rfl T.z_range (nD (pq 1) nE)) (mM (i:=6) sc_8.nd rfl (Or.inl rfl))
   (nJ (lN yJ rfl (lQ rfl T.z_range (nD (pq 2) nE)) (mM (i:=7) sc_8.nd rfl (Or.inl rfl))
   (nF (mF (mC (Ts b5) (lI (nD (pq 6) (nD (pq 7) nE))) (pq 4) rfl)
   (nJ Om)
   mE)
   (nF (nP (i:=8) sc_8.nd rfl (Or.inl rfl) (mS (nD (lI (nD (pq 6) (nD (pq 7) nE))) nE)))
   (nF (gW (lC fR (pq 3) (nH mH (pq 5) (lA Aa rfl T.z_len (nofun) (nD (pq 3) nE))) (λ_ _=>rfl)) (cK (pq 4) (lI (nD (pq 6) (nD (pq 7) nE))) (bN b5)))
   (nF (eX yJ (mC (Gj b5) (pq 8) (mS nE) (mB _))
   (nF (nP (i:=9) sc_8.nd rfl (Or.inl rfl) (Qr xH PySem.F.slot_list_pop PySem.F.type_list_pop Qn (pq 8)))
   (nJ (lN yJ rfl (lH (pq 0)) (mM (i:=10) sc_8.nd rfl (Or.inl rfl))
   (nF (nP (i:=11) sc_8.nd rfl (Or.inl rfl) (nW r5 hr.mo T.F_5 (nD (pq 10) (nD (nU (pq 9)) (nD (nU (pq 9)) (nD (pq 1) (nD (pq 2) nE)))))))
   (nJ (mF (mC (Bd b5) (pq 11) (pq 4) rfl)
   (nF (gW (lC fR (pq 3) (nH mH (pq 5) (lA Aa rfl T.z_len (nofun) (nD (pq 3) nE))) (λ_ _=>rfl)) (cK (pq 4) (pq 11) (bN b5)))
   (nJ (jJ (jS xH xT xQ iA (pq 8) (nD (pq 11) nE)))))
   mE)))))))
   (nJ (nP (i:=5) sc_8.nd rfl (Or.inl rfl) (nH kF (pq 5) nI))))))))))
   (nJ (nX (jA gF rfl T.z_tuple (nofun) (nD (gE (xs:=["_law_i"]) (fr:=[("_law_m",2),("_law_grid",4)]) (g:=(nS 0)) (tt:=(tEl (tBM K "str" (Bg K) (tC (.str "")) (mG (kG (lF (mG (tVar 1) tNil)) (nS 0) (tEl (tOp (iW K) (tVar 2) (tTup (mG (tVar 1) (mG (tVar 0) tNil))))) 1 [("_law_i",0),("_law_grid",2)]) tNil)))) (jD (sc:=nM s_8) (N:=N_8) rfl rfl (nofun)) rfl (lQ rfl T.z_range (nD (pq 1) nE)) (λ_ _ _ f6=>(dI (N:=["_law_i","_law_m","_law_grid"]) (i:=0) f6 rfl (nofun) rfl)) (λ_ _ _ f6=>(jL (jS sT rG rE Bf mL (nD (kB (N:=["_law_i","_law_m","_law_grid"]) (fr:=[("_law_i",0),("_law_grid",2)]) (te:=(tOp (iW K) (tVar 2) (tTup (mG (tVar 1) (mG (tVar 0) tNil))))) f6 rfl (nofun) rfl (nofun) (lQ rfl T.z_range (nD (pv 1) nE)) (λ_ _ _ t0=>(lC (ix_T b5) (pv 2) (lI (nD (pv 1) (nD (pv 0) nE))) (λ_ _=>rfl)))) nE))))) nE))))))),?_⟩
  show tSeq _ _ _ [some (.ref a),some (.int n),some (.int m),some (.str z),none,none,none,none,none,none,none,none] H;refine st λN1 e1=>?_;simp only[Bb];ext;intro d i6 k1;have d6:Same H (upd H d (mV d [])):=Same.new i6;generalize upd H d (mV d [])=R at*
  have e5:n*m<=6*6:=yZ m2 q9;have l7:GrAt K R d n m z (mP TT n m ((nY n m).take 0)).1 1000:=⟨[],k1,zZ _,λs i4=>rfl⟩;have k8:∀{b o},H b=some o->b≠d:=λ{b o}e w=>by rw[w,i6]at e;cases e
  left;subst e1;refine st λN1 e1=>lO λB eB=>?_;simp only[lF];ext;refine⟨⋯,⋯,?_⟩;rw[zW];refine gG (g:=nS 6) (tb:=B) (λi M b2=>∃e2 a2 a1 I v u L,M=[some (.ref a),some (.int n),some (.int m),some (.str z),some (.ref d),some (.int (mP TT n m ((nY n m).take (i*m))).2),e2,a2,a1,I,v,u]/\KX d R b2/\GrAt K b2 d n m z (mP TT n m ((nY n m).take (i*m))).1 L/\L<=1000+i*1000)
   ⟨_,_,_,_,_,_,1000,by rw[Nat.zero_mul];rfl,λb o _ e=>e,by rw[Nat.zero_mul];exact l7,⋯⟩ ?_ ?_
  ·rintro i M b2 hi ⟨e2,a2,a1,I,v,u,L,rfl,k2,d1,h1⟩;subst eB;show tFor _ _ _ _ [some (.ref a),some (.int n),some (.int m),some (.str z),some (.ref d),some (.int (mP TT n m ((nY n m).take (i*m))).2),some (.int (0+(i:Int))),a2,a1,I,v,u] b2;rw[xV];refine lO λB eB=>?_;simp only[lF];ext;refine⟨⋯,⋯,?_⟩;rw[zW];refine gG (g:=nS 7) (tb:=B) (λj M U=>∃a2 a1 I v u L,M=[some (.ref a),some (.int n),some (.int m),some (.str z),some (.ref d),some (.int (mP TT n m ((nY n m).take (i*m+j))).2),some (.int i),a2,a1,I,v,u]/\KX d R U/\GrAt K U d n m z (mP TT n m ((nY n m).take (i*m+j))).1 L/\L<=1000+i*1000+j*100)
    ⟨_,_,_,_,_,L,rfl,k2,d1,⋯⟩ ?_ ?_
   ·rintro j M U a4 ⟨a2,a1,I,v,u,L,rfl,k3,d0,h1⟩;subst eB;show tSeq _ _ _ [some (.ref a),some (.int n),some (.int m),some (.str z),some (.ref d),some (.int (mP TT n m ((nY n m).take (i*m+j))).2),some (.int i),some (.int (0+(j:Int))),a1,I,v,u] U;rw[xV];obtain⟨s8,k5⟩:=Fw (n:=n) (m:=m) hi a4;have X:=Ay (n:=n) h8 _ (zqb k5);have tk:mP TT n m ((nY n m).take (i*m+(j+1)))=lL TT n m (mP TT n m ((nY n m).take (i*m+j))) ((i:Int),(j:Int)):=by
     rw[←tN,xY,k5];exact Nw
    have s4:Inv2 TT n m (mP TT n m ((nY n m).take (i*m+j))).1:=Eb Z _ _ (λs i4=>Ay h8 s (rM i4)) (λ_ _ _ _=>rfl);rw[tk];generalize mP TT n m ((nY n m).take (i*m+j))=C at*
    refine st λg4 a8=>?_;ext;refine⟨by show 2<=sizeLine;decide,λp f9=>?_⟩;have b4:=Same.new (o:=.tup [.int (i:Int),.int (j:Int)]) f9;have ep:(upd U p (.tup [.int (i:Int),.int (j:Int)])) p=some (.tup [.int (i:Int),.int (j:Int)]):=nK;have f8:KX d R (upd U p (.tup [.int (i:Int),.int (j:Int)])):=λb o W e=>b4 _ _ (k3 b o W e);have h6:=d0.up b4;generalize upd U p (.tup [.int (i:Int),.int (j:Int)])=c3 at*
    refine Fy (s:=((i:Int),(j:Int))) h6 X ep ⟨_,rfl,?_⟩;cases hf:C.1 ((i:Int),(j:Int)) with
    |some c =>
     refine iteT ?_;have g5:lL TT n m C ((i:Int),(j:Int))=C:=by unfold lL;rw[hf];rfl
     rw[g5];exact⟨_,_,_,_,_,rfl,f8,L,h6,⋯⟩
    | none =>
     refine iteF ?_;subst a8;refine st λg4 a8=>?_;ext;refine⟨by show 2<=sizeLine;decide,λa5 n3=>⟨by show 1<=sizeLine;decide,λg k4=>?_⟩⟩;have b0:=Same.new (o:=.tup [.int (i:Int),.int (j:Int)]) n3;have o9:(upd c3 a5 (.tup [.int (i:Int),.int (j:Int)])) a5=some (.tup [.int (i:Int),.int (j:Int)]):=nK;generalize upd c3 a5 (.tup [.int (i:Int),.int (j:Int)])=l2 at*
     have h0:=Same.new (o:=.lst [.ref a5]) k4;have j3:(upd l2 g (.lst [.ref a5])) g=some (.lst ([a5].map V.ref)):=nK;generalize upd l2 g (.lst [.ref a5])=d7 at*
     have d9:=(h6.up b0).up h0;have s5:KX d R d7:=λb o W e=>h0 _ _ (b0 _ _ (f8 b o W e));have g3:∀{b o},R b=some o->b≠d->b≠g:=λ{b o}e W w=>by
      have:=b0 _ _ (f8 b o W e);rw[w,k4]at this;cases this
     have i9:=h0 _ _ o9;have b7:g≠d:=d9.ne (.inl j3);subst a8;refine st λg4 a8=>?_;simp only[tAsg,gSub];ext;refine⟨z,rfl,wA (eN ⋯),⋯,Fx j8 k7 ⟨by show 2<=sizeLine;decide,λg7 n4=>?_⟩⟩;have d5:=Same.new (o:=.tup [.int (i:Int),.int (j:Int)]) n4;have p7:(upd d7 g7 (.tup [.int (i:Int),.int (j:Int)])) g7=some (.tup [.int (i:Int),.int (j:Int)]):=nK;generalize upd d7 g7 (.tup [.int (i:Int),.int (j:Int)])=t5 at*
     refine Fz (s:=((i:Int),(j:Int))) (d9.up d5) p7 ⋯ λp1 f0 r4=>?_;have s1:KX d R p1:=λb o W e=>f0 b o W (d5 _ _ (s5 b o W e));have s0:=f0 _ _ b7 (d5 _ _ j3);have p9:=f0 _ _ ((d9.ne (.inr i9))) (d5 _ _ i9);have q6:=Fl.start (c:=C.2) Z X s4 hf;subst a8;refine st λg4 a8=>Bv λB eB=>?_;refine⟨λl5 M a3=>∃(f:Seat->Option Nat)(Wt:List Seat)(h2:LA)(c4:Nat)(I v u:Option V),M=[some (.ref a),some (.int n),some (.int m),some (.str z),some (.ref d),some (.int C.2),some (.int i),some (.int j),some (.ref g),I,v,u]/\(∀b o,b≠d->b≠g->R b=some o->a3 b=some o)/\a3 g=some (.lst (h2.map V.ref))/\Paired (λq(s:Seat)=>a3 q=some (.tup [.int s.1,.int s.2])) h2 Wt/\GrAt K a3 d n m z f c4/\c4+free (nY n m) f<=L+40/\Fl TT (ms.map nO) n m C.1 f C.2 ((i:Int),(j:Int)) Wt/\2*free (nY n m) f+Wt.length<=80/\l5=2*free (nY n m) f+Wt.length,
      ⟨_,_,[((i:Int),(j:Int))],[a5],L+1,I,v,u,rfl,λb o D _ e=>s1 b o D e,s0,.cons p9 .nil,r4,by have:=Fv e5 (put C.1 ((i:Int),(j:Int)) C.2);omega,q6,by have:=Fv e5 (put C.1 ((i:Int),(j:Int)) C.2);simp only[List.length_cons,List.length_nil];omega,rfl⟩,?_⟩
     rintro l5 M a3 ⟨f,Wt,h2,c4,I,v,u,rfl,l9,q1,r0,n1,q5,g1,m7,rfl⟩;ext;refine⟨zZ _,λd2 q2=>?_⟩;have d4:=Same.new (o:=.lst []) q2;have q3:(upd a3 d2 (.lst [])) d2=some (.lst (([]:LA).map V.ref)):=nK;have l1:∀b o,b≠d->b≠g->R b=some o->(upd a3 d2 (.lst [])) b=some o:=λb o D G e=>d4 _ _ (l9 b o D G e);have c8:=d4 _ _ q1;have h3:=Paired.mapP r0 λ_ _ q=>d4 _ _ q;have j9:=n1.up d4;generalize upd a3 d2 (.lst [])=a6 at*
     refine Rb 5 ∅ (Dt.lst (SqL.of c8) (Nj h3)) (Dt.lst (SqL.of q3) (Nj (Wt:=[]) .nil)) (Ni _) (Ni _) (b:=decide (Wt=[])) (by rw[decide_eq_true_eq];exact pk_nil) ⟨_,rfl,?_⟩;cases Wt with
     |nil =>
      refine iteF ?_;have q0:=g1.end Z X;subst a8;ext;have g5:lL TT n m C ((i:Int),(j:Int))=(f,C.2+1):=by unfold lL;rw[hf,q0];rfl
      rw[g5];exact⟨rfl,λb o W e=>l1 b o W (g3 e W) e,c4,j9,⋯⟩
     | cons w0 Wt =>
      refine iteT ?_;obtain⟨c2,N,l8⟩:∃c2 N,w0:: Wt=c2++[N]:=⟨_,_,(List.dropLast_concat_getLast (List.cons_ne_nil w0 Wt)).symm⟩;rw[l8]at g1 h3 m7 ⊢;obtain⟨Y,a7,rfl,m1,n9⟩:=Nk h3;have o5:=g1.pop;refine⟨λi5 H'=>∃(F:Seat->Option Nat)(O:List Seat)(J:LA)(S:Nat)(I v u:Option V),i5=[some (.ref a),some (.int n),some (.int m),some (.str z),some (.ref d),some (.int C.2),some (.int i),some (.int j),some (.ref g),I,v,u]/\(∀b o,b≠d->b≠g->R b=some o->H' b=some o)/\H' g=some (.lst (J.map V.ref))/\Paired (λq(s:Seat)=>H' q=some (.tup [.int s.1,.int s.2])) J O/\GrAt K H' d n m z F S/\S+free (nY n m) F<=L+40/\Fl TT (ms.map nO) n m C.1 F C.2 ((i:Int),(j:Int)) O/\2*free (nY n m) F+O.length<2*free (nY n m) f+(c2++[N]).length,?_,?_⟩
      ·rintro i5 H' ⟨F,O,J,S,I,v,u,rfl,o3,o0,r1,o1,o6,s6,m4⟩;exact⟨_,m4,F,O,J,S,I,v,u,rfl,o3,o0,r1,o1,o6,s6,⋯,rfl⟩
      subst eB;refine st λt8 e4=>?_;ext;refine⟨.inl ⟨rfl,_,SqL.of c8⟩,g,_,.ref a7,rfl,rfl,c8,by simp,?_⟩;rw[show((Y++[a7]).map V.ref).dropLast=Y.map V.ref by rw[xW];exact List.dropLast_concat];have f2:∀c,c≠g->(upd a6 g (.lst (Y.map V.ref))) c=a6 c:=λc b6=>nN b6;have k9:(upd a6 g (.lst (Y.map V.ref))) g=some (.lst (Y.map V.ref)):=nK;have g0:TK K a6 (upd a6 g (.lst (Y.map V.ref))):=TK.off c8 (λ_ z=>by cases z) (λ_ _ z=>by cases z) f2;have l6:=j9.tk (by rw[f2 _ (yI b7)]) g0;have n2:=Paired.mapP m1 λ_ _ q=>g0.k _ _ q;have c9:=g0.k _ _ n9;have h7:∀b o,b≠d->b≠g->R b=some o->(upd a6 g (.lst (Y.map V.ref))) b=some o:=λb o D G e=>by rw[f2 b G];exact l1 b o D G e
      generalize upd a6 g (.lst (Y.map V.ref))=g2 at*;subst e4;refine lO λB eB=>?_;simp only[iSeq];ext;have f3:=k8 e3;have j7:=g3 (d6 _ _ e3) f3;have j1:=h7 _ _ f3 j7 (d6 _ _ e3);refine⟨false,⟨_,SqB.lst j1⟩,?_⟩;refine fA (g:=nS 10) (tb:=B) (λk M a9=>∃(F:Seat->Option Nat)(O:List Seat)(J:LA)(S:Nat)(v u:Option V),M=[some (.ref a),some (.int n),some (.int m),some (.str z),some (.ref d),some (.int C.2),some (.int i),some (.int j),some (.ref g),some (.ref a7),v,u]/\(∀b o,b≠d->b≠g->g2 b=some o->a9 b=some o)/\a9 g=some (.lst (J.map V.ref))/\Paired (λq(s:Seat)=>a9 q=some (.tup [.int s.1,.int s.2])) J O/\GrAt K a9 d n m z F S/\S+free (nY n m) F<=L+40/\FlI TT (ms.map nO) n m C.1 F C.2 ((i:Int),(j:Int)) N O k/\2*free (nY n m) F+O.length<2*free (nY n m) f+(c2++[N]).length)
       ⟨f,c2,Y,c4,v,u,rfl,λb o _ _ e=>e,k9,n2,l6,q5,o5,by rw[yF];simp⟩ (λ_ _ _ _⟨_,_,_,_,_,_,_,m6,_⟩=>SqB.lst (m6 _ _ f3 j7 j1)) ?_ ?_
      ·rintro k y M a9 b9 ⟨F,O,J,S,v,u,rfl,c0,e0,h5,i0,e6,b8,i1⟩;obtain⟨l0,r6,rfl⟩:=iY b9;obtain⟨x,j4,g9⟩:=jT j6 r6;have q8:=zqb j4;obtain⟨e9,m3,o4⟩:=n6 x q8;have f7:(ms.map nO)[k]?=some (nO x):=by rw[zO,j4];rfl
       have p2:R g=none:=by
        cases q:R g with
        |none=>rfl
        |some o=>exact absurd rfl (g3 q b7)
       have o2:=Mt (DdS.up g9 d6) (AB k1 p2 λc o D G e=>c0 c o D G (h7 c o D G e));have j5:InS n m N:=Z.in b8.zz.2;obtain⟨s3,i2⟩:=Mf (x:=x) (n:=n) (m:=m) (z:=N) e9.len e9.pos ⋯ ⋯;have m8:OnP x n m N:=s3.mp (Z.on _ (Z.s _ (zqb f7)) _ j5);have n5:=l6.ne (.inr c9);have m5:a7≠g:=λw=>by rw[w,k9]at c9;cases c9
       have j0:=c0 _ _ n5 m5 c9;obtain⟨a0,k0,n0,b1⟩:=id j5;obtain⟨p3,g6⟩:=yE a0;obtain⟨p8,d8⟩:=yE n0;subst eB;show tSeq _ _ _ [some (.ref a),some (.int n),some (.int m),some (.str z),some (.ref d),some (.int C.2),some (.int i),some (.int j),some (.ref g),some (.ref a7),some (.ref l0),u] a9;refine st λt9 h9=>?_;ext;refine⟨true,a7,_,_,_,rfl,rfl,SqB.tup j0,rfl,true,a7,_,_,_,rfl,rfl,SqB.tup j0,rfl,?_⟩;refine⟨l0,x.1,x.2.1,x.2.2,p3,p8,n,m,by rw[g6,d8],o2,e9,m3,o4,k6,⋯,⋯,λoff=>absurd (by rw[←g6,←d8]at off;exact off) m8,λnon c1 i8 d3 l3=>?_⟩;subst h9;ext;have b3:i8 c1=some (.tup [.int (rc x n m N).1,.int (rc x n m N).2]):=by
        rw[←g6,←d8]at l3;exact l3
       have i7:=aX (x:=x) (n:=n) (m:=m) ⋯ ⋯ (s:=N);have c6:=i0.up d3;have i3:∀b o,b≠d->b≠g->g2 b=some o->i8 b=some o:=λb o D G e=>d3 _ _ (c0 b o D G e);have g8:=d3 _ _ e0;have e7:=Paired.mapP h5 λ_ _ q=>d3 _ _ q;refine Fy (s:=rc x n m N) c6 i7 b3 ⟨_,rfl,?_⟩;cases hf':F (rc x n m N) with
       |some c =>
        refine iteF ?_;exact⟨i3,F,O,J,g8,e7,S,c6,e6,b8.had Z X f7 (by rw[i2,hf'];simp),i1⟩
       |none =>
        refine iteT ?_;refine⟨z,rfl,wA (eN ⋯),⋯,Fx j8 k7 ?_⟩;simp only[gSub];ext;have t7:g≠d:=b7;have r7:=c6.ne (.inr b3);have t4:c1≠g:=λw=>by rw[w,g8]at b3;cases b3
        have s7:=Fv e5 F;have t6:=Mc (c:=C.2) hf' (S:=nY n m) (AA i7);have r2:=lV e7;refine Fz (s:=rc x n m N) c6 b3 ⋯ λc5 c7 p5=>?_;have f1:=c7 _ _ b7 g8;have r9:=c7 _ _ r7 b3;have p4:=Paired.mapP e7 λ_ _ q=>c7 _ _ (c6.ne (.inr q)) q;have o8:∀b o,b≠d->b≠g->g2 b=some o->c5 b=some o:=λb o D G e=>c7 _ _ D (i3 b o D G e);have j2:=b8.add Z X f7 (by rw[i2];exact hf');rw[i2]at j2;refine⟨.inl ⟨rfl,_,SqL.of f1⟩,g,_,_,rfl,rfl,f1,iQ (by rw[zqe,r2];omega),?_⟩;have e8:∀c,c≠g->(upd c5 g (.lst (J.map V.ref++[V.ref c1]))) c=c5 c:=λc b6=>nN b6;have f5:TK K c5 (upd c5 g (.lst (J.map V.ref++[V.ref c1]))):=TK.off f1 (λ_ z=>by cases z) (λ_ _ z=>by cases z) e8;refine⟨λb o D G e=>by rw[e8 b G];exact o8 b o D G e,_,_,J++[c1],by rw[xW];exact nK,Mq (Paired.mapP p4 λ_ _ q=>f5.k _ _ q) (f5.k _ _ r9),S+1,p5.tk (by rw[e8 _ (yI b7)]) f5,⋯,j2,by rw[yF,List.length_singleton];omega⟩
      ·rintro M a9 ⟨F,O,J,S,v,u,rfl,c0,e0,h5,i0,e6,b8,i1⟩;rw[zqe,lV j6,←zqe (f:=nO)]at b8;exact⟨F,O,J,S,_,_,_,rfl,λb o D G e=>c0 b o D G (h7 b o D G e),e0,h5,i0,e6,b8.done,i1⟩
   ·rintro M U ⟨a2,a1,I,v,u,L,rfl,k3,d0,h1⟩;have e:i*m+m=(i+1)*m:=by rw[sI,oN]
    rw[e]at d0;exact⟨_,_,_,_,_,_,by rw[e],k3,L,d0,⋯⟩
  ·rintro M b2 ⟨e2,a2,a1,I,v,u,L,rfl,k2,d1,h1⟩;have p0:(nY n m).length=n*m:=by unfold nY;simp
   rw[←p0,vL]at d1;have all:∀i j:Nat,i<n->j<m->InS n m ((i:Int),(j:Int))/\∃c,(mP TT n m (nY n m)).1 ((i:Int),(j:Int))=some c:=λi j hi a4=>by
    have l4:=zqb (Fw (n:=n) (m:=m) hi a4).2;have X:=Ay (n:=n) h8 _ l4;exact⟨X,oX.mp (Ea (Z.refl X) _ _ l4)⟩
   have m9:Same H b2:=λb o e=>k2 b o (k8 e) (d6 _ _ e);generalize (mP TT n m (nY n m)).1=f at*
   symm;refine mQ λB eB=>?_;simp only[lF];ext;refine⟨⋯,⋯,λk0 q7=>?_⟩;rw[zW];refine iE (len:=n) (λi y _=>i<n/\y=.str (rowZ z m f i)) q7 ⋯ (λ_ _ _ _ r _=>r) ?_ ?_
   ·intro i U zs hi h4 t2 s2 q4;subst eB;show tBM _ _ _ _ _ [some (.int (0+(i:Int))),some (.int m),some (.ref d)] U s2;ext;refine⟨rfl,?_⟩;refine mQ λB eB=>?_;simp only[lF];ext;refine⟨⋯,⋯,λp6 n7=>?_⟩;rw[zW];refine iE (len:=m) (λj y _=>j<m/\y=.str (sgZ z ((f ((i:Int),(j:Int))).getD 0))) n7 ⋯ (λ_ _ _ _ r _=>r) ?_ ?_
    ·intro j c3 t1 a4 b4 s9 o7 r8;subst eB;show tOp _ _ _ [some (.int (0+(j:Int))),some (.int (0+(i:Int))),some (.ref d)] c3 o7;ext;rw[xV,xV];obtain⟨X,c,b6⟩:=all i j hi a4;refine⟨by show 2<=sizeLine;decide,λp f9=>?_⟩;have b0:=Same.new (o:=.tup [.int (i:Int),.int (j:Int)]) f9;exact Ny (s:=((i:Int),(j:Int))) (((d1.up h4).up b4).up b0) X nK b6 (r8 _ _ b0 ⟨a4,by rw[b6];rfl⟩)
    ·intro c3 ys b4 h9 f4 r3;have b9:ys=((List.range m).map λ(j:Nat)=>sgZ z ((f ((i:Int),(j:Int))).getD 0)).map V.str:=by
      refine kR (by simpa using f4) λj y e=>?_;obtain⟨a4,rfl⟩:=r3 j y e;exact⟨_,by rw[zO,yV a4];rfl,rfl⟩
     subst b9;refine⟨false,_,p6,_,rfl,rfl,SqB.lst h9,Nv (λx g9=>?_) (by simp;omega) ∅,q4 _ _ b4 ⟨hi,rfl⟩⟩;obtain⟨j,_,rfl⟩:=oR.mp g9;show 1<=2000
     decide
   ·intro U ys h4 e4 f4 m0;have b9:ys=(jH z n m f).map V.str:=by
     unfold jH;refine kR (by simpa using f4) λi y e=>?_;obtain⟨hi,rfl⟩:=m0 i y e;exact⟨_,by rw[zO,yV hi];rfl,rfl⟩
    subst b9;refine⟨k0,_,rfl,.inl ⟨SqL.of e4,λl hl=>?_⟩⟩;exact n8 l _ ((m9.trans h4).trans (Same.new hl)) nK
def lets:Str:= "qwertyuiopasdfghjklzxcvbnm."
theorem Nh:∀c∈lets.cps.toList,okc c=true/\c<123:=nofun
theorem AC:lets.cps.toList.length=27:=nofun
theorem AD{xs:List Str}{a:Str}(d:∀x∈xs,x.length<=1)(b:xs.length<=60)(c:a.length<=1):JoinOk a xs=true:=by
 unfold JoinOk;rw[wY];refine PySem.StrLaws.joinFits (B:=1) d ?_;have:xs.length*1<=60*1:=xK _ b;have:xs.length*a.length<=60*1:=yZ b c;omega
theorem AE{z:Str}(h:∀c∈z.cps.toList,c∈lets.cps.toList)(a:1<=z.length):kY z=true:=by
 unfold kY;rw[zQ];refine⟨?_,?_⟩
 ·rw[wY,decide_eq_false_iff_not];intro e;have:z=Str.ofString "" := by injection e
  rw[this]at a;exact absurd a ∅
 ·unfold Ef;rw[wI];exactλc b=>(Nh c (h c b)).1
theorem AF{z:Str}{m i:Nat}{f:Seat->Option Nat}(h:∀c∈z.cps.toList,c∈lets.cps.toList):PyData.strOk (rowZ z m f i)=true:=by
 unfold PyData.strOk;rw[←Array.all_toList,wI];unfold rowZ sgZ;rw[aZ,Az (λj=>z.cps.toList.getD ((f ((i:Int),(j:Int))).getD 0%z.length) 0)];intro c a;obtain⟨j,_,rfl⟩:=oR.mp a;have:∀k:Nat,z.cps.toList.getD k 0<123:=λk=>by
  rw[zqc];cases e:z.cps.toList[k]? with
  |none=>show(0:Nat)<123;decide
  |some c=>exact(Nh c (h c (zqb e))).2
 exact zK (by have:=this ((f ((i:Int),(j:Int))).getD 0%z.length);omega)
section
variable {G:Dd->Prop} {ms:List Dd} {srt:Tb} {n m:Nat}
theorem Ng(A:Amb 2 G)(mo:MsOk 2 G ms)(o:Told 2 (ms.map nO) srt):∀k∈ms.map nO,k∈srt.map (·.1):=λk a=>o.mem.mpr (Yj A.dim (yH o.l ∅) a (A.rs _ (cH A mo k a)))
theorem Nf(A:Amb 2 G)(mo:MsOk 2 G ms)(o:Told 2 (ms.map nO) srt)(F:1<=n)(r:1<=m)(p:∀x∈ms,¬ OffX x n m):OnT n m (srt.map (·.1)) (ms.map nO)/\¬ offT (srt.map (·.1)) n m:=by
 have b:=cH A mo;have good:=o.good A b;have c:(0:Int)<n:=⋯
 have d:(0:Int)<m:=⋯
 have q:∀s∈ms.map nO,∀z,InS n m z->OnP s n m z:=λs b z D=>by
  obtain⟨x,a,rfl⟩:=oR.mp b;have e:=mo.f x a;refine((Mf e.len e.pos c d).1).mpr λoff=>p x a ?_;obtain⟨i,j⟩:=z;obtain⟨a0,C,u,b1⟩:=D;obtain⟨f,rfl⟩:=yE a0;obtain⟨k,rfl⟩:=yE u;have J:(f:Int)<n:=C;have L:(k:Int)<m:=b1;exact Nu (i:=f) (j:=k) ⋯ ⋯ off
 have l:=Zk A b c d q;have g:∀x∈srt.map (·.1),∀z,InS n m z->OnP x n m z:=λx a=>by
  obtain⟨y,v,rfl⟩:=oR.mp (o.mem.mp a);exact l y v
 refine⟨⟨c,d,o.grp A b,λx a=>⟨(A.fine x (good x a)).sq,(A.fine x (good x a)).len,(A.fine x (good x a)).pos⟩,g,Ng A mo o,λx a=>o.mem.mp a⟩,λ⟨x,a,off⟩=>?_⟩;refine Nt (A.fine x (good x a)).sq r (λi j hi I=>g x a ((i:Int),(j:Int)) ⟨?_,?_,?_,?_⟩) off
 ·show(0:Int)<=i;omega
 ·show(i:Int)<n;omega
 ·show(0:Int)<=j;omega
 ·show(j:Int)<m;omega
theorem AG(A:Amb 2 G)(mo:MsOk 2 G ms)(o:Told 2 (ms.map nO) srt)(c:1<=n)(d:1<=m)(h:∃x∈ms,OffX x n m):offT (srt.map (·.1)) n m:=by
 obtain⟨x,b,off⟩:=h;have a:=mo.f x b;refine⟨nO x,Ng A mo o _ (oR.mpr ⟨x,b,rfl⟩),(Yc ?_ (.inl a.len) a.pos c d).mpr off⟩;rw[a.len];exact a.sq
theorem AH{TT ss:List Dd}(c:OnT n m TT ss)(d:1<=m):∀x∈TT,∀s,InS n m s->OnP x n m s/\(mP TT n m (nY n m)).1 (rc x n m s)=(mP TT n m (nY n m)).1 s:=λx b s a =>
 ⟨c.on x b s a,(Eb c _ _ (λs a=>Ay d s a) (λ_ _ _ _=>rfl):Inv2 TT n m (mP TT n m (nY n m)).1) s _ a (jQ.mpr ⟨x,b,rfl⟩)⟩
end
theorem Nd{d:Nat}{G:Dd->Prop}{ms:List Dd}{srt:Tb}{H:Hp}{g:Addr}(A:Amb d G)(mo:MsOk d G ms)(o:Told d (ms.map nO) srt)(h:GrpF K t H g d ms srt):GrpS K t H g d ms srt:=
 ⟨h,A.dim,o.len,λx a=>A.fine x (o.good A (cH A mo) x a),o.mem.mpr (oR.mpr ⟨_,En,rfl⟩)⟩
theorem Fu{K:Frag}{H H':Hp}{p:Addr}{xs:List V}(h:SqL K H p xs)(s:Same H H'):SqL K H' p xs:=SqB.up (b:=false) h s
theorem Nc{L:List Nat}:∀{ys:List V},(∀(j:Nat) y,ys[j]?=some y->∃ch∈L,y=.str ⟨#[ch]⟩)->∃cs:List Nat,ys=(cs.map λch=>(⟨#[ch]⟩:Str)).map V.str/\∀ch∈cs,ch∈L
 |[],_=>⟨[],rfl,λ_ h=>(by cases h)⟩
 |y:: ys,h=>by
  obtain⟨ch,b,rfl⟩:=h 0 y rfl;obtain⟨cs,rfl,d⟩:=Nc (ys:=ys) λj y e=>h (j+1) y (by simpa using e);refine⟨ch:: cs,rfl,λc a=>?_⟩;rcases xC.mp a with rfl|a
  ·exact b
  ·exact d c a
theorem AI(cs:List Nat):(Txt.join ("" :Str) (cs.map λch=>(⟨#[ch]⟩:Str))).cps.toList=cs:=by
 rw[aZ,Az (λc=>c)];simp
theorem AJ{i:Int}{H:Hp}{Q:VK}(q:∀ch∈lets.cps.toList,Q (.str ⟨#[ch]⟩) H):rIxS (.str lets) (.int (i.fmod 27)) H Q:=by
 obtain⟨k,c,b⟩:=fM (c:=i) (d:=27) ∅;obtain⟨ch,a⟩:∃ch,lets.cps.toList[k]?=some ch:=⟨_,zqd (by rw[AC];exact b)⟩;exact⟨_,_,ch,rfl,rfl,wA (eN (show lets.length<=1000 by decide +kernel)),kH a c,q ch (zqb a)⟩
theorem AK:∃G,Amb 3 G/\MsOk 3 G []:=by
 obtain⟨G,A,mo,_,_⟩:=Mu (k:=2) (L:=[]) (su:=1) (ms:=[]) ∅ (λ_ h=>nomatch h) ∅ ∅ ∅ ∅ (λ_ h=>nomatch h);exact⟨G,A,mo⟩
theorem ok_1a(T:Txt K mg t):FnOk P w K mg base CX0 22 t.a_1a t.d_1a ["_law_script"] (Gg K):=by
 have Z:=@ok_6 P w K mg base t T;have m4:=@ok_g P w K mg base t T;have g8:=@ok_k P w K mg base t T;have j7:=@ok_0 P w K mg base t T;have k4:=@ok_1 P w K mg base t T;have h8:=@ok_c P w K mg base t T;have f7:=@ok_f P w K mg base t T;have k9:=@ok_x P w K mg base t T;have k7:=@ok_8 P w K mg base t T;have j3:=@ok_r P w K mg base t T;apply T.F_1a.ok sc_1a
 ·have k6:=hr.units;obtain⟨a,ns,rfl,f9,o2,p5,f8⟩:=h;refine⟨_,(nF (nP (i:=1) sc_1a.nd rfl (Or.inl rfl) (nW Z hr.mo T.F_6 (nD (pq 0) (nD nI nE))))
   (nF (nP (i:=2) sc_1a.nd rfl (Or.inl rfl) (nH kF nI (nH mH (pq 1) nI)))
   (nF (nP (i:=3) sc_1a.nd rfl (Or.inl rfl) (nH kF nI (nH mH (nH lD (pq 1) nI) nI)))
   (nF (mF (mC jC (nH mH (nH lD (pq 1) nI) nI) nI (mB _))
   (nJ (nP (i:=3) sc_1a.nd rfl (Or.inl rfl) (pq 2)))
   mE)
   (nF (nP (i:=4) sc_1a.nd rfl (Or.inl rfl) (nH mH (nH lD (pq 1) nI) nI))
   (nF (nP (i:=5) sc_1a.nd rfl (Or.inl rfl) (mS nE))
   (nF (lN yJ rfl (lQ rfl T.z_range (nD (nH mH (nH lD (pq 1) nI) nI) nE)) (mM (i:=6) sc_1a.nd rfl (Or.inl rfl))
   (nJ (jJ (jS xH xT xQ iA (pq 5) (nD (nW m4 hr.mo T.F_g (nD (pq 4) (nD (nW Z hr.mo T.F_6 (nD (pq 0) (nD (nH kF nI (pq 6)) nE))) (nD (nW Z hr.mo T.F_6 (nD (pq 0) (nD (nH kF nI (pq 6)) nE))) (nD (pq 2) (nD (pq 3) nE)))))) nE)))))
   (nF (nP (i:=7) sc_1a.nd rfl (Or.inl rfl) (nW g8 hr.mo T.F_k (nD (pq 5) nE)))
   (nF (eX yJ (mC Ao (pq 7) gR (mB _))
   (nF (nP (i:=5) sc_1a.nd rfl (Or.inl rfl) (Af sl_B (pq 5) (Ag nI) Ah))
   (nJ (nP (i:=7) sc_1a.nd rfl (Or.inl rfl) (nW g8 hr.mo T.F_k (nD (pq 5) nE))))))
   (nF (nP (i:=8) sc_1a.nd rfl (Or.inr rfl) mL)
   (nF (nP (i:=9) sc_1a.nd rfl (Or.inl rfl) (nH kF nI (nH mH (nW Z hr.mo T.F_6 (nD (pq 0) (nD nI nE))) nI)))
   (nF (nP (i:=10) sc_1a.nd rfl (Or.inl rfl) (jS sT rG rE Bf mL (nD (kB (sc:=nM s_1a) (N:=N_1a) (fr:=[("_law_script",0),("_law_letters",8)]) (te:=(tOp rIxS (tVar 2) (tOp (rI (λ_ j=>j≠0) λi j=>.int (i.fmod j)) (tOp (rI0 λi j=>.int (i+j)) (tOp (rI (λi j=>IntMulOk i j) λi j=>.int (i*j)) (tVar 0) (tOp (rI0 λi j=>.int (i+j)) (tC (.int 1)) (tOp (rI (λ_ j=>j≠0) λi j=>.int (i.fmod j)) (tOp (rI iS λi j=>.int (i.fdiv j)) (kP (sp_6 K) [] E0 (mG (tVar 1) (mG (tC (.int 1)) tNil))) (tC (.int 60))) (tC (.int 26))))) (tOp (rI (λi j=>IntMulOk i j) λi j=>.int (i*j)) (tVar 0) (tVar 0))) (tC (.int 27))))) rfl rfl (nofun) rfl (nofun) (lQ rfl T.z_range (nD (pq 9) nE)) (λ_ _ _ p0=>(lC fR (pv 2) (nH mH (nH kF (nH mK (pv 0) (nH kF nI (nH mH (nH lD (nW Z hr.mo T.F_6 (nD (pv 1) (nD nI nE))) nI) nI))) (nH mK (pv 0) (pv 0))) nI) (λ_ _=>rfl)))) nE)))
   (nF (nP (i:=11) sc_1a.nd rfl (Or.inl rfl) (Pk (C:=t.a_l) (T.mk_l) j7 hr.mo rfl T.m_l T.bd_Group___init__ (dvs:=[.int 200]) (.cons ⟨_,rfl⟩ .nil) dE (nD nI (nD (mS nE) nE))))
   (nF (mF (PW.pt (kZ (gU (lY (nW h8 hr.mo T.F_c (nD (pq 7) (nD (nW Z hr.mo T.F_6 (nD (pq 0) (nD nI nE))) (nD (pq 10) nE)))))) (jX (gU (lY (nW h8 hr.mo T.F_c (nD (pq 11) (nD (nW Z hr.mo T.F_6 (nD (pq 0) (nD nI nE))) (nD (pq 10) nE)))))))))
   (nJ (nX gQ))
   mE)
   (nF (mF (mC cN (nU (nW f7 hr.mo T.F_f (nD (pq 11) (nD (pq 2) (nD (pq 3) (nD (pq 10) nE)))))) mL (mB _))
   (nJ (nX gQ))
   mE)
   (nF (gW (nW f7 hr.mo T.F_f (nD (pq 7) (nD (pq 2) (nD (pq 3) (nD (pq 10) nE))))) (Hm rfl (mY (mM (i:=12) sc_1a.nd rfl (Or.inl rfl)) (mY (mM (i:=13) sc_1a.nd rfl (Or.inl rfl)) jR))))
   (nF (mF (lY (nW k9 hr.mo T.F_x (nD (pq 5) (nD (pq 2) (nD (pq 3) nE)))))
   (nJ (nX (iP cM (pq 12) mL (mB _))))
   mE)
   (nF (mF (PW.pt (kZ (mC cN (pq 12) mL (mB _)) (kZ (gU (lY (lA gD rfl T.z_isinstance (nofun) (nD (pq 13) (nD (fO (v:=.ty "tuple") rfl T.z_tuple (nofun) rfl) nE))))) (jX (mC (Gj k6) (pq 13) (nW k7 hr.mo T.F_8 (nD (pq 5) (nD (pq 2) (nD (pq 3) (nD (pq 10) nE))))) (mB _))))))
   (nJ (nX gQ))
   mE)
   (nJ (nX (nW j3 hr.mo T.F_r (nD (pq 13) (nD (Fd (C:=t.a_l) (pq 7) T.cl_l T.me_1 k4 hr.mo T.b_1 .nil cR) (nD (pq 2) (nD (pq 3) nE))))))))))))))))))))))))),?_⟩
  show tSeq _ _ _ [some (.ref a),none,none,none,none,none,none,none,none,none,none,none,none,none] H;right;refine⟨a,ns,_,rfl,f9,∅,?_⟩;generalize ns.getD (Int.toNat 0) 0=c;left;obtain⟨b9,f4,l6⟩:=fM (c:=c) (d:=6) ∅;obtain⟨b0,h5,n6⟩:=fM (c:=c.fdiv 6) (d:=6) ∅;have h1:(1:Int)+c.fmod 6=((b9+1:Nat):Int):=by have:c.fmod 6=b9:=f4;omega
  have f3:(1:Int)+(c.fdiv 6).fmod 6=((b0+1:Nat):Int):=by have:(c.fdiv 6).fmod 6=b0:=h5;omega
  refine⟨∅,?_⟩;rw[h1];left;refine⟨dvs _ _ ∅ ∅,∅,?_⟩;rw[f3];subst e1;refine st λN1 e1=>?_;have c2:1<=b9+1/\b9+1<=6:=⟨⋯,⋯⟩;have d8:1<=b0+1/\b0+1<=6:=⟨⋯,⋯⟩;generalize b9+1=n at*
  generalize b0+1=m5 at*;have h7:∀m:Nat,1<=m->m<=6->N1 [some (.ref a),some (.int c),some (.int n),some (.int m),none,none,none,none,none,none,none,none,none,none] H:=by
   clear d8 h5 f3 f4 h1 n6 l6;intro m m9 m2;have M:jW n m:=⟨c2.1,c2.2,m9,m2⟩;left;refine⟨dvs _ _ ∅ ∅,∅,?_⟩;generalize (c.fdiv 72).fmod 3=O;left;refine⟨zZ _,λl hl=>?_⟩;have g2:(upd H l (.lst [])) l=some (.lst (([]:LA).map V.ref)):=nK;have i0:Same H (upd H l (.lst [])):=Same.new hl;generalize upd H l (.lst [])=p2 at*
   subst e1;refine st λN1 e1=>lO λB eB=>?_;simp only[lF];ext;obtain⟨k0,j8,p7⟩:=fM (c:=c.fdiv 216) (d:=4) ∅;have j0:(c.fdiv 216).fmod 4=(k0:Int):=j8;rw[j0];refine⟨dvs _ _ ∅ ∅,∅,⋯,⋯,?_⟩;rw[zW];have b2:∀{H'},Same H H'->SqL K H' a (ns.map V.int):=λs=>Fu f9 s;refine gG (g:=nS 6) (tb:=B) (λi a6 R=>∃(X:Option V)(U:LA)(ms:List Dd),a6=[some (.ref a),some (.int c),some (.int n),some (.int m),some (.int O),some (.ref l),X,none,none,none,none,none,none,none]/\Same H R/\R l=some (.lst (U.map V.ref))/\Paired (DdS K (offH l R)) U ms/\(∀x∈ms,Mkr (famS O) [] 1 x)/\ms.length=i)
    ⟨none,[],[],rfl,i0,g2,.nil,λ_ h=>(by cases h),rfl⟩ ?_ ?_
   ·rintro i a6 R hi ⟨X,U,ms,rfl,a1,a2,a8,c8,e3⟩;subst eB;show Au _ _ [some (.ref a),some (.int c),some (.int n),some (.int m),some (.int O),some (.ref l),some (.int (0+(i:Int))),none,none,none,none,none,none,none] R;rw[xV];ext;refine⟨.inl ⟨rfl,_,SqL.of a2⟩,a,ns,_,rfl,b2 a1,⋯,a,ns,_,rfl,b2 a1,⋯,O,_,_,n,m,rfl,M,λr F x C hr d=>?_⟩;have f1:=C _ _ a2;refine⟨l,_,_,rfl,rfl,f1,iQ (by rw[zqe,lV a8];omega),?_⟩;have g5:∀b o,b≠l->F b=some o->(upd F l (.lst (U.map V.ref++[V.ref r]))) b=some o:=λb o n3 e=>by rw[nN n3];exact e
    refine⟨λb o e=>g5 b o (λw=>by rw[w,hl]at e;cases e) (C _ _ (a1 _ _ e)),U++[r],by rw[xW];exact nK,ms++[x],?_,λz a9=>?_,by rw[yF,e3];rfl⟩
    ·exact Paired.mapP (Mq (Paired.mapP a8 λ_ _ z=>DdS.up z (aN C.x)) (Mt (DdAt.s hr) (Kv f1))) λ_ _ z=>DdS.up z (aN g5)
    ·rcases oW.mp a9 with a9|a9
     ·exact c8 z a9
     ·rw[oQ.mp a9];exact d
   ·rintro a6 R ⟨X,U,ms,rfl,a1,a2,e9,c8,e3⟩;have a8:=Paired.mapP e9 λ_ _ z=>DdS.up z Ew;have h0:ms.length<=3:=⋯
    obtain⟨G,A,mo,e5,bm⟩:=Mu (k:=famS O) (L:=[]) (su:=1) (zL (fs2 O) ∅) (λ_ h=>nomatch h) ∅ ∅ ∅ h0 c8;rw[fd2 (fs2 O)]at A mo;clear c8 e9 e3 i0 g2;clear eB B;left;have g3:∀(v:V)(F:Hp),Same R F->GN K t F 2 ms v->N1 [some (.ref a),some (.int c),some (.int n),some (.int m),some (.int O),some (.ref l),X,some v,none,none,none,none,none,none] F:=by
     intro v F C c1;subst e1;refine st λN1 e1=>Bv λB eB=>?_;refine⟨λg9 a6 H'=>∃(J:Addr)(Y:LA)(u:List Dd)(v:V),a6=[some (.ref a),some (.int c),some (.int n),some (.int m),some (.int O),some (.ref J),X,some v,none,none,none,none,none,none]/\Same R H'/\H' J=some (.lst (Y.map V.ref))/\Paired (DdS K H') Y u/\(∀x∈u,x∈ms)/\u.length<=3/\g9=u.length/\GN K t H' 2 u v,
      ⟨ms.length,l,U,ms,v,rfl,C,C _ _ a2,Paired.mapP a8 λ_ _ z=>DdS.up z C,λ_ h=>h,h0,rfl,c1⟩,?_⟩
     clear c1 C F v;rintro g9 a6 F ⟨J,Y,u,v,rfl,C,h9,c0,sub,m3,rfl,c1⟩;have a3:MsOk 2 G u:=⟨λs W=>mo.f s (sub s W),λs W=>mo.g s (sub s W),⋯⟩;ext;rcases c1 with⟨rfl,a0⟩|⟨g,srt,rfl,a7,o⟩
     ·refine iteT ⟨λf0 H'=>∃(J:Addr)(L:LA)(N:List Dd)(v:V),f0=[some (.ref a),some (.int c),some (.int n),some (.int m),some (.int O),some (.ref J),X,some v,none,none,none,none,none,none]/\Same R H'/\H' J=some (.lst (L.map V.ref))/\Paired (DdS K H') L N/\(∀x∈N,x∈ms)/\N.length<u.length/\GN K t H' 2 N v,?_,?_⟩
      ·rintro f0 H' ⟨J,L,N,v,rfl,k1,k2,k3,l0,k5,n4⟩;exact⟨_,k5,J,L,N,v,rfl,k1,k2,k3,l0,⋯,rfl,n4⟩
      subst eB;refine st λl4 a2=>?_;ext;refine⟨false,J,_,rfl,SqB.lst h9,(by intro z;cases z),λb1 j4=>?_⟩
      match u,Y,c0,a0 with
      |[],_,_,a0=>exact absurd a0 (by rw[rS,Mr];decide)
      |m0:: N,o7:: L,c0,_ =>
      rw[show(1:Int)=((1:Nat):Int) from rfl,Yf (by rw[zqe];exact Nat.succ_le_succ (zZ _))];have ss:=Same.new (o:=.lst (L.map V.ref)) j4;have c5:(upd F b1 (.lst (L.map V.ref))) b1=some (.lst (L.map V.ref)):=nK;show l4 _ (upd F b1 (.lst (L.map V.ref)));generalize upd F b1 (.lst (L.map V.ref))=o9 at ss c5 ⊢;have d2:=Paired.mapP (Ye c0) λ_ _ z=>DdS.up z ss;subst a2;ext;have c3:∀x∈N,x∈ms:=λx d=>sub x (.tail _ d);have l8:MsOk 2 G N:=⟨λs W=>mo.f s (c3 s W),λs W=>mo.g s (c3 s W),by rw[zT]at m3;omega⟩;refine⟨b1,L,N,G,rfl,c5,d2,A,l8,λa0 S I=>?_,λg srt S I a7 o=>?_⟩
      ·exact⟨(C.trans ss).trans I,L,I _ _ c5,N,Paired.mapP d2 λ_ _ z=>DdS.up z I,c3,vI _,.inl ⟨rfl,a0⟩⟩
      ·exact⟨(C.trans ss).trans I,L,I _ _ c5,N,Paired.mapP d2 λ_ _ z=>DdS.up z I,c3,vI _,.inr ⟨g,srt,rfl,a7,o⟩⟩
     ·refine iteF ?_;clear B eB;left;left;refine⟨a,ns,_,rfl,b2 (a1.trans C),∅,?_⟩;generalize ns.getD (Int.toNat 1) 0=e2;ext;refine⟨∅,?_⟩;obtain⟨w0,j9,o1⟩:=fM (c:=e2) (d:=60) ∅;have i1:(1:Int)+e2.fmod 60=((w0+1:Nat):Int):=by have:e2.fmod 60=w0:=j9;omega
      rw[i1];left;refine⟨rfl,?_⟩;refine mQ λB eB=>?_;simp only[lF];ext;refine⟨⋯,⋯,λk8 l9=>?_⟩;rw[zW];refine iE (len:=w0+1) (λk y _=>k<w0+1/\∃ch∈lets.cps.toList,y=.str ⟨#[ch]⟩) l9 ⋯ (λ_ _ _ _ r _=>r) ?_ ?_
      ·intro k S zs i3 I c4 n0 n1;subst eB;show tOp _ _ _ [some (.int (0+(k:Int))),some (.ref a),some (.str lets)] S n0;rw[xV];ext;refine⟨a,ns,_,rfl,b2 ((a1.trans C).trans I),∅,?_⟩;generalize ns.getD (Int.toNat 1) 0=m7;ext;have p4:=fms (m7.fdiv 60) 26 ∅;refine⟨dvs _ _ ∅ ∅,∅,mulS ⋯,mulS ⋯,∅,AJ λch l7=>n1 _ _ (Same.refl _) ⟨i3,ch,l7,rfl⟩⟩
      ·intro S ys I g4 d6 e8;obtain⟨cs,rfl,e0⟩:=Nc λj y e=>(e8 j y e).2;rw[zqe,zqe]at d6;refine⟨false,_,k8,_,rfl,rfl,SqB.lst g4,AD (λx d=>?_) (by rw[zqe];omega) ∅,?_⟩
       ·obtain⟨j,_,rfl⟩:=oR.mp d;exact zG 1
       have c4:=AI cs;show N1 [some (.ref a),some (.int c),some (.int n),some (.int m),some (.int O),some (.ref J),X,some (.ref g),some (.str lets),some (.int (w0+1:Nat)),some (.str (Txt.join ("" :Str) (cs.map λch=>(⟨#[ch]⟩:Str)))),none,none,none] S;generalize Txt.join ("" :Str) (cs.map λch=>(⟨#[ch]⟩:Str))=z at*
       have n9:z.length=w0+1:=by
        have:z.cps.toList.length=z.length:=by simp[Str.length]
        rw[←this,c4,d6]
       rw[←c4]at e0;have m6:=AE e0 ⋯;have b5:z.length<=1000:=⋯
       clear c4 d6 e8 eB B g4;have i8:=C.trans I;have b4:=Nd A a3 o (a7.up I);have b8:=I _ _ h9;have b6:=Paired.mapP c0 λ_ _ z=>DdS.up z I;have c6:=b2 (a1.trans i8);left;simp only[Ff];ext;refine⟨zZ _,λp g6=>?_⟩;have ep:(upd S p (.lst [])) p=some (.lst (([]:LA).map V.ref)):=nK;have h2:Same S (upd S p (.lst [])):=Same.new g6;generalize upd S p (.lst [])=n7 at*
       intro x o6 nx f2 ne;obtain⟨h4,g0⟩:=My (C:=t.a_l) nx f2 ne;obtain⟨n8,A3,g1⟩:=AK;refine Mz (d:=3) (most:=200) A3 g1 g0 h4 (SqB.lst ep) .nil ∅ ∅ nx (λhl=>absurd hl (by rw[rS,Mr];decide)) λhl d0 p6 a5 j6 j5=>⟨rfl,?_⟩;have e4:=Nd A3 g1 j5 j6;have b7:=h2.trans a5;replace b4:=b4.up b7;replace b8:=b7 _ _ b8;replace b6:=Paired.mapP b6 λ_ _ z=>DdS.up z b7;replace c6:=Fu c6 b7;clear a5 b7 h2 ep g0 h4 nx f2 ne g6;left;refine⟨a,ns,_,rfl,c6,∅,g,_,z,2,u,srt,rfl,b4,b5,λp1 a5=>⟨_,rfl,iteF ?_⟩⟩;refine⟨a,ns,_,rfl,Fu c6 a5,∅,x,_,z,3,[],d0,rfl,e4.up a5,b5,λo5 l5=>⟨_,rfl,iteF ?_⟩⟩;have e7:=a5.trans l5;have good:hJ n m z:=⟨⟨⋯,⋯⟩,⟨⋯,⋯⟩,m6⟩;have l1:∀i j,offT (d0.map (·.1)) i j:=λi j=>⟨mD 3,e4.o,.inl rfl⟩;left;refine⟨x,n,m,z,3,[],d0,rfl,e4.up e7,b5,λd7=>absurd good d7,λ_ _ r o0 j2 b3=>⟨false,r,_,_,_,rfl,rfl,SqB.lst b3,rfl,?_⟩,λ_ non=>absurd (l1 _ _) non⟩;refine⟨rfl,false,by rw[zK rfl];rfl,iteF ?_⟩;have e6:=e7.trans j2;have d4:∀x∈u,Wee x:=λx d=>⟨a3.f x d,(e5 _ (a3.g x d)).1,(bm x (sub x d)).1⟩;left;refine⟨g,n,m,z,2,u,srt,rfl,b4.up e6,b5,λd7=>absurd good d7,λ_ off r l2 d5 b3=>?_,λ_ non r m8 l2 d5 b3 f6=>?_⟩
       ·rw[zW,zW]at off;have i6:∃x∈u,OffX x n m:=by
         by_cases h:∃x∈u,OffX x n m
         ·exact h
         ·exact absurd off (Nf A a3 o M.1 M.2.2.1 λx d q=>h ⟨x,d,q⟩).2
        refine⟨false,r,_,rfl,SqB.lst b3,rfl,_,_,rfl,_,_,rfl,rfl,?_⟩;have a4:=e6.trans d5;left;refine⟨J,Y,u,n,m,rfl,a4 _ _ b8,Paired.mapP b6 λ_ _ z=>DdS.up z a4,d4,M,λ_ h3 d3=>?_,λc7=>absurd i6 λ⟨x,d,q⟩=>c7 x d q⟩;ext;exact⟨rfl,by rw[zK rfl];exact f8 h3⟩
       ·rw[zW,zW]at non f6;have c7:∀x∈u,¬ OffX x n m:=λx d q=>non (AG A a3 o M.1 M.2.2.1 ⟨x,d,q⟩);obtain⟨f5,_⟩:=Nf A a3 o M.1 M.2.2.1 c7;refine⟨false,r,_,rfl,SqB.lst b3,rfl,_,_,rfl,_,_,rfl,rfl,?_⟩;have a4:=e6.trans d5;left;refine⟨J,Y,u,n,m,rfl,a4 _ _ b8,Paired.mapP b6 λ_ _ z=>DdS.up z a4,d4,M,λ⟨x,d,q⟩=>absurd q (c7 x d),λ_ h3 d3=>?_⟩;have c9:=a4.trans d3;have h6:=d3 _ _ f6;ext;left;refine⟨rfl,false,by rw[zK rfl];rfl,iteF ?_⟩;refine⟨_,_,_,true,rfl,.tupS (SqT.of h6),rfl,rfl,true,rfl,iteF ?_⟩;refine⟨J,Y,u,n,m,z,srt.map (·.1),rfl,c9 _ _ b8,Paired.mapP b6 λ_ _ z=>DdS.up z c9,d4,M,⋯,b5,f5,λo8 o4 g7 i2=>?_⟩;have d1:=g7 _ _ h6;have i4:=AH f5 M.2.2.1;generalize (mP (srt.map (·.1)) n m (nY n m)).1=f at*
        have i5:∀x∈jH z n m f,PyData.strOk x=true:=λx d=>by
         obtain⟨i,_,rfl⟩:=oR.mp d;exact AF e0
        generalize hD:jH z n m f=D at*;refine Sf (xs:=D) i5 d1 i2 ?_;rw[←hD]at d1;refine⟨_,rfl,iteF ?_⟩;have i9:=c9.trans g7;have d9:=o.good A (cH A a3);symm;simp only[Al];ext;refine Mw (b4.up i9).gg λj1 m1 p3 n5 o3 i7 l3=>?_;exact⟨m8,j1,m1,srt.map (·.1),n,m,z,f,rfl,n5 _ _ d1,i7,Mx l3,λx d=>⟨A.fine x (d9 x d),(e5 x (d9 x d)).1,(e5 x (d9 x d)).2.1⟩,M,i4,λn2 _=>f8 n2⟩
    refine⟨l,U,ms,G,rfl,a2,a8,A,mo,λa0 F C=>?_,λg srt F C a7 o=>?_⟩
    ·exact g3 .non F C (.inl ⟨rfl,a0⟩)
    ·exact g3 (.ref g) F C (.inr ⟨g,srt,rfl,a7,o⟩)
  ext;refine⟨dvs _ _ ∅ ∅,∅,ite2 (λ_=>h7 n c2.1 c2.2) (λ_=>h7 m5 d8.1 d8.2)⟩
end
theorem us1{a:Type}{us:List a}(h:us.length=1):∃a0,us=[a0]:=match us,h with|[a0],_=>⟨a0,rfl⟩
theorem us2{b:Type}{us:List b}(h:us.length=2):∃a0 a,us=[a0,a]:=match us,h with|[a0,a],_=>⟨a0,a,rfl⟩
theorem us3{c:Type}{us:List c}(h:us.length=3):∃a0 b a,us=[a0,b,a]:=match us,h with|[a0,b,a],_=>⟨a0,b,a,rfl⟩
theorem us4{d:Type}{us:List d}(h:us.length=4):∃a0 c a b,us=[a0,c,a,b]:=match us,h with|[a0,c,a,b],_=>⟨a0,c,a,b,rfl⟩
theorem us5{e:Type}{us:List e}(h:us.length=5):∃a0 d c a b,us=[a0,d,c,a,b]:=match us,h with|[a0,d,c,a,b],_=>⟨a0,d,c,a,b,rfl⟩
abbrev caG(K:Frag)(C:Addr):Prop:=findIn K (.ref C) "__class__"=some (some (.builtin "object.__class__"))
abbrev nG(K:Frag)(x:Str)(f:Addr):Prop:=nsIn K mainGlobals x=some (some (.ref f))
local macro_rules | `(tactic| walk_at "1")=>`(tactic| (intro _ _ _ _ _ _ us hl; obtain ⟨_,hh⟩:=us1 hl; subst hh; rfl))
local macro_rules | `(tactic| walk_at "2")=>`(tactic| (intro _ _ _ _ _ _ us hl; obtain ⟨_,_,hh⟩:=us2 hl; subst hh; rfl))
theorem txt_mk{K:Frag}{h:Heap}{e2:MT}(X:K.In h)(G:h.Ns mainGlobals e2)
  {f b4 g d3 l d b a j c U k T P O R a4 W r p N a2 a9 F b3 V z C a3 Z Y b2 m M i J a1 D a0 b1 a7 u I n y w S L a6 x a5 q:Addr}{u1 r9 j1 s3 u8 v9 h0 i2 u4 u0 r8 x7 q9 l7 w3 h6 w5 t2 o3 i9 w8 w7 n2 r0 h2 n0 g3 r6 n4 q8 w4 p5 o2 t9 s0 t0 i3 v6 j7 g1 i4 t3:FuncData}
  {e:Addr}{r3 w9:Option Addr}{k2:Array (Option Value)}{m0 x9 x1 o8 e0 u7:Value}
  {c6:Addr}{k4:Value}{k0:Option Addr}{p6:Nat}{h8:Array (Option Value)}{b0:Tok}
  {m8:Tok}
  {j6:Tok}
  {s1:Tok}
  (q5:nG K "CrystalError" f)
  (u6:nG K "NoPlace" b4)
  (u3:nG K "NoDeed" g)
  (h4:nG K "NoNumber" d3)
  (h5:nG K "NoText" l)
  (j2:nG K "TooMany" d)
  (y1:nG K "NoDrawing" b)
  (x4:nG K "OffSheet" a)
  (j9:nG K "NoSheet" j)
  (k1:nG K "Group" c)
  (k5:nG K "copied" U)
  (d1:Fun K "copied" "copied" bZ U u1)
  (y3:findIn K (.ref d) "__init__"=some (some (.ref k)))
  (f4:Fun K "__init__" "TooMany.__init__" s_2 k r9)
  (j0:nG K "divisor" T)
  (b5:Fun K "divisor" "divisor" Ca T j1)
  (o5:nG K "place" P)
  (e8:Fun K "place" "place" aA P s3)
  (x8:nG K "rest_place" O)
  (c7:Fun K "rest_place" "rest_place" aC O u8)
  (v5:nG K "still_rows" R)
  (c5:Fun K "still_rows" "still_rows" aD R v9)
  (l2:nG K "dot" a4)
  (d6:Fun K "dot" "dot" s_1c a4 h0)
  (n3:nG K "turned" W)
  (f7:Fun K "turned" "turned" s_12 W i2)
  (g7:nG K "without" r)
  (g0:Fun K "without" "without" aE r u4)
  (q2:nG K "determinant" p)
  (c0:Fun K "determinant" "determinant" s_3 p u0)
  (t8:nG K "joined" N)
  (c4:Fun K "joined" "joined" aF N r8)
  (x3:nG K "deed" a2)
  (e9:Fun K "deed" "deed" s_18 a2 x7)
  (o1:nG K "still" a9)
  (e4:Fun K "still" "still" s_17 a9 q9)
  (p8:nG K "moved" F)
  (d2:Fun K "moved" "moved" s_13 F l7)
  (h3:nG K "behind" b3)
  (d5:Fun K "behind" "behind" s_11 b3 w3)
  (u2:nG K "rest" V)
  (b6:Fun K "rest" "rest" s_1b V h6)
  (r7:nG K "are_signs" z)
  (f3:Fun K "are_signs" "are_signs" aG z w5)
  (m3:nG K "is_length" C)
  (c3:Fun K "is_length" "is_length" Dz C t2)
  (w1:nG K "seats" a3)
  (d4:Fun K "seats" "seats" s_15 a3 o3)
  (m2:nG K "seat_at" Z)
  (f6:Fun K "seat_at" "seat_at" Dy Z i9)
  (m6:nG K "seats_reached" Y)
  (f0:Fun K "seats_reached" "seats_reached" s_4 Y w8)
  (j8:nG K "check_most" b2)
  (f5:Fun K "check_most" "check_most" Dx b2 w7)
  (s8:nG K "check_axes" m)
  (c1:Fun K "check_axes" "check_axes" Dw m n2)
  (p7:nG K "closed" M)
  (e6:Fun K "closed" "closed" dY M r0)
  (y4:findIn K (.ref c) "__init__"=some (some (.ref e)))
  (p9:K.lookup e=some ⟨m0,r3,.func (fnOf "__init__" "Group.__init__" (iB s_0) (kQ s_0) (nM s_0) (.ref c6) x9 x1 o8 w9 e0 u7),k2⟩)
  (p2:K.lookup c6=some ⟨k4,k0,.seq #[.int 200 b0] p6,h8⟩)
  (n5:codeIn K e0 "Group.__init__"=true)
  (q0:keepIn K (.ref e)=true)
  (y2:findIn K (.ref c) "members"=some (some (.ref i)))
  (f2:Fun K "members" "Group.members" s_1 i h2)
  (r1:nG K "check_spread" J)
  (f1:Fun K "check_spread" "check_spread" Dv J n0)
  (x2:nG K "signs_given" a1)
  (c9:Fun K "signs_given" "signs_given" s_7 a1 g3)
  (t5:nG K "spread" D)
  (e3:Fun K "spread" "spread" s_10 D r6)
  (h7:nG K "_law_cell_at" a0)
  (b8:Fun K "_law_cell_at" "_law_cell_at" s_6 a0 n4)
  (k9:nG K "_law_common" b1)
  (e5:Fun K "_law_common" "_law_common" Du b1 q8)
  (r5:nG K "_law_times" a7)
  (f9:Fun K "_law_times" "_law_times" aH a7 w4)
  (x0:nG K "_law_rows" u)
  (c8:Fun K "_law_rows" "_law_rows" Ds u p5)
  (k7:nG K "_law_maker" I)
  (d7:Fun K "_law_maker" "_law_maker" aI I o2)
  (k6:nG K "_law_reached" n)
  (d0:Fun K "_law_reached" "_law_reached" s_5 n t9)
  (i7:nG K "_law_off" y)
  (d9:Fun K "_law_off" "_law_off" Dr y s0)
  (h1:nG K "_law_spread" w)
  (f8:Fun K "_law_spread" "_law_spread" s_8 w t0)
  (o9:nG K "_law_word" S)
  (b7:Fun K "_law_word" "_law_word" Dq S i3)
  (t4:nG K "_law_told" L)
  (c2:Fun K "_law_told" "_law_told" Dp L v6)
  (g6:nG K "_law_group" a6)
  (b9:Fun K "_law_group" "_law_group" Do a6 j7)
  (i0:nG K "_law_beyond" x)
  (e7:Fun K "_law_beyond" "_law_beyond" Dm x g1)
  (u5:nG K "_law_laid" a5)
  (d8:Fun K "_law_laid" "_law_laid" Dl a5 i4)
  (h9:nG K "law" q)
  (o:Fun K "law" "law" s_1a q t3)
  (n7:nsIn K mainGlobals "SMALL_LETTERS"=some (some (.str "abcdefghijklmnopqrstuvwxyz" m8)))
  (l1:nsIn K mainGlobals "LONGEST"=some (some (.int 6 j6)))
  (q6:nsIn K mainGlobals "MOST_MEMBERS"=some (some (.int 200 s1)))
  (g8:nsIn K mainGlobals "sum"=some none)
  (s9:nsIn K mainGlobals "zip"=some none)
  (l9:nsIn K mainGlobals "enumerate"=some none)
  (i6:nsIn K mainGlobals "range"=some none)
  (m5:nsIn K mainGlobals "len"=some none)
  (x6:nsIn K mainGlobals "abs"=some none)
  (j4:nsIn K mainGlobals "isinstance"=some none)
  (u9:nsIn K mainGlobals "list"=some none)
  (p1:nsIn K mainGlobals "tuple"=some none)
  (q1:nsIn K mainGlobals "sorted"=some none)
  (o6:nsIn K mainGlobals "dict"=some none)
  (i1:nsIn K mainGlobals "all"=some none)
  (w0:nsIn K mainGlobals "ValueError"=some none)
  (v4:nsIn K mainGlobals "any"=some none)
  (o4:kitOne K (.type "list") (.type "list")=some true)
  (i5:PySem.W.excIn K b4 [.type "ValueError",.type "Exception",.type "BaseException",.type "object"] "ValueError.__new__"=true)
  (t1:PySem.W.excIn K g [.type "ValueError",.type "Exception",.type "BaseException",.type "object"] "ValueError.__new__"=true)
  (k8:L2.Cls K c)
  (w2:L2.Mk K c e)
  (v1:L2.Meth K c "members" i)
  (t6:findIn K (.ref c) "dimension"=some none)
  (q7:findIn K (.ref c) "given"=some none)
  (l6:findIn K (.ref c) "ordered"=some none)
  (j3:findIn K (.ref c) "shortest"=some none)
  (l4:findIn K (.ref c) "numbers"=some none)
  (p0:kitOne K (.type "int") (.type "list")=some false)
  (o7:kitOne K (.type "int") (.type "tuple")=some false)
  (w6:L2.XIn K d f k)
  (r4:L2.XSt K d "apart")
  (r2:PySem.W.exmOne K (.ref d) (.ref d)=some true)
  (m4:PySem.W.excIn K a [.type "ValueError",.type "Exception",.type "BaseException",.type "object"] "ValueError.__new__"=true)
  (s6:PySem.W.exmOne K (.ref a) (.ref f)=some true)
  (m1:findIn K (.ref a) "__getattribute__"=some (some (.builtin "BaseException.__getattribute__")))
  (g9:findIn K (.ref a) "__getattr__"=some none)
  (k3:caG K a)
  (l8:PySem.W.mroIn K a (.type "object")=some true)
  (o0:PySem.W.mroIn K a (.type "BaseException")=some true)
  (s2:kitOne K (.ref a) (.type "ValueError")=some true)
  (s7:kitOne K (.ref a) (.ref b)=some false)
  (g4:kitOne K (.ref a) (.ref a)=some true)
  (m9:kitOne K (.ref a) (.ref j)=some false)
  (j5:kitOne K (.ref a) (.ref g)=some false)
  (p3:kitOne K (.ref a) (.ref l)=some false)
  (l5:kitOne K (.ref a) (.ref d)=some false)
  (p4:PySem.W.excIn K b [.type "ValueError",.type "Exception",.type "BaseException",.type "object"] "ValueError.__new__"=true)
  (s5:PySem.W.exmOne K (.ref b) (.ref f)=some true)
  (l3:findIn K (.ref b) "__getattribute__"=some (some (.builtin "BaseException.__getattribute__")))
  (i8:findIn K (.ref b) "__getattr__"=some none)
  (v8:caG K b)
  (s4:PySem.W.mroIn K b (.type "object")=some true)
  (x5:PySem.W.mroIn K b (.type "BaseException")=some true)
  (q3:kitOne K (.ref b) (.type "ValueError")=some true)
  (v7:kitOne K (.ref b) (.ref b)=some true)
  (n8:kitOne K (.ref b) (.ref a)=some false)
  (v0:kitOne K (.ref b) (.ref j)=some false)
  (n6:kitOne K (.ref b) (.ref g)=some false)
  (n1:kitOne K (.ref b) (.ref l)=some false)
  (g5:kitOne K (.ref b) (.ref d)=some false)
  (m7:PySem.W.specialIn K (.builtin "object.__class__") "__get__"=some (some (.builtin "getset_descriptor.__get__")))
  (q4:PySem.W.takesIn K (.builtin "object.__class__")=some true)
  (l0:kitOne K (.type "tuple") (.type "tuple")=some true)
  :∃t,Txt K e2 t:=by
 have n9:=f4.binds (ps:=pp') (by walk_at "2");have a8:=Vp (st:=s_0) (ds:=[.int 200 b0]) p9 n5 q0 p2;have t7:=a8.bindsA (ps:=ph') λ_ _ _ _ _ _ _ us hl=>by obtain⟨_,_,_,_,rfl⟩:=us4 hl;exact⟨_,rfl,rfl⟩
 have y0:=a8.binds (ps:=ph') λ_ _ _ _ _ _ _ us hl=>by obtain⟨_,_,_,rfl⟩:=us3 (oJ hl);exact⟨_,rfl,rfl⟩
 have g2:=f2.binds (ps:=["self"]) (by walk_at "1");obtain⟨_,_,_,_,_,_,_,_,_,rfl,_,_⟩:=id o.ex;exact⟨⟨U,k,T,P,O,R,a4,W,r,p,N,a2,a9,F,b3,V,z,C,a3,Z,Y,b2,m,M,e,i,J,a1,D,a0,b1,a7,u,I,n,y,w,S,L,a6,x,a5,q,_,_,_,_,_,_,_,_,_,_,_,_,_,_,_,_,_,_,_,_,_,_,_,_,_,_,_,_,_,_,_,_,_,_,_,_,_,_,_,_,_,_,_,f,b4,g,d3,l,d,b,a,j,c,b0⟩,⟨⟨d1,yT X G k5,d1.binds (λ_ _ _ _ _ _ us hl=>by obtain⟨_,rfl⟩:=us1 hl;rfl)⟩,f4,n9,⟨b5,yT X G j0,b5.binds (λ_ _ _ _ _ _ us hl=>by obtain⟨_,_,rfl⟩:=us2 hl;rfl)⟩,⟨e8,yT X G o5,e8.binds (λ_ _ _ _ _ _ us hl=>by obtain⟨_,_,rfl⟩:=us2 hl;rfl)⟩,⟨c7,yT X G x8,c7.binds (λ_ _ _ _ _ _ us hl=>by obtain⟨_,rfl⟩:=us1 hl;rfl)⟩,⟨c5,yT X G v5,c5.binds (λ_ _ _ _ _ _ us hl=>by obtain⟨_,rfl⟩:=us1 hl;rfl)⟩,⟨d6,yT X G l2,d6.binds (λ_ _ _ _ _ _ us hl=>by obtain⟨_,_,rfl⟩:=us2 hl;rfl)⟩,⟨f7,yT X G n3,f7.binds (λ_ _ _ _ _ _ us hl=>by obtain⟨_,rfl⟩:=us1 hl;rfl)⟩,⟨g0,yT X G g7,g0.binds (λ_ _ _ _ _ _ us hl=>by obtain⟨_,_,_,rfl⟩:=us3 hl;rfl)⟩,⟨c0,yT X G q2,c0.binds (λ_ _ _ _ _ _ us hl=>by obtain⟨_,rfl⟩:=us1 hl;rfl)⟩,⟨c4,yT X G t8,c4.binds (λ_ _ _ _ _ _ us hl=>by obtain⟨_,_,rfl⟩:=us2 hl;rfl)⟩,⟨e9,yT X G x3,e9.binds (λ_ _ _ _ _ _ us hl=>by obtain⟨_,_,_,rfl⟩:=us3 hl;rfl)⟩,⟨e4,yT X G o1,e4.binds (λ_ _ _ _ _ _ us hl=>by obtain⟨_,rfl⟩:=us1 hl;rfl)⟩,⟨d2,yT X G p8,d2.binds (λ_ _ _ _ _ _ us hl=>by obtain⟨_,_,rfl⟩:=us2 hl;rfl)⟩,⟨d5,yT X G h3,d5.binds (λ_ _ _ _ _ _ us hl=>by obtain⟨_,_,rfl⟩:=us2 hl;rfl)⟩,⟨b6,yT X G u2,b6.binds (λ_ _ _ _ _ _ us hl=>by obtain⟨_,rfl⟩:=us1 hl;rfl)⟩,⟨f3,yT X G r7,f3.binds (λ_ _ _ _ _ _ us hl=>by obtain⟨_,rfl⟩:=us1 hl;rfl)⟩,⟨c3,yT X G m3,c3.binds (λ_ _ _ _ _ _ us hl=>by obtain⟨_,rfl⟩:=us1 hl;rfl)⟩,⟨d4,yT X G w1,d4.binds (λ_ _ _ _ _ _ us hl=>by obtain⟨_,_,rfl⟩:=us2 hl;rfl)⟩,⟨f6,yT X G m2,f6.binds (λ_ _ _ _ _ _ us hl=>by obtain⟨_,_,_,rfl⟩:=us3 hl;rfl)⟩,⟨f0,yT X G m6,f0.binds (λ_ _ _ _ _ _ us hl=>by obtain⟨_,_,_,rfl⟩:=us3 hl;rfl)⟩,⟨f5,yT X G j8,f5.binds (λ_ _ _ _ _ _ us hl=>by obtain⟨_,rfl⟩:=us1 hl;rfl)⟩,⟨c1,yT X G s8,c1.binds (λ_ _ _ _ _ _ us hl=>by obtain⟨_,_,rfl⟩:=us2 hl;rfl)⟩,⟨e6,yT X G p7,e6.binds (λ_ _ _ _ _ _ us hl=>by obtain⟨_,_,_,rfl⟩:=us3 hl;rfl)⟩,a8,y0,t7,f2,g2,⟨f1,yT X G r1,f1.binds (λ_ _ _ _ _ _ us hl=>by obtain⟨_,_,_,rfl⟩:=us3 hl;rfl)⟩,⟨c9,yT X G x2,c9.binds (λ_ _ _ _ _ _ us hl=>by obtain⟨_,_,_,_,rfl⟩:=us4 hl;rfl)⟩,⟨e3,yT X G t5,e3.binds (λ_ _ _ _ _ _ us hl=>by obtain⟨_,_,_,_,rfl⟩:=us4 hl;rfl)⟩,⟨b8,yT X G h7,b8.binds (λ_ _ _ _ _ _ us hl=>by obtain⟨_,_,rfl⟩:=us2 hl;rfl)⟩,⟨e5,yT X G k9,e5.binds (λ_ _ _ _ _ _ us hl=>by obtain⟨_,_,rfl⟩:=us2 hl;rfl)⟩,⟨f9,yT X G r5,f9.binds (λ_ _ _ _ _ _ us hl=>by obtain⟨_,_,rfl⟩:=us2 hl;rfl)⟩,⟨c8,yT X G x0,c8.binds (λ_ _ _ _ _ _ us hl=>by obtain⟨_,_,rfl⟩:=us2 hl;rfl)⟩,⟨d7,yT X G k7,d7.binds (λ_ _ _ _ _ _ us hl=>by obtain⟨_,_,_,_,_,rfl⟩:=us5 hl;rfl)⟩,⟨d0,yT X G k6,d0.binds (λ_ _ _ _ _ _ us hl=>by obtain⟨_,_,_,_,_,rfl⟩:=us5 hl;rfl)⟩,⟨d9,yT X G i7,d9.binds (λ_ _ _ _ _ _ us hl=>by obtain⟨_,_,_,rfl⟩:=us3 hl;rfl)⟩,⟨f8,yT X G h1,f8.binds (λ_ _ _ _ _ _ us hl=>by obtain⟨_,_,_,_,rfl⟩:=us4 hl;rfl)⟩,⟨b7,yT X G o9,b7.binds (λ_ _ _ _ _ _ us hl=>by obtain⟨_,rfl⟩:=us1 hl;rfl)⟩,⟨c2,yT X G t4,c2.binds (λ_ _ _ _ _ _ us hl=>by obtain⟨_,_,_,_,rfl⟩:=us4 hl;rfl)⟩,⟨b9,yT X G g6,b9.binds (λ_ _ _ _ _ _ us hl=>by obtain⟨_,rfl⟩:=us1 hl;rfl)⟩,⟨e7,yT X G i0,e7.binds (λ_ _ _ _ _ _ us hl=>by obtain⟨_,_,_,rfl⟩:=us3 hl;rfl)⟩,⟨d8,yT X G u5,d8.binds (λ_ _ _ _ _ _ us hl=>by obtain⟨_,_,_,_,rfl⟩:=us4 hl;rfl)⟩,⟨o,yT X G h9,o.binds (λ_ _ _ _ _ _ us hl=>by obtain⟨_,rfl⟩:=us1 hl;rfl)⟩,yU X G g8,yU X G s9,yU X G l9,yU X G i6,yU X G m5,yU X G x6,yU X G j4,yU X G u9,yU X G p1,yU X G q1,yU X G o6,yU X G i1,yU X G w0,yU X G v4,yT X G q5,yT X G u6,yT X G u3,yT X G h4,yT X G h5,yT X G j2,yT X G y1,yT X G x4,yT X G j9,yT X G k1,⟨_,yT X G n7,_,rfl⟩,⟨_,yT X G l1,_,rfl⟩,⟨_,yT X G q6,_,rfl⟩,o4,i5,t1,k8,w2,v1,t6,q7,l6,j3,l4,p0,o7,w6,r4,r2,m4,s6,m1,g9,k3,l8,o0,s2,s7,g4,m9,j5,p3,l5,p4,s5,l3,i8,v8,s4,x5,q3,v7,n8,v0,n6,n1,g5,m7,q4,l0,λs v=>.of_eq rfl⟩⟩
end Cw
end
open PySem PySem.W PyProof.Rows
/-! Names that the head would else lay equations under: the proof wants none of them. -/
namespace PySem.W.Fast
local macro_rules|`(command|include $x)=>`(def $x:ident:=Nat)|`(command|include $x $y $z*)=>`(def $x:ident:=Nat
include $y $z*)
include tw17235777690346835180 tw4865898689448266971 tw11035413091205367923 tw16392322367733521475 tw6172773461634759926 tw18129942199138931433 tw956996481611441399 tw6346127998546480591 tw3873871255873039158 tw16507120439712959245 tw6670953491046512570 tw16175658945156180188 tw4721724505682234030 tw8528171335728925599 tw3244199558734543036 tw16576629155230960766 tw10381231235382926825 tw13586067301880175386 tw16778927793540879941 tw11553556951077920639 tw7598969126981306645 tw11746641551852773799 tw6109732839451466563 tw9500426048706231337 tw13974206588710975503 tw9651500924822412986 tw6844498200039418923 tw3864401686162276619 tw18389529913323973852 tw6875342053379385771 tw8139993332565164148 tw7542330153518039147 tw2228733488230368946 tw17910072074297161951 tw4327705048653690182 tw17143443806080412585 tw5631273193424183056 tw9722017574675600470 tw482849313606066583 tw11210474862701449528 tw3970254645135986089 tw6935679496743754376 tw9893896734560439355 tw11473325853085949894 tw14641653605644983792 tw5909669405146967359 tw6563901596453725427 tw14502449095580539791 tw3041804201356096190 tw11623075044765571500 tw8900974220485175163 tw7458830115846187624 tw2261310102162786745 tw8393669481230220058 tw15451680273218262382 tw5030725631622216767 tw3666272663210995910 tw7858199332113573311 tw2582471317652648560 tw9102031479109400822 tw18380457198932939584 tw10382165528868791874 tw5250478671374823927 tw17726451519096316415 tw9804419708751356205 tw2267748629703154535 tw12868388159470780163 tw7358190154989151302 tw18107126097688218854 tw13502557555730054305 tw4442342235798666213 tw7722607972329681537 tw3269558254239186447 tw15407976752591448552 tw17802273326557829798 tw3747535825638073749 tw1668167247922471679 tw1646130300855291378 tw4504859242196690091 tw15416451815071271297 tw2687116746368560614 tw17840316812987738966 tw1870003434600941215 tw17282727014756551353 tw6745884795337529134 tw15866222329212408171 tw18069264778472998386 tw7026003421690763586 tw2195010077505114196 tw18335556612550332160 tw5421041232030647645 tw8137205667469733372 tw3600884669954616919 tw16078603657069731753 tw11711895527471345831 tw3654122224953061207 tw1807181512447269676 tw4896808922497593272 tw8763384124545973242 tw1413606537481758280 tw12890138081879448605 tw6893839198610164919 tw12313219218254670933 tw8164261581555753480 tw926347717237063102 tw9566931885275842371 tw9583671913005302287 tw8007374110568587040 tw13750259052738194237 tw1712877971278846526 tw9081435643031592009 tw2816294124271870073 tw40130498433427511 tw4667156477688348027 tw1558596394239892583 tw178429798233071994 tw12878544610695693286 tw12901955883906060157 tw10269635929343636047 tw8252290774126772998 tw2164924107572951593 tw8041597795916627451 tw15431258703495811762 tw16859360583453544381 tw17509215514910522234 tw11613429480681871585 tw11531710753005973702 tw11413134751438788733 tw15133721811131398082 tw647138674131750567 tw12170452769656011750 tw13435929716522326585 tw7624666236677333599 tw10923699732311318518 tw7146061236678708332 tw14092642280962765500 tw11679638537649583220 tw9400495897844150362 tw10686319822569901126 tw17919393250356358765 tw17979900996370595664 tw909456853500977248 tw1176382315159992721 tw3011035328049706072 tw6442146195652013530 tw528091852820125001 tw4831283637329478090 tw586432022105774141 tw2077204168789087301 tw7994538856078478792 tw1009747510976149802 tw6295669028002204929 tw13386346833436293582 tw2531992498320416043 tw18309956022705560767 tw8996726430317335666 tw8593428342456806357 tw18065515234915061203 tw14762793325949792324 tw6263402328145356828 tw4185153491435647544 tw9253138258242968560 tw11063822019420524819 tw5129426118087434297 tw11268992974639146856 tw14737089886126780454 tw7897718213995162407 tw7894112950435314779 tw16148044147203414457 tw9327370647071512980 tw3690309193938885013 tw2273425567175201907 tw14059628912842180656 tw6384626481844131718 tw5217717587412234895 tw10888880269916901906 tw7498418484730131933 tw3008537058505183669 tw12161085977404698736 tw4758246600183367499 tw5498266785438717797 tw8579797176073257646 tw1201038576000849586 tw9008256000419345185 tw13852516184649544039 tw16552599611753187581 tw9803324459600318806 tw15616209488752523510 tw7321115496366138071 tw9259122558577734732 tw17774466454416146711 tw10819290561853596258 tw7633866147257434383 tw5851059457029433007 tw12087410034535000059 tw1716580863818017833 tw14169856296262555398 tw7994777391893921143 tw2493957310110182763 tw8128736170930364815 tw8663286667773370335 tw14812195932528738295 tw8012184457956909209 tw15334577152842703132 tw8975999690949659465 tw2940953124445300345 tw3888966213363931685 tw11635424160961069227 tw3842876094276830272 tw1000594281061179302 tw7460528013821014766 tw12379562615870930651 tw14908335703293662640 tw4380816862917723252 tw702453560389468417 tw2329082670720071254 tw14724424496475608957 tw10783238793784632758 tw10266410869440255114 tw6907424079634036741 tw13319792274006298539 tw13102262187207434884 tw13192710085087134829 tw15813950636685062284 tw1327581137137537983 tw738225281617404655 tw13164758270247491137 tw7802558852453022902 tw5881219861902067765 tw17713027151774408859 tw2357101358056873892 tw1297047883951637810 tw4129250084930855097 tw4398217754791605489 tw17587514347448236277 tw17245586534332089143 tw15221307128371321764 tw13048732438716881876 tw16364181344931112 tw16171419975610391300 tw2027257612681967051 tw13531670290433811997 tw18147013730862108397 tw9743635575594022899 tw10625264891807168850 tw15873139972489687396 tw14302829450951139222 tw6587563800641336344 tw17640324895267291763 tw4146582799679158697 tw17079804887393753534 tw2770464261595235594 tw7871142056615498647 tw1535854554206860946 tw2240640073154618398 tw13549650532691096247 tw6506236808399219439 tw3153989209600320707 tw8458522663402021875 tw4456547228471751570 tw12935683349513121790 tw2707322115226038619 tw18275176052990022543 tw5767500367028946762 tw12104493314349564256 tw16297403612404719173 tw2073932942470634763 tw8252544246560638994 tw15177278573642770278 tw4084899953358083075 tw14140854141612174603 tw12138941350755335234 tw13636378416684755353 tw17315998074117639459 tw10615097091130735919 tw2293997703085911881 tw11596606130085755383 tw15536806307062519122 tw2565931460027650520 tw17652728392639240906 tw7618890788861596379 tw17596707308103214545 tw16683579982816922253 tw13631380814077361246 tw574109558180242771 tw5183772832344424640 tw4435018904816362327 tw12260207781552357407 tw2935636435677394876 tw5200809600718800647 tw10069173064379674150 tw15714950922601345813 tw13981297382074094360 tw7979149517130870164 tw11984328940314603875 tw13464604164109783230 tw5933542650099168159 tw17366367016913314845 tw4486699102500641647 tw7402184009231495720 tw5334278555417000715 tw17505542461343918808
end PySem.W.Fast
set_option maxRecDepth 100000 in
set_option maxHeartbeats 0 in
theorem PySem.Challenge.cw_crystalwords_k85_spread_holds : PySem.Challenge.rw_crystalwords_k85_spread.Holds := by
 w_on; o_law; k_head; (case hw=>w_witness2)
 k_fill
 refine L2.walkB (l:=PySem.Challenge.rw_crystalwords_k85_spread) (k:=22) (x := "_law_script") rfl rfl ⟨rfl,by decide,by decide⟩ (λ w h Y=>PySem.W.kIn_of Y) ?F
 case F =>
  intro w mg fa h KX G hmg
  have T:∃ t,Cw.Txt (L2.KOf KX) mg t:=by
   dsimp only [L2.KOf]
   refine' Cw.txt_mk KX G ?n_16 ?n_1d ?n_19 ?n_1g ?n_1f ?n_14 ?n_9 ?n_b ?n_1e ?n_l ?n_z ?F_z ?n_2 ?F_2 ?n_t ?F_t ?n_v ?F_v ?n_e ?F_e ?n_h ?F_h ?n_1c ?F_1c ?n_12 ?F_12 ?n_y ?F_y ?n_3 ?F_3 ?n_w ?F_w ?n_18 ?F_18 ?n_17 ?F_17 ?n_13 ?F_13 ?n_11 ?F_11 ?n_1b ?F_1b ?n_o ?F_o ?n_n ?F_n ?n_15 ?F_15 ?n_u ?F_u ?n_4 ?F_4 ?n_m ?F_m ?n_j ?F_j ?n_s ?F_s ?n_0 ?l_0 ?t_Group___init__ ?c_0 ?k_0 ?n_1 ?F_1 ?n_a ?F_a ?n_7 ?F_7 ?n_10 ?F_10 ?n_6 ?F_6 ?n_d ?F_d ?n_i ?F_i ?n_q ?F_q ?n_g ?F_g ?n_5 ?F_5 ?n_x ?F_x ?n_8 ?F_8 ?n_p ?F_p ?n_f ?F_f ?n_k ?F_k ?n_c ?F_c ?n_r ?F_r ?n_1a ?F_1a ?n_SMALL_LETTERS ?n_LONGEST ?n_MOST_MEMBERS ?y_sum ?y_zip ?y_enumerate ?y_range ?y_len ?y_abs ?y_isinstance ?y_list ?y_tuple ?y_sorted ?y_dict ?y_all ?y_ValueError ?y_any ?q_r ?q_d ?q_j ?q_k ?q_l ?q_0 ?q_1 ?q_m ?q_6 ?q_2 ?q_7 ?q_s ?q_t ?q_8 ?q_9 ?q_e ?q_a ?q_om ?q_u ?q_v ?q_w ?q_x ?q_y ?q_z ?q_3 ?q_b ?q_f ?q_n ?q_o ?q_g ?q_4 ?q_wm ?q_10 ?q_11 ?q_12 ?q_13 ?q_14 ?q_15 ?q_5 ?q_c ?q_h ?q_p ?q_q ?q_i ?q_16 ?q_17 ?q_18
   (case n_16 | n_1d | n_19 | n_1g | n_1f | n_14 | n_9 | n_b | n_1e | n_l | n_z | n_t | n_v | n_e | n_h | n_1c | n_12 | n_y | n_3 | n_w | n_18 | n_17 | n_13 | n_11 | n_1b | n_o | n_n | n_15 | n_u | n_4 | n_m | n_j | n_s | n_a | n_7 | n_10 | n_6 | n_d | n_i | n_q | n_g | n_5 | n_x | n_8 | n_p | n_f | n_k | n_c | n_r | n_1a=>show _=_; k_is)
   (case n_2 | n_0 | l_0 | t_Group___init__ | c_0 | k_0 | n_1 | n_SMALL_LETTERS | n_LONGEST | n_MOST_MEMBERS | y_sum | y_zip | y_enumerate | y_range | y_len | y_abs | y_isinstance | y_list | y_tuple | y_sorted | y_dict | y_all | y_ValueError | y_any | q_1 | q_m | q_6 | q_2 | q_7 | q_u | q_v | q_w | q_x | q_y | q_10 | q_11 | q_12 | q_13 | q_14 | q_16 | q_17=>show _=_; k_is)
   (case F_z | F_2 | F_t | F_v | F_e | F_h | F_1c | F_12 | F_y | F_3 | F_w | F_18 | F_17 | F_13 | F_11 | F_1b | F_o | F_n | F_15 | F_u | F_4 | F_m | F_j | F_s | F_1 | F_a | F_7 | F_10 | F_6 | F_d | F_i | F_q | F_g | F_5 | F_x | F_8 | F_p | F_f | F_k | F_c | F_r | F_1a=>refine' L2.fun_mk ?l ?c ?k; (case l=>k_is); (case c=>k_is); (case k=>k_is))
   (case q_r | q_s | q_t | q_z | q_3 | q_b | q_f | q_n | q_o | q_g | q_15 | q_5 | q_c | q_h | q_p | q_q | q_i | q_18=>kit_is)
   (case q_d | q_j | q_a | q_4=>k_exc)
   (case q_k | q_l=>exact ⟨by k_is,by k_is,by k_is,by k_is⟩)
   (case q_0=>exact ⟨by k_is,by k_is,by k_is⟩)
   (case q_8=>exact ⟨by kernel_rfl,by k_is,by kernel_rfl,by kernel_rfl⟩)
   (case q_9=>exact ⟨by k_is,by kernel_rfl,by k_is⟩)
   (case q_e | q_om | q_wm=>kts_exm)
  obtain ⟨t,T⟩:=T
  have e0:=hmg.symm.trans T.F_1a.m
  cases e0
  exact ⟨t.d_1a,T.bl,λ base kb nb=>Cw.ok_1a T⟩
#print axioms PySem.Challenge.cw_crystalwords_k85_spread_holds