import PyProof.Rows.All
import Wide.All
import OpenK.AllK
import Wide.FinOn
import Lean
import PyProof.EqAt
import PyProof.EqKinds
import PyProof.TupleCall
import PySem.Challenge.RW_crystalwords_k41_whole_closed
set_option Elab.async false
set_option linter.all false
set_option compiler.extract_closed false
set_option genSizeOf false
set_option bootstrap.genMatcherCode false
set_option maxRecDepth 100000
local macro_rules | `(⋯)=>`(by omega)
local macro_rules | `(∅)=>`(by decide)
local macro_rules | `(nofun)=>`(by decide +kernel)
local macro_rules | `(tactic| ext)=>`(tactic| walk_at "r")
noncomputable section
theorem dLe{d k:Nat}(h:d=2\/d=3)(g:3≤k):d≤k:=by
 rcases h with h|h<;>rw[h]
 ·exact Nat.le_trans (by decide) g
 ·exact g
theorem eLe{x d k:Nat}(e:x=d)(h:d=2\/d=3)(g:3≤k):x≤k:=by rw[e];exact dLe h g
theorem eLt{x y k:Nat}(e:x=y)(g:k<y):k<x:=by rw[e];exact g
theorem iNn{x:Int}(h:0<x):¬x<0:=Int.not_lt.mpr (Int.le_of_lt h)
local macro_rules | `(tactic| omega)=>`(tactic| first | (with_reducible first | assumption | exact Int.ne_of_gt (by assumption) | exact iNn (by assumption) | exact Int.le_of_lt (by assumption) | exact eLt (by assumption) (by assumption) | exact dLe (by assumption) (by decide) | exact eLe (by assumption) (by assumption) (by decide) | exact Nat.le_trans (by assumption) (by decide) | exact Nat.lt_of_lt_of_le (by assumption) (by decide) | exact Nat.lt_of_le_of_lt (by assumption) (by decide) | exact Nat.le_trans (Nat.le_of_lt (by assumption)) (by decide) | exact Nat.le_of_lt (by assumption)) | decide | lia | omega +splitDisjunctions)
abbrev SP':=List Int×Int
abbrev LI':=List Int
abbrev PN:=List (PySem.Addr×PySem.Obj)
abbrev VP:=PySem.Value->PySem.Shared->Prop
abbrev LW:=List PySem.Value
abbrev LA:=List PySem.Addr
abbrev MT:=PySem.Str->Option PySem.Value
def zA:=@PySem.wpAny_bind
def zB:=@PySem.wpAny_pure
def zC:=@PySem.Heap.get?_push_of_some
def zD:=@if_neg
def zE:=@Nat.le_refl
def zF:=@if_pos
def zG:=@PyProof.Rows.wpS_bind
def zH:=@List.getElem?_map
def zI:=@PyProof.Rows.wpS_pure
def zJ:=@decide_eq_false
def zK:=@PySem.Heap.lt_size
def zL:=@Array.length_toList
def zM:=@decide_eq_true
def zN:=@Bool.and_eq_true
def zO:=@List.map_cons
def zP:=@Nat.lt_of_lt_of_le
def zQ:=@PySem.Heap.get?_push_size
def zR:=@List.length_cons
def zS:=@Int.toNat_natCast
def zT:=@Ne.symm
def zU:=@List.mem_cons_of_mem
def zV:=@List.size_toArray
def zW:=@Nat.ne_of_lt
def zX:=@List.getElem?_append_right
def zY:=@Nat.zero_le
def zZ:=@Option.some.inj
def yA:=@List.length_append
def yB:=@List.getElem?_append_left
def yC:=@Nat.le_trans
def yD:=@PySem.PassesOwn.never
def yE:=@List.mem_cons_self
def yF:=@List.mem_of_getElem?
def yG:=@List.length_take
def yH:=@Bool.false_ne_true
def yI:=@Array.getElem?_toList
def yJ:=@List.take_of_length_le
def yK:=@List.append_assoc
def yL:=@Array.toList_append
def yM:=@List.length_map
def yN:=@PySem.wpAny_holding
def yO:=@LawfulBEq.eq_of_beq
def yP:=@List.mem_append_right
def yQ:=@PySem.wpAny_mono
def yR:=@PySem.F.excBase_ValueError
def yS:=@Nat.pow_le_pow_right
def yT:=@PySem.W.mg_none_of
def yU:=@PySem.W.mg_of
def yV:=@List.all_cons
def yW:=@List.map_map
def yX:=@List.map_append
def yY:=@List.take_add_one
def yZ:=@Nat.lt_irrefl
def xA:=@PySem.wpAny_field
def xB:=@PySem.Heap.get?_update_self
def xC:=@List.getElem?_range
def xD:=@PySem.wpAny_newObj_type
def xE:=@PySem.wpAny_call_entry
def xF:=@PyProof.Rows.mulOk_of_bits
def xG:=@List.lookup_cons
def xH:=@PyProof.Rows.wpS_forRange
def xI:=@List.mem_append_left
def xJ:=@PySem.Heap.get?_update_other
def xK:=@Int.natAbs_mul
def xL:=@List.mem_cons
def xM:=@PySem.W.kia_one
def xN:=@List.getElem?_eq_getElem
def xO:=@PySem.wpAny_callSpecial?_slot
def xP:=@PySem.Heap.size_push
def xQ:=@List.cons.injEq
def xR:=@List.getElem?_set_self
def xS:=@List.map_congr_left
def xT:=@of_decide_eq_true
def xU:=@List.take_append_drop
def xV:=@PyProof.Rows.callWith_type1
def xW:=@List.getElem?_of_mem
def xX:=@Int.fmod_eq_emod_of_nonneg
def xY:=@PySem.Heap.SameBut.update
def xZ:=@List.length_zipWith
def wA:=@List.cons_lt_cons_iff
def wB:=@List.getElem?_zipWith
def wC:=@List.getElem?_take_of_lt
def wE:=@PySem.wpAny_Call_Name_kw
def wF:=@PySem.wpAny_standAt
def wG:=@PySem.wpAny_rule
def wH:=@Nat.mul_le_mul_right
def wJ:=@PySem.wpAny_seqItems
def wK:=@PySem.W.looks_findIn
def wL:=@PySem.F.plainAttrs_list
def wM:=@PySem.F.slot_dict_keyiterator_next
def wN:=@PyProof.Rows.wpS_mono
def wO:=@List.append_nil
def wP:=@List.getElem_of_mem
def wQ:=@List.zipWith_cons_cons
def wR:=@Int.mul_pos
def wS:=@Nat.zero_add
def wT:=@PyProof.Rows.wpS_modify
def wU:=@PySem.Obj.data_mapFields
def wW:=@PySem.W.Looks.here
def wX:=@Nat.lt_of_le_of_lt
def wY:=@Nat.mul_le_mul
def wZ:=@congrArg
def vA:=@List.foldl_cons
def vB:=@PySem.F.type_list_append
def vC:=@Int.add_zero
def vD:=@Int.mul_comm
def vE:=@PySem.F.slot_list_append
def vF:=@PySem.wpAny_attempt
def vG:=@List.eq_nil_of_length_eq_zero
def vH:=@PySem.wpAny_typeNameOfWhole_keyiter
def vJ:=@PySem.mem_of_lookup
def vK:=@List.getElem_mem
def vL:=@PySem.wpAny_setField
def vM:=@PySem.wpAny_isInstance
def vN:=@Nat.sub_self
def vO:=@List.zip_cons_cons
def vP:=@PySem.wpAny_setField_rec
def vQ:=@List.getElem?_drop
def vR:=@List.perm_append_comm
def vS:=@List.getElem?_eq_none
def vU:=@PySem.wpAny_passesOwn
def vV:=@PySem.F.slot_tuple_iterator_next
def vW:=@Int.natAbs_add_le
def vX:=@List.foldl_append
def vY:=@PySem.Calls.evalArgs_plain
def vZ:=@List.drop_eq_getElem_cons
def uA:=@List.mem_or_eq_of_mem_set
def uB:=@List.getElem?_set_ne
def uC:=@PySem.codeAny_call_builtin
def uD:=@List.eraseIdx_append_of_length_le
def uE:=@Nat.lt_or_ge
def uF:=@PySem.wpAny_typeNameOf_keyiter
def uG:=@Nat.lt_succ_self
def uH:=@PySem.wpAny_typeOf
def uI:=@List.all_eq_true
def uJ:=@Int.zero_mul
def uK:=@Int.le_of_lt
def uL:=@List.zipIdx_cons
def uM:=@List.replicate_succ
def uN:=@PySem.wpAny_loadPart'
def uO:=@List.find?_cons
def uP:=@PySem.wpAny_pyIter_tuple
def uQ:=@List.forIn_cons
def uR:=@PySem.wpAny_tupleItemsOf
def uS:=@PySem.wpAny_call
def uT:=@List.of_mem_zip
def uU:=@Int.fmod_nonneg_of_pos
def uV:=@PyProof.Rows.subscriptTail_builtinR
def uW:=@PySem.wpAny_loadPart_at
def uX:=@List.length_range
def uY:=@PySem.wpAny_truthy_bool
def uZ:=@Array.toList_push
def tD:=@List.nodup_nil
def tE:=@Nat.add_zero
def tF:=@Nat.le_of_lt
def tG:=@PySem.Obj.isFreed_of_fields
def tH:=@PyProof.Rows.wpS_get
def tI:=@PyProof.Rows.pairsOf_toList
def tJ:=@List.Pairwise.sublist
def tK:=@PySem.codeAny_mono
def tL:=@List.getElem_map
def tM:=@List.length_drop
def tN:=@PySem.Around.under_plainId
def tO:=@List.ext_getElem
def tP:=@Array.toList_reverse
def tQ:=@PySem.IntMulOk.of_left
def tR:=@PyProof.Rows.listUpdate_at
def tS:=@List.eraseIdx_of_length_le
def tU:=@List.getD_eq_getElem?_getD
def tV:=@Nat.pow_add
def tW:=@Nat.le_succ
def tX:=@PySem.W.looks_mroIn
def tY:=@List.filterMap_cons
def tZ:=@PySem.Calls.call_function_entry
def sD:=@PySem.codeAny_builtin
def sE:=@PySem.wpAny_execs_nil
def sF:=@of_decide_eq_false
def sG:=@Int.fmod_lt_of_pos
def sH:=@List.mem_of_mem_eraseIdx
def sI:=@Nat.le_of_eq
def sJ:=@Nat.ne_of_gt
def sK:=@Nat.pow_succ
def sL:=@PySem.W.callWith_K
def sN:=@PyProof.Rows.pairsOf_size
def sO:=@List.pairwise_singleton
def sQ:=@List.getElem?_inj
def sT:=@PySem.wpAny_pyIter_list
def sU:=@PySem.wpAny_dictEntries
def sV:=@List.flatten_cons
def sW:=@List.drop_sublist
def sZ:=@PySem.Calls.callWith_builtin
def rA:=@List.drop_eq_nil_of_le
def rB:=@PySem.W.cellsFrom_some
def rC:=@PyProof.Rows.seqEpoch_at
def rD:=@Nat.add_assoc
def rE:=@PySem.wpAny_onRaise
def rF:=@PySem.W.any_some
def rG:=@List.take_length
def rH:=@List.contains_iff_mem
def rJ:=@PySem.isSubtype_tuple_tuple
def rK:=@List.getElem?_reverse
def rL:=@List.Perm.append_left
def rM:=@PySem.W.hideAll_none
def rN:=@List.nodup_cons
def rO:=@List.getElem?_zipIdx
def rP:=@Int.zero_add
def rQ:=@PySem.wpAny_updateSeq_pair
def rR:=@PySem.F.slot_zip_next
def rS:=@Nat.mul_comm
def rT:=@PyProof.Rows.get?_update_seq
def rV:=@List.length_eraseIdx
def rW:=@PySem.W.hideAll_get
def rX:=@PySem.W.plainGet_of
def rY:=@PySem.Heap.get?_update_ne
def rZ:=@PySem.W.looks_clsIn
def qB:=@Int.mul_le_mul
def qC:=@PySem.wpAny_loadPart
def qD:=@PySem.wpAny_newTuple
def qE:=@PyProof.Rows.wpS_lift
def qF:=@Array.size_map
def qG:=@PySem.wpAny_letGo
def qH:=@Int.lt_of_le_of_lt
def qI:=@List.getElem_range
def qJ:=@PySem.Code.quiet_builtin
def qK:=@PySem.W.of_hideAll
def qL:=@Array.size_extract
def qM:=@PySem.W.isNs_of_in
def qN:=@PyProof.Rows.assignInOrder_cons
def qO:=@PySem.plainId_quiet
def qP:=@List.take_add
def qQ:=@PySem.wpAny_newList
def qR:=@List.any_cons
def qT:=@Nat.mul_assoc
def qU:=@PySem.PassesOwn.leaving
def qV:=@List.reverse_perm
def qW:=@PySem.Obj.cls_mapFields
def qX:=@List.nodup_append
def qZ:=@Option.isSome_map
def pC:=@Nat.le_of_succ_le
def pE:=@Nat.lt_succ_of_lt
def pF:=@PySem.W.kitx_list
def pG:=@PySem.wpAny_pyHash_int
def pH:=@Nat.le_add_right
def pI:=@Nat.succ.inj
def pJ:=@PySem.W.kat_cons
def pK:=@Nat.succ_mul
def pL:=@PySem.W.Looks.ld
def pM:=@PySem.wpAny_forIn_list
def pN:=@Nat.mul_lt_mul''
def pO:=@Int.dvd_refl
def pQ:=@Nat.min_eq_left
def pR:=@PySem.W.kat_yes
def pS:=@Nat.not_lt_zero
def pU:=@PySem.wpAny_dictEpoch
def pV:=@PySem.Heap.Ns.of_isNs
def pW:=@Nat.two_pow_pos
def pY:=@PySem.pushCells_keeps
def pZ:=@List.nil_append
def oA:=@Array.Perm.refl
def oB:=@Int.mul_one
def oC:=@PySem.seqIndex_of
def oE:=@PySem.W.kat_no
def oF:=@PySem.wpAny_bindName
def oG:=@List.drop_zero
def oH:=@List.take_zero
def oJ:=@PySem.isSubtype_stop
def oK:=@List.drop_drop
def oM:=@PySem.call_meets
def oN:=@List.mem_singleton
def oO:=@PySem.wpAny_mkText
def oP:=@PySem.seqIndex_neg
def oQ:=@Int.mul_zero
def oR:=@Int.one_mul
def oS:=@beq_iff_eq
def oU:=@List.pairwise_iff_getElem
def oV:=@beq_eq_false_iff_ne
def oW:=@List.mem_append
def oX:=@List.pairwise_append
def oY:=@List.mem_range
def oZ:=@List.mem_map
def nA:=@List.getElem?_eq_some_iff
def nB:=@List.not_lt
def nD:=@List.mem_filterMap
def nE:=@Array.getElem?_eq_some_iff
def nF:=@Int.ofNat_inj
namespace L2
open PySem PySem.Spec PyProof.Rows
open PySem.W (Frag)
abbrev Key:=Sum Int Str
def bH:Key->Value->Bool
 |.inl k,v=>Value.isInt k v
 |.inr x,v=>Value.isStrOf x v
def keyH(w:World):Key->Int
 |.inl k=>hashInt k
 |.inr x=>hashStr w x
theorem iU:∀{k:Key}{v:Value},bH k v=true->(∃i t,k=Sum.inl i/\v=Value.int i t)\/(∃x t,k=Sum.inr x/\v=Value.str x t)
 |.inl i,v,h=>by
  obtain⟨t,e⟩:=Value.isInt_shape (k:=i) (v:=v) h;exact .inl ⟨i,t,rfl,e⟩
 |.inr x,v,h=>by
  obtain⟨t,e⟩:=Value.isStrOf_shape (x:=x) (v:=v) h;exact .inr ⟨x,t,rfl,e⟩
theorem Mm(i:Int)(t:Tok):bH (.inl i) (.int i t)=true:=by simp[bH,Value.isInt]
theorem Ml(a b:Int):decide ((Sum.inl a:Key)=Sum.inl b)=(a == b):=by
 by_cases e:a=b
 ·subst e;simp
 ·have h:¬ (Sum.inl a:Key)=Sum.inl b:=λq=>e (Sum.inl.inj q);rw[zJ h];exact(oV.mpr e).symm
theorem Mj(a b:Str):decide ((Sum.inr a:Key)=Sum.inr b)=decide (a=b):=by
 by_cases e:a=b
 ·subst e;simp
 ·have h:¬ (Sum.inr a:Key)=Sum.inr b:=λq=>e (Sum.inr.inj q);rw[zJ h,zJ e]
theorem Mi(a:Int)(b:Str):decide ((Sum.inl a:Key)=Sum.inr b)=false:=zJ (λq=>nomatch q)
theorem Mh(a:Str)(b:Int):decide ((Sum.inr a:Key)=Sum.inl b)=false:=zJ (λq=>nomatch q)
def Bz(prog:Program)(w:World):PySem.KeyKind prog w Key where
 is:=bH
 hash:=keyH w
 inj:=λv a b ha hb=>by
  rcases iU ha with⟨i,t,rfl,rfl⟩|⟨x,t,rfl,rfl⟩
  ·rcases iU hb with⟨j,u,rfl,e⟩|⟨y,u,rfl,e⟩
   ·injection e with e1 _;rw[e1]
   ·exact nomatch e
  ·rcases iU hb with⟨j,u,rfl,e⟩|⟨y,u,rfl,e⟩
   ·exact nomatch e
   ·injection e with e1 _;rw[e1]
 byValue:=λk v h=>by
  rcases iU h with⟨i,t,rfl,rfl⟩|⟨x,t,rfl,rfl⟩ <;> rfl
 pyHash:=λhv h=>by
  rcases iU hv with⟨i,t,rfl,rfl⟩|⟨x,t,rfl,rfl⟩
  ·exact pG h
  ·exact wpAny_pyHash_str h
 eqBool:=λhu hv h=>by
  rcases iU hu with⟨i,t,rfl,rfl⟩|⟨x,t,rfl,rfl⟩
  ·rcases iU hv with⟨j,u,rfl,rfl⟩|⟨y,u,rfl,rfl⟩
   ·rw[Ml]at h;exact wpAny_eqBool_int h
   ·rw[Mi]at h;exact SeqAt.EqAt.int_str i t y u _ _ _ _ h
  ·rcases iU hv with⟨j,u,rfl,rfl⟩|⟨y,u,rfl,rfl⟩
   ·rw[Mh]at h;exact SeqAt.EqAt.str_int x t j u _ _ _ _ h
   ·rw[Mj]at h;exact wpAny_eqBool_str h
 «strs»:=λk x t v h=>by
  rcases iU h with⟨i,u,rfl,e⟩|⟨y,u,rfl,e⟩
  ·exact nomatch e
  ·injection e with e1 _;subst e1;cases v <;> rfl
theorem Fw(prog:Program)(w:World)(i:Int)(t:Tok):(Bz prog w).is (.inl i) (.int i t)=true:=Mm i t
inductive V where
 |non|bl(b:Bool)|int(i:Int)|str(x:Str)|byt(b:Array UInt8)|flt(b:UInt64)|ref(a:Addr)|ty(n:String)
 deriving DecidableEq
def RelV:V->Value->Prop
 |.non,u=>u=Value.none
 |.bl b,u=>u=Value.bool b
 |.int i,u=>∃t,u=Value.int i t
 |.str x,u=>∃t,u=Value.str x t
 |.byt b,u=>∃t,u=Value.bytes b t
 |.flt b,u=>∃t,u=Value.float b t
 |.ref a,u=>u=Value.ref a
 |.ty n,u=>u=Value.type n
abbrev Vals:List V->LW->Prop:=Paired RelV
theorem Vals.length{xs:List V}{us:LW}(r:Vals xs us):xs.length=us.length:=Paired.length r
theorem Vals.get:∀{xs:List V}{us:LW}{i:Nat}{x:V},Vals xs us->xs[i]?=some x->∃u,us[i]?=some u/\RelV x u
 |_,_,_,_,.nil,e=>by simp at e
 |_,_,0,_,.cons r _,e=>by simp at e;subst e;exact⟨_,rfl,r⟩
 |_,_,i+1,x,.cons _ c,e=>by
  obtain⟨u,a,b⟩:=Vals.get (i:=i) (x:=x) c (by simpa using e);exact⟨u,by simpa using a,b⟩
theorem Vals.set{x:V}{u:Value}(r:RelV x u):∀{xs:List V}{us:LW}(i:Nat),Vals xs us->Vals (xs.set i x) (us.set i u)
 |_,_,_,.nil=>.nil
 |_,_,0,.cons _ t=>.cons r t
 |_,_,i+1,.cons q t=>.cons q (Vals.set r i t)
theorem Vals.append:∀{xs ys:List V}{us a:LW},Vals xs us->Vals ys a->Vals (xs++ys) (us++a)
 |_,_,_,_,.nil,s=>s
 |_,_,_,_,.cons r b,s=>.cons r (Vals.append b s)
theorem Vals.take:∀{xs:List V}{us:LW}(n:Nat),Vals xs us->Vals (xs.take n) (us.take n)
 |_,_,0,_=>.nil
 |_,_,_+1,.nil=>.nil
 |_,_,n+1,.cons r t=>.cons r (Vals.take n t)
theorem Vals.drop:∀{xs:List V}{us:LW}(n:Nat),Vals xs us->Vals (xs.drop n) (us.drop n)
 |_,_,0,r=>r
 |_,_,_+1,.nil=>.nil
 |_,_,n+1,.cons _ t=>Vals.drop n t
theorem Vals.none_of:∀{xs:List V}{us:LW}{i:Nat},Vals xs us->xs[i]?=none->us[i]?=none:=λ{xs us i}r e=>by
 have a:=r.length;have b:xs.length<=i:=List.getElem?_eq_none_iff.mp e;exact List.getElem?_eq_none_iff.mpr ⋯
def RelO:Option V->Option Value->Prop
 |some v,some u=>RelV v u
 |none,none=>True
 |_,_=>False
def KV{κ:Type}:List (κ×V)->List (κ×Value)->Prop:=Paired λ(p:κ×V)(q:κ×Value)=>p.1=q.1/\RelV p.2 q.2
def kV:Key->V
 |.inl i=>.int i
 |.inr x=>.str x
inductive HO where
  |lst(xs:List V)
  |tup(xs:List V)
  |dK(kvs:List (Key×V))|dT(kvs:List (List Key×V))
  |set(S:Int->Bool)(n:Nat)
  |ins(C dx:Addr)(fs:List (Str×V))
  |own(x:Addr)
  |xd(fs:List (Str×V))
  |met(f x:Addr)
  |rng(lo hi:Int)
  |frz(o:Obj)(u:HO)
  |tbl(ps:Array Value)
  |ext(φ:Heap->Prop)
abbrev Hp:=Addr->Option HO
def upd(H:Hp)(a:Addr)(o:HO):Hp:=λb=>if b=a then some o else H b
theorem nN{H:Hp}{a:Addr}{o:HO}:upd H a o a=some o:=by unfold upd;rw[zF rfl]
theorem nO{H:Hp}{a b:Addr}{o:HO}(h:b≠a):upd H a o b=H b:=by unfold upd;rw[zD h]
theorem lI{H:Hp}{a b:Addr}{o:HO}(h:H a=some o)(h':H b=none):a≠b:=by
 intro e;subst e;rw[h]at h';cases h'
section
variable (P:Program) (w:World)
def mI(H:Hp)(h:Heap)(a:Addr):HO->Prop
 |.lst xs=>xs.length<=sizeLine/\∃(its:LW)(n:Nat),Vals xs its/\h.get? a=some {cls:=.type "list",data:=.seq its.toArray n}
 |.tup xs=>xs.length<=sizeLine/\∃its:LW,Vals xs its/\IsTup h a its.toArray
 |.dK kvs=>kvs.length<=sizeLine/\(a == sysModules)=false/\∃vs,KV kvs vs/\h.DictOf (Bz P w) a vs
 | .dT kvs=>kvs.length<=sizeLine/\(a == sysModules)=false/\∃xs:List (List Key×Addr×Value),
   Paired (λ(p:List Key×V)(q:List Key×Addr×Value)=>p.1=q.1/\H q.2.1=some (.tup (p.1.map kV))/\RelV p.2 q.2.2) kvs xs /\
   ∃o es ep,h.get? a=some o/\o.ExactDict/\o.data=.dict es ep/\es.toList=xs.map (entryOfKey (tupleKind (Bz P w)))/\(xs.map (·.1)).Nodup
 |.set S n=>h.SetOf (intKind P w) a S n
 | .ins C dx fs=>H dx=some (.own a)/\fs.length<=1000/\dx≠a/\h.get? a=some (PySem.W.instObj C dx) /\
   ∃mA,h.Ns1 dx mA/\(∀f,RelO (fs.lookup f) (mA f))/\PySem.Within mA (fs.map (·.1))
 |.own _=>∃o,h.get? a=some o
 |.xd fs=>∃mA,h.Ns1 a mA/\∀f,RelO (fs.lookup f) (mA f)
 |.rng lo hi=>∃t u v,h.get? a=some {cls:=.type "range",data:=.fields #[.int lo t,.int hi u,.int 1 v]}
 |.frz o u=>h.get? a=some o/\mI H h a u
 |.tbl ps=>h.get? a=some {cls:=.none,data:=.fields ps}
 |.met f x=>h.get? a=some (PySem.W.methodObj (.ref f) (.ref x))
 |.ext φ=>φ h/\(∃o,h.get? a=some o)/\∀h1 h2:Heap,φ h1->(∀o,h1.get? a=some o->h2.get? a=some o)->φ h2
def HOk(H:Hp)(h:Heap):Prop:=∀a o,H a=some o->mI P w H h a o
end
section
variable {P:Program} {w:World} {H H':Hp} {h h':Heap} {a:Addr} {o:HO}
theorem mI.lt(x:mI P w H h a o):a<h.objs.size:=by
 cases o with
 |lst xs=>obtain⟨_,_,_,_,e⟩:=x;exact zK e
 |tup xs=>obtain⟨_,_,_,p⟩:=x;exact p.lt
 |dK kvs=>obtain⟨_,_,_,_,o,_,_,e,_⟩:=x;exact zK e
 |dT kvs=>obtain⟨_,_,_,_,o,_,_,e,_⟩:=x;exact zK e
 |set g n=>obtain⟨o,_,_,_,e,_⟩:=x;exact zK e
 |ins C c fs=>obtain⟨_,_,_,e,_⟩:=x;exact zK e
 |own y=>obtain⟨_,e⟩:=x;exact zK e
 |xd fs=>obtain⟨_,⟨_,_,_,e,_⟩,_⟩:=x;exact zK e
 |rng lo hi=>obtain⟨_,_,_,e⟩:=x;exact zK e
 |frz b u=>obtain⟨e,_⟩:=x;exact zK e
 |tbl ps=>exact zK (show h.get? a=some _ from x)
 |met f y=>exact zK (show h.get? a=some _ from x)
 |ext d=>obtain⟨_,⟨_,e⟩,_⟩:=x;exact zK e
theorem Paired.mapP{c g:Type}{F i:c->g->Prop}:∀{d:List c}{e:List g},Paired F d e->(∀a b,F a b->i a b)->Paired i d e
 |_,_,.nil,_=>.nil
 |_,_,.cons r j,f=>.cons (f _ _ r) (Paired.mapP j f)
theorem mI.stay(x:mI P w H h a o)(k:∀b u,(b=a\/H b=some (.own a))->h.get? b=some u->h'.get? b=some u)
  (m:∀b,H b=some (.own a)->H' b=some (.own a))(l:∀b xs,H b=some (.tup xs)->H' b=some (.tup xs)):mI P w H' h' a o:=by
 induction o with
 |lst xs=>obtain⟨z,its,n,r,e⟩:=x;exact⟨z,its,n,r,k _ _ (.inl rfl) e⟩
 |tup xs=>obtain⟨z,its,r,g,e,c⟩:=x;exact⟨z,its,r,g,k _ _ (.inl rfl) e,c⟩
 |dK kvs=>obtain⟨z,y,vs,r,g,es,ep,e,c⟩:=x;exact⟨z,y,vs,r,g,es,ep,k _ _ (.inl rfl) e,c⟩
 |dT kvs =>
  obtain⟨z,y,xs,r,g,es,ep,e,c⟩:=x;exact⟨z,y,xs,Paired.mapP r λp q z=>⟨z.1,l _ _ z.2.1,z.2.2⟩,g,es,ep,k _ _ (.inl rfl) e,c⟩
 |set G n=>obtain⟨g,es,ep,i,e,c⟩:=x;exact⟨g,es,ep,i,k _ _ (.inl rfl) e,c⟩
 |ins C I fs =>
  obtain⟨d,z,ne,e,j,⟨od,es,ep,t,c⟩,r⟩:=x;exact⟨m _ d,z,ne,k _ _ (.inl rfl) e,j,⟨od,es,ep,k _ _ (.inr d) t,c⟩,r⟩
 |own y=>obtain⟨g,e⟩:=x;exact⟨g,k _ _ (.inl rfl) e⟩
 |xd fs=>obtain⟨j,⟨od,es,ep,e,c⟩,r⟩:=x;exact⟨j,⟨od,es,ep,k _ _ (.inl rfl) e,c⟩,r⟩
 |rng lo hi=>obtain⟨i,u,v,e⟩:=x;exact⟨i,u,v,k _ _ (.inl rfl) e⟩
 |frz g u D=>obtain⟨e,q⟩:=x;exact⟨k _ _ (.inl rfl) e,D q⟩
 |tbl ps =>
  have e:h.get? a=some {cls:=.none,data:=.fields ps}:=x;show h'.get? a=some {cls:=.none,data:=.fields ps};exact k a _ (.inl rfl) e
 |met f y =>
  have e:h.get? a=some (PySem.W.methodObj (.ref f) (.ref y)):=x;show h'.get? a=some (PySem.W.methodObj (.ref f) (.ref y));exact k a _ (.inl rfl) e
 |ext F=>obtain⟨p,⟨o,e⟩,st⟩:=x;exact⟨st _ _ p λo q=>k _ _ (.inl rfl) q,⟨o,k _ _ (.inl rfl) e⟩,st⟩
theorem HOk.lt(x:HOk P w H h)(e:H a=some o):a<h.objs.size:=(x a o e).lt
theorem HOk.fresh(x:HOk P w H h)(e:h.objs.size<=a):H a=none:=by
 cases q:H a with
 |none=>rfl
 |some u=>exact absurd (zP (x.lt q) e) (yZ _)
theorem HOk.kept(x:HOk P w H h)(k:∀b u,h.get? b=some u->h'.get? b=some u):HOk P w H h':=λa o e =>
 (x a o e).stay (λb u _ q=>k b u q) (λ_ q=>q) λ_ _ q=>q
theorem HOk.laid(x:HOk P w H h)(k:∀b u,h.get? b=some u->h'.get? b=some u)(g:h.objs.size<=a)(new:mI P w (upd H a o) h' a o):HOk P w (upd H a o) h':=λb u e=>by
 have f:=x.fresh g
 by_cases d:b=a
 ·subst d;rw[nN]at e;cases e;exact new
 ·rw[nO d]at e;exact(x b u e).stay (λc v _ q=>k c v q) (λc q=>by rw[nO (lI q f)];exact q) λc xs q=>by rw[nO (lI q f)];exact q
end
def Rd(H:Hp)(a:Addr)(u:HO):Prop:=H a=some u\/∃o,H a=some (.frz o u)
theorem Rd.ok{P:Program}{w:World}{H:Hp}{h:Heap}{a:Addr}{u:HO}(r:Rd H a u)(x:HOk P w H h):mI P w H h a u:=by
 rcases r with r|⟨o,r⟩
 ·exact x a u r
 ·obtain⟨_,q⟩:=x a _ r;exact q
def Mut:Option HO->Prop
 |some (.lst _)=>True
 |some (.dK _)=>True
 |some (.dT _)=>True
 |some (.set _ _)=>True
 |some (.ins _ _ _)=>True
 |some (.ext _)=>True
 |_=>False
section
variable {P:Program} {w:World} {H:Hp} {h h':Heap} {x e:Addr} {o':HO}
theorem HOk.write(ok:HOk P w H h)(a:Mut (H x))(i:e=x\/H e=some (.own x))(k:∀b u,b≠e->h.get? b=some u->h'.get? b=some u)(o:∃u,h'.get? e=some u)
  (new:mI P w (upd H x o') h' x o'):HOk P w (upd H x o') h':=λb u q=>by
 have j:∀c y,H c=some (.own y)->c≠x:=λc y r z=>by subst z;rw[r]at a;exact a
 have n:∀c xs,H c=some (.tup xs)->c≠x:=λc xs r z=>by subst z;rw[r]at a;exact a
 by_cases g:b=x
 ·subst g;rw[nN]at q;cases q;exact new
 ·rw[nO g]at q
  by_cases d:b=e
  ·have l:H b=some (.own x):=by
    rcases i with z|z
    ·exact absurd (d.trans z) g
    ·rw[d];exact z
   rw[q]at l;cases l;obtain⟨v,m⟩:=o;exact⟨v,by rw[d];exact m⟩
  ·refine(ok b u q).stay (λc v f r=>k c v ?_ r) (λc r=>by rw[nO (j c b r)];exact r) λc xs r=>by rw[nO (n c xs r)];exact r
   rcases f with rfl|f
   ·exact d
   ·rintro rfl;rcases i with z|z
    ·exact j c b f z
    ·rw[f]at z;cases z;exact g rfl
end
structure Un(fs ex:LA)(H H':Hp)(h h':Heap):Prop where
 keep:∀b o,h.get? b=some o->H b=none->b∉fs->b∉ex->h'.get? b=some o
 slot:∀b o,h.get? b=some o->H b=none->b∈fs->b∉ex->∃sl,h'.get? b=some {o with slots:=sl}
 free:∀b o,h.get? b=some o->H b=none->b∉ex->H' b=none
 there:∀b o,h.get? b=some o->b∉ex->∃o',h'.get? b=some o'
 tups:∀b xs,H b=some (.tup xs)->H' b=some (.tup xs)
 frzs:∀b o u,H b=some (.frz o u)->H' b=some (.frz o u)
 tbls:∀b ps,H b=some (.tbl ps)->∃more,H' b=some (.tbl (ps++more))
section
variable {fs fs' ex ex':LA} {H H1 H2:Hp} {h h1 h2 h':Heap} {a x e:Addr} {o:HO}
theorem Un.any(u:Un fs ex H H1 h h1){b:Addr}{c:Obj}(q:h.get? b=some c)(n:H b=none)(d:b∉ex):∃g,h1.get? b=some {c with slots:=g}:=by
 by_cases f:b∈fs
 ·exact u.slot b c q n f d
 ·exact⟨c.slots,u.keep b c q n f d⟩
theorem Un.trans(a:Un fs ex H H1 h h1)(b:Un fs ex H1 H2 h1 h2):Un fs ex H H2 h h2 where
 keep:=λc f q n g d=>b.keep c f (a.keep c f q n g d) (a.free c f q n d) g d
 slot:=λc f q n g d=>by
  obtain⟨p,e1⟩:=a.slot c f q n g d;obtain⟨l,j⟩:=b.slot c _ e1 (a.free c f q n d) g d;exact⟨l,j⟩
 free:=λc f q n d=>by
  obtain⟨i,e1⟩:=a.there c f q d;exact b.free c i e1 (a.free c f q n d) d
 there:=λc f q d=>by
  obtain⟨i,e1⟩:=a.there c f q d;exact b.there c i e1 d
 tups:=λc xs q=>b.tups c xs (a.tups c xs q)
 frzs:=λc f xs q=>b.frzs c f xs (a.frzs c f xs q)
 tbls:=λc ps q=>by
  obtain⟨m,e1⟩:=a.tbls c ps q;obtain⟨k,j⟩:=b.tbls c _ e1;exact⟨m++k,by rw[j,Array.append_assoc]⟩
theorem Un.kept(k:∀b u,h.get? b=some u->h'.get? b=some u):Un fs ex H H h h':=
 ⟨λb c q _ _ _=>k b c q,λb c q _ _ _=>⟨c.slots,k b c q⟩,λ_ _ _ n _=>n,λb c q _=>⟨c,k b c q⟩,λ_ _ q=>q,λ_ _ _ q=>q,λ_ ps q=>⟨#[],by rw[q];simp⟩⟩
theorem Un.refl:Un fs ex H H h h:=Un.kept λ_ _ q=>q
theorem Un.laid(k:∀b u,h.get? b=some u->h'.get? b=some u)(d:h.objs.size<=a)(c:H a=none):Un fs ex H (upd H a o) h h' where
 keep:=λb u q _ _ _=>k b u q
 slot:=λb u q _ _ _=>⟨u.slots,k b u q⟩
 free:=λb u q n _=>by rw[nO (zW (zP (zK q) d))];exact n
 there:=λb u q _=>⟨u,k b u q⟩
 tups:=λb xs q=>by rw[nO (lI q c)];exact q
 frzs:=λb u xs q=>by rw[nO (lI q c)];exact q
 tbls:=λb ps q=>⟨#[],by rw[nO (lI q c),q];simp⟩
theorem Un.write(c:Mut (H x))(j:e=x\/H e=some (.own x))(k:∀b u,b≠e->h.get? b=some u->h'.get? b=some u)(l:∃u,h'.get? e=some u):Un fs ex H (upd H x o) h h':=by
 have g:∀b,H b=none->b≠x:=λb n z=>by subst z;rw[n]at c;exact c
 have i:∀b,H b=none->b≠e:=λb n z=>by
  subst z;rcases j with r|r
  ·exact g b n r
  ·rw[n]at r;cases r
 have d:∀b u,H b=some u->¬ Mut (some u)->b≠x:=λb u q nm z=>by subst z;rw[q]at c;exact nm c
 refine⟨λb u q n _ _=>k b u (i b n) q,λb u q n _ _=>⟨u.slots,k b u (i b n) q⟩,λb u q n _=>by rw[nO (g b n)];exact n,λb u q _=>?_,
  λb xs q=>by rw[nO (d b _ q λz=>z)];exact q,λb u xs q=>by rw[nO (d b _ q λz=>z)];exact q,λb ps q=>⟨#[],by rw[nO (d b _ q λz=>z),q];simp⟩⟩
 by_cases f:b=e
 ·subst f;exact l
 ·exact⟨u,k b u f q⟩
end
def trk(h:Heap)(H:Hp):LA:=(List.range h.objs.size).filter λa=>(H a).isSome
def hidT(h:Heap)(H:Hp):Heap:=PySem.W.hideAll h (trk h H)
theorem Mg(h:Heap)(H:Hp):(hidT h H).objs.size=h.objs.size:=PySem.W.hideAll_size _ _
theorem Mf{h:Heap}{H:Hp}{b:Addr}{o:Obj}(e:h.get? b=some o)(n:H b=none):(hidT h H).get? b=some o:=
 rW _ e λa=>by
  have q:(H b).isSome=true:=(List.mem_filter.mp a).2;rw[n]at q;simp at q
theorem Me{h:Heap}{H:Hp}{b:Addr}{o:Obj}(e:(hidT h H).get? b=some o):h.get? b=some o/\H b=none:=by
 have a:h.get? b=some o:=qK (trk h H) e;refine⟨a,?_⟩;cases q:H b with
 |none=>rfl
 |some x =>
  have c:b∈trk h H:=List.mem_filter.mpr ⟨oY.mpr (zK a),by simp[q]⟩;have z:(hidT h H).get? b=none:=rM (trk h H) c;rw[z]at e;cases e
def Md(g h:Heap)(L:Addr):PN:=(List.range h.objs.size).filterMap λa=>if a=L\/(g.get? a).isSome=true then none else(h.get? a).map λo=>(a,o)
def rest(g h:Heap)(L d:Addr):PN:=(Md g h L).filter λp=>decide (p.1≠d)
structure Mod(K:Frag)(mg:MT)(base:Heap):Prop where
 kin:K.In base
 glob:base.Ns mainGlobals mg
 blt:∃mb,base.Ns builtinsNs mb/\∀x:Str,x≠"__name__" -> mb x=bootBuiltins x
 nolimit:base.NoLimit
structure Cx where
 prog:Program
 w:World
 K:Frag
 mg:MT
 base:Heap
 A:Around
 N:List Str
 s₀:Shared
 H₀:Hp
 env:Env
 outer:List Env
 stack:List Env
 ex:LA
 fn:Str->Bool
 calm:Bool
 pn:PN
 xe:VP
def frs(l:List Env):LA:=l.filterMap (·.frame)
abbrev Cx.fs(X:Cx):LA:=frs X.outer
def Vis(sc:Scope)(x:Str):Prop:=sc.names.lookup x=some .local\/sc.names.lookup x=some .cell\/sc.names.lookup x=some .free
def Loc(sc:Scope)(x:Str):Prop:=sc.names.lookup x=some .local\/sc.names.lookup x=some .cell
def Look(env:Env)(h:Heap)(m:MT)(x:Str)(u:Value):Prop:=
 (env.kindOf x=some .local/\m x=some u)\/((env.kindOf x=some .cell\/env.kindOf x=some .free)/\∃c,env.cells.lookup x=some c/\h.IsCell c (some u))
structure Cx.Ok(X:Cx):Prop where
 mod:Mod X.K X.mg X.base
 kind:X.env.scope.kind=.function
 glob:X.env.globals=mainGlobals
 blt:X.env.builtins=builtinsNs
 above:X.s₀.heap.objs.size<=X.env.locals
 inj:∀x y c,X.env.cells.lookup x=some c->X.env.cells.lookup y=some c->x=y
 has:∀x,(X.env.kindOf x=some .cell\/X.env.kindOf x=some .free)->∃c,X.env.cells.lookup x=some c
 cab:∀x c,X.fn x=true->X.env.cells.lookup x=some c->X.s₀.heap.objs.size<=c
 hd:X.calm=true->X.A.handled=none
 frames:X.A.frames=some X.stack
 stk:X.stack=X.outer\/(X.stack=X.env:: X.outer/\X.env.frame=some X.env.locals)
 exf:∀b∈X.ex,b≠X.env.locals/\∀x c,X.env.cells.lookup x=some c->c≠b
 bs:∀b o,X.base.get? b=some o->X.s₀.heap.get? b=some o/\X.H₀ b=none
 bsz:X.base.objs.size<=X.s₀.heap.objs.size
 noex:∀b o,X.base.get? b=some o->b∉X.ex
 exfs:∀b∈X.ex,b∉X.fs
 funs:X.s₀.heap.FunFrames X.base X.outer
 frf:∀b∈X.fs,X.H₀ b=none
structure Inv(X:Cx)(pins:PN)(σ:List (Option V))(H:Hp)(s:Shared):Prop where
 ok:X.Ok
 os:s.os=X.s₀.os
 bare:AllBare s.gens
 base:Un X.fs X.ex X.H₀ H X.s₀.heap s.heap
 loc:∃m,s.heap.Ns X.env.locals m/\∀(i:Nat)(x:Str)(v:V),X.N[i]?=some x->σ[i]?=some (some v)->Vis X.env.scope x->∃u,RelV v u/\Look X.env s.heap m x u
 cell:∀x c,X.env.cells.lookup x=some c->∃v,s.heap.IsCell c v
 free:H X.env.locals=none
 freeC:∀x c,X.env.cells.lookup x=some c->H c=none
 pin:∀p∈X.pn++pins,s.heap.get? p.1=some p.2/\H p.1=none/\p.1≠X.env.locals/\p.1∉X.fs/\∀v,p.2.data≠.cell v
 hok:HOk X.prog X.w H s.heap
 len:σ.length=X.N.length
section
variable {X:Cx} {pins:PN} {σ:List (Option V)} {H H':Hp} {s:Shared} {h':Heap}
theorem Cx.Ok.nofr(ok:X.Ok){b:Addr}{o:Obj}(e:X.base.get? b=some o):b∉X.fs:=λa=>by
 have:=(ok.funs.mem a).1;rw[e]at this;cases this
theorem Inv.bs(I:Inv X pins σ H s):∀b o,X.base.get? b=some o->s.heap.get? b=some o/\H b=none:=λb o e =>
 ⟨I.base.keep b o (I.ok.bs b o e).1 (I.ok.bs b o e).2 (I.ok.nofr e) (I.ok.noex b o e),I.base.free b o (I.ok.bs b o e).1 (I.ok.bs b o e).2 (I.ok.noex b o e)⟩
theorem Inv.bk(I:Inv X pins σ H s):∀b o,X.base.get? b=some o->s.heap.get? b=some o:=λb o e=>(I.bs b o e).1
theorem Inv.mod(I:Inv X pins σ H s):Mod X.K X.mg X.base:=I.ok.mod
theorem Inv.kIn(I:Inv X pins σ H s):X.K.In s.heap:=I.ok.mod.kin.keeps I.bk
theorem Inv.lt(I:Inv X pins σ H s):X.env.locals<s.heap.objs.size:=let ⟨_,a,_⟩:=I.loc;a.lt
theorem Inv.sz(I:Inv X pins σ H s):X.s₀.heap.objs.size<=s.heap.objs.size:=yC I.ok.above (tF I.lt)
theorem Inv.nofs(I:Inv X pins σ H s){a:Addr}(h:s.heap.objs.size<=a):a∉X.fs:=λb=>by
 obtain⟨_,o,c,_⟩:=I.ok.funs.mem b;exact absurd (zP (zK c) (yC I.sz h)) (yZ _)
theorem Inv.cne(I:Inv X pins σ H s):∀x c,X.env.cells.lookup x=some c->c≠X.env.locals:=λx c e z=>by
 obtain⟨v,o,a,b⟩:=I.cell x c e;obtain⟨m,⟨g,es,ep,d,f,_⟩,_⟩:=I.loc;rw[z,d]at a;cases a;rw[f]at b;cases b
theorem Inv.funs(I:Inv X pins σ H s):s.heap.FunFrames X.base X.outer:=by
 have all:∀(l:List Env),(∀b∈frs l,b∈X.fs)->X.s₀.heap.FunFrames X.base l->s.heap.FunFrames X.base l:=by
  intro l
  induction l with
  |nil=>intro _ _;trivial
  |cons env r m =>
   intro f hl;obtain⟨j,⟨L,o,d,i,g,k⟩,hr⟩:=hl;have a:L∈X.fs:=f L (by unfold frs;rw[tY,d];exact yE);obtain⟨n,e⟩:=I.base.slot L o g (I.ok.frf L a) a λz=>I.ok.exfs L z a;exact⟨j,⟨L,_,d,i,e,k⟩,m (λb c=>f b (by unfold frs;rw[tY,d];exact zU _ c)) hr⟩
 exact all X.outer (λ_ c=>c) I.ok.funs
theorem Inv.stack(I:Inv X pins σ H s):s.heap.FunFrames X.base X.stack:=by
 rcases I.ok.stk with e|⟨e,b⟩
 ·rw[e];exact I.funs
 ·rw[e];obtain⟨m,a,_⟩:=I.loc;refine .cons (by rw[I.ok.kind];decide) b a ?_ I.funs;exact Heap.get?_none_of_le (yC I.ok.bsz I.ok.above)
theorem Inv.stkSub(I:Inv X pins σ H s):∀b∈frs X.stack,b∈X.env.locals:: X.fs:=λb a=>by
 rcases I.ok.stk with e|⟨e,c⟩
 ·rw[e]at a;exact zU _ a
 ·rw[e]at a;unfold frs at a;rw[tY,c]at a;exact a
theorem Inv.stkFree(I:Inv X pins σ H s):∀b∈frs X.stack,H b=none:=λb a=>by
 rcases xL.mp (I.stkSub b a) with e|a
 ·rw[e];exact I.free
 ·obtain⟨_,o,c,_⟩:=I.ok.funs.mem a;exact I.base.free b o c (I.ok.frf b a) λz=>I.ok.exfs b z a
theorem Inv.step{g':Array GenState}{t':Nat}{d':Drawn}{ch:LA}(I:Inv X pins σ H s)
  (y:∀b∈ch,(b∈X.ex\/X.s₀.heap.objs.size<=b)/\b≠X.env.locals/\(∀x c,X.env.cells.lookup x=some c->c≠b)/\∀p∈X.pn++pins,p.1≠b)
  (J:∀b o,b≠X.env.locals->b∉X.fs->b∉ch->s.heap.get? b=some o->H b=none->h'.get? b=some o)
  (P:∀b o,b≠X.env.locals->b∈X.fs->b∉ch->s.heap.get? b=some o->H b=none->∃F,h'.get? b=some {o with slots:=F})(C:∀b o,b∉ch->s.heap.get? b=some o->H b=none->H' b=none)
  (there:∀b o,b∉ch->s.heap.get? b=some o->∃t,h'.get? b=some t)
  (S:∀b xs,H b=some (.tup xs)->H' b=some (.tup xs))(R:∀b o u,H b=some (.frz o u)->H' b=some (.frz o u))(a1:∀b ps,H b=some (.tbl ps)->∃more,H' b=some (.tbl (ps++more)))
  (ns:∀m,s.heap.Ns X.env.locals m->h'.Ns X.env.locals m)(U:HOk X.prog X.w H' h')(T:AllBare g'):
  Inv X pins σ H' {s with heap:=h',gens:=g',drawn:=d',toks:=t'}:=by
 have O:∀b o,X.s₀.heap.get? b=some o->b≠X.env.locals:=λb o e=>zW (zP (zK e) I.ok.above);have D:∀b o,X.s₀.heap.get? b=some o->b∉X.ex->b∉ch:=λb o e a f=>by
  rcases(y b f).1 with z|z
  ·exact a z
  ·exact absurd (zP (zK e) z) (yZ _)
 have N:∀x c,X.env.cells.lookup x=some c->∀v,s.heap.IsCell c v->h'.IsCell c v:=λx c e v⟨o,g,G⟩=>by
  have j:c∉ch:=λz=>(y c z).2.2.1 x c e rfl
  by_cases K:c∈X.fs
  ·obtain⟨F,q⟩:=P c o (I.cne x c e) K j g (I.freeC x c e);exact⟨_,q,G⟩
  ·exact⟨o,J c o (I.cne x c e) K j g (I.freeC x c e),G⟩
 refine⟨I.ok,I.os,T,⟨λb o e n f a=>?_,λb o e n f a=>?_,λb o e n a=>?_,λb o e a=>?_,λb xs e=>S b xs (I.base.tups b xs e),λb o xs e=>R b o xs (I.base.frzs b o xs e),λb ps e=>?_⟩,?_,λx c e=>?_,?_,λx c e=>?_,λp M=>?_,U,I.len⟩
 ·exact J b o (O b o e) f (D b o e a) (I.base.keep b o e n f a) (I.base.free b o e n a)
 ·obtain⟨F,e1⟩:=I.base.slot b o e n f a;obtain⟨Z,w⟩:=P b _ (O b o e) f (D b o e a) e1 (I.base.free b o e n a);exact⟨Z,w⟩
 ·obtain⟨t,e1⟩:=I.base.there b o e a;exact C b t (D b o e a) e1 (I.base.free b o e n a)
 ·obtain⟨t,e1⟩:=I.base.there b o e a;exact there b t (D b o e a) e1
 ·obtain⟨Y,e1⟩:=I.base.tbls b ps e;obtain⟨a0,w⟩:=a1 b _ e1;exact⟨Y++a0,by rw[w,Array.append_assoc]⟩
 ·obtain⟨m,a2,hl⟩:=I.loc;refine⟨m,ns m a2,λi x v e1 w W=>?_⟩;obtain⟨u,r,l⟩:=hl i x v e1 w W;refine⟨u,r,?_⟩;rcases l with l|⟨k,c,e,z⟩
  ·exact .inl l
  ·exact .inr ⟨k,c,e,N x c e _ z⟩
 ·obtain⟨v,z⟩:=I.cell x c e;exact⟨v,N x c e v z⟩
 ·obtain⟨m,⟨o,_,_,g,_⟩,_⟩:=I.loc;exact C _ o (λz=>(y _ z).2.1 rfl) g I.free
 ·obtain⟨v,o,g,G⟩:=I.cell x c e;exact C c o (λz=>(y c z).2.2.1 x c e rfl) g (I.freeC x c e)
 ·obtain⟨e,n,ne,L,d⟩:=I.pin p M;have j:p.1∉ch:=λz=>(y p.1 z).2.2.2 p M rfl;exact⟨J p.1 p.2 ne L j e n,C p.1 p.2 j e n,ne,L,d⟩
theorem Inv.un{t':Nat}(I:Inv X pins σ H s)(u:Un X.fs [] H H' s.heap h')(g:HOk X.prog X.w H' h'):Inv X pins σ H' {s with heap:=h',toks:=t'}:=by
 obtain⟨m,⟨o,es,ep,d,r⟩,_⟩:=id I.loc;obtain⟨t,l⟩:=u.any d I.free (by simp);exact I.step (g':=s.gens) (d':=s.drawn) (ch:=[]) (λ_ z=>nomatch z) (λb o _ a _ e n=>u.keep b o e n a (by simp)) (λb o _ a _ e n=>u.slot b o e n a (by simp)) (λb o _ e n=>u.free b o e n (by simp)) (λb o _ e=>u.there b o e (by simp)) u.tups u.frzs u.tbls (λp j=>by
  obtain⟨q,f,k,c,i⟩:=j;rw[d]at c;cases c;exact⟨_,f,k,l,i⟩) g I.bare
theorem Inv.call{g':Array GenState}{t':Nat}{d':Drawn}{ch:LA}(I:Inv X pins σ H s)(u:Un (frs X.stack) ch H H' s.heap h')(k:HOk X.prog X.w H' h')(v:AllBare g')
  (i:∀b∈ch,(b∈X.ex\/X.s₀.heap.objs.size<=b)/\b≠X.env.locals/\(∀x c,X.env.cells.lookup x=some c->c≠b)/\∀p∈X.pn++pins,p.1≠b):
  Inv X pins σ H' {s with heap:=h',gens:=g',drawn:=d',toks:=t'}:=by
 obtain⟨m,⟨o,es,ep,g,r⟩,_⟩:=id I.loc;obtain⟨D,d⟩:=u.any g I.free λz=>(i _ z).2.1 rfl;exact I.step (ch:=ch) i (λb o d w a e n=>u.keep b o e n (λz=>(xL.mp (I.stkSub b z)).elim d w) a) (λb o _ _ a e n=>u.any e n a) (λb o a e n=>u.free b o e n a) (λb o a e=>u.there b o e a) u.tups u.frzs u.tbls (λy q=>by
  obtain⟨C,j,t,f,l⟩:=q;rw[g]at f;cases f;exact⟨_,j,t,d,l⟩) k v
theorem Inv.turned{t':Nat}{a:Addr}(I:Inv X pins σ H s)(k:∀b o,b≠a->s.heap.get? b=some o->h'.get? b=some o)(l:H a=none)(g:a≠X.env.locals)
  (i:a∈X.ex\/X.s₀.heap.objs.size<=a)(w:∀x c,X.env.cells.lookup x=some c->c≠a)(t:∀p∈X.pn++pins,p.1≠a):Inv X pins σ H {s with heap:=h',toks:=t'}:=by
 have f:∀b u,H b=some u->b≠a:=λb u e z=>by rw[z,l]at e;cases e
 refine I.step (g':=s.gens) (d':=s.drawn) (ch:=[a]) (λb y=>?_) (λb o _ _ d e _=>k b o (λz=>d (by simp[z])) e) (λb o _ _ d e _=>⟨o.slots,k b o (λz=>d (by simp[z])) e⟩) (λ_ _ _ _ n=>n)
  (λb o d e=>⟨o,k b o (λz=>d (by simp[z])) e⟩) (λ_ _ e=>e) (λ_ _ _ e=>e) (λb ps e=>⟨#[],by rw[e];simp⟩) (λm C=>?_) (λb u e=>?_) I.bare
 ·have e:b=a:=by simpa using y
  subst e;exact⟨i,g,w,t⟩
 ·obtain⟨o,es,ep,j,r⟩:=C;exact⟨o,es,ep,k _ o (zT g) j,r⟩
 ·refine(I.hok b u e).stay (λc v d q=>k c v ?_ q) (λ_ q=>q) λ_ _ q=>q;rcases d with z|z
  ·rw[z];exact f b u e
  ·exact f c _ z
theorem Inv.tok(I:Inv X pins σ H s)(t:Nat):Inv X pins σ H {s with toks:=t}:=I.un (h':=s.heap) (t':=t) Un.refl I.hok
theorem Inv.kept{t':Nat}(I:Inv X pins σ H s)(k:∀b u,s.heap.get? b=some u->h'.get? b=some u):Inv X pins σ H {s with heap:=h',toks:=t'}:=I.un (Un.kept k) (I.hok.kept k)
theorem Inv.laid{a:Addr}{o:HO}{t':Nat}(I:Inv X pins σ H s)(k:∀b u,s.heap.get? b=some u->h'.get? b=some u)(c:s.heap.objs.size<=a)(new:mI X.prog X.w (upd H a o) h' a o):
  Inv X pins σ (upd H a o) {s with heap:=h',toks:=t'}:=I.un (Un.laid k c (I.hok.fresh c)) (I.hok.laid k c new)
theorem Inv.write{x e:Addr}{o:HO}{t':Nat}(I:Inv X pins σ H s)(c:Mut (H x))(d:e=x\/H e=some (.own x))(k:∀b u,b≠e->s.heap.get? b=some u->h'.get? b=some u)(a:∃u,h'.get? e=some u)
  (new:mI X.prog X.w (upd H x o) h' x o):Inv X pins σ (upd H x o) {s with heap:=h',toks:=t'}:=I.un (Un.write c d k a) (I.hok.write c d k a new)
theorem Inv.pins_of{a:PN}(I:Inv X pins σ H s)(h:∀p∈a,s.heap.get? p.1=some p.2/\H p.1=none/\p.1≠X.env.locals/\p.1∉X.fs/\∀v,p.2.data≠.cell v):Inv X a σ H s:=
 ⟨I.ok,I.os,I.bare,I.base,I.loc,I.cell,I.free,I.freeC,λp b=>(oW.mp b).elim (λz=>I.pin p (xI _ z)) (h p),I.hok,I.len⟩
theorem By{N:List Str}(c:N.Nodup){i j:Nat}{x:Str}(a:N[i]?=some x)(b:N[j]?=some x):i=j:=by
 obtain⟨e,e1⟩:=nA.mp a;obtain⟨f,d⟩:=nA.mp b;exact(List.getElem_inj c).mp (e1.trans d.symm)
theorem Fv{M:Model}{A:Around}{E:VP}{i:Nat}{x:Str}{v:V}{u:Value}{Q:Unit->Shared->Prop}(I:Inv X pins σ H s)(Z:X.N.Nodup)(hi:X.N[i]?=some x)(l:Loc X.env.scope x)(r:RelV v u)
  (h:∀G,Inv X pins (σ.set i (some v)) H G->(∃a,Heap.SameBut a s.heap G.heap/\(a=X.env.locals\/X.env.cells.lookup x=some a))->Q () G)(a8:X.fn x=true\/X.env.scope.names.lookup x=some .local:=by first|exact .inl rfl|exact .inr rfl|assumption):wpAny M A (storeName X.env x u) Q E s:=by
 obtain⟨m,S,hl⟩:=id I.loc;have b1:(X.env.scope.kind == .class || (X.env.scope.kind == .module && X.env.locals != X.env.globals))=false:=by rw[I.ok.kind];rfl
 have a0:i<σ.length:=by rw[I.len];exact(nA.mp hi).1
 have cne:=I.cne;have Y:∀{a:Addr}{h':Heap},(∃o,s.heap.get? a=some o/\H a=none)->Heap.SameBut a s.heap h'->HOk X.prog X.w H h':=λ{a h'}a7 f b a9 e=>by
  obtain⟨_,_,W⟩:=a7;refine(I.hok b a9 e).stay (λc w' g q=>(f.2 c ?_).trans q) (λ_ q=>q) λ_ _ q=>q;rintro rfl;rcases g with rfl|g
  ·rw[W]at e;cases e
  ·rw[W]at g;cases g
 rcases l with w|w
 ·refine wpAny_storeName_local w S (λh' b4 f=>?_) b1;obtain⟨b0,_,_,b6,_⟩:=id S;refine h _ ⟨I.ok,I.os,I.bare,⟨λb o e n D l=>?_,λb o e n D l=>?_,I.base.free,λb o e l=>?_,I.base.tups,I.base.frzs,I.base.tbls⟩,⟨_,b4,λj y U e1 t J=>?_⟩,λy c e=>?_,I.free,I.freeC,λp P=>?_,Y ⟨b0,b6,I.free⟩ f,by simpa using I.len⟩ ⟨_,f,.inl rfl⟩
  ·exact(f.2 b (zW (zP (zK e) I.ok.above))).trans (I.base.keep b o e n D l)
  ·obtain⟨O,e1⟩:=I.base.slot b o e n D l;exact⟨O,(f.2 b (zW (zP (zK e) I.ok.above))).trans e1⟩
  ·obtain⟨K,e1⟩:=I.base.there b o e l;exact⟨K,(f.2 b (zW (zP (zK e) I.ok.above))).trans e1⟩
  ·by_cases C:j=i
   ·subst C;rw[hi]at e1;cases e1;rw[xR a0]at t;cases t;exact⟨u,r,.inl ⟨w,by simp⟩⟩
   ·rw[uB (zT C)]at t;obtain⟨L,R,q⟩:=hl j y U e1 t J;refine⟨L,R,?_⟩;rcases q with⟨k,e⟩|⟨k,c,e,z⟩
    ·refine .inl ⟨k,?_⟩;have:y≠x:=λe=>C (By Z e1 (e ▸ hi));simp[this,e]
    ·exact .inr ⟨k,c,e,z.sameBut f (cne y c e)⟩
  ·obtain⟨w',z⟩:=I.cell y c e;exact⟨w',z.sameBut f (cne y c e)⟩
  ·obtain⟨e,n,ne,N,d⟩:=I.pin p P;exact⟨(f.2 p.1 ne).trans e,n,ne,N,d⟩
 ·have T:X.fn x=true:=by
   rcases a8 with z|z
   ·exact z
   ·rw[z]at w;cases w
  obtain⟨c,g⟩:=I.ok.has x (.inl w);obtain⟨w',z⟩:=I.cell x c g;refine wpAny_storeName_cell I.ok.kind w g z (λh' a4 f=>?_);obtain⟨a2,a1,a6⟩:=id z;refine h {s with heap:=h'} ⟨I.ok,I.os,I.bare,⟨λb o e n D l=>?_,λb o e n D l=>?_,I.base.free,λb o e l=>?_,I.base.tups,I.base.frzs,I.base.tbls⟩,⟨m,S.sameBut f (zT (cne x c g)),λj y U e1 t J=>?_⟩,λy F e=>?_,I.free,I.freeC,λp P=>?_,Y ⟨a2,a1,I.freeC x c g⟩ f,by simpa using I.len⟩ ⟨c,f,.inr g⟩
  ·exact(f.2 b (zW (zP (zK e) (I.ok.cab x c T g)))).trans (I.base.keep b o e n D l)
  ·obtain⟨O,e1⟩:=I.base.slot b o e n D l;exact⟨O,(f.2 b (zW (zP (zK e) (I.ok.cab x c T g)))).trans e1⟩
  ·obtain⟨K,e1⟩:=I.base.there b o e l;exact⟨K,(f.2 b (zW (zP (zK e) (I.ok.cab x c T g)))).trans e1⟩
  ·by_cases C:j=i
   ·subst C;rw[hi]at e1;cases e1;rw[xR a0]at t;cases t;exact⟨u,r,.inr ⟨.inl w,c,g,a4⟩⟩
   ·rw[uB (zT C)]at t;obtain⟨L,R,q⟩:=hl j y U e1 t J;refine⟨L,R,?_⟩;rcases q with q|⟨k,F,e,a5⟩
    ·exact .inl q
    ·refine .inr ⟨k,F,e,a5.sameBut f ?_⟩;rintro rfl;exact C (By Z e1 (I.ok.inj _ _ _ e g ▸ hi))
  ·by_cases a3:F=c
   ·subst a3;exact⟨_,a4⟩
   ·obtain⟨b2,b5⟩:=I.cell y F e;exact⟨b2,b5.sameBut f a3⟩
  ·obtain⟨e,n,ne,N,d⟩:=I.pin p P;refine⟨(f.2 p.1 ?_).trans e,n,ne,N,d⟩;intro q;rw[q,a1]at e;have b3:a2=p.2:=zZ e;exact d w' (by rw[←b3];exact a6)
theorem fE{M:Model}{A:Around}{E:VP}{i:Nat}{x:Str}{v:V}{u:Value}{Q:Unit->Shared->Prop}(I:Inv X pins σ H s)(c:X.N.Nodup)(hi:X.N[i]?=some x)(d:Loc X.env.scope x)(r:RelV v u)
  (h:∀a,Inv X pins (σ.set i (some v)) H a->Q () a)(e:X.fn x=true\/X.env.scope.names.lookup x=some .local:=by first|exact .inl rfl|exact .inr rfl|assumption):wpAny M A (storeName X.env x u) Q E s:=
 Fv I c hi d r (λa b _=>h a b) e
theorem Inv.call'{a:Shared}{ch:LA}(I:Inv X pins σ H s)(f:a.os=s.os)(u:Un (frs X.stack) ch H H' s.heap a.heap)(d:HOk X.prog X.w H' a.heap)(j:AllBare a.gens)
  (i:∀b∈ch,(b∈X.ex\/X.s₀.heap.objs.size<=b)/\b≠X.env.locals/\(∀x c,X.env.cells.lookup x=some c->c≠b)/\∀p∈X.pn++pins,p.1≠b):Inv X pins σ H' a:=by
 obtain⟨h',g',d',t',g⟩:=a;have e:g=s.os:=f;subst e;exact I.call (g':=g') (t':=t') (d':=d') u d j i
end
abbrev XK:=Value->Option Addr->Hp->Prop
abbrev St:=List (Option V)
abbrev VK:=V->Hp->Prop
abbrev TE:=St->Hp->VK->Prop
abbrev TT:=St->Hp->(Bool->Hp->Prop)->Prop
abbrev TA:=St->Hp->(List V->Hp->Prop)->Prop
structure Ends where
 nx:St->Hp->Prop
 rt:VK
 bk:St->Hp->Prop:=λ_ _=>False
 ct:St->Hp->Prop:=λ_ _=>False
abbrev TS:=Ends->St->Hp->Prop
def EP(X:Cx)(pins:PN)(σ:St)(Q:VK)(u:Value)(s':Shared):Prop:=∃v H',Inv X pins σ H' s'/\RelV v u/\Q v H'
def TP(X:Cx)(pins:PN)(σ:St)(Q:Bool->Hp->Prop)(b:Bool)(s':Shared):Prop:=∃H',Inv X pins σ H' s'/\Q b H'
def AP(X:Cx)(pins:PN)(σ:St)(Q:List V->Hp->Prop)(us:LW)(s':Shared):Prop:=∃vs H',Inv X pins σ H' s'/\Vals vs us/\Q vs H'
def SP(X:Cx)(pins:PN)(D:Ends)(f:Flow)(s':Shared):Prop:=
 match f with
 |.next=>∃σ' H',Inv X pins σ' H' s'/\D.nx σ' H'
 |.brk=>∃σ' H',Inv X pins σ' H' s'/\D.bk σ' H'
 |.cont=>∃σ' H',Inv X pins σ' H' s'/\D.ct σ' H'
 |.ret u=>∃v σ' H',Inv X pins σ' H' s'/\RelV v u/\D.rt v H'
def PE(X:Cx)(e:Expr)(t:TE):Prop:=
 ∀(pins:PN)(s:Shared)(σ:St)(H:Hp)(Q:VK),Inv X pins σ H s->t σ H Q->wpAny (model X.prog X.w) X.A (eval e X.env) (EP X pins σ Q) X.xe s
def PT(X:Cx)(e:Expr)(t:TT):Prop:=
 ∀(pins:PN)(s:Shared)(σ:St)(H:Hp)(Q:Bool->Hp->Prop),Inv X pins σ H s->t σ H Q->wpAny (model X.prog X.w) X.A (isTrue e X.env (eval e X.env)) (TP X pins σ Q) X.xe s
def PW(X:Cx)(e:Expr)(t:TT):Prop:=
 ∀(whole:Sem Value)(pins:PN)(s:Shared)(σ:St)(H:Hp)(Q:Bool->Hp->Prop),Inv X pins σ H s->t σ H Q->wpAny (model X.prog X.w) X.A (isTrue e X.env whole) (TP X pins σ Q) X.xe s
theorem PW.pt{X:Cx}{e:Expr}{t:TT}(h:PW X e t):PT X e t:=h _
def PA(X:Cx)(es:List Expr)(t:TA):Prop:=
 ∀(pos:Pos)(pins:PN)(s:Shared)(σ:St)(H:Hp)(Q:List V->Hp->Prop),Inv X pins σ H s->t σ H Q->wpAny (model X.prog X.w) X.A (spliced (backTo pos (starEach es X.env))) (AP X pins σ Q) X.xe s
def PS(X:Cx)(st:Stmt)(t:TS):Prop:=
 ∀(pins:PN)(s:Shared)(σ:St)(H:Hp)(D:Ends),Inv X pins σ H s->t D σ H->wpAny (model X.prog X.w) X.A (exec st X.env) (SP X pins D) X.xe s
def PSs(X:Cx)(st:List Stmt)(t:TS):Prop:=
 ∀(pins:PN)(s:Shared)(σ:St)(H:Hp)(D:Ends),Inv X pins σ H s->t D σ H->wpAny (model X.prog X.w) X.A (execs st X.env) (SP X pins D) X.xe s
theorem thn{b:Type}{c:Sem b}{Q d:b->Shared->Prop}{M:Model}{A:Around}{E:VP}{s:Shared}(h:wpAny M A c Q E s)(e:∀a s,Q a s->d a s):wpAny M A c d E s:=yQ h e λ_ _ x=>x
section
variable {X:Cx}
def tVar(i:Nat):TE:=λσ H Q=>∃v,σ[i]?=some (some v)/\Q v H
def tC(v:V):TE:=λ_ H Q=>Q v H
theorem Mc{i:Nat}{x:Str}{n:Pos}(o:X.N[i]?=some x)(k:Vis X.env.scope x)(d:(x == ("__debug__" :Str))=false:=by decide)(q:(x == ("__classdict__" :Str))=false:=by decide):PE X (.Name x n) (tVar i):=by
 intro j s t H Q I h;obtain⟨v,e,h⟩:=h;obtain⟨m,p,hl⟩:=I.loc;obtain⟨u,r,l⟩:=hl i x v o e k;have b:EP X j t Q u s:=⟨v,H,I,r,h⟩;rcases l with⟨a,w⟩|⟨a,c,g,f⟩
 ·exact wpAny_Name (wpAny_loadName_local I.ok.kind a p w b) d
 ·rcases a with a|a
  ·exact wpAny_Name (wpAny_loadName_cell I.ok.kind a g f b) d
  ·exact wpAny_Name (wpAny_loadName_free I.ok.kind a g f b q) d
theorem nK{i j a}:PE X (.Constant (.int i) j a) (tC (.int i)):=λ_ _ _ H _ I h=>wpAny_Constant_int ⟨.int i,H,I.tok _,⟨_,rfl⟩,h⟩
theorem lF{b j a}:PE X (.Constant (.bool b) j a) (tC (.bl b)):=λ_ _ _ H _ I h=>Constant_bool ⟨.bl b,H,I,rfl,h⟩
theorem Bx{j a}:PE X (.Constant .none j a) (tC .non):=λ_ _ _ H _ I h=>Constant_none ⟨.non,H,I,rfl,h⟩
theorem iJ{x j a}:PE X (.Constant (.str x) j a) (tC (.str x)):=λ_ _ _ H _ I h=>Calls.Constant_str ⟨.str x,H,I.tok _,⟨_,rfl⟩,h⟩
def Gl(X:Cx)(x:Str):Prop:=X.env.kindOf x=some .globalImplicit
theorem iV{E:VP}{a:PN}{s:Shared}{e:St}{H:Hp}{x:Str}{u:Value}{b:Pos}{Q:VP}(I:Inv X a e H s)(d:Gl X x)(f:X.mg x=some u)(h:Q u s)
  (c:(x == ("__debug__" :Str))=false:=by decide):wpAny (model X.prog X.w) X.A (eval (.Name x b) X.env) Q E s:=
 Calls.Name_function_global I.ok.kind d (Calls.loadGlobal_global (by rw[I.ok.glob];exact I.mod.glob.keeps I.bk) f h) c
theorem gL{E:VP}{a:PN}{s:Shared}{j:St}{H:Hp}{x:Str}{u:Value}{c:Pos}{Q:VP}(I:Inv X a j H s)(i:Gl X x)(k:X.mg x=none)(b:bootBuiltins x=some u)(h:Q u s)
  (e:x≠"__name__" := by decide)(f:(x == ("__debug__" :Str))=false:=by decide):wpAny (model X.prog X.w) X.A (eval (.Name x c) X.env) Q E s:=by
 obtain⟨l,d,g⟩:=I.mod.blt;exact Calls.Name_function_global I.ok.kind i (Calls.loadGlobal_builtin (by rw[I.ok.glob];exact I.mod.glob.keeps I.bk) k (by rw[I.ok.blt];exact d.keeps I.bk) ((g x e).trans b) h) f
theorem fY{x:Str}{v:V}{u:Value}{b:Pos}(a:Gl X x)(d:X.mg x=some u)(r:RelV v u)(c:(x == ("__debug__" :Str))=false:=by decide):PE X (.Name x b) (tC v):=
 λ_ _ _ H _ I h=>iV I a d ⟨v,H,I,r,h⟩ c
theorem jD{x:Str}{v:V}{u:Value}{b:Pos}(e:Gl X x)(f:X.mg x=none)(a:bootBuiltins x=some u)(r:RelV v u)(c:x≠"__name__" := by decide)(d:(x == ("__debug__" :Str))=false:=by decide):PE X (.Name x b) (tC v):=
 λ_ _ _ H _ I h=>gL I e f a ⟨v,H,I,r,h⟩ c d
variable {a b:Expr} {ta tb:TE} {pos:Pos}
def tB(t:TE):TT:=λσ H Q=>t σ H λx H1=>∃c,x=.bl c/\Q c H1
theorem lP{e:Expr}{c:TE}(h:PE X e c)(j:∀f,isTrue e X.env f=(do let v ←f;standAt e.pos;holding [v] (truthy v)):=by intro _;rfl):PT X e (tB c):=by
 intro i s n H Q I k;refine isTrue_plain (thn (h i s n H _ I k) ?_) (j _);rintro v o ⟨x,l,m,r1,g⟩;obtain⟨d,rfl,q⟩:=g;cases r1;exact uY ⟨l,m,q⟩
variable {tA tB':TT} {rest:List Expr}
def tAnd(t u:TT):TT:=λσ H Q=>t σ H λc H1=>if c=true then u σ H1 Q else Q false H1
def tOr(t u:TT):TT:=λσ H Q=>t σ H λc H1=>if c=true then Q true H1 else u σ H1 Q
def tNot(t:TT):TT:=λσ H Q=>t σ H λc H1=>Q (!c) H1
theorem Fu(f:PT X a tA):PW X (.BoolOp .And [a] pos) tA:=by
 intro j d s g H Q I h;refine isTrue_and (thn (f d s g H Q I h) λc i e=>?_);cases c with
 |true=>exact isTrue_and_nil e
 |false=>exact e
theorem kN(f:PT X a tA):PW X (.BoolOp .Or [a] pos) tA:=by
 intro j d s g H Q I h;refine isTrue_or (thn (f d s g H Q I h) λc i e=>?_);cases c with
 |false=>exact isTrue_or_nil e
 |true=>exact e
theorem Ft(j:PT X a tA)(m:PW X (.BoolOp .And (b:: rest) pos) tB'):PW X (.BoolOp .And (a:: b:: rest) pos) (tAnd tA tB'):=by
 intro l e s i H Q I h;refine isTrue_and (thn (j e s i H _ I h) ?_);rintro c k ⟨f,g,d⟩;cases c with
 |true=>exact m l e k i f Q g d
 |false=>exact⟨f,g,d⟩
theorem lU(j:PT X a tA)(m:PW X (.BoolOp .Or (b:: rest) pos) tB'):PW X (.BoolOp .Or (a:: b:: rest) pos) (tOr tA tB'):=by
 intro l e s i H Q I h;refine isTrue_or (thn (j e s i H _ I h) ?_);rintro c k ⟨f,g,d⟩;cases c with
 |true=>exact⟨f,g,d⟩
 |false=>exact m l e k i f Q g d
theorem kO(f:PT X a tA):PT X (.UnaryOp .Not a pos) (tNot tA):=by
 intro e s g H Q I h;exact isTrue_not (f e s g H (λc d=>Q (!c) d) I h)
def Mb(ta tb:TE):TE:=λσ H Q=>ta σ H λx H1=>∃c,x=.bl c/\if c=true then tb σ H1 Q else Q (.bl false) H1
def tOrV(ta tb:TE):TE:=λσ H Q=>ta σ H λx H1=>∃c,x=.bl c/\if c=true then Q (.bl true) H1 else tb σ H1 Q
def Ma(ta:TE):TE:=λσ H Q=>ta σ H λx H1=>∃c,x=.bl c/\Q (.bl (!c)) H1
theorem Bw{op}{c:TE}(h:PE X a c):PE X (.BoolOp op [a] pos) c:=λe s f H Q I d=>BoolOp_one (h e s f H Q I d)
theorem Bv(j:PE X a ta)(l:PE X (.BoolOp .And (b:: rest) pos) tb):PE X (.BoolOp .And (a:: b:: rest) pos) (Mb ta tb):=by
 intro e s i H Q I h;refine BoolOp_and (thn (j e s i H _ I h) ?_);rintro v k ⟨x,f,g,r1,d⟩;obtain⟨c,rfl,d⟩:=d;cases r1;refine uY ?_;cases c with
 |true=>exact l e k i f Q g d
 |false=>exact⟨.bl false,f,g,rfl,d⟩
theorem Nz(f:PE X a ta):PE X (.UnaryOp .Not a pos) (Ma ta):=by
 intro e s j H Q I h;refine UnaryOp_ (thn (f e s j H _ I h) ?_);rintro v k ⟨x,g,i,r1,d⟩;obtain⟨c,rfl,d⟩:=d;cases r1;exact not_of (uY ⟨.bl (!c),g,i,rfl,d⟩)
def tIf(t:TT)(ta tb:TE):TE:=λσ H Q=>t σ H λc H1=>if c=true then ta σ H1 Q else tb σ H1 Q
theorem Ny{c:Expr}(m:PT X c tA)(l:PE X a ta)(n:PE X b tb):PE X (.IfExp c a b pos) (tIf tA ta tb):=by
 intro e s f H Q I h;refine wpAny_IfExp (thn (m e s f H _ I h) ?_);rintro d i ⟨j,k,g⟩;cases d with
 |true=>exact l e i f j Q k g
 |false=>exact n e i f j Q k g
end
def SqL(K:Frag)(H:Hp)(a:Addr)(xs:List V):Prop:=
 Rd H a (.lst xs) \/
  ∃(o:Obj)(its:Array Value)(n:Nat),K.lookup a=some o/\o.cls=.type "list" /\ o.dict=none/\o.data=.seq its n/\its.size<=sizeLine/\Vals xs its.toList
def SqT(K:Frag)(H:Hp)(a:Addr)(xs:List V):Prop:=
 Rd H a (.tup xs) \/
  ∃(o:Obj)(its:Array Value)(n:Nat),K.lookup a=some o/\o.cls=.type "tuple" /\ o.data=.seq its n/\its.size<=sizeLine/\Vals xs its.toList
def absV:Value->Option V
 |.none=>some .non
 |.bool b=>some (.bl b)
 |.int i _=>some (.int i)
 |.str x _=>some (.str x)
 |.bytes b _=>some (.byt b)
 |.float b _=>some (.flt b)
 |.ref a=>some (.ref a)
 |.type n=>some (.ty n)
 |_=>none
theorem RelV.abs{x:V}{u:Value}(r:RelV x u):absV u=some x:=by
 cases x with
 |non=>cases r;rfl
 |bl _=>cases r;rfl
 |int _=>obtain⟨t,rfl⟩:=r;rfl
 |str _=>obtain⟨t,rfl⟩:=r;rfl
 |byt _=>obtain⟨t,rfl⟩:=r;rfl
 |flt _=>obtain⟨t,rfl⟩:=r;rfl
 |ref _=>cases r;rfl
 |ty _=>cases r;rfl
theorem RelV.inj{x y:V}{u:Value}(r:RelV x u)(q:RelV y u):x=y:=zZ (r.abs.symm.trans q.abs)
theorem Vals.inj:∀{xs ys:List V}{us:LW},Vals xs us->Vals ys us->xs=ys
 |_,_,_,.nil,.nil=>rfl
 |_,_,_,.cons r b,.cons a t'=>by rw[r.inj a,Vals.inj b t']
section
variable {X:Cx} {pins:PN} {σ:St} {H:Hp} {s:Shared} {a:Addr} {xs ys:List V}
theorem SqL.of{K:Frag}(h:H a=some (.lst xs)):SqL K H a xs:=.inl (.inl h)
theorem SqT.of{K:Frag}(h:H a=some (.tup xs)):SqT K H a xs:=.inl (.inl h)
theorem Inv.list(I:Inv X pins σ H s)(h:SqL X.K H a xs):∃its:LW,Vals xs its/\PlainL s.heap a its.toArray/\xs.length<=sizeLine:=by
 rcases h with h|⟨o,its,n,b,d,c,f,g,r⟩
 ·obtain⟨z,its,n,r,e⟩:=h.ok I.hok;exact⟨its,r,⟨_,n,e,rfl,rfl,rfl⟩,z⟩
 ·refine⟨its.toList,r,⟨o,n,I.kIn a o b,d,c,by simpa using f⟩,?_⟩;have e:=r.length;simp only[Array.length_toList]at e;omega
theorem Inv.tuple(I:Inv X pins σ H s)(h:SqT X.K H a xs):∃its:LW,Vals xs its/\IsTup s.heap a its.toArray/\xs.length<=sizeLine:=by
 rcases h with h|⟨o,its,n,c,d,b,f,r⟩
 ·obtain⟨z,its,r,p⟩:=h.ok I.hok;exact⟨its,r,p,z⟩
 ·refine⟨its.toList,r,⟨o,I.kIn a o c,d,n,by simpa using b⟩,?_⟩;have e:=r.length;simp only[Array.length_toList]at e;omega
theorem Inv.list_inj(I:Inv X pins σ H s)(h:SqL X.K H a xs)(h':SqL X.K H a ys):xs=ys:=by
 obtain⟨its,r,⟨o,n,e,_,_,d⟩,_⟩:=I.list h;obtain⟨its',f,⟨i,g,b,_,_,d'⟩,_⟩:=I.list h';rw[e]at b;cases b;rw[d]at d';injection d' with c _;have:its=its':=by simpa using wZ Array.toList c
 subst this;exact r.inj f
theorem Inv.tuple_inj(I:Inv X pins σ H s)(h:SqT X.K H a xs)(h':SqT X.K H a ys):xs=ys:=by
 obtain⟨its,r,⟨o,e,_,n,d⟩,_⟩:=I.tuple h;obtain⟨its',f,⟨i,b,_,g,d'⟩,_⟩:=I.tuple h';rw[e]at b;cases b;rw[d]at d';injection d' with c _;have:its=its':=by simpa using wZ Array.toList c
 subst this;exact r.inj f
end
abbrev Cx.wish(X:Cx)(E:VP):Cx:={X with xe:=E}
abbrev Cx.nox(X:Cx):Cx:=X.wish λ_ _=>False
theorem Cx.Ok.wish{X:Cx}(ok:X.Ok)(E:VP):(X.wish E).Ok:=
 ⟨ok.mod,ok.kind,ok.glob,ok.blt,ok.above,ok.inj,ok.has,ok.cab,ok.hd,ok.frames,ok.stk,ok.exf,ok.bs,ok.bsz,ok.noex,ok.exfs,ok.funs,ok.frf⟩
theorem Cx.Ok.unwish{X:Cx}{E:VP}(ok:(X.wish E).Ok):X.Ok:=
 ⟨ok.mod,ok.kind,ok.glob,ok.blt,ok.above,ok.inj,ok.has,ok.cab,ok.hd,ok.frames,ok.stk,ok.exf,ok.bs,ok.bsz,ok.noex,ok.exfs,ok.funs,ok.frf⟩
section
variable {X:Cx} {pins:PN} {σ:St} {H:Hp} {s:Shared} {E:VP}
theorem Inv.wish(I:Inv X pins σ H s)(E:VP):Inv (X.wish E) pins σ H s:=⟨I.ok.wish E,I.os,I.bare,I.base,I.loc,I.cell,I.free,I.freeC,I.pin,I.hok,I.len⟩
theorem Inv.unwish(I:Inv (X.wish E) pins σ H s):Inv X pins σ H s:=⟨I.ok.unwish,I.os,I.bare,I.base,I.loc,I.cell,I.free,I.freeC,I.pin,I.hok,I.len⟩
theorem SP.unwish{D:Ends}{f:Flow}{b:Shared}(h:SP (X.wish E) pins D f b):SP X pins D f b:=by
 cases f with
 |next=>obtain⟨a,H',I,q⟩:=h;exact⟨a,H',I.unwish,q⟩
 |brk=>obtain⟨a,H',I,q⟩:=h;exact⟨a,H',I.unwish,q⟩
 |cont=>obtain⟨a,H',I,q⟩:=h;exact⟨a,H',I.unwish,q⟩
 |ret u=>obtain⟨v,a,H',I,r,q⟩:=h;exact⟨v,a,H',I.unwish,r,q⟩
theorem PSs.nox{st:List Stmt}{a:TS}(h:PSs X.nox st a):PSs X st a:=λpins s σ H D I b =>
 yQ (h pins s σ H D (I.wish _) b) (λ_ _ q=>q.unwish) λ_ _ z=>False.elim z
end
section
variable {X:Cx} {st:Stmt} {rest:List Stmt} {t u:TS} {e:Expr} {te:TE} {pos:Pos}
def Nx:TS:=λD σ H=>D.nx σ H
def tSeq(t u:TS):TS:=λD σ H=>t {D with nx:=u D} σ H
theorem mE:PSs X [] Nx:=λ_ _ a H _ I h=>sE ⟨a,H,I,h⟩
theorem nJ(d:PS X st t)(g:PSs X rest u):PSs X (st:: rest) (tSeq t u):=by
 intro a s i H D I h;refine wpAny_execs_cons (thn (d a s i H {D with nx:=u D} I h) λf c q=>?_);cases f with
 |next =>
  obtain⟨j,H',b,q⟩:=q;exact g a c j H' D b q
 |ret v=>exact q
 |brk=>exact q
 |cont=>exact q
theorem nM(a:PS X st t):PSs X [st] t:=by
 intro b s c H D I h;refine wpAny_execs_cons (thn (a b s c H D I h) λf d q=>?_);cases f with
 |next=>exact sE q
 |ret v=>exact q
 |brk=>exact q
 |cont=>exact q
theorem Inv.quiet{a:PN}{b:St}{H:Hp}{s:Shared}(I:Inv X a b H s):interactive X.env=false:=by simp[interactive,I.ok.kind]
def Fs(te:TE):TS:=λD σ H=>te σ H λ_ H1=>D.nx σ H1
theorem gM(d:PE X e te)(g:swapsWith e none pos.line X.env=pure false:=by rfl):PS X (.Expr e pos) (Fs te):=by
 intro c s a H D I h;exact wpAny_Expr_any (thn (d c s a H _ I h) λv j⟨x,f,i,r1,b⟩=>⟨a,f,i,b⟩) I.quiet g
def tRet(te:TE):TS:=λD σ H=>te σ H D.rt
theorem nV(d:PE X e te):PS X (.Return (some e) pos) (tRet te):=by
 intro c s a H D I h;exact wpAny_Return_some (thn (d c s a H _ I h) λv i⟨x,f,g,r1,b⟩=>⟨x,a,f,g,r1,b⟩)
def t_U:TS:=λD _ H=>D.rt .non H
def tIfS(c:TT)(t u:TS):TS:=λD σ H=>c σ H λb H1=>if b=true then t D σ H1 else u D σ H1
theorem mF{c:Expr}{a b:List Stmt}{l:TT}(n:PT X c l)(o:PSs X a t)(p:PSs X b u):PS X (.If c a b pos) (tIfS l t u):=by
 intro f s g H D I h;refine wpAny_If (thn (n f s g H _ I h) ?_);rintro d j ⟨m,k,i⟩;cases d with
 |true=>exact o f j g m D k i
 |false=>exact p f j g m D k i
def Nw:TS:=λ_ _ _=>False
theorem Nv{a:List Stmt}:PSs X a Nw:=λ_ _ _ _ _ _ h=>h.elim
end
abbrev TG:=V->St->Hp->(St->Hp->Prop)->Prop
abbrev TGs:=List V->St->Hp->(St->Hp->Prop)->Prop
def PG(X:Cx)(target:Expr)(t:TG):Prop:=
 ∀(pins:PN)(s:Shared)(σ:St)(H:Hp)(v:V)(u:Value)(Q:St->Hp->Prop),Inv X pins σ H s->RelV v u->t v σ H Q ->
  wpAny (model X.prog X.w) X.A (assign target X.env u) (λ_ s'=>∃σ' H',Inv X pins σ' H' s'/\Q σ' H') X.xe s
def PGs(X:Cx)(ts:List Expr)(t:TGs):Prop:=
 ∀(pins:PN)(s:Shared)(σ:St)(H:Hp)(vs:List V)(us:LW)(Q:St->Hp->Prop),Inv X pins σ H s->Vals vs us->t vs σ H Q ->
  wpAny (model X.prog X.w) X.A (assignInOrder ((assignEach ts X.env).map (·.2)) us) (λ_ s'=>∃σ' H',Inv X pins σ' H' s'/\Q σ' H') X.xe s
abbrev TSet:=V->V->V->Hp->(Hp->Prop)->Prop
def PSet(X:Cx)(t:TSet):Prop:=
 ∀(pins:PN)(s:Shared)(σ:St)(H:Hp)(o i v:V)(ov iv u:Value)(Q:Hp->Prop),Inv X pins σ H s->RelV o ov->RelV i iv->RelV v u->t o i v H Q ->
  wpAny (model X.prog X.w) X.A (setItem ov iv u) (λ_ s'=>∃H',Inv X pins σ H' s'/\Q H') X.xe s
abbrev TIp:=V->V->Hp->VK->Prop
def PIp(X:Cx)(op:Operator)(t:TIp):Prop:=
 ∀(pins:PN)(s:Shared)(σ:St)(H:Hp)(x y:V)(v u:Value)(Q:VK),Inv X pins σ H s->RelV x v->RelV y u->t x y H Q ->
  wpAny (model X.prog X.w) X.A (inplaceOp op v u) (EP X pins σ Q) X.xe s
section
variable {X:Cx} {pos:Pos}
def nX(i:Nat):TG:=λv σ H Q=>Q (σ.set i (some v)) H
theorem mP{i:Nat}{x:Str}(b:X.N.Nodup)(hi:X.N[i]?=some x)(c:Loc X.env.scope x)(d:X.fn x=true\/X.env.scope.names.lookup x=some .local:=by first|exact .inl rfl|exact .inr rfl|assumption):PG X (.Name x pos) (nX i):=by
 intro e s g H v u Q I r h;exact wpAny_assign_Name (fE I b hi c r (λf a=>⟨_,H,a,h⟩) d)
def gNil:TGs:=λvs σ H Q=>vs=[]/\Q σ H
def kC(t:TG)(u:TGs):TGs:=λvs σ H Q=>∃v r,vs=v:: r/\t v σ H λσ' H'=>u r σ' H' Q
theorem gN:PGs X [] gNil:=by
 intro b s a H vs us Q I r h;obtain⟨e,h⟩:=h;subst e;cases r;exact assignInOrder_nil ⟨a,H,I,h⟩
theorem kP{e:Expr}{es:List Expr}{b:TG}{u:TGs}(f:PG X e b)(i:PGs X es u)
  (k:(assignEach (e:: es) X.env).map (·.2)=assign e X.env:: (assignEach es X.env).map (·.2):=by rfl):PGs X (e:: es) (kC b u):=by
 intro a s m H vs us Q I r h;obtain⟨v,o,e1,h⟩:=h;subst e1;cases r with
 |cons r n =>
  rw[k];refine qN (thn (f a s m H _ _ _ I r h) ?_);rintro _ d ⟨g,j,l,c⟩;exact i a d g j _ _ Q l n c
def gTup(K:Frag)(n:Nat)(t:TGs):TG:=λv σ H Q=>∃a xs,v=.ref a/\SqT K H a xs/\xs.length=n/\t xs σ H Q
theorem gO{es:List Expr}{k:Nat}{g:TGs}{n:Nat}(t:X.calm=true)(h:PGs X es g)
  (q:(assignEach es X.env).length=n:=by rfl)(m:(assignEach es X.env).findIdx? (·.1)=none:=by rfl):PG X (.Tuple es k pos) (gTup X.K n g):=by
 intro d s i H v u Q I r c;obtain⟨a,xs,e1,l,hl,c⟩:=c;subst e1;cases r;obtain⟨its,f,j,x⟩:=I.tuple l;refine assign_Tuple_tuple (I.ok.hd t) j (by simp[q,←hl,f.length]) m λh' p=>?_;have w:Inv X d i H {s with heap:=h'}:=I.kept (t':=s.toks) λb o e=>p b o (zW (zK e)) e;exact h d _ i H xs _ Q w (by simpa using f) c
def gSub(to ti:TE)(t:TSet):TG:=λv σ H Q=>to σ H λo H1=>ti σ H1 λi H2=>t o i v H2 λH3=>Q σ H3
theorem iE{o i:Expr}{f g:TE}{e:TSet}(C:PE X o f)(hi:PE X i g)(q:PSet X e)
  (l:∀v,assign (.Subscript o i pos) X.env v=(do
   let a ←holding [v] (eval o X.env)
   let b ←holding [v,a] (eval i X.env)
   standAt pos
   holding [v,a,b] (setItem a b v)
   release [v,a,b] []):=by intro _;rfl):PG X (.Subscript o i pos) (gSub f g e):=by
 intro d s c H v u Q I r h;rw[l];refine zA (yN (thn (C d s c H _ I h) ?_));rintro a z ⟨x,k,D,r1,w⟩;refine zA (yN (thn (hi d z c k _ D w) ?_));rintro b t ⟨y,G,F,r2,m⟩;refine zA (wF (zA (yN (thn (q d t c G x y v a b u _ F r1 r2 r m) ?_))));rintro _ J ⟨p,j,n⟩;exact wpAny_release ⟨c,p,j,n⟩
def tAsg(te:TE)(g:TG):TS:=λD σ H=>te σ H λx H1=>g x σ H1 D.nx
theorem jS{a e:Expr}{te:TE}{g:TG}(j:PE X e te)(m:PG X a g)(n:swapsWithSole [a] e pos.line X.env=pure false:=by rfl)(l:swappedStores [a] e X.env=pure none:=by rfl)
  (k:(assignEach [a] X.env).map (·.2)=[assign a X.env]:=by rfl):PS X (.Assign [a] e pos) (tAsg te g):=by
 intro b s c H D I h;refine wpAny_Assign_stores (thn (j b s c H _ I h) ?_) n l;rintro v f ⟨x,i,o,r1,d⟩;rw[k];exact thn (m b f c i x v _ o r1 d) λ_ p q=>q
theorem nU{i:Nat}{x:Str}{e:Expr}{te:TE}{a:Pos}(g:X.N.Nodup)(hi:X.N[i]?=some x)(j:Loc X.env.scope x)(d:PE X e te)(m:swapsWith e (some (.Name x a)) pos.line X.env=pure false:=by rfl)(o:X.fn x=true\/X.env.scope.names.lookup x=some .local:=by first|exact .inl rfl|exact .inr rfl|assumption):
  PS X (.Assign [.Name x a] e pos) (tAsg te (nX i)):=by
 intro c s k H D I h;refine wpAny_Assign_Name (thn (d c s k H _ I h) ?_) m;rintro v p ⟨y,l,n,r1,b⟩;exact fE n g hi j r1 (λq f=>⟨_,l,f,b⟩) o
def tPar(i j:Nat)(ta:TA):TS:=λD σ H=>ta σ H λvs H1=>∃v w,vs=[v,w]/\D.nx ((σ.set i (some v)).set j (some w)) H1
theorem Nu{i j:Nat}{x y:Str}{a b:Expr}{r:TA}{g m pt:Pos}{l k2 n}(O:X.calm=true)(u:X.N.Nodup)(hi:X.N[i]?=some x)(S:X.N[j]?=some y)(Z:i≠j)
  (G:X.env.scope.names.lookup x=some .local)(F:X.env.scope.names.lookup y=some .local)(M:PA X [a,b] r)
  (N:swappedStores [.Tuple [.Name x g,.Name y m] l pt] (.Tuple [a,b] k2 n) X.env=pure (some [x,y]))
  (P:swapsWithSole [.Tuple [.Name x g,.Name y m] l pt] (.Tuple [a,b] k2 n) pos.line X.env=pure false:=by rfl):
  PS X (.Assign [.Tuple [.Name x g,.Name y m] l pt] (.Tuple [a,b] k2 n) pos) (tPar i j r):=by
 intro C s J H D I h;rw[exec_Assign_arm];refine zA (wF ?_);rw[P];refine zA (zB ?_);rw[zD ∅];refine zA (Tuple_ (thn (M _ C s J H _ I h) ?_));rintro us c ⟨vs,t,V,r1,k⟩;obtain⟨v,w,e1,k⟩:=k;subst e1;obtain⟨d,f,rfl,L,T⟩:∃d f,us=[d,f]/\RelV v d/\RelV w f:=by
  cases r1 with
  | cons p q =>
   cases q with
   |cons R U =>
    cases U;exact⟨_,_,rfl,p,R⟩
 refine xD ?_ (by show 2<=sizeLine;decide);have W:Inv X C J t {c with heap:=c.heap.push {cls:=.type "tuple",data:=.seq [d,f].toArray}}:=V.kept (t':=c.toks) λb o e=>zC _ e;rw[N];refine zA (zB ?_);show wpAny (model X.prog X.w) X.A (do rule "assign.swapped-stores";let items ←unpackItems (.ref c.heap.objs.size) 2 none;assignInOrder [λv=>bindName X.env y v,λv=>bindName X.env x v] items.reverse;pure Flow.next) _ _ _;refine zA (wG (zA (unpackItems_tuple (items:=#[d,f]) (I.ok.hd O) (IsTup.new c.heap _) λh' a0=>?_)));have K:=W.kept (h':=h') (t':=c.toks) λb o e=>a0 b o (zW (zK e)) e;show wpAny _ _ (assignInOrder [λv=>bindName X.env y v,λv=>bindName X.env x v] [f,d] >>= λ_=>pure Flow.next) _ _ _;refine zA (qN (oF (fE K u S (.inl F) T (λa2 Y=>?_) (.inr F))));refine qN (oF (fE Y u hi (.inl G) L (λa1 z=>assignInOrder_nil (zB ?_)) (.inr G)));rw[List.set_comm _ _ (zT Z)]at z;exact⟨_,t,z,k⟩
def tAug(i:Nat)(te:TE)(ti:TIp):TS:=λD σ H=>∃x,σ[i]?=some (some x)/\te σ H λy H1=>ti x y H1 λz H2=>D.nx (σ.set i (some z)) H2
theorem Fr{i:Nat}{x:Str}{e:Expr}{te:TE}{op:Operator}{f:TIp}{F:Pos}(C:X.N.Nodup)(hi:X.N[i]?=some x)(d:Loc X.env.scope x)(P:PE X e te)(M:PIp X op f)(p:X.fn x=true\/X.env.scope.names.lookup x=some .local:=by first|exact .inl rfl|exact .inr rfl|assumption):
  PS X (.AugAssign (.Name x F) op e pos) (tAug i te f):=by
 intro b s g H D I h;obtain⟨v,e1,h⟩:=h;obtain⟨m,T,hl⟩:=I.loc;have O:Vis X.env.scope x:=by rcases d with k|k;exact .inl k;exact .inr (.inl k)
 obtain⟨u,r,l⟩:=hl i x v hi e1 O;refine wpAny_AugAssign_Name ?_;have go:wpAny (model X.prog X.w) X.A (eval e X.env) (λw o=>wpAny (model X.prog X.w) X.A (inplaceOp op u w) (λr G=>wpAny (model X.prog X.w) X.A (storeName X.env x r) (λ_=>SP X b D .next) X.xe G) X.xe o) X.xe s:=by
  refine thn (P b s g H _ I h) ?_;rintro w L ⟨y,n,N,r1,K⟩;refine thn (M b L g n v y u w _ N r r1 K) ?_;rintro z W ⟨Y,S,R,r2,q⟩;exact fE R C hi d r2 (λV j=>⟨_,S,j,q⟩) p
 rcases l with⟨a,U⟩|⟨a,c,J,t⟩
 ·exact wpAny_loadName_local I.ok.kind a T U go
 ·rcases a with a|a
  ·exact wpAny_loadName_cell I.ok.kind a J t go
  ·rcases d with k|k
   ·have:X.env.scope.names.lookup x=some .free:=a;rw[k]at this;cases this
   ·have:X.env.scope.names.lookup x=some .free:=a;rw[k]at this;cases this
def ipI(f:Int->Int->Int):TIp:=λx y H Q=>∃i j,x=.int i/\y=.int j/\Q (.int (f i j)) H
theorem Fq:PIp X .Add (ipI λi j=>i+j):=by
 intro b s c H x y v u Q I r1 r2 h;obtain⟨i,j,e1,a,q⟩:=h;subst e1;subst a;obtain⟨d,rfl⟩:=r1;obtain⟨t',rfl⟩:=r2;exact iadd_int ⟨.int _,H,I.tok _,⟨_,rfl⟩,q⟩
def Fp(c:TT)(tb:TS):TS:=λD σ H=>∃W:Nat->St->Hp->Prop,(∃m,W m σ H)/\∀m σ H,W m σ H ->
 c σ H λb H1=>if b=true then∃N:St->Hp->Prop,(∀σ' H',N σ' H'->∃m',m'<m/\W m' σ' H')/\tb {D with nx:=N,ct:=N,bk:=D.nx} σ H1 else D.nx σ H1
theorem Bu{c:Expr}{body:List Stmt}{u:TT}{tb:TS}(w:PassesOwn (model X.prog X.w) X.A X.env X.xe)(J:PT X c u)(K:PSs X body tb):PS X (.While c body [] pos) (Fp u tb):=by
 intro l s S H D I h;obtain⟨P,⟨M,C⟩,G⟩:=h;refine wpAny_While (codeAny_whileLoop (λn z=>∃r H',Inv X l r H' z/\P n r H') ?_ M ⟨S,H,I,C⟩);rintro n O ⟨e,q,R,F⟩;refine vU w (thn (J l O e q _ R (G n e q F)) ?_);rintro b L ⟨y,x,g⟩;cases b with
 | true =>
  obtain⟨N,t,g⟩:=g;rw[zF rfl];refine vU w (thn (K l L e y _ x g) λf T i=>?_);cases f with
  |next =>
   obtain⟨d,a,j,k⟩:=i;obtain⟨m,p,o⟩:=t d a k;exact⟨m,p,d,a,j,o⟩
  |cont =>
   obtain⟨d,a,j,k⟩:=i;obtain⟨m,p,o⟩:=t d a k;exact⟨m,p,d,a,j,o⟩
  |brk=>exact i
  |ret v=>exact i
 |false =>
  rw[zD yH];exact sE ⟨e,y,x,g⟩
end
structure It where
 go:Nat->Hp->Prop
 yld:Nat->Hp->V->Hp->Prop
 stop:Nat->Hp->Prop
def FpOk(X:Cx)(pins:PN)(H:Hp)(b:Addr):Prop:=
 H b=none/\b≠X.env.locals/\b∉X.fs/\(b∈X.ex\/X.s₀.heap.objs.size<=b)/\(∀x c,X.env.cells.lookup x=some c->c≠b)/\∀p∈X.pn++pins,p.1≠b
theorem Inv.fpOk{X:Cx}{d:PN}{i:St}{H H':Hp}{s:Shared}{b:Addr}(I:Inv X d i H s)(a:s.heap.objs.size<=b)(g:H' b=none):FpOk X d H' b:=by
 refine⟨g,sJ (zP I.lt a),I.nofs a,.inr (yC I.sz a),λx c e z=>?_,λp f z=>?_⟩
 ·obtain⟨v,q⟩:=I.cell x c e;exact absurd (zP q.lt (by rw[z];exact a)) (yZ _)
 ·exact absurd (zP (zK (I.pin p f).1) (by rw[z];exact a)) (yZ _)
structure Turn(P:Program)(w:World)(K:Frag)(tg:Expr)(J:It)(fp:LA)(it:Addr)(tn:Nat->Heap->Prop):Prop where
 mem:it∈fp
 obj:∀i h,tn i h->∀b∈fp,∃o,h.get? b=some o/\∀v,o.data≠.cell v
 keep:∀i h h',tn i h->(∀b∈fp,∀o,h.get? b=some o->h'.get? b=some o)->tn i h'
 item:∀(X:Cx),X.prog=P->X.w=w->X.K=K->X.calm=true->∀(i:Nat)(pins:PN)(s:Shared)(σ:St)(H:Hp)(E:VP),Inv X pins σ H s->(∀b∈fp,FpOk X pins H b)->tn i s.heap->J.go i H ->
  wpAny (model P w) X.A (pyNext (.ref it)) (λr s1=>∃u,r=some u /\
   wpAny (model P w) X.A (letOwnedTupleGo tg (.ref it) u) (λ_ s2=>∃x H',Inv X pins σ H' s2/\RelV x u/\J.yld i H x H'/\tn (i+1) s2.heap/\∀b∈fp,H' b=none) E s1) E s
 done:∀(X:Cx),X.prog=P->X.w=w->X.K=K->X.calm=true->∀(i:Nat)(pins:PN)(s:Shared)(σ:St)(H:Hp)(E:VP),Inv X pins σ H s->(∀b∈fp,FpOk X pins H b)->tn i s.heap->J.stop i H ->
  wpAny (model P w) X.A (pyNext (.ref it)) (λr s1=>r=none/\Inv X pins σ H s1) E s
 self:∀(A:Around)(i:Nat)(s:Shared)(Q:VP)(E:VP),tn i s.heap->Q (.ref it) s->wpAny (model P w) A (pyIter (.ref it)) Q E s
abbrev TI:=St->Hp->(It->Hp->Prop)->Prop
def PIE(X:Cx)(pins:PN)(σ:St)(tg:Expr)(R:It->Hp->Prop)(itv:Value)(s2:Shared):Prop:=
 ∃(it:Addr)(fp:LA)(tn:Nat->Heap->Prop)(J:It)(H':Hp),itv=.ref it/\Inv X pins σ H' s2/\Turn X.prog X.w X.K tg J fp it tn/\tn 0 s2.heap/\(∀b∈fp,FpOk X pins H' b)/\R J H'
def PI(X:Cx)(tg iter:Expr)(wi:TI):Prop:=
 ∀(pins:PN)(s:Shared)(σ:St)(H:Hp)(R:It->Hp->Prop),Inv X pins σ H s->wi σ H R ->
  wpAny (model X.prog X.w) X.A (eval iter X.env) (λv s1=>wpAny (model X.prog X.w) X.A (pyIter v) (PIE X pins σ tg R) X.xe s1) X.xe s
theorem Bt {M:Model}{A:Around}{E:VP}{s:Shared}{c:Expr}{b:Addr}{u:Value}{o:Obj}{n:String}{vs:Array Value}{Q:Unit->Shared->Prop}(e:s.heap.get? b=some o)(g:o.cls=.type n)(f:o.data=.fields vs)
    (d:["enumerate","zip","dict_itemiterator","dict_reverseitemiterator","odict_iterator","itertools.zip_longest","itertools.pairwise"].contains n=false)(a:Q () s):wpAny M A (letOwnedTupleGo c (.ref b) u) Q E s:=by
  unfold letOwnedTupleGo;cases c <;> first
    |exact zB a
    |(cases u <;> first
        |exact zB a
        | (refine zA (wpAny_load e ?_)
           rw[g,f];show wpAny M A (if(["enumerate","zip","dict_itemiterator","dict_reverseitemiterator","odict_iterator","itertools.zip_longest","itertools.pairwise"].contains n && vs[0]? == some (rawInt _))=true then _ else _) Q E s;rw[zD (by intro h;rw[d,Bool.false_and]at h;cases h)];exact zB a))
def Itl(K:Frag)(a:Addr):It:=
 ⟨λi H=>∃xs x,SqL K H a xs/\xs[i]?=some x,λi H x H'=>H'=H/\∀xs,SqL K H a xs->xs[i]?=some x,λi H=>∃xs,SqL K H a xs/\xs.length<=i⟩
def Itt(K:Frag)(a:Addr):It:=
 ⟨λi H=>∃xs x,SqT K H a xs/\xs[i]?=some x,λi H x H'=>H'=H/\∀xs,SqT K H a xs->xs[i]?=some x,λi H=>∃xs,SqT K H a xs/\xs.length<=i⟩
def Itr(lo:Int)(n:Nat):It:=⟨λi _=>i<n,λi H x H'=>H'=H/\x=.int (lo+i),λi _=>n<=i⟩
theorem Nt{P:Program}{w:World}{K:Frag}{a0:Expr}(a f:Addr):Turn P w K a0 (Itl K a) [f] f (λi h=>h.IsListIter f a i) where
 mem:=by simp
 obj:=λi h st b g=>by
  have e:b=f:=by simpa using g
  subst e;obtain⟨o,e,c,d⟩:=st;exact⟨o,e,λv z=>by rw[d]at z;cases z⟩
 keep:=λi h h' st k=>st.at λo e=>k f (by simp) o e
 item:=by
  intro X J C D M i N s O H E I j st r;subst J C D;obtain⟨xs,x,l,G⟩:=r;obtain⟨its,m,p,Z⟩:=I.list l;obtain⟨u,T,W⟩:=m.get G;obtain⟨n,t,R,q,y,F⟩:=j f (by simp);refine wpAny_pyNext_list_item st p.isList (x:=u) (by simpa using T) λh' L U=>?_;have Y:Inv X N O H {s with heap:=h'}:=I.turned (t':=s.toks) (λb o g e=>(U.2 b g).trans e) n t q y F;obtain⟨o,e,c,d⟩:=id L;exact⟨u,rfl,Bt (s:={s with heap:=h'}) e c d ∅ ⟨x,H,Y,W,⟨rfl,λys V=>by rw[I.list_inj V l];exact G⟩,L,λb g=>(j b g).1⟩⟩
 done:=by
  intro X J C D M i N s O H E I j st r;subst J C D;obtain⟨xs,l,G⟩:=r;obtain⟨its,m,p,Z⟩:=I.list l;obtain⟨n,t,R,q,y,F⟩:=j f (by simp);have hl:=m.length;exact wpAny_pyNext_list_end (I.ok.hd M) st p.isList (by simp;omega) λh' S=>⟨rfl,I.turned (t':=s.toks) (λb o g e=>S b o g e) n t q y F⟩
 self:=λ_ _ _ _ _ st h=>wpAny_pyIter_listiter st h
theorem Nr{P:Program}{w:World}{K:Frag}{a0:Expr}(a f:Addr):Turn P w K a0 (Itt K a) [f] f (λi h=>h.IsTupleIter f a i) where
 mem:=by simp
 obj:=λi h st b g=>by
  have e:b=f:=by simpa using g
  subst e;obtain⟨o,e,c,d⟩:=st;exact⟨o,e,λv z=>by rw[d]at z;cases z⟩
 keep:=λi h h' st k=>st.at λo e=>k f (by simp) o e
 item:=by
  intro X J C D M i N s O H E I j st r;subst J C D;obtain⟨xs,x,l,G⟩:=r;obtain⟨its,m,p,Z⟩:=I.tuple l;obtain⟨u,T,W⟩:=m.get G;obtain⟨n,t,R,q,y,F⟩:=j f (by simp);refine wpAny_pyNext_tuple_item st (show s.heap.IsTuple a its.toArray from p) (x:=u) (by simpa using T) λh' L U=>?_;have Y:Inv X N O H {s with heap:=h'}:=I.turned (t':=s.toks) (λb o g e=>(U.2 b g).trans e) n t q y F;obtain⟨o,e,c,d⟩:=id L;exact⟨u,rfl,Bt (s:={s with heap:=h'}) e c d ∅ ⟨x,H,Y,W,⟨rfl,λys V=>by rw[I.tuple_inj V l];exact G⟩,L,λb g=>(j b g).1⟩⟩
 done:=by
  intro X J C D M i N s O H E I j st r;subst J C D;obtain⟨xs,l,G⟩:=r;obtain⟨its,m,p,Z⟩:=I.tuple l;obtain⟨n,t,R,q,y,F⟩:=j f (by simp);have hl:=m.length;exact wpAny_pyNext_tuple_end (I.ok.hd M) st (show s.heap.IsTuple a its.toArray from p) (by simp;omega) λh' S=>⟨rfl,I.turned (t':=s.toks) (λb o g e=>S b o g e) n t q y F⟩
 self:=λ_ _ _ _ _ st h=>wpAny_pyIter_tupleiter st h
theorem Nq{P:Program}{w:World}{K:Frag}{R:Expr}(a:Addr)(lo:Int)(n:Nat):Turn P w K R (Itr lo n) [a] a (λi h=>IsRangeIter h a (lo+(i:Nat)*1) ((n:Int)-(i:Nat)) 1) where
 mem:=by simp
 obj:=λi h st b c=>by
  have e:b=a:=by simpa using c
  subst e;exact⟨_,st,λv z=>by
   have F:Data.fields _=Data.cell v:=z;cases F⟩
 keep:=λi h h' st k=>k a (by simp) _ st
 item:=by
  intro X u p r q i y s C H E I d st j;subst u p r;obtain⟨f,l,D,g,m,t⟩:=d a (by simp);have N:=Walks.range (prog:=X.prog) (w:=X.w) (I.ok.hd q) a lo 1 n;refine N.item i s _ _ j st λv h' tk L x G=>?_;obtain⟨M,rfl⟩:=L;have O:Inv X y C H {s with heap:=h',toks:=tk}:=I.turned (λb o c e=>G b o (by simpa using c) e) f l g m t;refine⟨_,rfl,Bt (s:={s with heap:=h',toks:=tk}) (n:= "range_iterator") x rfl rfl ∅ ⟨.int (lo+i),H,O,⟨M,?_⟩,⟨rfl,rfl⟩,x,λb c=>(d b c).1⟩⟩;rw[oB]
 done:=by
  intro X u p r q i y s C H E I d st j;subst u p r;obtain⟨f,l,D,g,m,t⟩:=d a (by simp);exact wpAny_pyNext_range_end (I.ok.hd q) st (by have:n<=i:=j;omega) λh' J=>⟨rfl,I.turned (t':=s.toks) (λb o c e=>J b o c e) f l g m t⟩
 self:=λ_ _ _ _ _ st h=>wpAny_pyIter_rangeiter st h
section
variable {X:Cx} {tg:Expr}
theorem Np{c:PN}{f:St}{H:Hp}{s:Shared}{R:It->Hp->Prop}{E:VP}{lo hi:Int}{a u v:Tok}{tk:Nat}(I:Inv X c f H s)(i:-(2^62)<=lo)(l:lo<2^62)(k:-(2^62)<=hi)(g:hi<2^62)
  (q:R (Itr lo (hi-lo).toNat) H):wpAny (model X.prog X.w) X.A (pyIter (.ref s.heap.objs.size)) (PIE X c f tg R) E {s with heap:=s.heap.push {cls:=.type "range",data:=.fields #[.int lo a,.int hi u,.int 1 v]},toks:=tk}:=by
 refine wpAny_pyIter_range (IsRange.new ..) (small_one i l k g) ?_;have d:Inv X c f H {s with heap:=s.heap.push {cls:=.type "range",data:=.fields #[.int lo a,.int hi u,.int 1 v]},toks:=tk}:=I.kept λb o e=>zC _ e;refine⟨(s.heap.push {cls:=.type "range",data:=.fields #[.int lo a,.int hi u,.int 1 v]}).objs.size,[(s.heap.push {cls:=.type "range",data:=.fields #[.int lo a,.int hi u,.int 1 v]}).objs.size],_,_,H,rfl,
  d.kept (t':=tk) λb o e=>zC _ e,Nq _ lo (hi-lo).toNat,?_,λb m=>?_,q⟩
 ·have e1:lo+((0:Nat):Int)*1=lo:=by simp
  have j:(((hi-lo).toNat:Nat):Int)-((0:Nat):Int)=Builtin.Range.rangeSize lo hi 1:=by rw[rangeSize_one];split <;> omega
  show IsRangeIter _ _ (lo+((0:Nat):Int)*1) ((((hi-lo).toNat:Nat):Int)-((0:Nat):Int)) 1;rw[e1,j];exact zQ _ rfl
 ·have e:b=(s.heap.push {cls:=.type "range",data:=.fields #[.int lo a,.int hi u,.int 1 v]}).objs.size:=by simpa using m
  subst e;exact d.fpOk (zE _) (d.hok.fresh (zE _))
def mY(ta:TA):TI:=λσ H R=>ta σ H λvs H1=>∃j:Int,vs=[.int j]/\-(2^62)<=j/\j<2^62/\R (Itr 0 j.toNat) H1
theorem lG{a:Expr}{d:TA}{p c:Pos}(l:Gl X "range")(k:X.mg "range"=none)(n:PA X [a] d)(m:starEach [a] X.env=[(false,eval a X.env)]:=by rfl):PI X tg (.Call (.Name "range" p) [a] [] c) (mY d):=by
 intro f s o H R I h;refine Call_ (gL I l k boot_range (xV (thn (n c f s o H _ I h) ?_) m rfl));rintro us u ⟨vs,v,i,r1,b⟩;obtain⟨j,e,b,g,q⟩:=b;subst e;cases r1 with
 |cons r t =>
  cases t;obtain⟨w,rfl⟩:=r;exact call_range_1 (Np i ⋯ ⋯ b g (by simpa using q))
def tFor(wi:TI)(g:TG)(tb:TS):TS:=λD σ H=>wi σ H λJ H1=>∃W:Nat->Nat->St->Hp->Prop,(∃m,W 0 m σ H1)/\∀i m σ H,W i m σ H ->
 (J.stop i H/\D.nx σ H)\/(J.go i H/\∃N:St->Hp->Prop,(∀σ' H',N σ' H'->∃m',m'<m/\W (i+1) m' σ' H')/\∀x H',J.yld i H x H'->g x σ H' λσ2 H2=>tb {D with nx:=N,ct:=N,bk:=D.nx} σ2 H2)
def dU(fp:LA)(h:Heap):PN:=fp.filterMap λb=>(h.get? b).map λo=>(b,o)
theorem bI{a:LA}{h:Heap}{b:Addr}{o:Obj}(c:b∈a)(e:h.get? b=some o):(b,o)∈dU a h:=nD.mpr ⟨b,c,by rw[e];rfl⟩
theorem No{a:LA}{h:Heap}{p:Addr×Obj}(c:p∈dU a h):p.1∈a/\h.get? p.1=some p.2:=by
 obtain⟨b,f,e⟩:=nD.mp c;cases q:h.get? b with
 |none=>rw[q]at e;cases e
 |some o =>
  rw[q]at e;have d:(b,o)=p:=zZ e;subst d;exact⟨f,q⟩
theorem Inv.pinned{a:PN}{i:St}{H:Hp}{s:Shared}{c:LA}(I:Inv X a i H s)(q:∀b∈c,FpOk X a H b)(m:∀b∈c,∃o,s.heap.get? b=some o/\∀v,o.data≠.cell v):Inv X (a++dU c s.heap) i H s:=
 I.pins_of λp k=>(oW.mp k).elim (λz=>I.pin p (yP _ z)) λz=>by
  obtain⟨g,e⟩:=No z;obtain⟨l,n,j,_⟩:=q p.1 g;obtain⟨o,f,d⟩:=m p.1 g;rw[e]at f;cases f;exact⟨e,l,n,j,d⟩
theorem Inv.unpinned{a pl:PN}{b:St}{H:Hp}{s:Shared}(I:Inv X (a++pl) b H s):Inv X a b H s:=I.pins_of λp c=>I.pin p (yP _ (xI _ c))
theorem lJ{F:Expr}{body:List Stmt}{a0:TI}{g:TG}{tb:TS}{b9:Pos}(y:PassesOwn (model X.prog X.w) X.A X.env X.xe)(W:X.calm=true)(hi:PI X tg F a0)(b0:PG X tg g)(j:PSs X body tb)
  (b6:∀x,foldedSetIterable F X.env x=pure x:=by intro _;rfl):PS X (.For tg F body [] b9) (tFor a0 g tb):=by
 intro p s a2 H D I h;refine wpAny_For (thn (hi p s a2 H _ I h) λv d9 c0=>thn c0 λd8 d7 c2=>?_) b6;obtain⟨d6,q,O,e0,d1,e,c8,T,a6,L,Z,⟨b7,a7⟩,a8⟩:=c2;subst e
 -- what stays true of the iterator's objects through the loop
 have J:∀{H':Hp},(∀b∈q,H' b=none)->∀b∈q,FpOk X p H' b:=λd3 b j=>⟨d3 b j,(L b j).2⟩;refine codeAny_forLoop_any (λn P=>∃i t H',Inv X p t H' P/\O i P.heap/\(∀b∈q,H' b=none)/\Z i n t H') ?_ b7 ⟨0,a2,d1,c8,a6,λb j=>(L b j).1,a7⟩;rintro n R ⟨i,w,C,M,S,U,d4⟩;rcases a8 i n w C d4 with⟨stop,a9⟩|⟨go,N,b3,step⟩
 ·refine vU y (thn (T.done X rfl rfl rfl W i p R w C X.xe M (J U) S stop) ?_);rintro r b4 ⟨hr,d2⟩;subst hr;exact sE ⟨w,C,d2,a9⟩
 ·refine vU y (thn (T.item X rfl rfl rfl W i p R w C X.xe M (J U) S go) ?_);rintro r b4 ⟨u,hr,a5⟩;subst hr;refine vU y (thn a5 ?_);rintro _ a1 ⟨x,Y,b5,c9,c6,G,c4⟩;have b1:=b5.pinned (J c4) (T.obj _ _ G);refine vU y (thn (b0 _ a1 w Y x u _ b1 c9 (step x Y c6)) ?_);rintro _ c7 ⟨a3,b8,a4,c3⟩;refine vU y (thn (j _ c7 a3 b8 _ a4 c3) λf K l=>?_);have V:∀{c:St}{k:Hp},Inv X (p++dU q a1.heap) c k K->N c k->∃m,m<n/\∃i t H',Inv X p t H' K/\O i K.heap/\(∀b∈q,H' b=none)/\Z i m t H':=λ{c k}a z=>by
   obtain⟨d0,d5,c5⟩:=b3 c k z;refine⟨d0,d5,i+1,c,k,a.unpinned,T.keep _ _ _ G λb j o e=>(a.pin (b,o) (yP _ (yP _ (bI j e)))).1,λb j=>?_,c5⟩;obtain⟨o,e,d⟩:=T.obj _ _ G b j;exact(a.pin (b,o) (yP _ (yP _ (bI j e)))).2.1
  cases f with
  |next=>obtain⟨c,k,a,z⟩:=l;exact V a z
  |cont=>obtain⟨c,k,a,z⟩:=l;exact V a z
  |brk=>obtain⟨c,k,a,l⟩:=l;exact⟨c,k,a.unpinned,l⟩
  |ret v=>obtain⟨c1,c,k,a,b2,l⟩:=l;exact⟨c1,c,k,a.unpinned,b2,l⟩
end
theorem Nn{K:Frag}{a:Addr}{xs:List V}{g:TG}{tb:TS}{D:Ends}{b:St}{H:Hp}(c:Nat->St->Hp->Prop)(r:c 0 b H)(hl:∀i b H,i<=xs.length->c i b H->SqL K H a xs)
  (u:∀i x b H,xs[i]?=some x->c i b H->g x b H λj d=>tb {D with nx:=c (i+1),ct:=c (i+1),bk:=D.nx} j d)(t:∀b H,c xs.length b H->D.nx b H):
  ∃f:Nat->Nat->St->Hp->Prop,(∃m,f 0 m b H)/\∀i m b H,f i m b H ->
   ((Itl K a).stop i H/\D.nx b H)\/((Itl K a).go i H/\∃N:St->Hp->Prop,(∀k H',N k H'->∃n,n<m/\f (i+1) n k H')/\∀x H',(Itl K a).yld i H x H'->g x b H' λj d=>tb {D with nx:=N,ct:=N,bk:=D.nx} j d):=by
 refine⟨λi m b H=>m=xs.length-i/\i<=xs.length/\c i b H,⟨xs.length,by simp,zY _,r⟩,?_⟩;rintro i m b H ⟨rfl,hi,p⟩;have q:=hl i b H hi p
 by_cases l:i<xs.length
 ·refine .inr ⟨⟨xs,xs[i],q,by simp[l]⟩,c (i+1),λk H' o=>⟨xs.length-(i+1),⋯,rfl,l,o⟩,λx H' y=>?_⟩;obtain⟨e,y⟩:=y;subst e;exact u i x b _ (y xs q) p
 ·have e:i=xs.length:=⋯
  subst e;exact .inl ⟨⟨xs,q,zE _⟩,t b H p⟩
theorem Nm{K:Frag}{a:Addr}{xs:List V}{g:TG}{tb:TS}{D:Ends}{b:St}{H:Hp}(c:Nat->St->Hp->Prop)(r:c 0 b H)(hl:∀i b H,i<=xs.length->c i b H->SqT K H a xs)
  (u:∀i x b H,xs[i]?=some x->c i b H->g x b H λj d=>tb {D with nx:=c (i+1),ct:=c (i+1),bk:=D.nx} j d)(t:∀b H,c xs.length b H->D.nx b H):
  ∃f:Nat->Nat->St->Hp->Prop,(∃m,f 0 m b H)/\∀i m b H,f i m b H ->
   ((Itt K a).stop i H/\D.nx b H)\/((Itt K a).go i H/\∃N:St->Hp->Prop,(∀k H',N k H'->∃n,n<m/\f (i+1) n k H')/\∀x H',(Itt K a).yld i H x H'->g x b H' λj d=>tb {D with nx:=N,ct:=N,bk:=D.nx} j d):=by
 refine⟨λi m b H=>m=xs.length-i/\i<=xs.length/\c i b H,⟨xs.length,by simp,zY _,r⟩,?_⟩;rintro i m b H ⟨rfl,hi,p⟩;have q:=hl i b H hi p
 by_cases l:i<xs.length
 ·refine .inr ⟨⟨xs,xs[i],q,by simp[l]⟩,c (i+1),λk H' o=>⟨xs.length-(i+1),⋯,rfl,l,o⟩,λx H' y=>?_⟩;obtain⟨e,y⟩:=y;subst e;exact u i x b _ (y xs q) p
 ·have e:i=xs.length:=⋯
  subst e;exact .inl ⟨⟨xs,q,zE _⟩,t b H p⟩
theorem Nl{lo:Int}{n:Nat}{g:TG}{tb:TS}{D:Ends}{a:St}{H:Hp}(b:Nat->St->Hp->Prop)(q:b 0 a H)
  (t:∀i a H,i<n->b i a H->g (.int (lo+i)) a H λj d=>tb {D with nx:=b (i+1),ct:=b (i+1),bk:=D.nx} j d)(r:∀a H,b n a H->D.nx a H):
  ∃f:Nat->Nat->St->Hp->Prop,(∃m,f 0 m a H)/\∀i m a H,f i m a H ->
   ((Itr lo n).stop i H/\D.nx a H)\/((Itr lo n).go i H/\∃N:St->Hp->Prop,(∀k H',N k H'->∃l,l<m/\f (i+1) l k H')/\∀x H',(Itr lo n).yld i H x H'->g x a H' λj d=>tb {D with nx:=N,ct:=N,bk:=D.nx} j d):=by
 refine⟨λi m a H=>m=n-i/\i<=n/\b i a H,⟨n,by simp,zY _,q⟩,?_⟩;rintro i m a H ⟨rfl,hi,p⟩
 by_cases c:i<n
 ·refine .inr ⟨c,b (i+1),λk H' o=>⟨n-(i+1),⋯,rfl,c,o⟩,λx H' y=>?_⟩;obtain⟨e,y⟩:=y;subst e y;exact t i a _ c p
 ·have e:i=n:=⋯
  subst e;exact .inl ⟨zE _,r a H p⟩
abbrev R2:=V->V->Hp->VK->Prop
def OpR(X:Cx)(f:Value->Value->Sem Value)(r:R2):Prop:=
 ∀(pins:PN)(s:Shared)(σ:St)(H:Hp)(x y:V)(v u:Value)(Q:VK),Inv X pins σ H s->RelV x v->RelV y u->r x y H Q ->
  wpAny (model X.prog X.w) X.A (f v u) (EP X pins σ Q) X.xe s
def UnR(X:Cx)(f:Value->Sem Value)(r:V->Hp->VK->Prop):Prop:=
 ∀(pins:PN)(s:Shared)(σ:St)(H:Hp)(x:V)(v:Value)(Q:VK),Inv X pins σ H s->RelV x v->r x H Q ->
  wpAny (model X.prog X.w) X.A (f v) (EP X pins σ Q) X.xe s
def kD(X:Cx)(f:Value)(r:List V->Hp->VK->Prop):Prop:=
 ∀(pins:PN)(s:Shared)(σ:St)(H:Hp)(xs:List V)(us:LW)(Q:VK),Inv X pins σ H s->Vals xs us->r xs H Q ->
  wpAny (model X.prog X.w) X.A (call f us) (EP X pins σ Q) X.xe s
def tOp(r:R2)(ta tb:TE):TE:=λσ H Q=>ta σ H λx H1=>tb σ H1 λy H2=>r x y H2 Q
def tUn(r:V->Hp->VK->Prop)(ta:TE):TE:=λσ H Q=>ta σ H λx H1=>r x H1 Q
def rI(C:Int->Int->Prop)(g:Int->Int->V):R2:=λx y H Q=>∃i j,x=.int i/\y=.int j/\C i j/\Q (g i j) H
def rI0(g:Int->Int->V):R2:=λx y H Q=>∃i j,x=.int i/\y=.int j/\Q (g i j) H
def rU(g:Int->V):V->Hp->VK->Prop:=λx H Q=>∃i,x=.int i/\Q (g i) H
section
variable {X:Cx} {a b c:Expr} {ta tb tc:TE} {pos:Pos}
theorem binT(r:PE X a ta)(t:PE X b tb){g:PN}{s:Shared}{e:St}{H:Hp}{R:V->V->Hp->Prop}(I:Inv X g e H s)
  (h:ta e H λx j=>tb e j λy d=>R x y d){Q:VP}{f:Value->Value->Sem Value}
  (w:∀v u i x y d,Inv X g e d i->RelV x v->RelV y u->R x y d->wpAny (model X.prog X.w) X.A (f v u) Q X.xe i):
  wpAny (model X.prog X.w) X.A (eval a X.env) (λv o=>wpAny (model X.prog X.w) X.A (eval b X.env) (λu q=>wpAny (model X.prog X.w) X.A (f v u) Q X.xe q) X.xe o) X.xe s:=by
 refine thn (r g s e H _ I h) ?_;rintro v m ⟨x,j,p,r1,k⟩;refine thn (t g m e j _ p k) ?_;rintro u i ⟨y,d,n,r2,l⟩;exact w v u i x y d n r1 r2 l
theorem nR{op:Operator}{r:R2}(i:OpR X (binaryOp op) r)(l:PE X a ta)(n:PE X b tb):PE X (.BinOp a op b pos) (tOp r ta tb):=by
 intro d s j H Q I h;exact wpAny_BinOp (binT l n I h λv u m x y g e f k q=>i d m j g x y v u Q e f k q)
theorem fF{op:UnaryOp}{r:V->Hp->VK->Prop}(j:UnR X (unaryOp op) r)(g:PE X a ta):PE X (.UnaryOp op a pos) (tUn r ta):=by
 intro d s e H Q I h;exact UnaryOp_ (thn (g d s e H _ I h) λv i⟨x,k,l,r1,f⟩=>j d i e k x v Q l r1 f)
theorem opI{f:Value->Value->Sem Value}{C:Int->Int->Prop}{g:Int->Int->Int}
  (k:∀(i j:Int)(d u:Tok)(s:Shared)(Q:VP)(E:VP),C i j->Q (.int (g i j) s.toks) {s with toks:=s.toks+1}->wpAny (model X.prog X.w) X.A (f (.int i d) (.int j u)) Q E s):
  OpR X f (rI C λi j=>.int (g i j)):=by
 intro n s o H x y v u Q I e m h;obtain⟨i,j,rfl,rfl,l,q⟩:=h;obtain⟨d,rfl⟩:=e;obtain⟨t',rfl⟩:=m;exact k i j d t' s _ _ l ⟨.int (g i j),H,I.tok _,⟨_,rfl⟩,q⟩
theorem opI0{f:Value->Value->Sem Value}{g:Int->Int->Int}
  (k:∀(i j:Int)(d u:Tok)(s:Shared)(Q:VP)(E:VP),Q (.int (g i j) s.toks) {s with toks:=s.toks+1}->wpAny (model X.prog X.w) X.A (f (.int i d) (.int j u)) Q E s):
  OpR X f (rI0 λi j=>.int (g i j)):=by
 intro m s n H x y v u Q I e l h;obtain⟨i,j,rfl,rfl,q⟩:=h;obtain⟨d,rfl⟩:=e;obtain⟨t',rfl⟩:=l;exact k i j d t' s _ _ ⟨.int (g i j),H,I.tok _,⟨_,rfl⟩,q⟩
theorem opB0{f:Value->Value->Sem Value}{g:Int->Int->Bool}
  (k:∀(i j:Int)(d u:Tok)(s:Shared)(Q:VP)(E:VP),Q (.bool (g i j)) s->wpAny (model X.prog X.w) X.A (f (.int i d) (.int j u)) Q E s):
  OpR X f (rI0 λi j=>.bl (g i j)):=by
 intro m s n H x y v u Q I e l h;obtain⟨i,j,rfl,rfl,q⟩:=h;obtain⟨d,rfl⟩:=e;obtain⟨t',rfl⟩:=l;exact k i j d t' s _ _ ⟨.bl (g i j),H,I,rfl,q⟩
def CPow(i j:Int):Prop:=0<=j/\j<=1000000/\i.natAbs<2^64
def CMul(i j:Int):Prop:=(-(2^64)<i/\i<2^64)\/(-(2^64)<j/\j<2^64)
theorem CMul.ok{i j:Int}(h:CMul i j):IntMulOk i j:=by
 rcases h with⟨d,e⟩|⟨d,e⟩
 ·exact .of_left (intBits_le_64 d e)
 ·exact .of_right (intBits_le_64 d e)
theorem lH:OpR X (binaryOp .Add) (rI0 λi j=>.int (i+j)):=opI0 λ_ _ _ _ _ _ _ q=>add_int q
theorem iK:OpR X (binaryOp .Sub) (rI0 λi j=>.int (i-j)):=opI0 λ_ _ _ _ _ _ _ q=>sub_int q
theorem jT:OpR X (binaryOp .Mod) (rI (λ_ j=>j≠0) λi j=>.int (i.fmod j)):=opI λ_ _ _ _ _ _ _ d q=>mod_int' d q
theorem Bs:OpR X (binaryOp .Pow) (rI CPow λi j=>.int (i^j.toNat)):=opI λ_ _ _ _ _ _ _ d q=>pow_int_small d.1 d.2.1 d.2.2 q
theorem unI{f:Value->Sem Value}{g:Int->Int}
  (j:∀(i:Int)(d:Tok)(s:Shared)(Q:VP)(E:VP),Q (.int (g i) s.toks) {s with toks:=s.toks+1}->wpAny (model X.prog X.w) X.A (f (.int i d)) Q E s):
  UnR X f (rU λi=>.int (g i)):=by
 intro k s l H x v Q I e h;obtain⟨i,rfl,q⟩:=h;obtain⟨d,rfl⟩:=e;exact j i d s _ _ ⟨.int (g i),H,I.tok _,⟨_,rfl⟩,q⟩
theorem fG:UnR X (unaryOp .USub) (rU λi=>.int (-i)):=unI λ_ _ _ _ _ q=>neg_int q
theorem Nk{d:PN}{f:St}{H:Hp}{s:Shared}{Q:VK}{k k':Bool}(I:Inv X d f H s)(q:Q (.bl k) H)(e:k=k'):EP X d f Q (.bool k') s:=by
 subst e;exact⟨.bl k,H,I,rfl,q⟩
theorem fZ:OpR X (compareOp .Lt) (rI0 λi j=>.bl (decide (i<j))):=opB0 λ_ _ _ _ _ _ _ q=>lt_int q
theorem iW:OpR X (compareOp .Gt) (rI0 λi j=>.bl (decide (j<i))):=opB0 λ_ _ _ _ _ _ _ q=>gt_int q
theorem Fo:OpR X (compareOp .GtE) (rI0 λi j=>.bl (decide (j<=i))):=opB0 λ_ _ _ _ _ _ _ q=>ge_int q
theorem Nj:OpR X (compareOp .Is) (λx y H Q=>y=.non/\Q (.bl (decide (x=.non))) H):=by
 intro f s i H x y v u Q I d e h;obtain⟨rfl,q⟩:=h;cases e;refine is_none_gen (Nk I q ?_);cases x <;> first
  |(cases d;rfl)
  |(obtain⟨g,rfl⟩:=d;rfl)
theorem mD(b:Expr){op:CmpOp}(h:op≠.In:=by decide)(e:op≠.NotIn:=by decide):behindInMarks op b=false:=by
 have e1:(op == CmpOp.In)=false:=by cases op <;> first|rfl|exact absurd rfl h
 have d:(op == CmpOp.NotIn)=false:=by cases op <;> first|rfl|exact absurd rfl e
 cases b <;> simp[behindInMarks,e1,d]
theorem dW{op:CmpOp}{r:R2}(i:OpR X (compareOp op) r)(l:PE X a ta)(n:PE X b tb)(o:behindInMarks op b=false):PE X (.Compare a [op] [b] pos) (tOp r ta tb):=by
 intro d s j H Q I h;exact wpAny_Compare1 (binT l n I h λv u m x y g e f k q=>i d m j g x y v u Q e f k q) o
def bJ(t:TE):TT:=λσ H Q=>t σ H λx H'=>∃k,x=.bl k/\Q k H'
theorem mB{op:CmpOp}{r:R2}(w:OpR X (compareOp op) r)(j:PE X a ta)(o:PE X b tb)(J:behindInMarks op b=false):PT X (.Compare a [op] [b] pos) (bJ (tOp r ta tb)):=by
 intro d s f H Q I h;refine wpAny_isTrue_Compare1 (thn (j d s f H _ I h) λv t⟨x,i,D,r1,q⟩=>thn (o d t f i _ D q) λu p⟨y,G,F,r2,l⟩ =>
  thn (w d p f G x y v u _ F r1 r2 l) λc K⟨z,n,g,C,k,e,m⟩=>?_) J
 subst e;cases C;exact uY ⟨n,g,m⟩
theorem dX:(sizeLine:Nat)<2^63:=by rw[sizeLine_eq];decide
theorem jM{x:V}{us:LW}(r:Vals [x] us):∃u,us=[u]/\RelV x u:=by
 cases r with
 |cons r1 r2=>cases r2;exact⟨_,rfl,r1⟩
theorem dY:kD X (.builtin "abs") (λxs H Q=>∃i,xs=[.int i]/\Q (.int (if i<0 then -i else i)) H):=by
 intro d s e H xs us Q I r h;obtain⟨i,rfl,q⟩:=h;obtain⟨u,rfl,f,rfl⟩:=jM r;exact call_abs_int λu tk=>⟨.int (if i<0 then -i else i),H,I.tok _,⟨_,rfl⟩,q⟩
theorem Fn:kD X (.type "int") (λxs H Q=>(∃i,xs=[.int i]/\Q (.int i) H)\/∃k,xs=[.bl k]/\Q (.int (if k then 1 else 0)) H):=by
 intro d s e H xs us Q I r h;rcases h with⟨i,rfl,q⟩|⟨k,rfl,q⟩
 ·obtain⟨u,rfl,f,rfl⟩:=jM r;exact call_int_int ⟨.int i,H,I,⟨_,rfl⟩,q⟩
 ·obtain⟨u,rfl,r1⟩:=jM r;cases r1;exact call_int_bool ⟨.int (if k then 1 else 0),H,I.tok _,⟨_,rfl⟩,q⟩
end
structure ObjM(h:Heap)(x dx C:Addr)(mA:MT):Prop where
 obj:h.get? x=some (PySem.W.instObj C dx)
 ns:h.Ns1 dx mA
 ne:dx≠x
theorem Fm{h:Heap}{c:Addr}{b:MT}(n:h.Ns1 c b):∃od,h.get? c=some od/\∀name,PySem.W.lookIn name od=some (b name):=by
 obtain⟨o,es,ep,g,k,i,_,l⟩:=n;refine⟨o,g,λname=>?_⟩;have e:=l name;unfold nsFind findBy at e;rw[←Array.find?_toList]at e;unfold PySem.W.lookIn;rw[k];dsimp only;split
 ·rename_i y q;rw[q]at e;exact wZ some e
 ·rename_i q;rw[q]at e;have a:es.toList.any (·.refKey)=false:=by
   rw[List.any_eq_false];intro y f;obtain⟨z,m,j⟩:=i y (Array.mem_toList_iff.mp f);simp[DictEntry.refKey,j]
  have d:¬ es.toList.any (·.refKey)=true:=by rw[a];exact yH
  rw[zD d];exact wZ some e
theorem ObjM.look{h:Heap}{x b C:Addr}{a:MT}(I:ObjM h x b C a):∃od,PySem.W.InstAt h x (PySem.W.instObj C b) C (some od)/\∀name,PySem.W.lookIn name od=some (a name):=
 let ⟨od,c,hl⟩:=Fm I.ns
 ⟨od,⟨I.obj,rfl,rfl,c⟩,hl⟩
section
variable {prog:Program} {w:World} {A:Around} {E:VP} {s:Shared} {K:Frag} {x dx C f:Addr} {mA:MT} {name:Str} {v:Value}
theorem Ni{e:Bool}{Q:VP}(X:K.In s.heap)(I:ObjM s.heap x dx C mA)(d:PySem.W.plainGet K C name=true)(hh:PySem.W.hasDictIn K C=true)
  (g:PySem.W.findIn K (.ref C) name=some none)(b:mA name=some v)(a:PySem.W.handedIn v=true)(h:Q v {s with toks:=s.toks+1}):
  wpAny (model prog w) A (getAttr (.ref x) name e) Q E s:=by
 obtain⟨od,c,hl⟩:=I.look;exact PySem.W.get_value X c (rX d).1 (PySem.W.findObj_own hh g rfl (by rw[hl,b])) a h
theorem Nh{pl:Sem Bool}{Q:Value×LW->Shared->Prop}(X:K.In s.heap)(I:ObjM s.heap x dx C mA)(a:PySem.W.plainGet K C name=true)
  (e:PySem.W.findIn K (.ref C) name=some (some (.ref f)))(b:PySem.W.isFn K (.ref f)=true)(c:mA name=none)(h:Q (.ref f,[.ref x]) s):
  wpAny (model prog w) A (getMethod (.ref x) name pl) Q E s:=by
 obtain⟨od,d,hl⟩:=I.look;exact PySem.W.method_fn X d (rX a).1 (rX a).2 e (oS.mp b) (by show(PySem.W.lookIn name od).map (·.isSome)=some false;rw[hl,c];rfl) h
theorem Ng{ns:List Str}{Q:Unit->Shared->Prop}(X:K.In s.heap)(I:ObjM s.heap x dx C mA)
  (n:PySem.W.findIn K (.ref C) "__setattr__"=some (some (.builtin "object.__setattr__")))(g:PySem.W.plainOver K C=true)(e:PySem.W.takerIn K C name=some none)(hh:PySem.W.hasDictIn K C=true)
  (k:PySem.Within mA ns)(hsz:ns.length<=sizeLine)
  (h:∀h',ObjM h' x dx C (λy=>if y=name then some v else mA y)->Heap.SameBut dx s.heap h'->Q () {s with heap:=h',toks:=s.toks+2}):
  wpAny (model prog w) A (setAttr (.ref x) name v) Q E s:=by
 obtain⟨od,c,hl⟩:=I.look;refine PySem.W.set_plain X c n (PySem.W.osa_open (s:={s with toks:=s.toks+1}) (r:=none) X c g e λb=>?_);obtain⟨u,l,p⟩:=rF hh;have i:s.heap.get? x=some ⟨.ref C,some dx,.plain,#[]⟩:=I.obj;refine zA (zB (zA (zA (qC i (zA (wW (s:={s with toks:=s.toks+1}) (rZ X l) ?_))))));rw[p];refine zB (a:=some dx) (zA (zB (zA ?_)));refine wpAny_nsSet1 (s:={s with toks:=s.toks+1}) I.ns λh' a d=>?_;obtain⟨t,r,q,o,m,j⟩:=a.count (PySem.Within.cons name v k);refine zA (wpAny_lookBehind o (by rw[m];exact pastItsLine_dict (yC j (by rw[zR];omega))) ?_);exact zB (h _ ⟨(d.2 _ (zT I.ne)).trans I.obj,a,I.ne⟩ d)
theorem Nf{R:Result->Shared->Prop}{vs:LW}{a:List (Str×Value)}(X:K.In s.heap)(c:PySem.W.makesIn K C=true)
  (hi:PySem.W.findIn K (.ref C) "__init__"=some (some (.ref f)))(e:PySem.W.typeIn K (.ref f)=some (.type "function"))
  (h:codeAny (model prog w) (A.under (.builtin "type.__call__" ⟨.ref C:: vs,a⟩)) (.call (.ref f) ⟨.ref (s.heap.objs.size+1):: vs,a⟩) (PySem.W.InitBack (s.heap.objs.size+1) R)
   {s with heap:=(s.heap.push PySem.W.emptyDict).push (PySem.W.instObj C s.heap.objs.size)}):
  codeAny (model prog w) A (.call (.ref C) ⟨vs,a⟩) R s:=by
 obtain⟨hh,g,d,j,i⟩:=s;exact PySem.W.make_core (PySem.W.makes_of X c) (wK X hi) (λb=>PySem.W.bind_fn X b e) (.inl rfl) h
end
def putF(f:Str)(v:V):List (Str×V)->List (Str×V)
 |[]=>[(f,v)]
 |(g,x):: r=>if g=f then(g,v):: r else(g,x):: putF f v r
theorem Fl(f g:Str)(v:V):∀fs:List (Str×V),(putF f v fs).lookup g=if g=f then some v else fs.lookup g
 |[]=>by
  show List.lookup g [(f,v)]=_
  by_cases h:g=f
  ·have a:(g == f)=true:=oS.mpr h;simp only[List.lookup,a,if_pos h]
  ·have a:(g == f)=false:=oV.mpr h;simp only[List.lookup,a,if_neg h]
 | (k,x):: r=>by
  have c:=Fl f g v r;rw[show putF f v ((k,x):: r)=(if k=f then(k,v):: r else(k,x):: putF f v r) from rfl]
  by_cases b:k=f
  ·rw[zF b]
   by_cases h:g=k
   ·have a:(g == k)=true:=oS.mpr h;simp only[List.lookup,a,if_pos (h.trans b)]
   ·have a:(g == k)=false:=oV.mpr h;simp only[List.lookup,a,if_neg (λe:g=f=>h (e.trans b.symm))]
  ·rw[zD b]
   by_cases h:g=k
   ·have a:(g == k)=true:=oS.mpr h;simp only[List.lookup,a,if_neg (λe:g=f=>b (h.symm.trans e))]
   ·have a:(g == k)=false:=oV.mpr h;simp only[List.lookup,a];exact c
theorem Br(f:Str)(v:V):∀fs:List (Str×V),f∈(putF f v fs).map (·.1)/\∀g,g∈fs.map (·.1)->g∈(putF f v fs).map (·.1)
 |[]=>⟨by simp[putF],λg h=>by simp at h⟩
 | (k,x):: r=>by
  obtain⟨b,c⟩:=Br f v r;rw[show putF f v ((k,x):: r)=(if k=f then(k,v):: r else(k,x):: putF f v r) from rfl]
  by_cases a:k=f
  ·rw[zF a];subst a;exact⟨by simp,λg h=>by simpa using h⟩
  ·rw[zD a];refine⟨?_,λg h=>?_⟩
   ·rw[zO];exact zU _ b
   ·rw[zO]at h ⊢;rcases xL.mp h with e|e
    ·exact xL.mpr (.inl e)
    ·exact zU _ (c g e)
theorem Fk(f:Str)(v:V):∀fs:List (Str×V),(putF f v fs).length<=fs.length+1
 |[]=>by simp[putF]
 |(k,x):: r=>by
  have b:=Fk f v r;rw[show putF f v ((k,x):: r)=(if k=f then(k,v):: r else(k,x):: putF f v r) from rfl]
  by_cases a:k=f
  ·rw[zF a,zR,zR];omega
  ·rw[zD a,zR,zR];omega
theorem RelO.some_of{v:V}{o:Option Value}(r:RelO (some v) o):∃u,o=some u/\RelV v u:=by
 cases o with
 |none=>exact(show False from r).elim
 |some u=>exact⟨u,rfl,r⟩
theorem RelO.none_of{o:Option Value}(r:RelO none o):o=none:=by
 cases o with
 |none=>rfl
 |some u=>exact(show False from r).elim
theorem Fj{v:V}{u:Value}(r:RelV v u):PySem.W.handedIn u=true:=by
 cases v with
 |non=>cases(show u=Value.none from r);rfl
 |bl b=>cases(show u=Value.bool b from r);rfl
 |int i=>obtain⟨t,e⟩:=(show∃t,u=Value.int i t from r);cases e;rfl
 |str x=>obtain⟨t,e⟩:=(show∃t,u=Value.str x t from r);cases e;rfl
 |byt b=>obtain⟨t,e⟩:=(show∃t,u=Value.bytes b t from r);cases e;rfl
 |flt b=>obtain⟨t,e⟩:=(show∃t,u=Value.float b t from r);cases e;rfl
 |ref a=>cases(show u=Value.ref a from r);rfl
 |ty n=>cases(show u=Value.type n from r);rfl
section
variable {P:Program} {w:World} {H H':Hp} {h h':Heap} {a C dx:Addr} {fs fs':List (Str×V)}
theorem bK(g:HOk P w H h)(e:H a=some (.ins C dx fs)):∃b,ObjM h a dx C b/\(∀f,RelO (fs.lookup f) (b f))/\PySem.Within b (fs.map (·.1))/\fs.length<=1000/\H dx=some (.own a):=by
 obtain⟨d,z,ne,c,b,n,r,q⟩:=(show mI P w H h a (.ins C dx fs) from g a _ e);exact⟨b,⟨c,n,ne⟩,r,q,z,d⟩
end
structure Cls(K:Frag)(C:Addr):Prop where
 pg:PySem.W.plainGet K C Str.empty=true
 hd:PySem.W.hasDictIn K C=true
 po:PySem.W.plainOver K C=true
 sa:PySem.W.findIn K (.ref C) "__setattr__"=some (some (.builtin "object.__setattr__"))
theorem Cls.get{K:Frag}{C:Addr}(c:Cls K C)(f:Str):PySem.W.plainGet K C f=true:=c.pg
def fH(K:Frag)(C:Addr)(f:Str):Prop:=PySem.W.findIn K (.ref C) f=some none
theorem fH.taker{K:Frag}{C:Addr}{f:Str}(n:fH K C f):PySem.W.takerIn K C f=some none:=by
 unfold PySem.W.takerIn;rw[show PySem.W.findIn K (.ref C) f=some none from n];rfl
structure Meth(K:Frag)(C:Addr)(m:Str)(f:Addr):Prop where
 at_:PySem.W.findIn K (.ref C) m=some (some (.ref f))
 fn:PySem.W.isFn K (.ref f)=true
 kp:PySem.W.keepIn K (.ref f)=true
section
variable {X:Cx} {pins:PN} {σ:St} {H:Hp} {s:Shared} {a C dx:Addr} {fs:List (Str×V)} {f:Str} {v:V} {A:Around} {E:VP}
theorem Nd{b:Bool}{Q:VP}(I:Inv X pins σ H s)(e:H a=some (.ins C dx fs))(c:Cls X.K C)(n:fH X.K C f)(l:fs.lookup f=some v)
  (h:∀u g,Inv X pins σ H g->RelV v u->Q u g):wpAny (model X.prog X.w) A (getAttr (.ref a) f b) Q E s:=by
 obtain⟨i,O,r,_,_,_⟩:=bK I.hok e;obtain⟨u,j,d⟩:=RelO.some_of (v:=v) (o:=i f) (by rw[←l];exact r f);exact Ni I.kIn O (c.get f) c.hd n j (Fj d) (h u _ (I.tok _) d)
theorem Nc{m:Str}{g:Addr}{pl:Sem Bool}{Q:Value×LW->Shared->Prop}(I:Inv X pins σ H s)(e:H a=some (.ins C dx fs))(c:Cls X.K C)(k:Meth X.K C m g)(l:fs.lookup m=none)
  (h:Q (.ref g,[.ref a]) s):wpAny (model X.prog X.w) A (getMethod (.ref a) m pl) Q E s:=by
 obtain⟨b,O,r,_,_,_⟩:=bK I.hok e;have d:b m=none:=RelO.none_of (by rw[←l];exact r m);exact Nh I.kIn O (c.get m) k.at_ k.fn d h
theorem Nb{y:V}{u:Value}{Q:Unit->Shared->Prop}(I:Inv X pins σ H s)(e:H a=some (.ins C dx fs))(c:Cls X.K C)(n:fH X.K C f)(hl:fs.length<1000)(w:RelV y u)
  (h:∀i,Inv X pins σ (upd H a (.ins C dx (putF f y fs))) i->Q () i):wpAny (model X.prog X.w) A (setAttr (.ref a) f u) Q E s:=by
 obtain⟨k,O,r,l,_,j⟩:=bK I.hok e;have p:(fs.map (·.1)).length<=sizeLine:=by rw[yM,sizeLine_eq];omega
 refine Ng I.kIn O c.sa c.po n.taker c.hd l p λh' d t=>h _ ?_;have D:∃o,h'.get? dx=some o:=let ⟨o,_,_,m,_⟩:=d.ns;⟨o,m⟩
 refine I.write (x:=a) (e:=dx) (by rw[e];exact True.intro) (.inr j) (λb q F z=>(t.2 b F).trans z) D ?_;refine⟨by rw[nO O.ne];exact j,?_,O.ne,d.obj,_,d.ns,λg=>?_,λg x=>?_⟩
 ·have:=Fk f y fs;omega
 ·show RelO ((putF f y fs).lookup g) (if g=f then some u else k g);rw[Fl]
  by_cases q:g=f
  ·rw[zF q,zF q];exact w
  ·rw[zD q,zD q];exact r g
 ·by_cases q:g=f
  ·rw[q];exact(Br f y fs).1
  ·refine(Br f y fs).2 g (l g λz=>x ?_);show(if g=f then some u else k g)=none;rw[zD q];exact z
theorem Inv.made(I:Inv X pins σ H s):Inv X pins σ (upd (upd H s.heap.objs.size (.own (s.heap.objs.size+1))) (s.heap.objs.size+1) (.ins C s.heap.objs.size []))
  {s with heap:=(s.heap.push PySem.W.emptyDict).push (PySem.W.instObj C s.heap.objs.size)}:=by
 have e1:(s.heap.push PySem.W.emptyDict).get? s.heap.objs.size=some PySem.W.emptyDict:=zQ s.heap rfl;have i:((s.heap.push PySem.W.emptyDict).push (PySem.W.instObj C s.heap.objs.size)).get? (s.heap.objs.size+1)=some (PySem.W.instObj C s.heap.objs.size):=by
  have:=zQ (s.heap.push PySem.W.emptyDict) (o:=PySem.W.instObj C s.heap.objs.size) rfl
  rwa[xP]at this
 have g:(s.heap.push PySem.W.emptyDict).Ns s.heap.objs.size (λ_=>none):=⟨PySem.W.emptyDict,#[],_,e1,rfl,(λe d=>absurd d (by simp)),λ_=>rfl⟩;have j:=I.laid (a:=s.heap.objs.size) (o:=.own (s.heap.objs.size+1)) (h':=s.heap.push PySem.W.emptyDict) (t':=s.toks) (λb u q=>zC _ q) (zE _) ⟨_,e1⟩;refine j.laid (a:=s.heap.objs.size+1) (o:=.ins C s.heap.objs.size []) (t':=s.toks) (λb u q=>zC _ q) (sI (xP _ _)) ?_;have ne:s.heap.objs.size≠s.heap.objs.size+1:=zW (uG _);refine⟨by rw[nO ne,nN],zY _,ne,i,λ_=>none,(Heap.Ns1.of_empty g).at λo q=>zC _ q,λ_=>True.intro,λy c=>absurd rfl c⟩
theorem Fi{prog:Program}{w:World}{env:Env}{e:Expr}{f:Str}{c:Pos}{s:Shared}{Q:VP}(b:attributeBase e f env (eval e env)=eval e env)
  (h:wpAny (model prog w) A (eval e env) (λo d=>wpAny (model prog w) A (getAttr o f true) Q E d) E s):wpAny (model prog w) A (eval (.Attribute e f c) env) Q E s:=
 Attribute_any_ h (by rw[arm_eval_Attribute,b])
end
def tFld(K:Frag)(ta:TE)(f:Str):TE:=λσ H Q=>ta σ H λx H1=>∃a C dx fs v,x=.ref a/\H1 a=some (.ins C dx fs)/\Cls K C/\fH K C f/\fs.lookup f=some v/\Q v H1
def sFld(K:Frag)(ta tv:TE)(f:Str):TS:=λD σ H=>tv σ H λy H1=>ta σ H1 λx H2=>∃a C dx fs,x=.ref a/\H2 a=some (.ins C dx fs)/\Cls K C/\fH K C f/\fs.length<1000 /\
 D.nx σ (upd H2 a (.ins C dx (putF f y fs)))
section
variable {X:Cx} {o e value:Expr} {f:Str} {pos pos' tpos:Pos} {ta tv:TE}
theorem eE(g:PE X e ta)(w:attributeBase e f X.env (eval e X.env)=eval e X.env):PE X (.Attribute e f pos) (tFld X.K ta f):=by
 intro d s r H Q I h;refine Fi w (thn (g d s r H _ I h) ?_);rintro u y ⟨x,t,m,j,a,C,D,fs,v,p,b,c,n,l,q⟩;subst p;obtain rfl:u=Value.ref a:=j;exact Nd m b c n l λz F i k=>⟨v,t,i,k,q⟩
theorem dZ(k:PE X o ta)(p:PE X value tv)(t:swapsWith value (some (.Attribute o f pos')) pos.line X.env=pure false):PS X (.Assign [.Attribute o f pos'] value pos) (sFld X.K ta tv f):=by
 intro d s b H D I h;refine plainObj_wpAny_Assign_Attribute (thn (p d s b H _ I h) λu v⟨y,j,z,w,q⟩=>thn (k d v b j _ z q) ?_) t;rintro G L ⟨x,M,F,i,a,C,N,fs,J,m,c,n,l,r⟩;subst J;obtain rfl:G=Value.ref a:=i;exact Nb F m c n l w λK g=>⟨b,_,g,r⟩
end
section
variable {X:Cx} {pins:PN} {σ:St} {H:Hp} {s:Shared} {A:Around} {E:VP} {Q:VP} {c:Value} {b:Bool}
inductive TyOf(K:Frag)(H:Hp):V->Value->Prop where
 |non:TyOf K H .non (.type "NoneType")
 |bl (x:Bool):TyOf K H (.bl x) (.type "bool")
 |int (i:Int):TyOf K H (.int i) (.type "int")
 |str (x:Str):TyOf K H (.str x) (.type "str")
 |flt (x:UInt64):TyOf K H (.flt x) (.type "float")
 |lst {a:Addr} {xs:List V} (e:H a=some (.lst xs)):TyOf K H (.ref a) (.type "list")
 |frz {a:Addr} {o:Obj} {xs:List V} (e:H a=some (.frz o (.lst xs))):TyOf K H (.ref a) (.type "list")
 |tup {a:Addr} {xs:List V} (e:H a=some (.tup xs)):TyOf K H (.ref a) (.type "tuple")
 |dK {a:Addr} {kvs:List (Key×V)} (e:H a=some (.dK kvs)):TyOf K H (.ref a) (.type "dict")
 |dT {a:Addr} {kvs:List (List Key×V)} (e:H a=some (.dT kvs)):TyOf K H (.ref a) (.type "dict")
 | ins {a C dx:Addr} {fs:List (Str×V)} (e:H a=some (.ins C dx fs)) (cl:Cls K C) (ha:PySem.W.findIn K (.ref C) "__class__"=some (some (.builtin "object.__class__")))
   (hn:PySem.W.specialIn K (.builtin "object.__class__") "__get__"=some (some (.builtin "getset_descriptor.__get__"))) (htk:PySem.W.takesIn K (.builtin "object.__class__")=some true)
   (hm:PySem.W.mroIn K C (.type "object")=some true):TyOf K H (.ref a) (.ref C)
theorem Na{x:V}{u g:Value}(I:Inv X pins σ H s)(f:RelV x u)(ty:TyOf X.K H x g)(e:PySem.W.kitOne X.K g c=some b)(h:∀tk,Q (.bool b) {s with toks:=tk}):
  wpAny (model X.prog X.w) A (call (.builtin "isinstance") [u,c]) Q E s:=by
 cases ty with
 |non=>cases(show u=Value.none from f);exact xM PySem.W.kitx_none I.kIn True.intro e (λz=>nomatch z) h
 |bl y=>cases(show u=Value.bool y from f);exact xM PySem.W.kitx_bool I.kIn True.intro e (λz=>nomatch z) h
 |int i=>obtain⟨g,q⟩:=(show∃g,u=Value.int i g from f);cases q;exact xM PySem.W.kitx_int I.kIn True.intro e (λz=>nomatch z) h
 |str y=>obtain⟨g,q⟩:=(show∃g,u=Value.str y g from f);cases q;exact xM PySem.W.kitx_str I.kIn True.intro e (λz=>nomatch z) h
 |flt y=>obtain⟨g,q⟩:=(show∃g,u=Value.float y g from f);cases q;exact xM PySem.W.kitx_float I.kIn True.intro e (λz=>nomatch z) h
 |@lst a xs d =>
  cases(show u=Value.ref a from f);obtain⟨_,_,n,_,j⟩:=(show mI X.prog X.w H s.heap a (.lst xs) from I.hok a _ d);exact xM pF I.kIn ⟨_,j,rfl⟩ e (λz=>nomatch z) h
 |@frz a v xs d =>
  cases(show u=Value.ref a from f);obtain⟨_,_,_,n,_,j⟩:=(show mI X.prog X.w H s.heap a (.frz v (.lst xs)) from I.hok a _ d);exact xM pF I.kIn ⟨_,j,rfl⟩ e (λz=>nomatch z) h
 |@tup a xs d =>
  cases(show u=Value.ref a from f);obtain⟨_,_,_,p⟩:=(show mI X.prog X.w H s.heap a (.tup xs) from I.hok a _ d);obtain⟨o,j,k,_⟩:=p;exact xM PySem.W.kitx_tuple I.kIn ⟨o,j,k⟩ e (λz=>nomatch z) h
 |@dK a kvs d =>
  cases(show u=Value.ref a from f);obtain⟨_,_,vs,_,p⟩:=(show mI X.prog X.w H s.heap a (.dK kvs) from I.hok a _ d);obtain⟨o,es,ep,j,k,_⟩:=p;exact xM PySem.W.kitx_dict I.kIn ⟨o,j,k.1⟩ e (λz=>nomatch z) h
 |@dT a kvs d =>
  cases(show u=Value.ref a from f);obtain⟨_,_,xs,_,o,es,ep,j,k,_⟩:=(show mI X.prog X.w H s.heap a (.dT kvs) from I.hok a _ d);exact xM PySem.W.kitx_dict I.kIn ⟨o,j,k.1⟩ e (λz=>nomatch z) h
 |@ins a C G fs d l w r t D =>
  cases(show u=Value.ref a from f);obtain⟨F,O,_⟩:=bK I.hok d;obtain⟨od,m,_⟩:=O.look;exact xM (PySem.W.kitx_own (l.get _) l.hd w r t D) I.kIn m e (λz=>nomatch z) h
end
structure Room(k:Nat)(A:Around):Prop where
 hd:A.handled=none
 dp:A.depth+3*k+5<recursionLimit
 un:A.units+16*k+200<cLine
theorem Room.mono{j k:Nat}{A:Around}(r:Room k A)(h:j<=k):Room j A:=⟨r.hd,by have:=r.dp;omega,by have:=r.un;omega⟩
theorem Room.mo{j k:Nat}{A:Around}(r:Room k A)(h:j<=k:=by first|decide|omega):Room j A:=r.mono h
theorem Room.deeper{k:Nat}{A:Around}(r:Room (k+1) A)(env:Env):Room k (A.deeper env):=
 ⟨r.hd,by have:=r.dp;show A.depth+1+3*k+5<_;omega,by have:=r.un;show A.units+3+16*k+200<_;omega⟩
theorem Oz{A:Around}{C:Addr}{us:LW}{a:List (Str×Value)}:(A.under (.builtin "type.__call__" ⟨.ref C:: us,a⟩)).depth=A.depth+1:=by
 first|rfl|simp[Around.under,Code.weight,Code.isCreation,Code.isGuard,Code.isCaller,Code.frames,Code.isFrame,guardIds]
theorem Oy{A:Around}{C:Addr}{us:LW}{a:List (Str×Value)}:(A.under (.builtin "type.__call__" ⟨.ref C:: us,a⟩)).units=A.units+1:=by
 first|rfl|simp[Around.under,Code.cUnits,Code.frames,Code.isFrame]
theorem Room.make{k:Nat}{A:Around}(r:Room (k+1) A)(C:Addr)(us:LW)(a:List (Str×Value)):Room k (A.under (.builtin "type.__call__" ⟨.ref C:: us,a⟩)):=
 ⟨r.hd,by have:=r.dp;rw[Oz];omega,by have:=r.un;rw[Oy];omega⟩
theorem Room.depth{k:Nat}{A:Around}(r:Room k A):A.depth<recursionLimit:=by have:=r.dp;omega
theorem Room.units{k:Nat}{A:Around}(r:Room k A):A.units+64<cLine:=by have:=r.un;omega
def tNil:TA:=λ_ H Q=>Q [] H
def mH(ta:TE)(tr:TA):TA:=λσ H Q=>ta σ H λx H1=>tr σ H1 λxs H2=>Q (x:: xs) H2
section
variable {X:Cx} {e:Expr} {es:List Expr} {te:TE} {t:TA} {pos:Pos}
theorem nI:PA X [] tNil:=λ_ _ _ _ H Q I h=>Calls.spliced_nil ⟨[],H,I,.nil,h⟩
theorem nH(m:PE X e te)(hr:PA X es t)(l:starEach (e:: es) X.env=(false,eval e X.env):: starEach es X.env:=by rfl):PA X (e:: es) (mH te t):=by
 intro pos a s b H Q I h;rw[l];show wpAny _ _ (spliced ((false,eval e X.env):: backTo pos (starEach es X.env))) _ _ s;refine Calls.spliced_cons (thn (m a s b H _ I h) ?_);rintro u f ⟨x,k,j,r1,c⟩;exact thn (hr pos a f b k _ j c) λus n⟨xs,i,g,r2,d⟩=>⟨x:: xs,i,g,.cons r1 r2,d⟩
def tTup(t:TA):TE:=λσ H Q=>t σ H λxs H1=>xs.length<=sizeLine/\∀p,H1 p=none->Q (.ref p) (upd H1 p (.tup xs))
def tLst(t:TA):TE:=λσ H Q=>t σ H λxs H1=>xs.length<=sizeLine/\∀p,H1 p=none->Q (.ref p) (upd H1 p (.lst xs))
theorem kQ{i}(h:PA X es t):PE X (.Tuple es i pos) (tTup t):=by
 intro f s j H Q I g;refine wpAny_Tuple_spliced (thn (h pos f s j H _ I g) λus a⟨xs,c,d,r,z,q⟩=>⟨by rw[←r.length];exact z,?_⟩);have k:c a.heap.objs.size=none:=d.hok.fresh (zE _);refine⟨.ref a.heap.objs.size,upd c a.heap.objs.size (.tup xs),d.laid (t':=a.toks) (λb u e=>zC _ e) (zE _) ?_,rfl,q _ k⟩;exact⟨z,us,r,⟨_,zQ _ rfl,rfl,_,rfl⟩⟩
theorem mQ(h:PA X es t):PE X (.List es pos) (tLst t):=by
 intro f s i H Q I g;refine wpAny_List_spliced (thn (h pos f s i H _ I g) λus a⟨xs,c,d,r,z,q⟩=>⟨by rw[←r.length];exact z,?_⟩);have j:c a.heap.objs.size=none:=d.hok.fresh (zE _);refine⟨.ref a.heap.objs.size,upd c a.heap.objs.size (.lst xs),d.laid (t':=a.toks) (λb u e=>zC _ e) (zE _) ?_,rfl,q _ j⟩;exact⟨z,us,0,r,zQ _ rfl⟩
end
abbrev Sp:=List V->Hp->VK->XK->Prop
abbrev CXT:=List Env->Hp->Shared->XK->VP
structure Env0(P:Program)(w:World)(K:Frag)(mg:MT)(base:Heap)(A:Around)(outer:List Env)(s:Shared)(H:Hp):Prop where
 frames:A.frames=some outer
 mod:Mod K mg base
 bs:∀b o,base.get? b=some o->s.heap.get? b=some o/\H b=none
 bsz:base.objs.size<=s.heap.objs.size
 funs:s.heap.FunFrames base outer
 frf:∀b∈frs outer,H b=none
 hok:HOk P w H s.heap
 bare:AllBare s.gens
def CE(outer:List Env)(P:Program)(w:World)(H:Hp)(s:Shared)(Q:VK)(u:Value)(s':Shared):Prop:=
 ∃v H',s'.os=s.os/\AllBare s'.gens/\Un (frs outer) [] H H' s.heap s'.heap/\HOk P w H' s'.heap/\RelV v u/\Q v H'
def CR(CX:CXT)(outer:List Env)(P:Program)(w:World)(H:Hp)(s:Shared)(Q:VK)(E:XK)(r:Result)(s':Shared):Prop:=
 match r with
 |.ok (.ret u)=>CE outer P w H s Q u s'
 |.ok _=>False
 |.error e=>CX outer H s E e s'
structure FnOk(P:Program)(w:World)(K:Frag)(mg:MT)(base:Heap)(CX:CXT)(k:Nat)(f:Addr)(fd:FuncData)(ps:List Str)(sp:Sp):Prop where
 len:∀vs H Q E,sp vs H Q E->vs.length=ps.length
 run:∀(A:Around)(outer:List Env)(s:Shared)(H:Hp)(args:Args)(us:LW)(vs:List V)(Q:VK)(E:XK),Room k A->Env0 P w K mg base A outer s H->BindsTo s fd args (ps.zip us)->Vals vs us->sp vs H Q E ->
  codeAny (model P w) A (.call (.ref f) args) (CR CX outer P w H s Q E) s
theorem Env0.make{P:Program}{w:World}{K:Frag}{a:MT}{base:Heap}{A:Around}{outer:List Env}{s:Shared}{H:Hp}(e:Env0 P w K a base A outer s H)(C:Addr)(us:LW)(b:List (Str×Value)):
  Env0 P w K a base (A.under (.builtin "type.__call__" ⟨.ref C:: us,b⟩)) outer s H:=⟨by first|exact e.frames|(simpa [Around.under,Code.envs,Code.isFrame,pushEnvs]using e.frames),e.mod,e.bs,e.bsz,e.funs,e.frf,e.hok,e.bare⟩
section
variable {X:Cx} {pins:PN} {σ:St} {H:Hp} {s s':Shared}
theorem Inv.env0(I:Inv X pins σ H s):Env0 X.prog X.w X.K X.mg X.base X.A X.stack s H:=
 ⟨I.ok.frames,I.ok.mod,I.bs,yC I.ok.bsz I.sz,I.stack,I.stkFree,I.hok,I.bare⟩
theorem Inv.after{Q:VK}{u:Value}(I:Inv X pins σ H s)(h:CE X.stack X.prog X.w H s Q u s'):EP X pins σ Q u s':=by
 obtain⟨v,H',c,a,un,e,r,q⟩:=h;obtain⟨hh,g,d,f,i⟩:=s';obtain rfl:i=s.os:=c;exact⟨v,H',I.call (h':=hh) (g':=g) (d':=d) (t':=f) (ch:=[]) un e a (λb z=>absurd z (by simp)),r,q⟩
end
def kJ(sp:Sp)(dvs:List V)(E:XK)(t:TA):TE:=λσ H Q=>t σ H λvs H1=>sp (vs++dvs) H1 Q E
def Bq(C:Addr)(m:Str)(sp:Sp)(dvs:List V)(E:XK)(ta:TE)(t:TA):TE:=λσ H Q=>ta σ H λx H1=>∃a dx fs,x=.ref a/\H1 a=some (.ins C dx fs)/\fs.lookup m=none /\
 t σ H1 λvs H2=>sp (x:: (vs++dvs)) H2 Q E
def lT(K:Frag)(fd:FuncData)(ps:List Str)(ds:LW):Prop:=
 ∀(s:Shared)(us:LW),K.In s.heap->(us++ds).length=ps.length->BindsTo s fd ⟨us,[]⟩ (ps.zip (us++ds))
theorem lT.all{K:Frag}{a:FuncData}{ps:List Str}(h:∀us:LW,us.length=ps.length->bindArgs a ⟨us,[]⟩=pure (ps.zip us)):lT K a ps []:=λs us _ hl=>by
 rw[wO]at hl ⊢;exact .of_eq (h us hl)
def eF(CX:CXT)(X:Cx)(E:XK):Prop:=∀(pins:PN)(σ:St)(H:Hp)(s:Shared)(e:Value)(s':Shared),Inv X pins σ H s->CX X.stack H s E e s'->X.xe e s'
section
variable {X:Cx} {CX:CXT} {k:Nat} {f C:Addr} {fd:FuncData} {ps:List Str} {sp:Sp} {dvs:List V} {ds:LW} {E:XK} {x m:Str} {p pos apos:Pos} {e o:Expr} {es:List Expr} {ta:TE} {t:TA}
theorem Fh{b:PN}{c:St}{H:Hp}{s:Shared}{Q:VK}{us:LW}{vs:List V}(F:FnOk X.prog X.w X.K X.mg X.base CX k f fd ps sp)(hr:Room k X.A)(j:lT X.K fd ps ds)(i:Vals dvs ds)(g:eF CX X E)
  (I:Inv X b c H s)(r:Vals vs us)(h:sp (vs++dvs) H Q E):wpAny (model X.prog X.w) X.A (call (.ref f) us) (EP X b c Q) X.xe s:=by
 have r2:Vals (vs++dvs) (us++ds):=r.append i;have hl:(us++ds).length=ps.length:=by rw[←r2.length];exact F.len _ _ _ _ h
 refine uS (tK (F.run X.A X.stack s H ⟨us,[]⟩ (us++ds) (vs++dvs) Q E hr I.env0 (j s us I.kIn hl) r2 h) λr d a=>?_);cases r with
 |error e=>exact g b c H s e d I a
 |ok fl =>
  cases fl with
  |ret u=>exact I.after a
  |next=>exact False.elim a
  |brk=>exact False.elim a
  |cont=>exact False.elim a
theorem bL(F:FnOk X.prog X.w X.K X.mg X.base CX k f fd ps sp)(hr:Room k X.A)(n:Gl X x)(y:X.mg x=some (.ref f))(j:PySem.W.keepIn X.K (.ref f)=true)(w:lT X.K fd ps ds)(l:Vals dvs ds)(g:eF CX X E)
  (u:PA X (e:: es) t)(d:(x == ("__debug__" :Str))=false:=by decide)(c:starEach (e:: es) X.env=(false,eval e X.env):: starEach es X.env:=by rfl)(i:(backTo pos (starEach es X.env)).any (·.1)=false:=by rfl):
  PE X (.Call (.Name x p) (e:: es) [] pos) (kJ sp dvs E t):=by
 intro b s v H Q I h;refine wE (iV I n y ?_ d);refine sL (h₀:=X.base) I.ok.mod.kin j (thn (u pos b s v H _ I h) λus z⟨vs,D,a,r,q⟩=>⟨a.kIn,?_⟩) c i;exact Fh F hr w l g a r q
theorem cC{pl:Sem Bool}(r:PE X o ta)(c:Cls X.K C)(g:Meth X.K C m f)(F:FnOk X.prog X.w X.K X.mg X.base CX k f fd ps sp)(hr:Room k X.A)(D:lT X.K fd ps ds)(z:Vals dvs ds)(w:eF CX X E)
  (j:eval (.Call (.Attribute o m apos) [] [] pos) X.env=(do
   let d ←eval o X.env
   standAt apos.atName
   let (f,first) ←holding [d] (getMethod d m pl)
   callWith pos f first (backTo pos (starEach [] X.env)) (backToKw pos (keywordEach [] X.env))):=by rfl):
  PE X (.Call (.Attribute o m apos) [] [] pos) (Bq C m sp dvs E ta tNil):=by
 intro n s G H Q I h;refine PySem.W.methodCall_KW (pl:=pl) (thn (r n s G H _ I h) ?_) j;rintro u J ⟨x,K,b,v,a,L,fs,y,i,l,q⟩;subst y;obtain rfl:u=Value.ref a:=v;refine Nc b i c g l ?_;exact PySem.W.callWith_K0 (first:=[.ref a]) b.kIn g.kp (Fh (us:=[.ref a]) (vs:=[.ref a]) F hr D z w b (.cons rfl .nil) q)
structure Mk(K:Frag)(C f:Addr):Prop where
 makes:PySem.W.makesIn K C=true
 init:PySem.W.findIn K (.ref C) "__init__"=some (some (.ref f))
 fn:PySem.W.isFn K (.ref f)=true
 kp:PySem.W.keepIn K (.ref C)=true
end
section
variable {X:Cx} {CX:CXT} {k:Nat} {f C:Addr} {fd:FuncData} {ps ks:List Str} {sp:Sp} {E:XK} {x m:Str} {p pos apos kpos:Pos} {e o:Expr} {es:List Expr} {kws:List Keyword} {te ta:TE} {t tk:TA} {nm:Option Str}
variable {g:LW->LW->LW} {gV:List V->List V->List V}
end
structure nZ(N P:List Str)(sc:Scope):Prop where
 kind:sc.kind=.function
 co:sc.isCoroutine=false
 gen:sc.isGenerator=false
 nd:N.Nodup
 pre:N.take P.length=P
 par:∀x∈P,sc.names.lookup x=some .local\/sc.names.lookup x=some .cell
 nofree:∀y∈sc.names,y.2≠.free
theorem Fg{b:Str->Option NameKind}{x:Str}:∀{binds:List (Str×Value)}{m:MT},(∀v,(x,v)∉binds)->bindL b binds m x=m x
 |[],_,_=>rfl
 | (n,v):: r,m,h=>by
  unfold bindL;rw[Fg λw a=>h w (zU _ a)];split
  ·have:x≠n:=by rintro rfl;exact h v yE
   simp[this]
  ·rfl
theorem Ff{b:Str->Option NameKind}{x:Str}:∀{binds:List (Str×Value)}{m:MT},(∀v,(x,v)∉binds)->bindC b binds m x=m x
 |[],_,_=>rfl
 | (n,v):: r,m,h=>by
  unfold bindC;rw[Ff λw a=>h w (zU _ a)];split
  ·rfl
  ·have:x≠n:=by rintro rfl;exact h v yE
   simp[this]
theorem Fe{b:Str->Option NameKind}{x:Str}{v:Value}:∀{P:List Str}{vs:LW}{i:Nat}{m:MT},P.Nodup->P[i]?=some x->vs[i]?=some v->b x=some .local ->
  bindL b (P.zip vs) m x=some v
 |[],_,_,_,_,h,_,_=>by simp at h
 |_:: _,[],_,_,_,_,h,_=>by simp at h
 |p:: P,w:: vs,0,m,nd,a,c,d=>by
  simp at a c;subst a;subst c;show bindL b ((p,w):: P.zip vs) m p=_;unfold bindL;rw[Fg λv e=>(rN.mp nd).1 (uT e).1,zF d];simp
 |p:: P,w:: vs,i+1,m,nd,a,c,d=>by
  show bindL b ((p,w):: P.zip vs) m x=_;unfold bindL;exact Fe (i:=i) (rN.mp nd).2 (by simpa using a) (by simpa using c) d
theorem Fd{b:Str->Option NameKind}{x:Str}{v:Value}:∀{P:List Str}{vs:LW}{i:Nat}{m:MT},P.Nodup->P[i]?=some x->vs[i]?=some v->b x≠some .local ->
  bindC b (P.zip vs) m x=some v
 |[],_,_,_,_,h,_,_=>by simp at h
 |_:: _,[],_,_,_,_,h,_=>by simp at h
 |p:: P,w:: vs,0,m,nd,a,c,d=>by
  simp at a c;subst a;subst c;show bindC b ((p,w):: P.zip vs) m p=_;unfold bindC;rw[Ff λv e=>(rN.mp nd).1 (uT e).1,zD d];simp
 |p:: P,w:: vs,i+1,m,nd,a,c,d=>by
  show bindC b ((p,w):: P.zip vs) m x=_;unfold bindC;exact Fd (i:=i) (rN.mp nd).2 (by simpa using a) (by simpa using c) d
def jE(N:List Str)(vs:List V):St:=vs.map some++List.replicate (N.length-vs.length) none
def cxOf(CX:CXT)(P:Program)(w:World)(K:Frag)(mg:MT)(base:Heap)(N:List Str)(qual:Str)(scope:Scope)(f:Addr)(cd:Value)(A:Around)(outer:List Env)(s:Shared)(H:Hp)(E:XK):Cx where
 prog:=P
 w:=w
 K:=K
 mg:=mg
 base:=base
 A:=A.deeper (envOfC qual scope s.heap.objs.size f cd)
 N:=N
 s₀:=s
 H₀:=H
 env:=envOfC qual scope s.heap.objs.size f cd
 outer:=outer
 stack:=envOfC qual scope s.heap.objs.size f cd:: outer
 ex:=[]
 calm:=true
 fn:=λ_=>true
 pn:=[]
 xe:=λe s'=>wpAny (model P w) (A.deeper (envOfC qual scope s.heap.objs.size f cd)) (leaving (envOfC qual scope s.heap.objs.size f cd) e) (λ_ s''=>CX outer H s E e s'') (λe' s''=>CX outer H s E e' s'') s'
theorem Fc{sc:Scope}{n:Nat}{x:Str}(h:sc.names.lookup x=some .cell):∃c,(cellsFrom n sc.names []).lookup x=some c:=by
 have q:=rB sc.names n [] (.inl h);exact Option.isSome_iff_exists.mp q
theorem Fb{M:CXT}{P:Program}{w:World}{K:Frag}{D:MT}{base:Heap}{N ps:List Str}{C:Str}{j:Scope}{f:Addr}{t:Value}{A:Around}{outer:List Env}{s L:Shared}{H:Hp}{E:XK}{us:LW}{vs:List V}
  (l:nZ N ps j)(S:A.handled=none)(g:Env0 P w K D base A outer s H)(hl:vs.length=ps.length)(r:Vals vs us)
  (x:InCallC s s.heap.objs.size (bindL (envOfC C j s.heap.objs.size f t).kindOf (ps.zip us) λ_=>none) (cellsFrom (s.heap.objs.size+1) j.names []) (bindC (envOfC C j s.heap.objs.size f t).kindOf (ps.zip us) λ_=>none) L):
  Inv (cxOf M P w K D base N C j f t A outer s H E) [] (jE N vs) H L:=by
 have U:ps.length<=N.length:=by have:=wZ List.length l.pre;rw[yG]at this;omega
 obtain⟨o,tk,rfl,J⟩:=x.done;have F:∀b:Addr,b∉(cxOf M P w K D base N C j f t A outer s H E).ex:=λb z=>absurd (show b∈([]:LA) from z) (by simp);refine⟨⟨g.mod,l.kind,rfl,rfl,zE _,λy z c o d=>?_,λy m=>?_,λy c _ h=>?_,λ_=>S,Around.frames_deeper g.frames,.inr ⟨rfl,rfl⟩,λb z=>absurd z (F b),g.bs,g.bsz,λb _ _=>F b,λb z=>absurd z (F b),g.funs,g.frf⟩,
  rfl,g.bare,Un.kept J,⟨_,x.toInCall.ns,λi y v o d T=>?_⟩,λy c h=>⟨_,x.cell y c h⟩,g.hok.fresh (zE _),λy c h=>?_,λp n=>absurd (show p∈([]:PN) from n) (by simp),g.hok.kept J,?_⟩
 ·exact name_of_addr x.apart (vJ o) (vJ d)
 ·have m:j.names.lookup y=some .cell\/j.names.lookup y=some .free:=m;rcases m with m|m
  ·exact Fc m
  ·exact absurd rfl (l.nofree _ (vJ m))
 ·exact tF (x.above y c (vJ h))
 ·have hi:i<vs.length:=by
   unfold jE at d
   by_cases hi:i<vs.length
   ·exact hi
   ·rw[zX (by simpa using hi)]at d;rw[List.getElem?_replicate]at d;split at d <;> cases d
  have R:vs[i]?=some v:=by
   unfold jE at d;rw[yB (by simpa using hi),zH]at d;cases e:vs[i]? with
   |none=>rw[e]at d;cases d
   |some a=>rw[e]at d;cases d;rfl
  obtain⟨u,I,O⟩:=r.get R;have n:ps[i]?=some y:=by
   rw[←l.pre,wC ⋯];exact o
  have G:ps.Nodup:=by rw[←l.pre];exact l.nd.sublist (List.take_sublist _ _)
  refine⟨u,O,?_⟩;rcases l.par y (yF n) with k|k
  ·exact .inl ⟨k,Fe G n I k⟩
  ·obtain⟨c,e⟩:=Fc (n:=s.heap.objs.size+1) k;refine .inr ⟨.inl k,c,e,?_⟩;have q:=x.cell y c e;rw[Fd G n I (by show j.names.lookup y≠_;rw[k];decide)]at q;exact q
 ·exact g.hok.fresh (tF (x.above y c (vJ h)))
 ·unfold jE;show _=N.length;rw[yA,yM,List.length_replicate];omega
theorem Bp{p:CXT}{P:Program}{w:World}{K:Frag}{l:MT}{base:Heap}{k:Nat}{f:Addr}{name d:Str}{J:Arguments}{body:List Stmt}{a:Scope}{L kV G S cdv O a0:Value}{T od:Option Addr}
  {a5:Array (Option Value)}{N ps:List Str}{D:Sp}(a6:K.lookup f=some ⟨a0,od,.func (PySem.W.fnOf name d J body a L kV G S T cdv O),a5⟩)(a1:PySem.W.codeIn K cdv d=true)(i:nZ N ps a)
  (len:∀vs H Q E,D vs H Q E->vs.length=ps.length)
  (a4:∀(A:Around)(outer:List Env)(s:Shared)(H:Hp)(vs:List V)(Q:VK)(E:XK),Room k (A.deeper (envOfC d a s.heap.objs.size f cdv))->D vs H Q E ->
   ∃C,PSs (cxOf p P w K l base N d a f cdv A outer s H E) body C/\C {nx:=λ_ H'=>Q .non H',rt:=Q} (jE N vs) H):
  FnOk P w K l base p (k+1) f (PySem.W.fnOf name d J body a L kV G S T cdv O) ps D:=by
 refine⟨len,λA outer s H a7 us vs Q E hr j X r F=>?_⟩;have hl:=len _ _ _ _ F;have KX:K.In s.heap:=j.mod.kin.keeps λb o e=>(j.bs b o e).1;have U:s.heap.NoLimit:=j.mod.nolimit.keeps λb o e=>(j.bs b o e).1;have W:∀y∈ps.zip us,a.names.lookup y.1=some .local\/(a.names.lookup y.1=some .cell/\((cellsFrom (s.heap.objs.size+1) a.names []).lookup y.1).isSome=true):=λ⟨n,v⟩Z=>by
  rcases i.par n (uT Z).1 with q|q
  ·exact .inl q
  ·exact .inr ⟨q,rB _ _ _ (.inl q)⟩
 refine codeAny_call_function hr.depth (KX _ _ a6) rfl i.co i.gen rfl (PySem.W.codeRec_of KX a1) (X _ _ _ _ ?_);refine wpAny_newFunctionEnv_cells i.kind W λenv a3 M x=>?_;subst a3;refine⟨U.keeps x.toInCall.keep,codeAny_func ?_⟩;obtain⟨C,Y,a2⟩:=a4 A outer s H vs Q E (hr.deeper _) F;have I:Inv (cxOf p P w K l base N d a f cdv A outer s H E) [] (jE N vs) H M:=Fb i hr.hd j hl r x;refine yQ (Y [] M (jE N vs) H _ I a2) (λfl z g=>?_) λe z g=>g;have R:∀{m:St}{H':Hp}{v:V}{u:Value},Inv (cxOf p P w K l base N d a f cdv A outer s H E) [] m H' z->RelV v u->Q v H'->CE outer P w H s Q u z:=
  λ{m H' v u}c t q=>⟨v,H',c.os,c.bare,c.base,c.hok,t,q⟩
 cases fl with
 |ret u =>
  obtain⟨v,m,H',c,t,q⟩:=g;exact R c t q
 |next =>
  obtain⟨m,H',c,q⟩:=g;exact R (v:=V.non) (u:=Value.none) c rfl q
 |brk =>
  obtain⟨_,_,_,q⟩:=g;exact False.elim q
 |cont =>
  obtain⟨_,_,_,q⟩:=g;exact False.elim q
section
variable {X:Cx} {x:Str} {p pos:Pos} {e:Expr} {es:List Expr} {t:TA} {id T:String} {r:List V->Hp->VK->Prop}
def tCB(r:List V->Hp->VK->Prop)(t:TA):TE:=λσ H Q=>t σ H λvs H1=>r vs H1 Q
theorem mS(n:kD X (.builtin id) r)(o:Gl X x)(u:X.mg x=none)(d:bootBuiltins x=some (.builtin id))(q:PA X (e:: es) t)(k:x≠"__name__" := by decide)(j:(x == ("__debug__" :Str))=false:=by decide)
  (i:starEach (e:: es) X.env=(false,eval e X.env):: starEach es X.env:=by rfl)(m:(backTo pos (starEach es X.env)).any (·.1)=false:=by rfl):PE X (.Call (.Name x p) (e:: es) [] pos) (tCB r t):=by
 intro a s b H Q I h;refine wE (gL I o u d ?_ k j);exact PyProof.Rows.callWith_builtin1 (thn (q pos a s b H _ I h) λus f⟨vs,g,l,r1,c⟩=>n a f b g vs us Q l r1 c) i m
theorem lK(n:kD X (.type T) r)(o:Gl X x)(u:X.mg x=none)(d:bootBuiltins x=some (.type T))(q:PA X (e:: es) t)(k:x≠"__name__" := by decide)(j:(x == ("__debug__" :Str))=false:=by decide)
  (i:starEach (e:: es) X.env=(false,eval e X.env):: starEach es X.env:=by rfl)(m:(backTo pos (starEach es X.env)).any (·.1)=false:=by rfl):PE X (.Call (.Name x p) (e:: es) [] pos) (tCB r t):=by
 intro a s b H Q I h;refine wE (gL I o u d ?_ k j);exact xV (thn (q pos a s b H _ I h) λus f⟨vs,g,l,r1,c⟩=>n a f b g vs us Q l r1 c) i m
end
end L2
namespace HT
open PySem PyProof.Rows
section
open PySem.SeqAt
open PySem.AutoSeq1 (wpAny_loadPart')
open PySem.MeetsSeq PySem.MeetsSeq2 PySem.MeetsSeq3
end
section
variable {prog:Program} {w:World} {A:Around} {E:VP} {s:Shared}
def sIx(n d:Nat):Option Int->Nat
 |none=>d
 |some v=>if v<0 then(v+(n:Int)).toNat else min v.toNat n
theorem sIx_none(n d:Nat):sIx n d none=d:=rfl
theorem sIx_nat(n d k:Nat):sIx n d (some (k:Int))=min k n:=by
 show(if(k:Int)<0 then((k:Int)+(n:Int)).toNat else min (k:Int).toNat n)=min k n;rw[zD ⋯,zS]
theorem Ox(n d:Nat)(b:d<=n)(o:Option Int):sIx n d o<=n:=by
 cases o with
 |none=>exact b
 |some v =>
  show(if v<0 then(v+(n:Int)).toNat else min v.toNat n)<=n
  by_cases a:v<0
  ·rw[zF a];omega
  ·rw[zD a];exact Nat.min_le_right _ _
theorem Fa(v:Int)(n d:Nat):(if v<0 then max (v+(n:Int)) 0 else min v (n:Int))=((sIx n d (some v):Nat):Int):=by
 show(if v<0 then max (v+(n:Int)) 0 else min v (n:Int))=(((if v<0 then(v+(n:Int)).toNat else min v.toNat n):Nat):Int)
 by_cases a:v<0
 ·simp only[if_pos a];omega
 ·simp only[if_neg a];omega
theorem Ow(lo hi:Option Int)(n:Nat):Builtin.Slice.sliceAdjust lo hi 1 (n:Int)=(((sIx n 0 lo:Nat):Int),((sIx n n hi:Nat):Int)):=by
 have a:¬ ((1:Int)<0):=⋯
 unfold Builtin.Slice.sliceAdjust;simp only[a,if_false];refine Prod.ext ?_ ?_
 ·cases lo with
  |none=>rfl
  |some v=>exact Fa v n 0
 ·cases hi with
  |none=>rfl
  |some v=>exact Fa v n n
theorem Ov(i j:Nat):Builtin.Slice.slicePlaces (i:Int) (j:Int) 1=j-i:=by
 unfold Builtin.Slice.slicePlaces;have a:(1:Int) > 0:=⋯
 simp only[a,if_true,Int.ediv_one];split <;> omega
theorem Gz{v:Value}{o:Option Int}{Q:Option Int->Shared->Prop}(p:IsPart v o)(h:Q o s):wpAny (model prog w) A (Builtin.Slice.slicePartIndex v) Q E s:=by
 cases p with
 |none=>exact slicePart_none h
 |int i t=>exact slicePart_int h
theorem Ou{e:Addr}{b d:Value}{lo hi:Option Int}{n:Nat}{Q:Int×Int×Nat->Shared->Prop}(g:s.heap.IsSliceOf e b d .none)(pl:IsPart b lo)(f:IsPart d hi)
  (h:Q (((sIx n 0 lo:Nat):Int),1,sIx n n hi-sIx n 0 lo) s):wpAny (model prog w) A (Builtin.Slice.sliceApplied (.ref e) (pure (n:Int))) Q E s:=by
 obtain⟨i,a,j,c⟩:=id g;unfold Builtin.Slice.sliceApplied Builtin.Slice.sliceFields;refine zA (zA (xA a c (x:=b) rfl (zA (xA a c (x:=d) rfl (zA (xA a c (x:=.none) rfl (zB ?_)))))));refine zA (slicePart_none ?_);show wpAny _ _ (if((1:Int) == 0)=true then _ else _) _ _ s;rw[zD ∅];refine zA (Gz pl (zA (Gz f (zA (zB ?_)))));show wpAny _ _ (match Builtin.Slice.sliceAdjust lo hi 1 (n:Int) with|(lo,hi)=>pure (lo,(1:Int),Builtin.Slice.slicePlaces lo hi 1)) _ _ s;rw[Ow lo hi n];show wpAny _ _ (pure (((sIx n 0 lo:Nat):Int),(1:Int),Builtin.Slice.slicePlaces ((sIx n 0 lo:Nat):Int) ((sIx n n hi:Nat):Int) 1)) _ _ s;rw[Ov];exact zB h
theorem Ot(xs:Array Value)(i k:Nat):((List.range k).filterMap λ(m:Nat)=>xs[((i:Int)+(m:Int)*1).toNat]?).toArray=((xs.toList.drop i).take k).toArray:=by
 have e:(λ(m:Nat)=>xs[((i:Int)+(m:Int)*1).toNat]?)=λm=>xs[i+m]?:=by
  funext m
  have:((i:Int)+(m:Int)*1).toNat=i+m:=⋯
  rw[this]
 rw[e];have:=pick_run xs i k;rw[List.filterMap_map]at this;have a:((λx=>xs[x]?)∘ λx=>i+x)=λm=>xs[i+m]?:=rfl;rw[a]at this;rw[this]
theorem getItem_tuple_cut{c d:Addr}{items:Array Value}{e g:Value}{lo hi:Option Int}{Q:VP}(a:IsTup s.heap c items)(f:s.heap.IsSliceOf d e g .none)(pl:IsPart e lo)(m:IsPart g hi)
  (n:¬ (sIx items.size 0 lo=0/\sIx items.size items.size hi=items.size))
  (h:Q (.ref s.heap.objs.size) {s with heap:=s.heap.push {cls:=.type "tuple",data:=.seq ((items.toList.drop (sIx items.size 0 lo)).take (sIx items.size items.size hi-sIx items.size 0 lo)).toArray}})
  (hsz:items.size<=sizeLine):wpAny (model prog w) A (getItem (.ref c) (.ref d)) Q E s:=by
 have b:sizeOk (.seq ((items.toList.drop (sIx items.size 0 lo)).take (sIx items.size items.size hi-sIx items.size 0 lo)).toArray):=by
  show((items.toList.drop (sIx items.size 0 lo)).take (sIx items.size items.size hi-sIx items.size 0 lo)).toArray.size<=sizeLine;rw[zV,yG,tM,zL];omega
 have t:sIx items.size items.size hi<=items.size:=Ox _ _ (zE _) hi;obtain⟨j,i,l,u⟩:=id f;have k:s.TypeIs (.ref d) "slice" := ⟨j,i,l⟩;unfold getItem
 try with_reducible refine yN ?_
 first|refine zA (zB ?_)|skip
 refine zA (wpAny_sequenceKey a.typeIs ∅ ?_);refine zA (xO (name:=Str.ofString "__getitem__") a.typeIs PyProof.Rows.slot_tuple_getitem
  (xE PyProof.Rows.slot_tuple_getitem a.typeIs entry_tuple_getitem ?_ (args_tuple_getitem _ _)))
 show wpAny _ _ (Builtin.Tuple.tupleItemsOf (.ref c) >>= _) _ _ s;refine zA (tupleItemsOf_ a ?_);refine zA (uH k ?_);rw[zF ∅];refine zA (Ou f pl m ?_);have o:¬ ((((sIx items.size 0 lo:Nat):Int) == 0 && (1:Int) == 1 && (sIx items.size items.size hi-sIx items.size 0 lo) == items.size)=true):=by
  intro q;rw[zN,zN]at q;have r:((sIx items.size 0 lo:Nat):Int)=0:=yO q.1.1;have p:sIx items.size items.size hi-sIx items.size 0 lo=items.size:=yO q.2;exact n ⟨⋯,⋯⟩
 show wpAny _ _ (if(((sIx items.size 0 lo:Nat):Int) == 0 && (1:Int) == 1 && (sIx items.size items.size hi-sIx items.size 0 lo) == items.size)=true then _ else _) _ _ s;rw[zD o,Ot]
 first
  |exact zA (m:=Builtin.Tuple.tupleExact _) (xD (zB ⟨_,rfl,zB h⟩) b)
  |exact zA (m:=Builtin.Tuple.tupleExact _) (xD (zA (zB (zB ⟨_,rfl,zB h⟩))) b)
  |exact zA (zA (m:=Builtin.Tuple.tupleExact _) (xD (zB (zB ⟨_,rfl,zB h⟩)) b))
  |exact zA (zA (m:=Builtin.Tuple.tupleExact _) (xD (zB ⟨_,rfl,zB h⟩) b))
end
end HT
namespace L2
open PySem PySem.Spec PyProof.Rows
open PySem.W (Frag)
abbrev TO:=St->Hp->(Option Int->Hp->Prop)->Prop
def PO(X:Cx)(e:Option Expr)(t:TO):Prop:=
 ∀(pins:PN)(s:Shared)(σ:St)(H:Hp)(Q:Option Int->Hp->Prop),Inv X pins σ H s->t σ H Q ->
  wpAny (model X.prog X.w) X.A (evalPart e X.env) (λu s'=>∃o H',Inv X pins σ H' s'/\IsPart u o/\Q o H') X.xe s
def Bo:TO:=λ_ H Q=>Q none H
def Bn(t:TE):TO:=λσ H Q=>t σ H λx H1=>∃i,x=.int i/\Q (some i) H1
section
variable {X:Cx} {e:Expr} {te:TE} {lo hi:Option Expr} {tl th:TO} {pos p2:Pos}
theorem bN:PO X none Bo:=by
 intro a s b H Q I h;rw[evalPart_none];exact zB ⟨none,H,I,.none,h⟩
theorem eG(h:PE X e te):PO X (some e) (Bn te):=by
 intro b s j H Q I d;rw[evalPart_some];refine thn (h b s j H _ I d) ?_;rintro u k ⟨x,f,g,r1,a⟩;obtain⟨i,rfl,q⟩:=a;obtain⟨c,rfl⟩:=r1;exact⟨some i,f,g,.int i c,q⟩
def SlR(X:Cx)(r:V->Option Int->Option Int->Hp->VK->Prop):Prop:=
 ∀(pins:PN)(s:Shared)(σ:St)(H:Hp)(x:V)(v vl vu:Value)(lo hi:Option Int)(sl:Addr)(Q:VK),Inv X pins σ H s->RelV x v->s.heap.IsSliceOf sl vl vu .none->IsPart vl lo->IsPart vu hi->r x lo hi H Q ->
  ∃T id,typeLookup (.type T) "__getitem__"=pure (some (.builtin id))/\s.TypeIs v T/\wpAny (model X.prog X.w) X.A (getItem v (.ref sl)) (EP X pins σ Q) X.xe s
def tSl(r:V->Option Int->Option Int->Hp->VK->Prop)(te:TE)(tl th:TO):TE:=λσ H Q=>te σ H λx H1=>tl σ H1 λl H2=>th σ H2 λu H3=>r x l u H3 Q
theorem cD{r:V->Option Int->Option Int->Hp->VK->Prop}(hr:SlR X r)(G:PE X e te)(hl:PO X lo tl)(o:PO X hi th):PE X (.Subscript e (.Slice lo hi none p2) pos) (tSl r te tl th):=by
 intro c s d H Q I h;refine Subscript_ (thn (G c s d H _ I h) ?_);rintro v D ⟨x,k,F,r1,z⟩;refine wpAny_Slice (thn (hl c D d k _ F z) λf y⟨l,K,J,pl,n⟩=>thn (o c y d K _ J n) ?_);rintro g a ⟨u,i,j,w,p⟩;rw[evalPart_none];refine zB ?_;have L:Inv X c d i {a with heap:=a.heap.push {cls:=.type "slice",data:=.fields #[f,g,.none]}}:=j.kept (t':=a.toks) λb M q=>zC _ q;obtain⟨T,id,t,C,m⟩:=hr c {a with heap:=a.heap.push {cls:=.type "slice",data:=.fields #[f,g,.none]}} d i x v f g l u a.heap.objs.size Q L r1 (Heap.IsSliceOf.new ..) pl w p;show wpAny (model X.prog X.w) X.A (subscriptTail e (.Slice lo hi none p2) v (.ref a.heap.objs.size)) (EP X c d Q) X.xe {a with heap:=a.heap.push {cls:=.type "slice",data:=.fields #[f,g,.none]}};exact tail_any (ops:=[.ref a.heap.objs.size,v]) C t m (by with_unfolding_all rfl)
def cutV(xs:List V)(lo hi:Option Int):List V:=(xs.drop (HT.sIx xs.length 0 lo)).take (HT.sIx xs.length xs.length hi-HT.sIx xs.length 0 lo)
theorem Gy(xs:List V)(lo hi:Option Int):(cutV xs lo hi).length<=xs.length:=by
 unfold cutV;rw[yG,tM];omega
def rSlT(K:Frag):V->Option Int->Option Int->Hp->VK->Prop:=λx lo hi H Q=>∃a xs,x=.ref a/\SqT K H a xs /\
 ¬ (HT.sIx xs.length 0 lo=0/\HT.sIx xs.length xs.length hi=xs.length)/\∀p,H p=none->Q (.ref p) (upd H p (.tup (cutV xs lo hi)))
theorem Os:SlR X (rSlT X.K):=by
 intro m s p H x v n t lo hi u Q I g l pl k h;obtain⟨a,xs,rfl,i,j,q⟩:=h;cases g;obtain⟨its,r,d,f⟩:=I.tuple i;have c:its.toArray.size=xs.length:=by rw[zV];exact r.length.symm
 refine⟨"tuple",_,PyProof.Rows.slot_tuple_getitem.lookup,d.typeIs,?_⟩;refine HT.getItem_tuple_cut d l pl k (by rw[c];exact j) ?_ (by rw[c];exact f);rw[c];refine⟨.ref s.heap.objs.size,_,I.laid (t':=s.toks) (o:=.tup (cutV xs lo hi)) (λb o q=>zC _ q) (zE _) ?_,rfl,q _ (I.hok.fresh (zE _))⟩;exact⟨yC (Gy xs lo hi) f,_,(r.drop (HT.sIx xs.length 0 lo)).take (HT.sIx xs.length xs.length hi-HT.sIx xs.length 0 lo),IsTup.new _ _⟩
end
def ixN(n:Nat)(i:Int):Option Nat:=if 0<=i then(if i<n then some i.toNat else none) else if -(n:Int)<=i then some (i+n).toNat else none
def atI{α:Type}(xs:List α)(i:Int):Option α:=(ixN xs.length i).bind λj=>xs[j]?
theorem Gx{n:Nat}{i:Int}{j:Nat}(h:ixN n i=some j):seqIndex? i n=some j/\j<n/\-(n:Int)<=i/\i<n:=by
 unfold ixN at h
 by_cases b:0<=i
 ·rw[zF b]at h
  by_cases a:i<n
  ·rw[zF a]at h;have e:i.toNat=j:=zZ h;exact⟨by rw[oC b a,e],⋯,⋯,a⟩
  ·rw[zD a]at h;cases h
 ·rw[zD b]at h
  by_cases a:-(n:Int)<=i
  ·rw[zF a]at h;have e:(i+n).toNat=j:=zZ h;exact⟨by rw[oP ⋯ a,e],⋯,a,⋯⟩
  ·rw[zD a]at h;cases h
theorem Gw{a:Type}{xs:List a}{i:Int}{v:a}(h:atI xs i=some v):∃j,seqIndex? i xs.length=some j/\xs[j]?=some v/\j<xs.length/\-(xs.length:Int)<=i/\i<xs.length:=by
 unfold atI at h;cases e:ixN xs.length i with
 |none=>rw[e]at h;cases h
 |some j =>
  rw[e]at h;obtain⟨c,f,d,b⟩:=Gx e;exact⟨j,c,h,f,d,b⟩
theorem Oq{a:Type}{xs:List a}{j:Nat}{v:a}(h:xs[j]?=some v):atI xs (j:Int)=some v:=by
 have b:j<xs.length:=(nA.mp h).1;have e:ixN xs.length (j:Int)=some j:=by
  unfold ixN;rw[zF ⋯,zF ⋯];simp
 unfold atI;rw[e];exact h
theorem Op{a:Type}(xs:List a)(v:a):atI (xs++[v]) (-1)=some v:=by
 have hl:(xs++[v]).length=xs.length+1:=by simp
 have e:ixN (xs++[v]).length (-1)=some xs.length:=by
  unfold ixN;rw[hl,zD ∅,zF ⋯];congr 1;omega
 unfold atI;rw[e];show(xs++[v])[xs.length]?=some v;simp
def Oo(b:Expr):Prop:=∀o i,subscripted b false o i=operate [o,i] (getItem o i)
def IxR(X:Cx)(r:R2):Prop:=
 ∀(value slice:Expr)(pins:PN)(s:Shared)(σ:St)(H:Hp)(x y:V)(v u:Value)(Q:VK),Inv X pins σ H s->RelV x v->RelV y u->r x y H Q ->
  subscripted slice false v u=operate [v,u] (getItem v u)->wpAny (model X.prog X.w) X.A (subscriptTail value slice v u) (EP X pins σ Q) X.xe s
def MtR(X:Cx)(id:String)(r:V->List V->Hp->VK->Prop):Prop:=
 ∀(pins:PN)(s:Shared)(σ:St)(H:Hp)(x:V)(xs:List V)(v:Value)(us:LW)(Q:VK),Inv X pins σ H s->RelV x v->Vals xs us->r x xs H Q ->
  wpAny (model X.prog X.w) X.A (call (.builtin id) (v:: us)) (EP X pins σ Q) X.xe s
section
variable {X:Cx} {a b:Expr} {ta tb:TE} {pos:Pos}
theorem mG{r:R2}(hr:IxR X r)(k:PE X a ta)(m:PE X b tb)(j:Oo b):PE X (.Subscript a b pos) (tOp r ta tb):=by
 intro c s g H Q I h;exact Subscript_ (binT k m I h λv u l x y f d e i q=>hr a b c l g f x y v u Q d e i q (j _ _))
def rIxL(K:Frag):R2:=λx y H Q=>∃p xs i v,x=.ref p/\y=.int i/\SqL K H p xs/\atI xs i=some v/\Q v H
def rIxT(K:Frag):R2:=λx y H Q=>∃p xs i v,x=.ref p/\y=.int i/\SqT K H p xs/\atI xs i=some v/\Q v H
theorem On:IxR X (rIxL X.K):=by
 intro O M f s m H x y v u Q I t G h e;obtain⟨p,xs,i,z,rfl,rfl,J,K,q⟩:=h;cases t;obtain⟨L,rfl⟩:=G;obtain⟨its,r,pl,P⟩:=I.list J;obtain⟨j,c,F,N,n,C⟩:=Gw K;obtain⟨w,k,D⟩:=r.get F;have hl:=r.length;have R:=dX;have g:EP X f m Q w s:=⟨z,H,I,D,q⟩
 by_cases l:0<=i
 ·have d:i.toNat=j:=by
   rw[oC l C]at c;exact zZ c
  exact item_listR pl.isList l ⋯ (by rw[d];simpa using k) g e
 ·have d:(i+(its.toArray.size:Int)).toNat=j:=by
   rw[oP ⋯ n]at c;rw[zV,←hl];exact zZ c
  exact uV (x:=w) pl.isList.typeIs slot_list_getitem.lookup
   (wpAny_getItem_list_neg (Q:=λr o=>r=w/\EP X f m Q r o) pl.isList ⋯ (by rw[zV] <;> omega) ⋯ (by rw[d];simpa using k) ⟨rfl,g⟩) e
theorem Om:IxR X (rIxT X.K):=by
 intro M K c s d H x y v u Q I f o h g;obtain⟨p,xs,i,z,rfl,rfl,t,C,q⟩:=h;cases f;obtain⟨J,rfl⟩:=o;obtain⟨its,r,pl,N⟩:=I.tuple t;obtain⟨j,k,n,L,F,G⟩:=Gw C;obtain⟨w,D,l⟩:=r.get n;have hl:=r.length;have O:=dX;have m:EP X c d Q w s:=⟨z,H,I,l,q⟩;exact uV (x:=w) pl.typeIs slot_tuple_getitem.lookup
  (getItem_tuple (j:=j) (Q:=λr e=>r=w/\EP X c d Q r e) pl ⋯ ⋯ (by rw[zV,←hl];exact k) (by simpa using D) ⟨rfl,m⟩) g
theorem Ol(its:LW)(n j:Nat)(u:Value):Obj.mapSeq (·.setIfInBounds j u) {cls:=.type "list",data:=.seq its.toArray n}={cls:=.type "list",data:=.seq (its.set j u).toArray n}:=by
 simp[Obj.mapSeq]
theorem Inv.lst{c:PN}{d:St}{H:Hp}{s:Shared}{p:Addr}{xs:List V}(I:Inv X c d H s)(h:H p=some (.lst xs)):
  ∃(its:LW)(n:Nat),Vals xs its/\s.heap.get? p=some {cls:=.type "list",data:=.seq its.toArray n}/\xs.length<=sizeLine:=by
 obtain⟨z,its,n,r,e⟩:=I.hok p _ h;exact⟨its,n,r,e,z⟩
theorem Inv.lstUpd{d:PN}{g:St}{H:Hp}{s:Shared}{p:Addr}{xs ys:List V}{its its':LW}{n c:Nat}{f:Obj->Obj}(I:Inv X d g H s)(h:H p=some (.lst xs))
  (l:s.heap.get? p=some {cls:=.type "list",data:=.seq its.toArray n})(i:f {cls:=.type "list",data:=.seq its.toArray n}={cls:=.type "list",data:=.seq its'.toArray c})(r:Vals ys its')(j:ys.length<=sizeLine)(k:Nat):
  Inv X d g (upd H p (.lst ys)) {s with heap:=s.heap.update p f,toks:=k}:=by
 have e:(s.heap.update p f).get? p=some {cls:=.type "list",data:=.seq its'.toArray c}:=by
  rw[xB f l (by rw[i] <;> rfl),i]
 refine I.write (x:=p) (e:=p) (by rw[h];trivial) (.inl rfl) (λb u m q=>(xJ _ _ (zT m)).trans q) ⟨_,e⟩ ?_;exact⟨j,its',c,r,e⟩
def eI:V->V->V->Hp->(Hp->Prop)->Prop:=λo i v H Q=>∃p xs k j,o=.ref p/\i=.int k/\H p=some (.lst xs)/\ixN xs.length k=some j/\Q (upd H p (.lst (xs.set j v)))
theorem cE:PSet X eI:=by
 intro z s D H o i v L K u Q I F x w h;obtain⟨p,xs,k,j,rfl,rfl,m,y,q⟩:=h;cases F;obtain⟨G,rfl⟩:=x;obtain⟨its,n,r,e,C⟩:=I.lst m;obtain⟨c,J,l,g⟩:=Gx y;have hl:=r.length;have M:=dX;have f:Inv X z D (upd H p (.lst (xs.set j v))) {s with heap:=s.heap.update p (Obj.mapSeq (·.setIfInBounds j u))}:=
  I.lstUpd m e (Ol its n j u) (r.set w j) (by rw[List.length_set];exact C) s.toks
 by_cases t:0<=k
 ·have d:k.toNat=j:=by
   rw[oC t g]at c;exact zZ c
  exact PySem.W.ki_setAt e t ⋯ (by rw[zV,←hl];exact g) (by rw[d];exact⟨_,f,q⟩)
 ·have d:(k+(its.toArray.size:Int)).toNat=j:=by
   rw[oP ⋯ l]at c;rw[zV,←hl];exact zZ c
  exact PySem.W.ki_setBack e ⋯ (by rw[zV,←hl];exact l) ⋯ (by rw[d];exact⟨_,f,q⟩)
theorem Oj(lo hi:Option Int)(n:Nat):(sliceBounds lo hi none n).1=((HT.sIx n 0 lo:Nat):Int)/\(sliceBounds lo hi none n).2.1=((HT.sIx n n hi:Nat):Int)/\(sliceBounds lo hi none n).2.2=1:=by
 refine⟨?_,?_,rfl⟩
 ·cases lo with
  |none=>simp[sliceBounds,HT.sIx]
  |some i =>
   simp only[sliceBounds,HT.sIx,Option.getD_none,show(1:Int) > 0 by decide,if_true]
   by_cases h:i<0
   ·simp only[h,if_true] <;> omega
   ·simp only[h,if_false] <;> omega
 ·cases hi with
  |none=>simp[sliceBounds,HT.sIx]
  |some i =>
   simp only[sliceBounds,HT.sIx,Option.getD_none,show(1:Int) > 0 by decide,if_true]
   by_cases h:i<0
   ·simp only[h,if_true] <;> omega
   ·simp only[h,if_false] <;> omega
theorem Oi(its:LW)(lo hi:Option Int):slicePick its.toArray lo hi none=((its.drop (HT.sIx its.length 0 lo)).take (HT.sIx its.length its.length hi-HT.sIx its.length 0 lo)).toArray:=by
 obtain⟨c,e,d⟩:=Oj lo hi its.toArray.size;unfold slicePick;rw[c,e,d];simp only[sliceRange_one,pick_run,List.size_toArray] <;> rfl
def rSlL(K:Frag):V->Option Int->Option Int->Hp->VK->Prop:=λx lo hi H Q=>∃a xs,x=.ref a/\SqL K H a xs/\∀p,H p=none->Q (.ref p) (upd H p (.lst (cutV xs lo hi)))
theorem Oh:SlR X (rSlL X.K):=by
 intro k s n H x v l o lo hi p Q I e j pl i h;obtain⟨a,xs,rfl,g,q⟩:=h;cases e;obtain⟨its,r,c,f⟩:=I.list g;have d:=r.length;refine⟨"list",_,slot_list_getitem.lookup,c.isList.typeIs,?_⟩;refine wpAny_getItem_list_slice c.isList j pl i .none (by simp) ?_ (by rw[List.size_toArray] <;> omega);rw[Oi,←d];refine⟨.ref s.heap.objs.size,_,I.laid (t':=s.toks) (o:=.lst (cutV xs lo hi)) (λb m q=>zC _ q) (zE _) ?_,rfl,q _ (I.hok.fresh (zE _))⟩;exact⟨yC (Gy xs lo hi) f,_,0,(r.drop (HT.sIx xs.length 0 lo)).take (HT.sIx xs.length xs.length hi-HT.sIx xs.length 0 lo),zQ _ rfl⟩
def gP:V->Bool
 |.non=>true
 |.bl _=>true
 |.int _=>true
 |.str _=>true
 |_=>false
def eqV:V->V->Bool
 |.non,.non=>true
 |.bl a,.bl b=>a == b
 |.bl a,.int b=>(if a then 1 else 0) == b
 |.int a,.bl b=>a == (if b then 1 else 0)
 |.int a,.int b=>a == b
 |.str a,.str b=>a == b
 |_,_=>false
theorem Og{A:Around}{s:Shared}{y x:V}{u v:Value}(f:RelV y u)(c:RelV x v)(g:gP y=true)(e:gP x=true):SeqAt.EqAt A s u v (eqV y x):=by
 cases y with
 |non =>
  cases f;cases x with
  |non=>cases c;exact SeqAt.EqAt.same _
  |bl b=>cases c;exact SeqAt.EqAt.none_bool b
  |int b=>obtain⟨d,rfl⟩:=c;exact SeqAt.EqAt.none_int b d
  |str b=>obtain⟨d,rfl⟩:=c;exact SeqAt.EqAt.none_str b d
  |_=>exact absurd (show false=true from e) yH
 |bl a =>
  cases f;cases x with
  |non=>cases c;exact SeqAt.EqAt.bool_none a
  |bl b=>cases c;exact SeqAt.EqAt.bool_bool a b
  |int b=>obtain⟨d,rfl⟩:=c;exact SeqAt.EqAt.bool_int a b d
  |str b=>obtain⟨d,rfl⟩:=c;exact SeqAt.EqAt.bool_str a b d
  |_=>exact absurd (show false=true from e) yH
 |int a =>
  obtain⟨t',rfl⟩:=f;cases x with
  |non=>cases c;exact SeqAt.EqAt.int_none a t'
  |bl b=>cases c;exact SeqAt.EqAt.int_bool a t' b
  |int b=>obtain⟨d,rfl⟩:=c;exact SeqAt.EqAt.int_int a t' b d
  |str b=>obtain⟨d,rfl⟩:=c;exact SeqAt.EqAt.int_str a t' b d
  |_=>exact absurd (show false=true from e) yH
 |str a =>
  obtain⟨t',rfl⟩:=f;cases x with
  |non=>cases c;exact SeqAt.EqAt.str_none a t'
  |bl b=>cases c;exact SeqAt.EqAt.str_bool a t' b
  |int b=>obtain⟨d,rfl⟩:=c;exact SeqAt.EqAt.str_int a t' b d
  |str b=>obtain⟨d,rfl⟩:=c;exact SeqAt.EqAt.str_str a t' b d
  |_=>exact absurd (show false=true from e) yH
 |_=>exact absurd (show false=true from g) yH
def eqU(x:V)(u:Value):Bool:=match u with
 |.none=>eqV .non x
 |.bool b=>eqV (.bl b) x
 |.int i _=>eqV (.int i) x
 |.str z _=>eqV (.str z) x
 |_=>false
theorem Gv{x y:V}{u:Value}(r:RelV y u)(f:gP y=true):eqU x u=eqV y x:=by
 cases y with
 |non=>cases r;rfl
 |bl b=>cases r;rfl
 |int i=>obtain⟨t,rfl⟩:=r;rfl
 |str z=>obtain⟨t,rfl⟩:=r;rfl
 |_=>exact absurd (show false=true from f) yH
theorem Bm{x:V}:∀{xs:List V}{us:LW},Vals xs us->xs.all gP=true->us.any (eqU x)=xs.any λy=>eqV y x
 |_,_,.nil,_=>rfl
 |y:: xs,u:: us,.cons r t,f=>by
  rw[yV,zN]at f;rw[qR,qR,Gv r f.1,Bm t f.2]
theorem Bl{A:Around}{s:Shared}{x:V}{v:Value}(e:RelV x v)(d:gP x=true):∀{xs:List V}{us:LW},Vals xs us->xs.all gP=true->∀u∈us,SeqAt.EqAt A s u v (eqU x u)
 |_,_,.nil,_=>λu c=>by cases c
 |y:: xs,u:: us,.cons r g,f=>λi c=>by
  rw[yV,zN]at f;rcases xL.mp c with rfl|c
  ·rw[Gv r f.1];exact Og r e f.1 d
  ·exact Bl e d g f.2 i c
def inV(x:V)(xs:List V):Bool:=xs.any λy=>eqV y x
def rIn(K:Frag)(neg:Bool):R2:=λx y H Q=>∃p xs,y=.ref p/\(SqL K H p xs\/SqT K H p xs)/\gP x=true/\xs.all gP=true/\Q (.bl (if neg then !inV x xs else inV x xs)) H
theorem Bk:OpR X (compareOp .NotIn) (rIn X.K true):=by
 intro j s k H x y v u Q I f i h;obtain⟨p,xs,rfl,c,e,fs,q⟩:=h;cases i;rcases c with c|c
 ·obtain⟨its,r,pl,g⟩:=I.list c;refine SeqAt.notIn_listAt (eqU x) pl.isList (λw d=>Bl f e r fs w (by simpa using d)) ⟨.bl _,H,I,rfl,?_⟩;rw[show its.toArray.any (eqU x)=its.any (eqU x) by simp,Bm r fs];exact q
 ·obtain⟨its,r,pl,g⟩:=I.tuple c;refine SeqAt.notIn_tupleAt (eqU x) pl (λw d=>Bl f e r fs w (by simpa using d)) ⟨.bl _,H,I,rfl,?_⟩;rw[show its.toArray.any (eqU x)=its.any (eqU x) by simp,Bm r fs];exact q
theorem Of:kD X (.builtin "len") (λxs H Q=>∃p ys,xs=[.ref p]/\(SqL X.K H p ys\/SqT X.K H p ys)/\Q (.int ys.length) H):=by
 intro i s k H xs us Q I r h;obtain⟨p,ys,rfl,c,q⟩:=h;obtain⟨u,rfl,f⟩:=jM r;cases f;have j:=dX;rcases c with c|c
 ·obtain⟨its,e,pl,g⟩:=I.list c;have d:=e.length;exact Calls.call_len_list pl.isList (by simp only[List.size_toArray] <;> omega) ⟨.int ys.length,H,I.tok _,⟨s.toks+1,by rw[zV,d]⟩,q⟩
 ·obtain⟨its,e,pl,g⟩:=I.tuple c;have d:=e.length;exact len_tuple pl (by simp only[List.size_toArray] <;> omega) ⟨.int ys.length,H,I.tok _,⟨s.toks+1,by rw[zV,d]⟩,q⟩
theorem Oe:kD X (.type "list") (λxs H Q=>∃p ys,xs=[.ref p]/\(SqL X.K H p ys\/SqT X.K H p ys)/\∀l,H l=none->Q (.ref l) (upd H l (.lst ys))):=by
 intro w s z H xs us Q I r h;obtain⟨p,ys,rfl,f,q⟩:=h;obtain⟨u,rfl,y⟩:=jM r;cases y;have t:∀(its:LW),Vals ys its->ys.length<=sizeLine->∀(h':Heap)(d:Nat),(∀b v,s.heap.get? b=some v->h'.get? b=some v) ->
   h'.get? s.heap.objs.size=some {cls:=.type "list",dict:=none,data:=.seq its.toArray d,slots:=#[]}->EP X w z Q (.ref s.heap.objs.size) {s with heap:=h'}:=λits c g h' d i e =>
  ⟨.ref s.heap.objs.size,_,I.laid (t':=s.toks) i (zE _) (show mI X.prog X.w _ h' _ (.lst ys) from⟨g,its,d,c,e⟩),rfl,q _ (I.hok.fresh (zE _))⟩
 rcases f with f|f
 ·obtain⟨its,c,pl,g⟩:=I.list f;have x:=c.length;obtain⟨o,j,k,n,m⟩:=pl.isList;exact call_list_seq p (.inl rfl) j k m (λh' d i e=>t its c g h' d i e) (by simp only[List.size_toArray] <;> omega)
 ·obtain⟨its,c,pl,g⟩:=I.tuple f;have x:=c.length;obtain⟨o,j,k,n,m⟩:=pl;exact call_list_seq p (.inr rfl) j k m (λh' d i e=>t its c g h' d i e) (by simp only[List.size_toArray] <;> omega)
theorem Od:kD X (.type "tuple") (λxs H Q=>∃p ys,xs=[.ref p]/\((SqL X.K H p ys/\∀l,H l=none->Q (.ref l) (upd H l (.tup ys)))\/(SqT X.K H p ys/\Q (.ref p) H))):=by
 intro f s j H xs us Q I r h;obtain⟨p,ys,rfl,h⟩:=h;obtain⟨u,rfl,m⟩:=jM r;cases m;rcases h with⟨c,q⟩|⟨c,q⟩
 ·obtain⟨its,d,pl,g⟩:=I.list c;have t:=d.length;refine call_tuple_list pl.isList (λh' n=>?_) (by simp only[List.size_toArray] <;> omega);have i:Inv X f j H {s with heap:=h'}:=I.kept (t':=s.toks) n;have k:Inv X f j (upd H h'.objs.size (.tup ys)) {s with heap:=h'.push {cls:=.type "tuple",data:=.seq its.toArray}}:=
   i.laid (t':=s.toks) (λb o e=>zC _ e) (zE _) (show mI X.prog X.w _ _ _ (.tup ys) from⟨g,its,d,IsTup.new _ _⟩)
  exact⟨.ref h'.objs.size,_,k,rfl,q _ (i.hok.fresh (zE _))⟩
 ·obtain⟨its,d,pl,g⟩:=I.tuple c;exact call_tuple_same pl ⟨.ref p,H,I,rfl,q⟩
def tyV(K:Frag)(T:String)(x:V)(H:Hp):Prop:=match x with
 |.str _=>T="str"
 |.int _=>T="int"
 | .ref p=>(T="list" /\ ∃xs,SqL K H p xs)\/(T="tuple" /\ ∃o,K.lookup p=some o/\o.cls=.type "tuple" /\ o.dict=none) \/
   (T="dict" /\ ((∃kvs,H p=some (.dK kvs))\/∃kvs,H p=some (.dT kvs)))\/(T="set" /\ ∃S n,H p=some (.set S n))
 |_=>False
theorem Oc{m:PN}{u:St}{H:Hp}{s:Shared}{T:String}{x:V}{v:Value}(I:Inv X m u H s)(r:RelV x v)(ty:tyV X.K T x H):
  s.TypeIs v T/\∀a,v=.ref a->∃l,s.heap.get? a=some l/\l.dict=none:=by
 cases x with
 |str z =>
  obtain⟨g,rfl⟩:=r;cases(show T="str" from ty);exact⟨typeIs_str s z g,λ_ e=>nomatch e⟩
 |int i =>
  obtain⟨g,rfl⟩:=r;cases(show T="int" from ty);exact⟨typeIs_int s i g,λ_ e=>nomatch e⟩
 | ref p =>
  cases r;rcases ty with⟨rfl,xs,q⟩|⟨rfl,o,d,t,k⟩|⟨rfl,d⟩|⟨rfl,w,n,d⟩
  ·obtain⟨its,_,pl,_⟩:=I.list q;refine⟨pl.isList.typeIs,λa e=>?_⟩;cases e;obtain⟨o,n,e,c,k,_⟩:=pl;exact⟨o,e,k⟩
  ·refine⟨⟨o,I.kIn p o d,t⟩,λa e=>?_⟩;cases e;exact⟨o,I.kIn _ o d,k⟩
  ·have z:∃o,s.heap.get? p=some o/\o.ExactDict:=by
    rcases d with⟨kvs,d⟩|⟨kvs,d⟩
    ·obtain⟨_,_,_,_,o,_,_,e,f,_⟩:=I.hok p _ d;exact⟨o,e,f⟩
    ·obtain⟨_,_,_,_,o,_,_,e,f,_⟩:=I.hok p _ d;exact⟨o,e,f⟩
   obtain⟨o,e,f⟩:=z;refine⟨⟨o,e,f.1⟩,λa j=>?_⟩;cases j;exact⟨o,e,f.2.1⟩
  ·obtain⟨o,_,_,_,e,f,_⟩:=I.hok p _ d;refine⟨⟨o,e,f.1⟩,λa j=>?_⟩;cases j;exact⟨o,e,f.2.1⟩
 |_=>exact False.elim ty
def tBM0(K:Frag)(T:String)(r:V->List V->Hp->VK->Prop)(to:TE):TE:=λσ H Q=>to σ H λx H1=>tyV K T x H1/\r x [] H1 Q
def tBM(K:Frag)(T:String)(r:V->List V->Hp->VK->Prop)(to:TE)(t:TA):TE:=λσ H Q=>to σ H λx H1=>tyV K T x H1/\t σ H1 λxs H2=>r x xs H2 Q
variable {o e:Expr} {es:List Expr} {to:TE} {t:TA} {name:Str} {apos cpos:Pos} {T id:String} {r:V->List V->Hp->VK->Prop}
theorem eJ(m:PlainAttrs T)(j:Slot T name id)(q:typeOf (.builtin id)=pure (.type "method_descriptor"))(M:MtR X id r)(D:PE X o to)(l:PA X (e:: es) t)
  (i:attributeBase o name X.env (eval o X.env)=eval o X.env:=by rfl)
  (p:((backTo cpos (starEach (e:: es) X.env)).all (λx=>!x.1) && (backToKw cpos (keywordEach [] X.env)).all (λx=>x.1.isSome)
   && decide ((e:: es).length+([]:List Keyword).length+(if([]:List Keyword).isEmpty then 0 else 1)<30))=true:=by rfl)
  (L:(apos.endLine == cpos.line)=true:=by rfl)(u:starEach (e:: es) X.env=(false,eval e X.env):: starEach es X.env:=by rfl)(K:(backTo cpos (starEach es X.env)).any (·.1)=false:=by rfl):
  PE X (.Call (.Attribute o name apos) (e:: es) [] cpos) (tBM X.K T r to t):=by
 intro c s d H Q I h;refine wpAny_Call_method_late i p L rfl (thn (D c s d H _ I h) ?_);rintro v z ⟨x,k,g,r1,ty,y⟩;obtain⟨C,F⟩:=Oc g r1 ty;refine⟨T,id,m,j,q,C,F,?_⟩;have f:=l cpos c z d k _ g y;rw[u]at f ⊢;refine sZ (by show(false || (backTo cpos (starEach es X.env)).any (·.1))=false;rw[K] <;> rfl) (vY ?_);exact thn f λus w⟨vs,J,G,r2,n⟩=>M c w d J x vs v us Q G r1 r2 n
end
def MtM(X:Cx)(id:String)(r:V->List V->Hp->VK->Prop):Prop:=
 ∀(pins:PN)(s:Shared)(σ:St)(H:Hp)(x:V)(xs:List V)(v:Value)(us:LW)(Q:VK),Inv X pins σ H s->RelV x v->Vals xs us->r x xs H Q ->
  wpAny (model X.prog X.w) X.A (call (.builtin id) (v:: us)) (EP X pins σ Q) X.xe s
theorem Vals.one{x:V}{us:LW}(h:Vals [x] us):∃u,us=[u]/\RelV x u:=by
 cases h with|cons r h=>cases h;exact⟨_,rfl,r⟩
theorem Vals.two{x y:V}{us:LW}(h:Vals [x,y] us):∃u v,us=[u,v]/\RelV x u/\RelV y v:=by
 cases h with|cons r h=>obtain⟨v,rfl,q⟩:=Vals.one h;exact⟨_,_,rfl,r,q⟩
theorem Vals.eraseIdx:∀{xs:List V}{us:LW}(i:Nat),Vals xs us->Vals (xs.eraseIdx i) (us.eraseIdx i)
 |_,_,_,.nil=>.nil
 |_,_,0,.cons _ t=>t
 |_,_,i+1,.cons r t=>.cons r (Vals.eraseIdx i t)
theorem Vals.rep{xs:List V}{us:LW}(h:Vals xs us):∀k:Nat,Vals (List.replicate k xs).flatten (List.replicate k us).flatten
 |0=>.nil
 |k+1=>by
  rw[uM,uM,sV,sV];exact Vals.append h (Vals.rep h k)
theorem Gu{a:Type}:∀(l:List a)(i:Nat),(l.eraseIdx i).length<=l.length
 |[],_=>zE _
 |_:: _,0=>tW _
 |_:: r,i+1=>Nat.succ_le_succ (Gu r i)
theorem Gs(its:LW):∀(k:Nat)(acc:LW),
  List.foldl (λc a=>c++a) acc.toArray (List.replicate k its.toArray)=(acc++(List.replicate k its).flatten).toArray
 |0,acc=>by simp
 | k+1,acc=>by
  have e:acc.toArray++its.toArray=(acc++its).toArray:=by simp
  have b:(acc++its)++(List.replicate k its).flatten=acc++(List.replicate (k+1) its).flatten:=by
   rw[uM,sV,yK]
  rw[←b,←Gs its k (acc++its),←e,uM,vA]
section
variable {X:Cx} {pins:PN} {σ:St} {H:Hp} {s:Shared} {l b:Addr} {xs ys zs:List V}
theorem Inv.lset{its its':LW}{n:Nat}{f:Array Value->Array Value}{t':Nat}(I:Inv X pins σ H s)(j:H l=some (.lst xs))
  (e:s.heap.get? l=some {cls:=.type "list",data:=.seq its.toArray n})(a:f its.toArray=its'.toArray)(c:Vals ys its')(g:ys.length<=sizeLine):
  Inv X pins σ (upd H l (.lst ys)) {s with heap:=s.heap.update l (Obj.mapSeq f),toks:=t'}:=by
 have q:=PySem.IsL.update e f;rw[a]at q;refine I.write (x:=l) (e:=l) (by rw[j];exact trivial) (.inl rfl) (λk u i d=>(xJ s.heap (Obj.mapSeq f) (zT i)).trans d) ⟨_,q⟩ ?_;exact⟨g,its',_,c,q⟩
theorem Inv.lnew{its:LW}{t':Nat}(I:Inv X pins σ H s)(a:Vals ys its)(c:ys.length<=sizeLine):
  Inv X pins σ (upd H s.heap.objs.size (.lst ys)) {s with heap:=s.heap.push {cls:=.type "list",data:=.seq its.toArray},toks:=t'}:=
 I.laid (λ_ _ q=>zC _ q) (zE _) ⟨c,its,0,a,zQ _ rfl⟩
theorem Inv.fresh(I:Inv X pins σ H s):H s.heap.objs.size=none:=I.hok.fresh (zE _)
theorem Inv.lstM(I:Inv X pins σ H s)(a:H l=some (.lst xs)):xs.length<=sizeLine/\∃(its:LW)(n:Nat),Vals xs its/\xs.length=its.length/\s.heap.get? l=some {cls:=.type "list",data:=.seq its.toArray n}:=by
 obtain⟨z,its,n,r,e⟩:=I.hok l _ a;exact⟨z,its,n,r,r.length,e⟩
theorem Ob{n:Nat}(h:n<=sizeLine):Builtin.List.listTooLong n=false:=by
 unfold Builtin.List.listTooLong;exact zJ ⋯
end
section
variable {X:Cx}
def Oa:V->List V->Hp->VK->Prop:=λx vs H Q=>∃l xs y,x=.ref l/\vs=[y]/\H l=some (.lst xs)/\xs.length<sizeLine/\Q .non (upd H l (.lst (xs++[y])))
theorem eK:MtM X "list.append" Oa:=by
 intro f s i H x vs v us Q I c b h;obtain⟨l,xs,y,rfl,rfl,a,g,q⟩:=h;cases c;obtain⟨u,rfl,d⟩:=b.one;obtain⟨z,its,n,r,hl,e⟩:=I.lstM a;refine oM F.slot_list_append ⟨_,e,rfl⟩ F.entry_list_append (F.args_list_append_2 _ _) (PySem.list_append l its.toArray n u (by rw[zV];omega)) ⟨e,?_⟩;refine⟨.non,_,I.lset (its':=its++[u]) a e (by simp) (r.append (.cons d .nil)) ?_,rfl,q⟩;rw[yA,List.length_singleton];omega
def Pz:V->List V->Hp->VK->Prop:=λx vs H Q=>∃l xs i k y,x=.ref l/\vs=[.int i]/\H l=some (.lst xs)/\-(2^63)<=i/\i<2^63/\seqIndex? i xs.length=some k/\xs[k]?=some y/\Q y (upd H l (.lst (xs.eraseIdx k)))
theorem Py:MtM X "list.pop" Pz:=by
 intro C s D H x vs v us Q I d b h;obtain⟨l,xs,i,k,y,rfl,rfl,a,f,t,p,c,q⟩:=h;cases d;obtain⟨u,rfl,j⟩:=b.one;obtain⟨m,rfl⟩:=j;obtain⟨z,its,n,r,hl,e⟩:=I.lstM a;obtain⟨w,o,g⟩:=r.get c;refine oM F.slot_list_pop ⟨_,e,rfl⟩ F.entry_list_pop (F.args_list_pop_2 _ _)
  (MeetsSeq.list_pop_at l its.toArray n i m k w (fitsIndex_both f t) (by rw[zV,←hl];exact p) (by rw[←yI];exact o) (by rw[zV];omega)) ⟨e,?_⟩
 refine⟨y,_,I.lset (its':=its.eraseIdx k) a e ?_ (r.eraseIdx k) ?_,g,q⟩
 ·show its.toArray.eraseIdxIfInBounds k=(its.eraseIdx k).toArray;rw[List.eraseIdxIfInBounds_toArray]
 ·have:=Gu xs k;omega
def rCat:R2:=λx y H Q=>∃l b xs zs,x=.ref l/\y=.ref b/\H l=some (.lst xs)/\H b=some (.lst zs)/\xs.length+zs.length<=sizeLine/\∀p,H p=none->Q (.ref p) (upd H p (.lst (xs++zs)))
theorem eN:OpR X (binaryOp .Add) rCat:=by
 intro k s w H x y v u Q I d i h;obtain⟨l,b,xs,zs,rfl,rfl,j,g,m,q⟩:=h;cases d;cases i;obtain⟨z,its,n,r,hl,e⟩:=I.lstM j;obtain⟨t,a,o,r2,p,f⟩:=I.lstM g;refine PySem.P.add_list e f ?_ (by rw[zV,zV];omega);have c:its.toArray++a.toArray=(its++a).toArray:=by simp
 rw[c];exact⟨.ref _,_,I.lnew (t':=s.toks) (r.append r2) (by rw[yA];omega),rfl,q _ I.fresh⟩
def rRep:R2:=λx y H Q=>∃l k xs,x=.ref l/\y=.int k/\H l=some (.lst xs)/\-(2^63)<=k/\k<2^63/\xs.length*k.toNat<=sizeLine /\
 ∀p,H p=none->Q (.ref p) (upd H p (.lst (List.replicate k.toNat xs).flatten))
theorem Px{a:Type}(xs:List a)(k:Nat):(List.replicate k xs).flatten.length=k*xs.length:=by
 induction k with
 |zero=>simp
 |succ k b=>rw[uM,sV,yA,b,pK,Nat.add_comm]
theorem Gr:OpR X (binaryOp .Mult) rRep:=by
 intro L s N H x y v u Q I j K h;obtain⟨l,k,xs,rfl,rfl,C,G,J,f,q⟩:=h;cases j;obtain⟨b,rfl⟩:=K;obtain⟨z,its,n,r,hl,e⟩:=I.lstM C;have g:its.toArray.size*k.toNat<=sizeLine:=by rw[zV,←hl];exact f
 have o:¬ its.toArray.size*k.toNat > (2^63-1)/8:=by
  have:(sizeLine:Nat)<=(2^63-1)/8:=∅
  omega
 have w:¬ (!Builtin.List.listFitsIndex k)=true:=by
  rw[fitsIndex_both G J];exact yH
 have D:¬ Builtin.List.listTooLong (its.toArray.size*k.toNat)=true:=by
  rw[Ob g];exact yH
 have t:List.foldl (λd c=>d++c) #[] (List.replicate (if its.toArray.isEmpty=true then 0 else k.toNat) its.toArray)=(List.replicate k.toNat its).flatten.toArray:=by
  have p:∀m:Nat,List.foldl (λd c=>d++c) #[] (List.replicate m its.toArray)=(List.replicate m its).flatten.toArray:=λm=>by
   have:=Gs its m [];rw[pZ]at this;exact this
  rw[p];cases its with
  |nil=>simp
  |cons a M=>rw[zD (by simp)]
 refine wpAny_binaryOp_repeat_ref (T:= "list") (U:= "int") ∅ ⟨_,e,rfl⟩ (λi=>typeIs_int i k b) noFill_list_mul F.fills_int_mul F.slot_int_rmul repeat_list F.slot_int_index.lookup
  (oM F.slot_int_rmul (typeIs_int s k b) F.entry_int_rmul (F.args_int_rmul_2 _ _) (int___rmul___int_list k b l its.toArray n)
   ⟨e,rfl,⟨_,e,rfl⟩,oM F.slot_list_mul ⟨_,e,rfl⟩ F.entry_list_mul (F.args_list_mul_2 _ _) (AutoListH.list___mul___list_int_3 l its.toArray n k b w o D) ⟨e,?_⟩⟩)
 rw[t];exact⟨.ref _,_,I.lnew (t':=s.toks) (r.rep k.toNat) (by rw[Px,rS];exact f),rfl,q _ I.fresh⟩
end
section
variable {prog:Program} {w:World} {A:Around} {E:VP} {s:Shared}
set_option maxRecDepth 100000 in
end
end L2
namespace Att
open PySem PySem.W PySem.Calls PyProof.Rows
theorem Pw{P:Params}{h:Heap}:∀(ns:LI')(vs:LW),WellAll P h vs (ns.map WData.int)->IntsAre vs ns:=by
 intro ns
 induction ns with
 |nil =>
  intro vs w;rw[List.map_nil]at w;cases w;exact .nil
 | cons n ns c =>
  intro vs w;rw[zO]at w;cases w with
  |cons a b =>
   cases a;exact .cons _ _ (c _ b)
theorem Pu{l:OpenLaw}{n:Nat}(p:l.most=some n){P:Params}{h:Heap}{args:List WData}{vals:LW}
  (e:l.row.toRowW.claim.pre args=true)(j:WellAll P h vals args):
  ∃a vs ns,vals=[Value.ref a]/\args=[WData.list (ns.map WData.int)]/\h.get? a=some {cls:=.type "list",data:=.seq vs.toArray}/\IntsAre vs ns/\ns.length<=n:=by
 have g:WShape.hasAll [] args [.list .int]=true:=(pre_splitW e).1;have f:l.pre.holds [] {args:=args}=true:=(pre_splitW e).2;obtain⟨d,r,rfl,k,w⟩:=hasAllW_cons g;obtain rfl:=hasAllW_nil w;obtain⟨xs,rfl,u⟩:=hasW_list k;obtain⟨ns,rfl⟩:=items_int u;have i:ns.length<=n:=by
  unfold OpenLaw.pre at f;have b:(WTm.not (.lt (.lit (.int (n:Int))) (.len (.arg 0)))).holds [] {args:=[.list (ns.map .int)]}=true:=by
   have b:=(holds_andW f).1;rw[p]at b;exact b
  have c:=condW_of b (w_not (w_lt w_lit (w_len_list (w_arg rfl))));rw[yM]at c;refine Nat.le_of_not_lt λq=>?_;have m:(n:Int)<((ns.length:Nat):Int):=⋯
  first
   |(rw[zM m]at c;exact absurd c ∅)
   |(simp at c;omega)
 cases j with
 |cons t x =>
  cases x;cases t with
  |list o v=>exact⟨_,_,ns,rfl,rfl,o,Pw ns _ v,i⟩
theorem Pt(l:OpenLaw)(args:List WData):l.row.toRowW.claim.post args (.bool true) args=true:=
 postW_of (r:=l.row.toRowW) (X:=(true == true))
  (show WShape.has [] (.bool true) .bool=true by first|rfl|decide|simp[WShape.has,WShape.arms,WShape.armsAll])
  (show(WTm.eq .res (.lit (.bool true))).value [] {args:=args,res:=some (.bool true),after:=args}=some (.bool (true == true)) from w_eq_bool (w_res rfl) w_lit) rfl
section
variable {prog:Program} {w:World} {A:Around} {E:VP} {s:Shared} {K:Frag}
def u_r(h:Heap)(L d:Addr):PN:=(List.range h.objs.size).filterMap λa=>if a=L\/a=d then none else(h.get? a).map λo=>(a,o)
end
end Att
namespace L2
open PySem PySem.Spec PyProof.Rows
open PySem.W (Frag)
theorem Gq:∀{vs:LW}{ns:LI'},IntsAre vs ns->Vals (ns.map V.int) vs
 |_,_,.nil=>.nil
 |_,_,.cons n t h=>.cons ⟨t,rfl⟩ (Gq h)
def Only(H:Hp):Prop:=∀b,H b=none\/∃o xs,H b=some (.frz o (.lst xs))
theorem Ps{P:Program}{w:World}{K:Frag}{j y:MT}{T:CXT}{k:Nat}{C a:Addr}{O:FuncData}{x:Str}{R:Sp}{c:Shared}{vs:LW}{ns:LI'}
  (KX:K.In c.heap)(I:c.heap.Ns mainGlobals j)(f:c.heap.Ns builtinsNs y)(b7:∀x:Str,x≠"__name__" -> y x=bootBuiltins x)(b3:c.heap.NoLimit)(a0:c.gens=#[])
  (l:c.heap.get? a=some {cls:=.type "list",data:=.seq vs.toArray})(hi:IntsAre vs ns)(hl:ns.length<=sizeLine)(hr:Room k callerA)
  (F:∀base:Heap,K.In base->base.Ns mainGlobals j->FnOk P w K j base T k C O [x] R)(Z:∀(s:Shared)(u:Value),BindsTo s O ⟨[u],[]⟩ [(x,u)])
  (W:∀H:Hp,Only H->SqL K H a (ns.map V.int)->R [.ref a] H (λv _=>v=.bl true) λ_ _ _=>False)
  (b5:∀H e g,T [] H c (λ_ _ _=>False) e g->False):
  codeAny (model P w) callerA (.call (.ref C) ⟨[.ref a],[]⟩) (λr g=>r=.ok (.ret (.bool true))/\OldK c.heap g.heap/\g.os=c.os/\AllBare g.gens) c:=by
 have D:=Gq hi;have a3:=hi.length
 -- from an abstract heap in which nothing but the script may be tracked
 have N:∀H:Hp,Only H->SqL K H a (ns.map V.int)->HOk P w H c.heap->(∀b,H b≠none->b=a)->(H a≠none->K.lookup a=none) ->
   codeAny (model P w) callerA (.call (.ref C) ⟨[.ref a],[]⟩) (λr g=>r=.ok (.ret (.bool true))/\OldK c.heap g.heap/\g.os=c.os/\AllBare g.gens) c:=by
  intro H S a7 M L a6;have J:∀{b:Addr}{o:Obj},c.heap.get? b=some o->H b=none->(hidT c.heap H).get? b=some o:=λe n=>Mf e n;have b4:∀{b:Addr}{o:Obj}{es:Array DictEntry}{ep:Nat},c.heap.get? b=some o->o.data=.dict es ep->H b=none:=λ{b o es ep}e d=>by
   cases q:H b with
   |none=>rfl
   |some u =>
    have t:b=a:=L b (by rw[q];simp);subst t;rw[l]at e;cases e;have d':Data.seq vs.toArray _=Data.dict es ep:=d;cases d'
  have p:∀{b:Addr}{m:MT},c.heap.Ns b m->(hidT c.heap H).Ns b m:=λ{b m}⟨o,es,ep,e,d,r⟩=>⟨o,es,ep,J e (b4 e d),d,r⟩;have G:K.In (hidT c.heap H):=λb o e=>J (KX b o e) (by
   cases q:H b with
   |none=>rfl
   |some u =>
    have t:b=a:=L b (by rw[q];simp);subst t;rw[a6 (by rw[q];simp)]at e;cases e)
  have X:Mod K j (hidT c.heap H):=⟨G,p I,⟨y,p f,b7⟩,let ⟨a4,a8,b0⟩:=b3;⟨a4,p a8,b0⟩⟩;have a2:Env0 P w K j (hidT c.heap H) callerA [] c H:=⟨rfl,X,λb o e=>Me e,sI (Mg _ _),trivial,λb f=>absurd (show b∈([]:LA) from f) (by simp),M,.of_eq a0⟩;refine tK ((F _ G (p I)).run callerA [] c H ⟨[.ref a],[]⟩ [.ref a] [.ref a] _ _ hr a2 (Z c (.ref a)) (.cons rfl .nil) (W H S a7)) λr g h=>?_;cases r with
  |error e=>exact(b5 H e g h).elim
  | ok fl =>
   cases fl with
   |next=>exact False.elim h
   |brk=>exact False.elim h
   |cont=>exact False.elim h
   | ret u =>
    obtain⟨v,H',U,a1,un,Y,a9,q⟩:=h;have b1:v=.bl true:=q;subst b1;obtain rfl:u=Value.bool true:=a9;refine⟨rfl,OldK.of_keep λb o e=>?_,U,a1⟩;cases q:H b with
    |none=>exact un.keep b o e q (by intro z;exact absurd (show b∈([]:LA) from z) (by simp)) (by simp)
    |some u =>
     rcases S b with z|⟨a5,xs,z⟩
     ·rw[q]at z;cases z
     ·have b2:=un.frzs b a5 _ z;obtain⟨e1,_⟩:=M b _ z;obtain⟨b6,_⟩:=Y b _ b2;rw[e]at e1;cases e1;exact b6
 cases hk:K.lookup a with
 |some o =>
  -- the script is one of the module's own objects
  have e:=KX a o hk;rw[l]at e;cases e;refine N (λ_=>none) (λ_=>.inl rfl) (.inr ⟨_,vs.toArray,_,hk,rfl,rfl,rfl,by rw[zV,a3];exact hl,by simpa using D⟩) (λb u z=>by have i:(none:Option HO)=some u:=z;cases i) (λb z=>absurd rfl z) λz=>absurd rfl z
 | none =>
  refine N (λb=>if b=a then some (.frz {cls:=.type "list",data:=.seq vs.toArray} (.lst (ns.map V.int))) else none) (λb=>?_) (.inl (.inr ⟨{cls:=.type "list",data:=.seq vs.toArray},zF rfl⟩)) (λb u z=>?_) (λb z=>?_) λ_=>hk
  ·by_cases f:b=a
   ·exact .inr ⟨_,_,zF f⟩
   ·exact .inl (zD f)
  ·by_cases f:b=a
   ·have i:=(zF f).symm.trans z;cases i;subst f;exact⟨l,by rw[yM];exact hl,vs,_,D,l⟩
   ·have i:=(zD f).symm.trans z;cases i
  ·by_cases f:b=a
   ·exact f
   ·exact absurd (zD f) z
abbrev KOf{K:Frag}{h:Heap}(_:K.In h):Frag:=K
def eO(s:Stmt)(j:Nat):Stmt:=match s with
 |.ClassDef _ _ _ body _ _ _ _ _ _ _=>body.getD j (.Pass ⟨0,0,0,0⟩)
 |_=>.Pass ⟨0,0,0,0⟩
def iL(s:Stmt):Arguments:=match s with
 |.FunctionDef _ a _ _ _ _ _ _ _ _=>a
 |_=>{posonlyargs:=[],args:=[],vararg:=none,kwonlyargs:=[],kw_defaults:=[],kwarg:=none,defaults:=[]}
def jF(s:Stmt):List Stmt:=match s with
 |.FunctionDef _ _ b _ _ _ _ _ _ _=>b
 |_=>[]
def nP(s:Stmt):Scope:=match s with
 |.FunctionDef _ _ _ _ _ _ sc _ _ _=>sc
 |_=>{kind:=.function,names:=[],isGenerator:=false,isCoroutine:=false}
abbrev CX0:CXT:=λ_ _ _ _ _ _=>False
abbrev E0:XK:=λ_ _ _=>False
theorem fJ{X:Cx}:eF CX0 X E0:=λ_ _ _ _ _ _ _ h=>h.elim
structure Fun(K:Frag)(x qual:Str)(st:Stmt)(f:Addr)(fd:FuncData):Prop where
 ex:∃(oc:Value)(od:Option Addr)(kV doc pm:Value)(an:Option Addr)(cdv ct:Value)(osl:Array (Option Value)),
  fd=PySem.W.fnOf x qual (iL st) (jF st) (nP st) .none kV doc pm an cdv ct/\K.lookup f=some ⟨oc,od,.func fd,osl⟩/\PySem.W.codeIn K cdv qual=true
 kp:PySem.W.keepIn K (.ref f)=true
section
variable {P:Program} {w:World} {K:Frag} {mg:MT} {base:Heap}
theorem Fun.ok{x c:Str}{st:Stmt}{f:Addr}{d:FuncData}{N ps:List Str}{k:Nat}{b:Sp}(F:Fun K x c st f d)(i:nZ N ps (nP st))(len:∀vs H Q E,b vs H Q E->vs.length=ps.length)
  (g:∀(cdv:Value)(A:Around)(outer:List Env)(s:Shared)(H:Hp)(vs:List V)(Q:VK)(E:XK),Room k (A.deeper (envOfC c (nP st) s.heap.objs.size f cdv))->b vs H Q E ->
   ∃a,PSs (cxOf CX0 P w K mg base N c (nP st) f cdv A outer s H E).nox (jF st) a/\a {nx:=λ_ H'=>Q .non H',rt:=Q} (jE N vs) H):FnOk P w K mg base CX0 (k+1) f d ps b:=by
 obtain⟨p,od,kV,t,o,m,cdv,n,r,rfl,l,j⟩:=F.ex;refine Bp l j i len λA outer s H vs Q E hr e=>?_;obtain⟨a,h,q⟩:=g cdv A outer s H vs Q E hr e;exact⟨a,h.nox,q⟩
theorem Fun.binds{x g:Str}{st:Stmt}{f:Addr}{e:FuncData}{ps:List Str}(F:Fun K x g st f e)
  (h:∀(kV d c:Value)(a:Option Addr)(cdv b:Value)(us:LW),us.length=ps.length->bindArgs (PySem.W.fnOf x g (iL st) (jF st) (nP st) .none kV d c a cdv b) ⟨us,[]⟩=pure (ps.zip us)):lT K e ps []:=by
 obtain⟨i,od,kV,d,c,a,cdv,b,j,rfl,l,k⟩:=F.ex;exact .all (h kV d c a cdv b)
theorem fun_mk{x a:Str}{st:Stmt}{f:Addr}{i:Value}{od b:Option Addr}{j:Array (Option Value)}{kV g e cdv d:Value}(l:K.lookup f=some ⟨i,od,.func (PySem.W.fnOf x a (iL st) (jF st) (nP st) .none kV g e b cdv d),j⟩)
  (c:PySem.W.codeIn K cdv a=true)(k:PySem.W.keepIn K (.ref f)=true):Fun K x a st f (PySem.W.fnOf x a (iL st) (jF st) (nP st) .none kV g e b cdv d):=⟨⟨i,od,kV,g,e,b,cdv,d,j,rfl,l,c⟩,k⟩
end
theorem fK{n:Nat}(h:n<=1000):n<sizeLine:=wX h ∅
section
variable {X:Cx}
theorem pv(i:Nat){x:Str}{b:Pos}(c:X.N[i]?=some x:=by rfl)(a:Vis X.env.scope x:=by first|exact Or.inl rfl|exact Or.inr (Or.inl rfl)|exact Or.inr (Or.inr rfl))(d:(x == ("__debug__" :Str))=false:=by decide)
  (e:(x == ("__classdict__" :Str))=false:=by decide):PE X (.Name x b) (tVar i):=Mc c a d e
end
theorem iteF{A B:Prop}(h:B):if false=true then A else B:=by
 rw[zD yH];exact h
theorem iteT{A B:Prop}(h:A):if true=true then A else B:=by
 rw[zF rfl];exact h
theorem ite2{c A B:Prop}[Decidable c](a:c->A)(b:¬ c->B):if c then A else B:=by
 by_cases h:c
 ·rw[zF h];exact a h
 ·rw[zD h];exact b h
def Same(H H':Hp):Prop:=∀b o,H b=some o->H' b=some o
theorem Same.refl(H:Hp):Same H H:=λ_ _ h=>h
theorem Same.trans{H d e:Hp}(a:Same H d)(b:Same d e):Same H e:=λc o h=>b c o (a c o h)
theorem Same.seq{K:Frag}{H H':Hp}{a:Addr}{xs:List V}(e:Same H H')(h:SqL K H a xs):SqL K H' a xs:=by
 rcases h with(h|⟨o,h⟩)|h
 ·exact .inl (.inl (e _ _ h))
 ·exact .inl (.inr ⟨o,e _ _ h⟩)
 ·exact .inr h
end L2
set_option maxHeartbeats 4000000
namespace L2
open PySem PySem.Spec PyProof.Rows
open PySem.W (Frag)
inductive E1{T0:Type}(P:T0->Prop):Prop
 |mk (x0:T0):P x0->E1 P
inductive E2{T0 T1:Type}(P:T0->T1->Prop):Prop
 |mk (x0:T0) (x1:T1):P x0 x1->E2 P
inductive E3{T0 T1 T2:Type}(P:T0->T1->T2->Prop):Prop
 |mk (x0:T0) (x1:T1) (x2:T2):P x0 x1 x2->E3 P
inductive E4{T0 T1 T2 T3:Type}(P:T0->T1->T2->T3->Prop):Prop
 |mk (x0:T0) (x1:T1) (x2:T2) (x3:T3):P x0 x1 x2 x3->E4 P
inductive E5{T0 T1 T2 T3 T4:Type}(P:T0->T1->T2->T3->T4->Prop):Prop
 |mk (x0:T0) (x1:T1) (x2:T2) (x3:T3) (x4:T4):P x0 x1 x2 x3 x4->E5 P
inductive E6{T0 T1 T2 T3 T4 T5:Type}(P:T0->T1->T2->T3->T4->T5->Prop):Prop
 |mk (x0:T0) (x1:T1) (x2:T2) (x3:T3) (x4:T4) (x5:T5):P x0 x1 x2 x3 x4 x5->E6 P
inductive E7{T0 T1 T2 T3 T4 T5 T6:Type}(P:T0->T1->T2->T3->T4->T5->T6->Prop):Prop
 |mk (x0:T0) (x1:T1) (x2:T2) (x3:T3) (x4:T4) (x5:T5) (x6:T6):P x0 x1 x2 x3 x4 x5 x6->E7 P
inductive E8{T0 T1 T2 T3 T4 T5 T6 T7:Type}(P:T0->T1->T2->T3->T4->T5->T6->T7->Prop):Prop
 |mk (x0:T0) (x1:T1) (x2:T2) (x3:T3) (x4:T4) (x5:T5) (x6:T6) (x7:T7):P x0 x1 x2 x3 x4 x5 x6 x7->E8 P
inductive E9{T0 T1 T2 T3 T4 T5 T6 T7 T8:Type}(P:T0->T1->T2->T3->T4->T5->T6->T7->T8->Prop):Prop
 |mk (x0:T0) (x1:T1) (x2:T2) (x3:T3) (x4:T4) (x5:T5) (x6:T6) (x7:T7) (x8:T8):P x0 x1 x2 x3 x4 x5 x6 x7 x8->E9 P
inductive A3(a b c:Prop):Prop|mk:a->b->c->A3 a b c
inductive A4(a b c d:Prop):Prop|mk:a->b->c->d->A4 a b c d
inductive A5(a b c d e:Prop):Prop|mk:a->b->c->d->e->A5 a b c d e
inductive A6(a b c d e f:Prop):Prop|mk:a->b->c->d->e->f->A6 a b c d e f
inductive A7(a b c d e f g:Prop):Prop|mk:a->b->c->d->e->f->g->A7 a b c d e f g
inductive A8(a b c d e f g h:Prop):Prop|mk:a->b->c->d->e->f->g->h->A8 a b c d e f g h
inductive A9(a b c d e f g h i:Prop):Prop|mk:a->b->c->d->e->f->g->h->i->A9 a b c d e f g h i
inductive A10(a b c d e f g h i j:Prop):Prop|mk:a->b->c->d->e->f->g->h->i->j->A10 a b c d e f g h i j
inductive A11(a b c d e f g h i j k:Prop):Prop|mk:a->b->c->d->e->f->g->h->i->j->k->A11 a b c d e f g h i j k
inductive A12(a b c d e f g h i j k l:Prop):Prop|mk:a->b->c->d->e->f->g->h->i->j->k->l->A12 a b c d e f g h i j k l
inductive A17(a b c d e f g h i j k l m n o p q:Prop):Prop|mk:a->b->c->d->e->f->g->h->i->j->k->l->m->n->o->p->q->A17 a b c d e f g h i j k l m n o p q
def clOf(env:Env):List (Str×NameKind)->List (Str×Addr)->List (Str×Addr)
 |[],cs=>cs
 |(n,k):: r,cs=>clOf env r (if k == .free then(n,(env.cells.lookup n).getD 0):: cs else cs)
theorem Gp{env:Env}{n:Str}{c:Addr}:∀{l:List (Str×NameKind)}{cs:List (Str×Addr)},(∀y∈l,y.2=.free->∃c,env.cells.lookup y.1=some c) ->
  (clOf env l cs).lookup n=some c->cs.lookup n=some c\/env.cells.lookup n=some c
 |[],_,_,h=>.inl h
 | (m,k):: r,cs,hl,h=>by
  have hr:∀y∈r,y.2=.free->∃c,env.cells.lookup y.1=some c:=λy f=>hl y (zU _ f);rcases Gp hr h with q|q
  ·by_cases a:(k == NameKind.free)=true
   ·rw[zF a]at q;obtain⟨i,e⟩:=hl (m,k) yE (by simpa using a);rw[xG]at q;cases hm:n == m with
    |true =>
     rw[hm]at q;have b:(env.cells.lookup m).getD 0=c:=zZ q;have g:n=m:=by simpa using hm
     rw[e]at b;have d:i=c:=b;rw[g,e,d];exact .inr rfl
    |false =>
     rw[hm]at q;exact .inl q
   ·rw[zD a]at q;exact .inl q
  ·exact .inr q
theorem Bj{env:Env}{n:Str}:∀{l:List (Str×NameKind)}{cs:List (Str×Addr)},((n,NameKind.free)∈l\/∃c,cs.lookup n=some c)->∃c,(clOf env l cs).lookup n=some c
 |[],_,h=>by
  rcases h with h|h
  ·simp at h
  ·exact h
 | (m,k):: r,cs,h=>by
  refine Bj (l:=r) ?_
  by_cases b:(n,NameKind.free)∈r
  ·exact .inl b
  ·refine .inr ?_;rcases h with h|⟨c,h⟩
   ·rcases xL.mp h with e|e
    ·cases e;rw[zF ∅];exact⟨(env.cells.lookup n).getD 0,by rw[xG];simp⟩
    ·exact absurd e b
   ·by_cases a:(k == NameKind.free)=true
    ·rw[zF a,xG];cases hm:n == m with
     |true=>exact⟨_,rfl⟩
     |false=>exact⟨c,h⟩
    ·rw[zD a];exact⟨c,h⟩
theorem Go{b:Scope}{env:Env}(h:∀y∈b.names,y.2=.free->∃c,env.cells.lookup y.1=some c):closureFor b env=pure (clOf env b.names []):=by
 have go:∀(l:List (Str×NameKind))(cs:List (Str×Addr)),(∀y∈l,y.2=.free->∃c,env.cells.lookup y.1=some c) ->
   (forIn l cs (λ(x:Str×NameKind)(r:List (Str×Addr))=>if x.2 == NameKind.free then(do let a ←cellOf env x.1;pure (ForInStep.yield ((x.1,a):: r))) else(pure (ForInStep.yield r):Sem _)):Sem _)=pure (clOf env l cs):=by
  intro l
  induction l with
  |nil=>intro cs _;rfl
  | cons y r f =>
   intro cs hl;obtain⟨n,k⟩:=y;have hr:∀y∈r,y.2=.free->∃c,env.cells.lookup y.1=some c:=λy g=>hl y (zU _ g);rw[uQ]
   by_cases d:(k == NameKind.free)=true
   ·obtain⟨c,e⟩:=hl (n,k) yE (by simpa using d);have e1:cellOf env n=pure c:=by unfold cellOf;rw[show env.cells.lookup n=some c from e]
    dsimp only;rw[zF d,e1];simp only[pure_bind];rw[f _ hr];show _=pure (clOf env r _);rw[zF d,show env.cells.lookup n=some c from e]
    all_goals rfl
   ·dsimp only;rw[zD d];simp only[pure_bind];rw[f _ hr];show _=pure (clOf env r _);rw[zD d]
 have e:closureFor b env=(forIn b.names ([]:List (Str×Addr)) (λ(x:Str×NameKind)(r:List (Str×Addr))=>if x.2 == NameKind.free then(do let a ←cellOf env x.1;pure (ForInStep.yield ((x.1,a):: r))) else(pure (ForInStep.yield r):Sem _)):Sem _):=by
  unfold closureFor
  first
   |rfl
   |(simp only[bind_pure];rfl)
   |(simp;done)
 rw[e];exact go _ _ h
theorem Gn{env:Env}:∀{b:List (Str×NameKind)}{x:Str},b.lookup x=some .free ->
  (b.map λ(n,k)=>if(k == NameKind.free && env.scope.kind == .function && env.kindOf n == some .cell) then(n,NameKind.cell) else(n,k)).lookup x=some .cell \/
  (b.map λ(n,k)=>if(k == NameKind.free && env.scope.kind == .function && env.kindOf n == some .cell) then(n,NameKind.cell) else(n,k)).lookup x=some .free
 |[],_,h=>by simp at h
 | (n,k):: r,x,h=>by
  have c:=@Gn env r x;cases hx:x == n with
  |true =>
   simp only[List.lookup_cons,hx]at h;cases h
   by_cases a:(NameKind.free == NameKind.free && env.scope.kind == .function && env.kindOf n == some .cell)=true
   ·refine .inl ?_;rw[zO];dsimp only;rw[zF a,xG,hx]
   ·refine .inr ?_;rw[zO];dsimp only;rw[zD a,xG,hx]
  |false =>
   simp only[List.lookup_cons,hx]at h;rw[zO];dsimp only
   by_cases a:(k == NameKind.free && env.scope.kind == .function && env.kindOf n == some .cell)=true
   ·rw[zF a,xG,hx];exact c h
   ·rw[zD a,xG,hx];exact c h
structure u_s(X:Cx)(scope:Scope)(x:Str)(fr:List (Str×Nat)):Prop where
 kind:scope.kind=.function
 cell:∀y∈scope.names,y.2≠.cell
 free:∀y∈scope.names,y.2=.free->X.env.kindOf y.1=some .cell\/X.env.kindOf y.1=some .free
 loc:∀y∈scope.names,y.2=.local->scope.names.lookup y.1=some .local
 name:scope.names.lookup x=some .local
 nd:(x:: fr.map (·.1)).Nodup
 fr:∀p∈fr,X.N[p.2]?=some p.1/\scope.names.lookup p.1=some .free
def lV(fr:List (Str×Nat))(σ:St):St:=fr.map λp=>σ.getD p.2 none
section
variable {X:Cx} {scope:Scope} {x:Str} {fr:List (Str×Nat)}
def Gm(i:Nat)(te:TE):TS:=λD σ H=>te σ H λv H1=>D.nx (σ.set i (some v)) H1
end
def Dc(h:Heap)(e:Addr)(o:Option Addr):Prop:=∃oe,h.get? e=some oe/\∀dx,o=some dx->oe.dict=some dx
theorem Pq(o:Obj)(f:Array Value->Array Value):(o.mapFields f).dict=o.dict:=by
 unfold Obj.mapFields;split <;> rfl
section
variable {M:Model} {A:Around} {E:VP} {s:Shared}
theorem Bi{base:Heap}{env:Env}{outer:List Env}{L e:Addr}{g:Obj}{vs:Array Value}{head a0:Value}{O:Bool}{Q:Unit->Shared->Prop}(I:A.frames=some (env:: outer))(hl:s.heap.FunFrames base (env:: outer))(G:env.frame=some L)
  (n:s.heap.get? e=some g)(D:base.StaysIn s.heap)(J:base.get? e=none)(k:g.data=.fields vs)(hsz:1<vs.size)(P:vs[0]?=some a0){od:Option Addr}(N:∀l,od=some l->g.dict=some l)
  (h:∀h',Heap.NotedW base (env:: outer) e g.cls a0 (rawInt L) s.heap h'->Dc h' e od->Q () {s with heap:=h'}):
  wpAny M A (do let a ←frameOf env;let pl ←entryPlaceOf L O;let b ←EntryCells.newEntry head a .none (rawInt L) .none pl;setField (.ref e) 1 b) Q E s:=by
 have F:e∉(env:: outer).filterMap (·.frame):=by
  intro p;have⟨_,o,v,f⟩:=hl.mem p;rw[n]at v;cases v;exact f vs k
 refine zA (wpAny_frameOf_fun I hl G λc j=>zA (wpAny_entryPlaceOf λpl y=>?_));unfold EntryCells.newEntry newFields;refine zA (xD ?_ (y.sizeOk5 _ _ _ _ _));have w:c.get? e=some g:=(j.2.1 e F).trans n;have b1:base.StaysIn c:=λb o q=>(j.2.1 b (by intro p;rw[(hl.mem p).1]at q;cases q)).trans (D b o q);generalize hT:({cls:=.type "traceback",dict:=none,data:=.fields ([head,.ref L,.none,rawInt L,.none]++(if pl.isEmpty then List.replicate 6 Value.none else pl)).toArray}:Obj)=i;have t:=zC (h:=c) i w;refine vL t k hsz ?_;have ne:c.objs.size≠e:=sJ (zK w);have C:=wU k (·.setIfInBounds 1 (Value.ref c.objs.size));have r:=xB (Obj.mapFields (·.setIfInBounds 1 (Value.ref c.objs.size))) t (tG C);have K:((c.push i).update e (Obj.mapFields (·.setIfInBounds 1 (Value.ref c.objs.size)))).get? c.objs.size=some i:=(xJ _ _ (zT ne)).trans (zQ c (by subst hT;rfl));have m:∀b o,b≠e->c.get? b=some o->((c.push i).update e (Obj.mapFields (·.setIfInBounds 1 (Value.ref c.objs.size)))).get? b=some o:=λb o q d=>(xJ _ _ (zT q)).trans (zC _ d);have x:∀b o,s.heap.get? b=some o->(∀vs,o.data≠.fields vs)->b≠e:=λb o d f q=>by
  rw[q,n]at d;cases d;exact f vs k
 refine h _ ⟨λb o q=>m b o (by intro z;rw[z,J]at q;cases q) (b1 b o q),hl.of_keeps λb o d f=>?_,?_,λb o d f=>?_⟩ ⟨_,r,λl q=>(Pq _ _).trans (N l q)⟩
 ·obtain⟨u,q⟩:=j.2.2 b o d;exact⟨_,m b _ (x b o d f) q,rfl⟩
 ·subst hT;exact⟨_,_,c.objs.size,_,_,r,⟨qW _ _,by rw[Array.getElem?_setIfInBounds_ne ∅];exact P⟩,C,by simp[hsz],b1.fresh,ne,K,rfl,by first|(simp;done)|(rcases y with rfl|⟨_,_,_,_,_,_,_,rfl⟩ <;> simp)⟩
 ·obtain⟨u,q⟩:=j.2.2 b o d;exact⟨u,m b _ (x b o d f) q⟩
theorem Gk{base:Heap}{l:List Env}{e:Addr}{n a0 fl:Value}{Q:Unit->Shared->Prop}(x:base.StaysIn s.heap)(hl:s.heap.FunFrames base l)(F:s.heap.TracedAtW base e n a0 fl){od:Option Addr}(C:Dc s.heap e od)
  (h:∀h',base.StaysIn h'->h'.FunFrames base l->h'.TracedW base e n a0->Dc h' e od->s.heap.UpToSlots h'->Q () {s with heap:=h'}):wpAny M A (setFlight (.ref e) none) Q E s:=by
 obtain⟨u,vs,T,I,ts,i,D,t,r,v,j,k,g,y⟩:=F;obtain⟨J,p,G⟩:=C;rw[i]at p;cases p;have m:3<ts.size:=(nE.mp y).1;have d:∀b,b≠T->(s.heap.update T (Obj.mapFields (·.setIfInBounds 3 ((none:Option Addr).elim Value.none λf=>rawInt f)))).get? b=s.heap.get? b:=λb q=>xJ _ _ (zT q);have w:∀b o,s.heap.get? b=some o->(∀vs,o.data≠.fields vs)->b≠T:=λb o a c q=>by
  rw[q,k]at a;cases a;exact c ts g
 unfold setFlight;refine zA (xA i t r ?_);rw[zF (show(Value.ref T != Value.none)=true by simp)];refine vL k g m (h _ (λb o q=>(d b (by intro z;rw[z,v]at q;cases q)).trans (x b o q)) (hl.of_keeps λb o a c=>⟨o,(d b (w b o a c)).trans a,rfl⟩) ?_ ⟨u,(d e (zT j)).trans i,G⟩ λb o a c=>⟨o.slots,(d b (w b o a c)).trans a⟩);exact⟨u,vs,T,_,_,(d e (zT j)).trans i,D,t,r,v,j,xB _ k (tG (wU g _)),wU g _,by simp[m]⟩
theorem Gj{base:Heap}{env:Env}{outer:List Env}{L e:Addr}{m a0:Value}{Q:Unit->Shared->Prop}(D:A.frames=some (env:: outer))(l:env.frame=some L)(R:Heap.FlyingW base (env:: outer) e m a0 s.heap){od:Option Addr}(F:Dc s.heap e od)
  (J:∀h',Heap.HeldW base (env:: outer) e m a0 L h'->Dc h' e od->s.heap.UpToSlots h'->Q () {s with heap:=h'}):wpAny M A (noteFrame (.ref e) env) Q E s:=by
 obtain⟨C,k,x,U,vs,T,S,ts,j,⟨G,P⟩,t,r,O,y,i,g,p⟩:=R;obtain⟨V,n,K⟩:=F;rw[j]at n;cases n;subst G;unfold noteFrame;simp only[l];refine zA (xA j t r ?_);rw[zF (show(Value.ref T != Value.none)=true by simp)];refine zA (xA i g p ?_);rw[zD (show¬ ((Value.none == rawInt L)=true) by simp[rawInt])];refine zA (vL i g (nE.mp p).1 ?_);have f:∀b,b≠T->(s.heap.update T (Obj.mapFields (·.setIfInBounds 3 Value.none))).get? b=s.heap.get? b:=λb q=>xJ _ _ (zT q);have u:∀b o,s.heap.get? b=some o->(∀vs,o.data≠.fields vs)->b≠T:=λb o a d q=>by
  rw[q,i]at a;cases a;exact d ts g
 refine Bi D (x.of_keeps λb o a d=>⟨o,(f b (u b o a d)).trans a,rfl⟩) l ((f e (zT y)).trans j) (λb o q=>(f b (by intro z;rw[z,O]at q;cases q)).trans (C b o q)) k t (nE.mp r).1 P K λh'⟨N,w,I,v⟩c=>?_;exact J h' ⟨N,k,w,I⟩ c λb o a d=>v b o ((f b (u b o a d)).trans a) d
theorem bO{base:Heap}{l:List Env}{e L:Addr}{a a0:Value}{Q:Unit->Shared->Prop}(hh:Heap.HeldW base l e a a0 L s.heap){od:Option Addr}(j:Dc s.heap e od)
  (i:∀h',Heap.FlyingW base l e a a0 h'->Dc h' e od->s.heap.UpToSlots h'->Q () {s with heap:=h'}):wpAny M A (setFlight (.ref e) none) Q E s:=
 let ⟨k,b,g,f⟩:=hh;Gk k g f j λh' k1 k2 k3 c d=>i h' ⟨k1,b,k2,k3⟩ c d
theorem Pp{base:Heap}{l:List Env}{e:Addr}{a a0:Value}{Q:Unit->Shared->Prop}(hh:Heap.FlyingW base l e a a0 s.heap){od:Option Addr}(j:Dc s.heap e od)
  (i:∀h',Heap.FlyingW base l e a a0 h'->Dc h' e od->s.heap.UpToSlots h'->Q () {s with heap:=h'}):wpAny M A (setFlight (.ref e) none) Q E s:=
 let ⟨k,b,g,f⟩:=hh;Gk k g f.at j λh' k1 k2 k3 c d=>i h' ⟨k1,b,k2,k3⟩ c d
theorem Po{base:Heap}{env:Env}{outer:List Env}{L e:Addr}{a a0:Value}{Q:Unit->Shared->Prop}(b:A.frames=some (env:: outer))(o:env.frame=some L)(k:Heap.FlyingW base (env:: outer) e a a0 s.heap){od:Option Addr}(m:Dc s.heap e od)
  (i:∀h',Heap.FlyingW base outer e a a0 h'->Dc h' e od->s.heap.UpToSlots h'->Q () {s with heap:=h'}):wpAny M A (leaving env (.ref e)) Q E s:=by
 unfold leaving;refine zA (Gj b o k m λd hh f g=>?_);refine bO (s:={s with heap:=d}) hh f λn⟨k1,k2,⟨_,_,k3⟩,c⟩l j=>i n ⟨k1,k2,k3,c⟩ l (g.trans j)
theorem Pn{base h:Heap}{env:Env}{outer:List Env}{L e:Addr}{i:Value}{C:LW}{Q:Unit->Shared->Prop}(p:A.frames=some (env:: outer))(g:env.frame=some L)(f:base.StaysIn h)(hl:h.FunFrames base (env:: outer))(c:Heap.MadeExcOf h s.heap e i C)
  (w:∀h' d,Heap.FlyingW base outer e i (.ref d) h'->Dc h' e none->s.heap.UpToSlots h'->Q () {s with heap:=h'}):wpAny M A (leaving env (.ref e)) Q E s:=by
 obtain⟨d,j,D,F⟩:=c.there;have fr:∀b,h.get? b=none->base.get? b=none:=λb a=>by
  cases hq:base.get? b with
  |none=>rfl
  |some r=>rw[f b r hq]at a;cases a
 unfold leaving noteFrame;simp only[g];refine zA (zA (xA j rfl (x:=.none) rfl ?_));rw[zD ∅];refine Bi p (hl.of_keeps λb o a _=>⟨o,c.keeps b o a,rfl⟩) g j (λb o a=>c.keeps b o (f b o a)) (fr e c.new) rfl (by simp) (a0:=.ref d) rfl (od:=none) (λ_ q=>by cases q) ?_;rintro v ⟨z,m,u,k⟩ t;refine bO (s:={s with heap:=v}) ⟨z,fr e c.new,m,u⟩ t λy⟨k1,k2,⟨_,_,k3⟩,l⟩n x=>w y d ⟨k1,k2,k3,l⟩ n (Heap.UpToSlots.trans k x)
end
theorem mI.there{P:Program}{w:World}{H:Hp}{h:Heap}{a:Addr}{o:HO}(x:mI P w H h a o):∃b,h.get? a=some b:=by
 cases o with
 |lst xs=>obtain⟨_,_,_,_,e⟩:=x;exact⟨_,e⟩
 |tup xs=>obtain⟨_,_,_,b,e,_⟩:=x;exact⟨b,e⟩
 |dK kvs=>obtain⟨_,_,_,_,o,_,_,e,_⟩:=x;exact⟨_,e⟩
 |dT kvs=>obtain⟨_,_,_,_,o,_,_,e,_⟩:=x;exact⟨_,e⟩
 |set g n=>obtain⟨o,_,_,_,e,_⟩:=x;exact⟨_,e⟩
 |ins C c fs=>obtain⟨_,_,_,e,_⟩:=x;exact⟨_,e⟩
 |own y=>exact x
 |xd fs=>obtain⟨_,⟨_,_,_,e,_⟩,_⟩:=x;exact⟨_,e⟩
 |rng lo hi=>obtain⟨_,_,_,e⟩:=x;exact⟨_,e⟩
 |frz b u=>exact⟨_,x.1⟩
 |tbl ps=>exact⟨_,x⟩
 |met f y=>exact⟨_,x⟩
 |ext d=>exact x.2.1
abbrev Cov(fs:LA)(h₀:Heap)(H:Hp)(h B:Heap):Prop:=∀b o,h.get? b=some o->b∉fs->((∃o',h₀.get? b=some o')\/∃u,H b=some u)->B.get? b=some o
def FlyX(X:Cx)(pins:PN)(H:Hp)(e:Addr)(C:Value)(od:Option Addr)(h:Heap):Prop:=(∃B a0,Heap.FlyingW B X.stack e C a0 h/\Cov (frs X.stack) X.s₀.heap H h B/\∀p∈X.pn++pins,B.get? p.1=some p.2)/\Dc h e od
def CX1(P:Program)(w:World):CXT:=λouter H s E ev s'=>∃e C od H' B a0,ev=.ref e/\s'.os=s.os/\AllBare s'.gens/\Un (frs outer) [] H H' s.heap s'.heap/\HOk P w H' s'.heap /\
 Heap.FlyingW B outer e C a0 s'.heap/\Cov (frs outer) s.heap H' s'.heap B/\Dc s'.heap e od/\E C od H'
abbrev XE:=St->Value->Option Addr->Hp->Prop
def eP(X:Cx)(EX:XE):Prop:=∀(pins:PN)(σ:St)(H:Hp)(s:Shared)(e:Addr)(C:Value)(od:Option Addr),Inv X pins σ H s->FlyX X pins H e C od s.heap->EX σ C od H->X.xe (.ref e) s
def Gi(X:Cx)(EX:XE):Prop:=∀(pins:PN)(σ:St)(H:Hp)(s:Shared)(h':Heap)(e:Addr)(C:Value)(vs:LW),Inv X pins σ H s->Heap.MadeExcOf s.heap h' e C vs->EX σ C none H->X.xe (.ref e) {s with heap:=h'}
theorem bP{X:Cx}{J:PN}{M:St}{H:Hp}{s:Shared}{g B:Heap}(I:Inv X J M H s)(K:X.stack=X.env:: X.outer)(C:X.env.frame=some X.env.locals)(D:X.ex=[])
  (stay:B.StaysIn g)(sm:s.heap.UpToSlots g)(r:Cov (frs X.stack) X.s₀.heap H s.heap B):
  Un X.fs [] X.H₀ H X.s₀.heap g/\HOk X.prog X.w H g/\Cov X.fs X.s₀.heap H g B:=by
 have u:=I.base;rw[D]at u;have F:frs X.stack=X.env.locals:: X.fs:=by
  rw[K];unfold frs;rw[tY,C];rfl
 have l:∀b o,X.s₀.heap.get? b=some o->b∉X.fs->b∉frs X.stack:=λb o e c m=>by
  rw[F]at m;rcases xL.mp m with z|z
  ·exact absurd (zP (zK e) I.ok.above) (by rw[z];exact yZ _)
  ·exact c z
 have trk:∀b v,H b=some v->b∉frs X.stack:=λb v e m=>by
  have:=I.stkFree b m;rw[e]at this;cases this
 have i:∀b o,s.heap.get? b=some o->b∉frs X.stack->((∃f,X.s₀.heap.get? b=some f)\/∃v,H b=some v)->g.get? b=some o:=λb o e c t=>stay b o (r b o e c t);have y:∀b,b∈X.fs->∀o,s.heap.get? b=some o->∃w,g.get? b=some {o with slots:=w}:=λb c o e=>by
  obtain⟨_,f,d,G⟩:=I.funs.mem c;rw[e]at d;cases d;exact sm b o e G
 refine⟨⟨λb o e n c k=>?_,λb o e n c k=>?_,u.free,λb o e k=>?_,u.tups,u.frzs,u.tbls⟩,λa o p=>?_,λb o e c t=>?_⟩
 ·exact i b o (u.keep b o e n c k) (l b o e c) (.inl ⟨o,e⟩)
 ·obtain⟨w,e1⟩:=u.slot b o e n c k;obtain⟨L,x⟩:=y b c _ e1;exact⟨L,x⟩
 ·obtain⟨j,e1⟩:=u.there b o e k
  by_cases c:b∈X.fs
  ·obtain⟨w,x⟩:=y b c _ e1;exact⟨_,x⟩
  ·exact⟨j,i b j e1 (l b o e c) (.inl ⟨o,e⟩)⟩
 ·refine(I.hok a o p).stay (λb v c q=>?_) (λ_ q=>q) λ_ _ q=>q;rcases c with c|c
  ·subst c;exact i b v q (trk b o p) (.inr ⟨o,p⟩)
  ·exact i b v q (trk b _ c) (.inr ⟨_,c⟩)
 ·rcases t with⟨f,d⟩|⟨v,d⟩
  ·obtain⟨j,e1⟩:=u.there b f d (by simp);have q:=i b j e1 (l b f d c) (.inl ⟨f,d⟩);rw[e]at q;cases q;exact r b o e1 (l b f d c) (.inl ⟨f,d⟩)
  ·obtain⟨j,e1⟩:=(I.hok b v d).there;have q:=i b j e1 (trk b v d) (.inr ⟨v,d⟩);rw[e]at q;cases q;exact r b o e1 (trk b v d) (.inr ⟨v,d⟩)
section
variable {P:Program} {w:World} {K:Frag} {mg:MT} {base:Heap} {N:List Str} {qual:Str} {scope:Scope} {f:Addr} {cd:Value} {A:Around} {outer:List Env} {s₀:Shared} {H₀:Hp} {E:XK}
theorem Bh:eP (cxOf (CX1 P w) P w K mg base N qual scope f cd A outer s₀ H₀ E) (λ_ C od H=>E C od H):=by
 intro j l H s e C od I F d;obtain⟨⟨B,a0,fl,c,_⟩,b⟩:=F;refine Po I.ok.frames rfl fl b λk a g sm=>?_;obtain⟨un,ok,i⟩:=bP I rfl rfl rfl a.1 sm c;exact⟨e,C,od,H,B,a0,rfl,I.os,I.bare,un,ok,a,i,g,d⟩
theorem iX:Gi (cxOf (CX1 P w) P w K mg base N qual scope f cd A outer s₀ H₀ E) (λ_ C od H=>E C od H):=by
 intro p u H s h' e C vs I M j;have i:=I.stack;have d:=PySem.W.funFrames_hide (as:=frs (cxOf (CX1 P w) P w K mg base N qual scope f cd A outer s₀ H₀ E).stack) i (λenv g a m=>nD.mpr ⟨env,g,m⟩);refine Pn (s:={s with heap:=h'}) (h:=s.heap) I.ok.frames rfl (λb o q=>qK _ q) d M λt r c k sm=>?_;obtain⟨un,ok,l⟩:=bP I rfl rfl rfl c.1 ((Heap.UpToSlots.of_keeps M.keeps).trans sm) λb o q n _=>rW _ q n;exact⟨e,C,none,H,_,_,rfl,I.os,I.bare,un,ok,c,l,k,j⟩
end
section
variable {X:Cx} {EX:XE} {k:Nat} {f:Addr} {fd:FuncData} {ps:List Str} {sp:Sp} {dvs:List V} {ds:LW} {x:Str} {p pos:Pos} {e:Expr} {es:List Expr} {t:TA}
def Pm(sp:Sp)(dvs:List V)(EX:XE)(t:TA):TE:=λσ H Q=>t σ H λvs H1=>sp (vs++dvs) H1 Q λC od H'=>EX σ C od H'
theorem Pl{d:PN}{c:St}{H:Hp}{s:Shared}{Q:VK}{us:LW}{vs:List V}(F:FnOk X.prog X.w X.K X.mg X.base (CX1 X.prog X.w) k f fd ps sp)(hr:Room k X.A)(i:lT X.K fd ps ds)(L:Vals dvs ds)(N:eP X EX)
  (J:X.ex=[])(I:Inv X d c H s)(r:Vals vs us)(h:sp (vs++dvs) H Q λC od H'=>EX c C od H'):wpAny (model X.prog X.w) X.A (call (.ref f) us) (EP X d c Q) X.xe s:=by
 have r2:Vals (vs++dvs) (us++ds):=r.append L;have hl:(us++ds).length=ps.length:=by rw[←r2.length];exact F.len _ _ _ _ h
 refine uS (tK (F.run X.A X.stack s H ⟨us,[]⟩ (us++ds) (vs++dvs) Q _ hr I.env0 (i s us I.kIn hl) r2 h) λr j a=>?_);cases r with
 | error S =>
  obtain⟨e,C,od,H',B,a0,rfl,v,y,un,ok,fl,l,D,q⟩:=a;have n:Inv X d c H' j:=I.call' v un ok y λb z=>absurd z (by simp);refine N d c H' j e C od n ⟨⟨B,a0,fl,λb o e1 i g=>l b o e1 i ?_,λp m=>?_⟩,D⟩ q
  ·rcases g with⟨G,M⟩|g
   ·obtain⟨w,O⟩:=I.base.there b G M (by rw[J];simp);exact .inl ⟨w,O⟩
   ·exact .inr g
  ·obtain⟨e1,R,ne,K,_⟩:=n.pin p m;refine l p.1 p.2 e1 (λP=>?_) (.inl ⟨_,(I.pin p m).1⟩);rcases xL.mp (I.stkSub p.1 P) with z|z
   ·exact ne z
   ·exact K z
 |ok fl =>
  cases fl with
  |ret u=>exact I.after a
  |next=>exact False.elim a
  |brk=>exact False.elim a
  |cont=>exact False.elim a
theorem Bg(F:FnOk X.prog X.w X.K X.mg X.base (CX1 X.prog X.w) k f fd ps sp)(hr:Room k X.A)(n:Gl X x)(w:X.mg x=some (.ref f))(l:PySem.W.keepIn X.K (.ref f)=true)(v:lT X.K fd ps ds)(m:Vals dvs ds)(g:eP X EX)
  (o:PA X (e:: es) t)(j:X.ex=[]:=by rfl)(d:(x == ("__debug__" :Str))=false:=by decide)(c:starEach (e:: es) X.env=(false,eval e X.env):: starEach es X.env:=by rfl)(i:(backTo pos (starEach es X.env)).any (·.1)=false:=by rfl):
  PE X (.Call (.Name x p) (e:: es) [] pos) (Pm sp dvs EX t):=by
 intro b s u H Q I h;refine wE (iV I n w ?_ d);refine sL (h₀:=X.base) I.ok.mod.kin l (thn (o pos b s u H _ I h) λus y⟨vs,z,a,r,q⟩=>⟨a.kIn,?_⟩) c i;exact Pl F hr v m g j a r q
theorem Be{P:Program}{w:World}{Y:Cx}:eF (CX1 P w) Y E0:=λ_ _ _ _ _ _ _ h=>by
 obtain⟨_,_,_,_,_,_,_,_,_,_,_,_,_,_,q⟩:=h;exact q.elim
end
theorem Pk{K:Frag}{h:Heap}{C:Addr}{f:LW}{newId:String}(KX:K.In h)(a:PySem.W.excIn K C f newId=true):
  ∃bm N nm b bs c sn sub ab col dd k0 k1 k2 k3 k5 mN,h.get? C=some (excClassObj nm b C N bs bm c sn sub ab col dd k0 k1 k2 k3 k5 newId)/\h.Ns N mN/\mN "__init__"=none/\OwnTail h f bm:=by
 revert a
 unfold PySem.W.excIn;split
 ·next dd q d w =>
  split
  ·next r bm k0 k1 k2 k3 g k5 i es =>
   intro a;simp only[Bool.and_eq_true,beq_iff_eq,Bool.not_eq_true']at a;obtain⟨⟨⟨⟨⟨e1,v⟩,j⟩,t⟩,e⟩,m⟩:=a;subst e1 v;cases q with
   | mk nm bs n ns b c sn sub ab col u =>
    have p:n=Value.ref r:: bm:=i;have k:u=false:=j;subst p k;have o:d=#[k0,k1,k2,k3,some (Value.builtin g),k5]:=by
     cases d with
     |mk l=>exact wZ Array.mk es
    subst o;exact⟨bm,ns,nm,b,bs,c,sn,sub,ab,col,dd,k0,k1,k2,k3,k5,_,KX _ _ w,pV (qM KX e),PySem.W.nsMap_none_of_in KX e m,PySem.W.tail_of_in KX t⟩
  ·intro z;cases z
 ·intro z;cases z
section
variable {X:Cx} {EX:XE} {C:Addr} {x:Str} {np cpos pos:Pos} {e₀:Expr} {rest:List Expr} {t:TA} {bmB:LW} {B newId initId:String}
def iY(C:Addr)(EX:XE)(t:TA):TS:=λ_ σ H=>t σ H λvs H1=>vs.length<=sizeLine/\EX σ (.ref C) none H1
theorem iZ(o:X.calm=true)(G:Gi X EX)(l:Gl X x)(K:X.mg x=some (.ref C))(j:PySem.W.excIn X.K C bmB newId=true)(b:ExcBaseFacts B newId initId bmB)(m:PA X (e₀:: rest) t)
  (v:(x == ("__debug__" :Str))=false:=by decide)(f:starEach (e₀:: rest) X.env=(false,eval e₀ X.env):: starEach rest X.env:=by rfl)(J:(backTo cpos (starEach rest X.env)).any (·.1)=false:=by rfl):
  PS X (.Raise (some (.Call (.Name x np) (e₀:: rest) [] cpos)) none pos) (iY C EX t):=by
 intro d s g H D I h;obtain⟨bm,N,nm,q,bs,y,sn,sub,ab,col,dd,k0,k1,k2,k3,k5,mN,p,i,w,T⟩:=Pk I.mod.kin j;have k:(backTo cpos (starEach (e₀:: rest) X.env)).any (·.1)=false:=by
  rw[f];show(false || (backTo cpos (starEach rest X.env)).any (·.1))=false;rw[J];rfl
 refine wpAny_Raise_call_subT (C:=C) (nm:=nm) (q:=q) (N:=N) (bs:=bs) (bm:=bm) (hdct:=y) (sn:=sn) (sub:=sub) (ab:=ab) (col:=col) (dd:=dd) (k0:=k0) (k1:=k1) (k2:=k2) (k3:=k3) (k5:=k5) b (mN:=mN) (T.hasType b.hasBase) (I.ok.hd o) k w
  (iV I l K ⟨rfl,?_⟩ v)
 have c:=m cpos d s g H _ I h;rw[f]at c ⊢;refine vY (thn c λus u⟨vs,F,a,r,z,n⟩=>⟨rfl,?_,a.bk _ _ p,i.keeps a.bk,T.keeps a.bk,λh' e M=>G d g F u h' e _ us a M n⟩);show us.length<=sizeLine;rw[←r.length];exact z
end
section
variable {X:Cx} {pins:PN} {σ:St} {H:Hp} {s:Shared}
theorem Inv.flown{h' B:Heap}(I:Inv X pins σ H s)(q:X.stack=X.env:: X.outer)(j:X.env.frame=some X.env.locals)(b:X.ex=[])(stay:B.StaysIn h')(sm:s.heap.UpToSlots h')(w:Cov (frs X.stack) X.s₀.heap H s.heap B)
  (t:∀p∈X.pn++pins,B.get? p.1=some p.2):Inv X pins σ H {s with heap:=h'}:=by
 obtain⟨un,ok,_⟩:=bP I q j b stay sm w;have a:∀c v,s.heap.IsCell c v->h'.IsCell c v:=λc v⟨o,e,d⟩=>by
  obtain⟨D,g⟩:=sm c o e λvs z=>by rw[d]at z;cases z
  exact⟨_,g,d⟩
 refine⟨I.ok,I.os,I.bare,by rw[b];exact un,?_,λx c e=>?_,I.free,I.freeC,λp f=>?_,ok,I.len⟩
 ·obtain⟨m,y,hl⟩:=I.loc;refine⟨m,sm.ns y,λi x v e1 C n=>?_⟩;obtain⟨u,r,l⟩:=hl i x v e1 C n;refine⟨u,r,?_⟩;rcases l with l|⟨k,c,e,z⟩
  ·exact .inl l
  ·exact .inr ⟨k,c,e,a c _ z⟩
 ·obtain⟨v,z⟩:=I.cell x c e;exact⟨v,a c v z⟩
 ·obtain⟨_,r⟩:=I.pin p f;exact⟨stay _ _ (t p f),r⟩
def iF(e:Addr)(C:Value)(od:Option Addr):HO:=.ext λh=>∃o,h.get? e=some o/\o.cls=C/\PySem.W.notCls o=true/\∀dx,od=some dx->o.dict=some dx
theorem Inv.trackE{e:Addr}{C:Value}{od:Option Addr}{d:Obj}{vs:Array Value}(I:Inv X pins σ H s)(i:s.heap.get? e=some d)(L:d.cls=C)(j:d.data=.fields vs)(t:∀w,od=some w->d.dict=some w)(K:H e=none)(M:X.s₀.heap.get? e=none)(D:∀p∈X.pn++pins,p.1≠e):
  Inv X pins σ (upd H e (iF e C od)) s:=by
 have ne:∀b u,H b=some u->b≠e:=λb u q z=>by rw[z,K]at q;cases q
 have N:X.env.locals≠e:=λz=>by
  obtain⟨m,⟨o,es,ep,f,g,_⟩,_⟩:=I.loc;rw[z,i]at f;cases f;rw[j]at g;cases g
 have F:∀x c,X.env.cells.lookup x=some c->c≠e:=λx c q z=>by
  obtain⟨v,o,f,g⟩:=I.cell x c q;rw[z,i]at f;cases f;rw[j]at g;cases g
 have u:=I.base;refine⟨I.ok,I.os,I.bare,⟨u.keep,u.slot,λb o q n J=>?_,u.there,λb xs q=>?_,λb o v q=>?_,λb ps q=>?_⟩,I.loc,I.cell,?_,λx c q=>?_,λp l=>?_,λa o q=>?_,I.len⟩
 ·rw[nO (λz=>by rw[z,M]at q;cases q)];exact u.free b o q n J
 ·have:=u.tups b xs q;rw[nO (ne _ _ this)];exact this
 ·have:=u.frzs b o v q;rw[nO (ne _ _ this)];exact this
 ·obtain⟨m,e1⟩:=u.tbls b ps q;exact⟨m,by rw[nO (ne _ _ e1)];exact e1⟩
 ·rw[nO N];exact I.free
 ·rw[nO (F x c q)];exact I.freeC x c q
 ·obtain⟨e1,G,r⟩:=I.pin p l;exact⟨e1,by rw[nO (D p l)];exact G,r⟩
 ·by_cases y:a=e
  ·subst y;rw[nN]at q;cases q;exact⟨⟨d,i,L,by unfold PySem.W.notCls;rw[j],t⟩,⟨d,i⟩,λO t⟨o,e1,r⟩k=>⟨o,k o e1,r⟩⟩
  ·rw[nO y]at q;exact(I.hok a o q).stay (λ_ _ _ z=>z) (λb z=>by rw[nO (ne _ _ z)];exact z) λb xs z=>by rw[nO (ne _ _ z)];exact z
theorem Inv.unbind{h':Heap}{m:MT}{u:Option Value}{i:Nat}{n:Str}(I:Inv X pins σ H s)(N:X.N.Nodup)(hi:X.N[i]?=some n)(hl:X.env.scope.names.lookup n=some .local)
  (S:s.heap.Ns X.env.locals m)(R:h'.Ns X.env.locals (λx=>if x=n then u else m x))(C:Heap.SameBut X.env.locals s.heap h')(T:∀(j:Nat) x v,X.N[j]?=some x->σ[j]?=some (some v)->Vis X.env.scope x->∃u,RelV v u/\Look X.env s.heap m x u):
  Inv X pins (σ.set i none) H {s with heap:=h'}:=by
 obtain⟨V,U,W,Y,_⟩:=id S;have D:∀b o,X.s₀.heap.get? b=some o->b≠X.env.locals:=λb o e=>zW (zP (zK e) I.ok.above);have t:∀b o,b≠X.env.locals->s.heap.get? b=some o->h'.get? b=some o:=λb o d e=>(C.2 b d).trans e;have J:∀b v,H b=some v->b≠X.env.locals:=λb v e z=>by rw[z,I.free]at e;cases e
 have f:=I.base;refine⟨I.ok,I.os,I.bare,⟨λb o e n d g=>t b o (D b o e) (f.keep b o e n d g),λb o e n d g=>?_,f.free,λb o e g=>?_,f.tups,f.frzs,f.tbls⟩,⟨_,R,λj x v e1 y M=>?_⟩,λx c e=>?_,I.free,I.freeC,λp P=>?_,λa o e=>?_,by simpa using I.len⟩
 ·obtain⟨O,e1⟩:=f.slot b o e n d g;exact⟨O,t b _ (D b o e) e1⟩
 ·obtain⟨G,e1⟩:=f.there b o e g;exact⟨G,t b G (D b o e) e1⟩
 ·have F:j≠i:=λz=>by
   subst z;have L:j<σ.length:=by rw[I.len];exact(nA.mp hi).1
   rw[xR L]at y;cases y
  rw[uB (zT F)]at y;have g:x≠n:=λz=>F (By N e1 (z ▸ hi));obtain⟨w,r,l⟩:=T j x v e1 y M;refine⟨w,r,?_⟩;rcases l with⟨k,e⟩|⟨k,c,e,z⟩
  ·exact .inl ⟨k,by simp[g,e]⟩
  ·exact .inr ⟨k,c,e,z.sameBut C (I.cne x c e)⟩
 ·obtain⟨v,z⟩:=I.cell x c e;exact⟨v,z.sameBut C (I.cne x c e)⟩
 ·obtain⟨e1,K,ne,r⟩:=I.pin p P;exact⟨t _ _ ne e1,K,ne,r⟩
 ·refine(I.hok a o e).stay (λb v d q=>t b v ?_ q) (λ_ q=>q) λ_ _ q=>q;rcases d with d|d
  ·rw[d];exact J a o e
  ·exact J b _ d
end
abbrev Cx.body(X:Cx)(pn:PN)(E:VP):Cx:={X with pn:=pn,xe:=E}
abbrev Cx.suite(X:Cx)(e:Addr):Cx:={X with A:=X.A.mark (some (.ref e)),calm:=false,xe:=λ_ _=>False}
section
variable {X:Cx} {pins pins':PN} {σ:St} {H:Hp} {s:Shared} {E:VP} {e:Addr}
theorem Inv.intry(I:Inv X pins σ H s):Inv (X.body (X.pn++pins) E) [] σ H s:=
 ⟨⟨I.ok.mod,I.ok.kind,I.ok.glob,I.ok.blt,I.ok.above,I.ok.inj,I.ok.has,I.ok.cab,I.ok.hd,I.ok.frames,I.ok.stk,I.ok.exf,I.ok.bs,I.ok.bsz,I.ok.noex,I.ok.exfs,I.ok.funs,I.ok.frf⟩,
  I.os,I.bare,I.base,I.loc,I.cell,I.free,I.freeC,λp a=>I.pin p (by simpa using a),I.hok,I.len⟩
theorem Inv.offtry(I:Inv (X.body (X.pn++pins) E) pins' σ H s):Inv X pins σ H s:=
 ⟨⟨I.ok.mod,I.ok.kind,I.ok.glob,I.ok.blt,I.ok.above,I.ok.inj,I.ok.has,I.ok.cab,I.ok.hd,I.ok.frames,I.ok.stk,I.ok.exf,I.ok.bs,I.ok.bsz,I.ok.noex,I.ok.exfs,I.ok.funs,I.ok.frf⟩,
  I.os,I.bare,I.base,I.loc,I.cell,I.free,I.freeC,λp a=>I.pin p (xI _ a),I.hok,I.len⟩
theorem Inv.insuite(I:Inv X pins σ H s):Inv (X.suite e) pins σ H s:=
 ⟨⟨I.ok.mod,I.ok.kind,I.ok.glob,I.ok.blt,I.ok.above,I.ok.inj,I.ok.has,I.ok.cab,(λz=>by cases z),I.ok.frames,I.ok.stk,I.ok.exf,I.ok.bs,I.ok.bsz,I.ok.noex,I.ok.exfs,I.ok.funs,I.ok.frf⟩,
  I.os,I.bare,I.base,I.loc,I.cell,I.free,I.freeC,I.pin,I.hok,I.len⟩
theorem Inv.offsuite(I:Inv (X.suite e) pins σ H s)(ok:X.Ok):Inv X pins σ H s:=
 ⟨ok,I.os,I.bare,I.base,I.loc,I.cell,I.free,I.freeC,I.pin,I.hok,I.len⟩
theorem SP.offtry{D:Ends}{f:Flow}(h:SP (X.body (X.pn++pins) E) [] D f s):SP X pins D f s:=by
 cases f with
 |next=>obtain⟨b,H',a,q⟩:=h;exact⟨b,H',a.offtry,q⟩
 |brk=>obtain⟨b,H',a,q⟩:=h;exact⟨b,H',a.offtry,q⟩
 |cont=>obtain⟨b,H',a,q⟩:=h;exact⟨b,H',a.offtry,q⟩
 |ret u=>obtain⟨v,b,H',a,r,q⟩:=h;exact⟨v,b,H',a.offtry,r,q⟩
end
def Ends.gone(D:Ends)(i:Nat):Ends:={nx:=λσ H=>D.nx (σ.set i none) H,rt:=D.rt,bk:=λσ H=>D.bk (σ.set i none) H,ct:=λσ H=>D.ct (σ.set i none) H}
def tTry(K:Frag)(C0:Addr)(i:Nat)(tb:XE->TS)(ts:TS):TS:=λD σ H =>
 tb (λσ' C od H'=>PySem.W.exmOne K C (.ref C0)=some true/\∀e,H' e=none->ts (D.gone i) (σ'.set i (some (.ref e))) (upd H' e (iF e C od))) D σ H
section
variable {X:Cx} {C0:Addr} {x n:Str} {np hpos pos:Pos} {i:Nat} {body suite:List Stmt} {b₀:Stmt} {tb:XE->TS} {ts:TS}
theorem Pj{j:PN}{D:Ends}{f:Flow}{s:Shared}{e:Addr}(ok:X.Ok)(t:X.N.Nodup)(hi:X.N[i]?=some n)(hl:X.env.scope.names.lookup n=some .local)(h:SP (X.suite e) j (D.gone i) f s):
  wpAny (model X.prog X.w) X.A (do bindName X.env n .none;unbindBehindTheSuite X.env n hpos) (λ_ b=>SP X j D f b) X.xe s:=by
 have I:(X.env.scope.kind == .class || (X.env.scope.kind == .module && X.env.locals != X.env.globals))=false:=by rw[ok.kind];rfl
 have g:∀(a:St)(H':Hp),Inv (X.suite e) j a H' s->∀(R:Shared->Prop),(∀b,Inv X j (a.set i none) H' b->R b) ->
   wpAny (model X.prog X.w) X.A (do bindName X.env n .none;unbindBehindTheSuite X.env n hpos) (λ_ b=>R b) X.xe s:=by
  intro a H' c R K;have w:=c.offsuite ok;refine zA (oF (fE (v:=.non) w t hi (.inl hl) rfl (λM k=>?_) (.inr hl)));obtain⟨m,y,p⟩:=k.loc;have F:i<a.length:=by rw[w.len];exact(nA.mp hi).1
  obtain⟨u,N,L⟩:=p i n .non hi (xR F) (.inl hl);have C:m n=some u:=by
   rcases L with⟨_,z⟩|⟨z,_⟩
   ·exact z
   ·rcases z with z|z <;> (have l:X.env.scope.names.lookup n=_:=z;rw[hl]at l;cases l)
  unfold unbindBehindTheSuite;refine rE (yQ (wpAny_unbindName_local hl y C I λh' v J G=>?_) (λ_ _ q=>q) λ_ _ q=>wF q);refine K _ ?_;have o:=k.unbind t hi hl y J G p;rw[List.set_set]at o;exact o
 cases f with
 |next=>obtain⟨a,H',c,q⟩:=h;exact g a H' c _ λb d=>⟨_,H',d,q⟩
 |brk=>obtain⟨a,H',c,q⟩:=h;exact g a H' c _ λb d=>⟨_,H',d,q⟩
 |cont=>obtain⟨a,H',c,q⟩:=h;exact g a H' c _ λb d=>⟨_,H',d,q⟩
 |ret u=>obtain⟨v,a,H',c,r,q⟩:=h;exact g a H' c _ λb d=>⟨v,_,H',d,r,q⟩
theorem Pi(k:X.stack=X.env:: X.outer)(t:X.env.frame=some X.env.locals)(T:X.ex=[])(R:X.N.Nodup)(hi:X.N[i]?=some n)(hl:X.env.scope.names.lookup n=some .local)
  (a9:Gl X x)(L:X.mg x=some (.ref C0))(c6:∀M E U,eP (X.body M E) U->PSs (X.body M E) body (tb U))(c4:∀e,PSs (X.suite e) (b₀:: suite) ts)
  (c9:(x == ("__debug__" :Str))=false:=by decide):PS X (.Try body [.ExceptHandler (some (.Name x np)) (some n) (b₀:: suite) hpos] [] [] pos) (tTry X.K C0 i tb ts):=by
 intro a s d8 H D I h;refine wpAny_Try_except (yQ (c6 (X.pn++a) (λK b7=>wpAny (model X.prog X.w) X.A (noteFrame K X.env) (λ_ b2=>wpAny (model X.prog X.w) X.A (setFlight K none) (λ_ c0 =>
  wpAny (model X.prog X.w) X.A (handleBy K X.env [.ExceptHandler (some (.Name x np)) (some n) (b₀:: suite) hpos]) (SP X a D) X.xe c0) X.xe b2) X.xe b7) _ ?_ [] s d8 H D I.intry h) (λf c q=>?_) λ_ _ q=>q)
 ·-- an exception arrives
  intro e0 g H' c e C od c8 F b6;obtain⟨c1,b5⟩:=b6;have w:Inv X a g H' c:=c8.offtry;obtain⟨⟨B,a0,fl,j,a7⟩,b8⟩:=F;have J:Heap.FlyingW B (X.env:: X.outer) e C a0 c.heap:=k ▸ fl;have d6:X.A.frames=some (X.env:: X.outer):=I.ok.frames.trans (by rw[k]);have l:∀p∈X.pn++a,B.get? p.1=some p.2:=λp G=>a7 p (xI _ G)
  -- where e lies
  have y:∀b o,B.get? b=some o->b≠e:=λb o q z=>by have:=J.2.1;rw[←z,q]at this;cases this
  obtain⟨e3,b1,m,d9,a5,_⟩:=J.first;have W:e∉frs X.stack:=λL=>by
   obtain⟨_,o,Y,c5⟩:=w.stack.mem L;rw[m]at Y;cases Y;exact c5 b1 a5
  have O:H' e=none:=by
   cases q:H' e with
   |none=>rfl
   |some v=>exact absurd rfl (y e _ (j e _ m W (.inr ⟨v,q⟩)))
  have d0:X.s₀.heap.get? e=none:=by
   cases q:X.s₀.heap.get? e with
   |none=>rfl
   |some o=>exact absurd rfl (y e _ (j e _ m W (.inl ⟨o,q⟩)))
  refine Gj d6 t J b8 λa3 a4 d5 P=>?_;refine bO (s:={c with heap:=a3}) a4 d5 λd r b0 N=>?_;have V:Inv X a g H' {c with heap:=d}:=w.flown k t T r.1 (P.trans N) j l;have c3:Inv (X.suite e) a g H' {c with heap:=d}:=V.insuite;obtain⟨e2,a2,d7⟩:=r.there;refine wpAny_handleBy_cons (codeAny_handlers_test (iV (X:=X.suite e) c3 a9 L ?_ c9)) (by intro q;cases q);have a8:PySem.W.Looks (model X.prog X.w) d (typeOf (.ref e)) C:=by
   rw[←d7];exact(pL a2).andThen .now
  refine(PySem.W.exm_one V.kIn a8 c1).here ?_;show codeAny _ _ _ _ _;refine codeAny_handlers_suite_as ?_;refine Pp (s:={c with heap:=d}) r b0 λb9 a1 a6 d3=>?_;have c7:Inv X a g H' {c with heap:=b9}:=w.flown k t T a1.1 ((P.trans N).trans d3) j l;obtain⟨e4,vs,Z,c2,d1,_⟩:=a1.first;obtain⟨e6,S,d2⟩:=a6;rw[Z]at S;cases S;have b3:=c7.trackE Z c2 d1 d2 O d0 λp G=>y _ _ (l p G);refine fE (X:=X.suite e) b3.insuite R hi (.inl hl) (show RelV (.ref e) (.ref e) from rfl) (λb4 d4=>?_) (.inr hl);refine yQ (c4 e a b4 _ _ _ d4 (b5 e O)) (λf e5 q=>?_) λ_ _ q=>q.elim;exact Pj I.ok R hi hl q
 ·cases f with
  |next=>exact sE (SP.offtry q)
  |brk=>exact SP.offtry q
  |cont=>exact SP.offtry q
  |ret u=>exact SP.offtry q
end
section
variable {X:Cx}
theorem mZ:OpR X (binaryOp .Mult) (rI (λi j=>IntMulOk i j) λi j=>.int (i*j)):=opI λ_ _ _ _ _ _ _ a q=>mul_int q a
def fL(_ j:Int):Prop:=j≠0/\j.natAbs.log2<9000
theorem gQ:OpR X (binaryOp .FloorDiv) (rI fL λi j=>.int (i.fdiv j)):=opI λ_ _ _ _ _ _ _ a q=>floordiv_int a.1 q (.inl (PyProof.noPylong_of_log2 a.2))
end
mutual
inductive Dt(K:Frag)(H:Hp):V->PyData->Prop
 |non:Dt K H .non .none
 |bl (b):Dt K H (.bl b) (.bool b)
 |int (i):Dt K H (.int i) (.int i)
 |str (x):Dt K H (.str x) (.str x)
 |lst {a xs ds}:SqL K H a xs->Dts K H xs ds->Dt K H (.ref a) (.list ds)
 |tup {a xs ds}:SqT K H a xs->Dts K H xs ds->Dt K H (.ref a) (.tuple ds)
inductive Dts(K:Frag)(H:Hp):List V->List PyData->Prop
 |nil:Dts K H [] []
 |cons {x xs d ds}:Dt K H x d->Dts K H xs ds->Dts K H (x:: xs) (d:: ds)
end
theorem Dts.ints{K:Frag}{H:Hp}:∀(ns:LI'),Dts K H (ns.map V.int) (ns.map PyData.int)
 |[]=>.nil
 |n:: r=>.cons (.int n) (Dts.ints r)
section
variable {X:Cx} {pins:PN} {σ:St} {H:Hp} {s:Shared}
mutual
theorem Dt.reads(I:Inv X pins σ H s):∀{x:V}{d:PyData}{u:Value},Dt X.K H x d->RelV x u->∃as,Reads s.heap u d as
 |_,_,_,.non,r=>by cases(show _=Value.none from r);exact⟨_,.none⟩
 |_,_,_,.bl b,r=>by cases(show _=Value.bool b from r);exact⟨_,.bool b⟩
 |_,_,_,.int i,r=>by obtain⟨f,e⟩:=(show∃f,_=Value.int i f from r);cases e;exact⟨_,.int i f⟩
 |_,_,_,.str x,r=>by obtain⟨f,e⟩:=(show∃f,_=Value.str x f from r);cases e;exact⟨_,.str x f⟩
 |_,_,_,.lst (a:=a) h j,r=>by
  cases(show _=Value.ref a from r);obtain⟨its,g,⟨o,n,e,c,_,dd⟩,_⟩:=I.list h;obtain⟨as,q⟩:=Dts.reads I j g;exact⟨_,.list e c dd (by simpa using q)⟩
 |_,_,_,.tup (a:=a) h j,r=>by
  cases(show _=Value.ref a from r);obtain⟨its,g,⟨o,e,c,n,dd⟩,_⟩:=I.tuple h;obtain⟨as,q⟩:=Dts.reads I j g;exact⟨_,.tuple e c dd (by simpa using q)⟩
theorem Dts.reads(I:Inv X pins σ H s):∀{xs:List V}{ds:List PyData}{us:LW},Dts X.K H xs ds->Vals xs us->∃as,ReadsAll s.heap us ds as
 |_,_,_,.nil,r=>by cases r;exact⟨_,.nil⟩
 | _,_,_,.cons h c,r=>by
  cases r with
  |cons r1 r2 =>
   obtain⟨as,a⟩:=Dt.reads I h r1;obtain⟨bs,b⟩:=Dts.reads I c r2;exact⟨_,.cons a b⟩
end
end
section
variable {X:Cx}
def rEqD(K:Frag):R2:=λx y H Q=>∃d d',Dt K H x d/\Dt K H y d'/\SeqAt.shaped d=true/\SeqAt.shaped d'=true/\SeqAt.noMix d d'=true/\Q (.bl (same d d')) H
def rNeD(K:Frag):R2:=λx y H Q=>∃d d',Dt K H x d/\Dt K H y d'/\SeqAt.shaped d=true/\SeqAt.shaped d'=true/\SeqAt.noMix d d'=true/\Q (.bl (!same d d')) H
theorem Ph(b:X.A.units+64<cLine):OpR X (compareOp .Eq) (rEqD X.K):=by
 intro k s l H x y v u Q I c g h;obtain⟨d,d',e,f,a,j,i,q⟩:=h;obtain⟨as,r1⟩:=e.reads I c;obtain⟨bs,r2⟩:=f.reads I g;exact eq_dataH_same r1 r2 a j b i ⟨.bl (same d d'),H,I,rfl,q⟩
theorem Bd(b:X.A.units+64<cLine):OpR X (compareOp .NotEq) (rNeD X.K):=by
 intro k s l H x y v u Q I c g h;obtain⟨d,d',e,f,a,j,i,q⟩:=h;obtain⟨as,r1⟩:=e.reads I c;obtain⟨bs,r2⟩:=f.reads I g;exact ne_dataH_same r1 r2 a j b i ⟨.bl (!same d d'),H,I,rfl,q⟩
end
structure cF(K:Frag)(C:Addr):Prop where
 ga:PySem.W.findIn K (.ref C) "__getattribute__"=some (some (.builtin "BaseException.__getattribute__"))
 gt:PySem.W.findIn K (.ref C) "__getattr__"=some none
 ca:PySem.W.findIn K (.ref C) "__class__"=some (some (.builtin "object.__class__"))
 cg:PySem.W.specialIn K (.builtin "object.__class__") "__get__"=some (some (.builtin "getset_descriptor.__get__"))
 tk:PySem.W.takesIn K (.builtin "object.__class__")=some true
 ob:PySem.W.mroIn K C (.type "object")=some true
 bx:PySem.W.mroIn K C (.type "BaseException")=some true
 cl:(PySem.W.clsIn K C).isSome=true
theorem Pg{prog:Program}{w:World}{A:Around}{E:VP}{s:Shared}{K:Frag}{x C:Addr}{Q:Option Value->Shared->Prop}(F:cF K C)(KX:K.In s.heap)(b:∃o,s.heap.get? x=some o/\o.cls=.ref C)
  (h:Q (some (.ref C)) {s with toks:=s.toks+1}):wpAny (model prog w) A (getAttr? (.ref x) "__class__") Q E s:=by
 obtain⟨hh,g,d,e,v⟩:=s;obtain⟨o,b,c⟩:=b;have a:PySem.W.Looks (model prog w) hh (typeOf (.ref x)) (.ref C):=c ▸ (pL b).andThen .now;have u:=wK (M:=model prog w) KX F.ga;have r:=wK (M:=model prog w) KX F.gt;have m:=wK (M:=model prog w) KX F.ca;have i:=PySem.W.looks_specialIn (M:=model prog w) KX F.cg;have t:=PySem.W.looks_takesIn (M:=model prog w) KX F.tk;have f:=tX (M:=model prog w) KX F.ob;have p:=tX (M:=model prog w) KX F.bx;unfold getAttr? getAttrBy? getAttrBy;refine zA (oO (zA (vF (yN (zA (a.at (zA (u.at ?_))))))));show wpAny _ _ (getAttrByItsOwn _ _ _ _ _ _) _ _ _;unfold getAttrByItsOwn;refine zA (show wpAny _ _ (hookBefore (.ref C)) _ _ _ from r.at ?_);refine zA (vF (yN ?_));show wpAny _ _ (boundAndCalled _ _ _) _ _ _;unfold boundAndCalled;rw[PySem.F.attr_ValueError.ga.bind (.ref x)];refine zA (zB (uS ?_));refine uC PySem.F.attr_ValueError.ga.plain PySem.F.entry_bexc_ga ?_;have n:builtinKind "BaseException.__getattribute__"=some .slot:=nofun
 have l:splitId "BaseException.__getattribute__"=some ("BaseException","__getattribute__"):=nofun
 have y:=PySem.F.args_bexc_ga (.ref x) (.str "__class__" e);have j:PySem.W.Looks (model prog w) hh (isInstance (.ref x) (.type "BaseException")) true:=a.andThen p;show wpAny _ _ (checkBuiltinCall "BaseException.__getattribute__" ⟨[.ref x,.str "__class__" e],[]⟩) _ _ _;simp only[checkBuiltinCall,n,l];refine zA (j.at ?_)
 repeat wp_step
 rw[c];refine m.at ?_;refine zA (show wpAny _ _ (Builtin.ObjectAttr.getOf (some (.builtin "object.__class__"))) _ _ _ from i.at ?_);have q:PySem.W.Looks (model prog w) hh (Builtin.ObjectAttr.dataDescriptor? (some (.builtin "object.__class__")) (some (.builtin "getset_descriptor.__get__"))) (some (.builtin "getset_descriptor.__get__",.builtin "object.__class__")):=t.andThen .now;refine zA (q.at ?_)
 repeat wp_step
 have k:PySem.W.Looks (model prog w) hh (isInstance (.ref x) (.type "object")) true:=a.andThen f;refine uC PySem.W.KF.slot_gs.plain PySem.W.KF.entry_gs (PySem.W.KF.slot_gs.check _ _ _ _ _ _ _ _ PySem.W.KF.type_class (PySem.W.KF.args_gs _ _ _) ?_)
 (unfold Builtin.«getset_descriptor.__get__» Builtin.Getset_descriptor.descrGet;rw[PySem.W.dga_obj];refine zA (zB ?_))
 (unfold Builtin.Getset_descriptor.descrGetter Builtin.Getset_descriptor.descrCheckInstance Builtin.Getset_descriptor.descrNameAndClass;simp only[PySem.W.KF.owner_class])
 refine zA (zA (zB (zA (k.at (zB ?_)))))
 repeat wp_step
 refine⟨qJ _ (nofun),sD PySem.W.KF.entry_class ?_⟩
 (unfold Builtin.«object.__class__» shownTypeOf;repeat wp_step)
 rw[c];exact zB (zB h)
theorem Pf{K:Frag}{x C:Addr}(F:cF K C):PySem.W.KitX K (.ref x) (.ref C) (λh=>∃o,h.get? x=some o/\o.cls=.ref C) where
 ty:=λM h _⟨o,d,f⟩=>f ▸ (pL d).andThen .now
 it:=λM h KX _=>by
  have q:=F.cl;unfold PySem.W.clsIn at q;split at q
  ·next a =>
   intro m l i j k z
   (unfold isType loadHead;exact zA (qC (k _ _ (KX _ _ a)) (zB z)))
  ·cases q
 ne:=λh b dd its n r KX c=>by
  have q:=F.cl;refine Bool.eq_false_iff.mpr λz=>?_;have e:C=b:=Value.ref.inj (oS.mp z);subst e;unfold PySem.W.clsIn at q;split at q
  ·next a=>exact absurd ((KX _ _ a).symm.trans c) (by intro g;cases g)
  ·cases q
 ca:=λKX p k=>Pg F KX p k
inductive TyX(K:Frag)(H:Hp):V->Value->Prop where
 |ty {x:V} {t:Value} (h:TyOf K H x t):TyX K H x t
 |exc {e C:Addr} {od:Option Addr} (h:H e=some (iF e (.ref C) od)) (F:cF K C):TyX K H (.ref e) (.ref C)
 |tupS {a:Addr} {xs:List V} (h:SqT K H a xs):TyX K H (.ref a) (.type "tuple")
def clsV:V->Value
 |.ty n=>.type n
 |.ref a=>.ref a
 |_=>.none
def Gh:V->Bool
 |.ty _=>true
 |.ref _=>true
 |_=>false
def rIsi(K:Frag):List V->Hp->VK->Prop:=λvs H Q=>∃x c t b,vs=[x,c]/\TyX K H x t/\Gh c=true/\PySem.W.kitOne K t (clsV c)=some b/\Q (.bl b) H
theorem kU{X:Cx}:kD X (.builtin "isinstance") (rIsi X.K):=by
 intro d s m H xs us Q I f h;obtain⟨x,c,n,b,rfl,ty,g,e,q⟩:=h;obtain⟨u,w,rfl,r1,r2⟩:=f.two;have j:w=clsV c:=by
  cases c <;> first|exact r2|cases g
 subst j;have a:∀tk,EP X d m Q (.bool b) {s with toks:=tk}:=λtk=>⟨.bl b,H,I.tok tk,rfl,q⟩;cases ty with
 |ty h=>exact Na I r1 h e a
 |exc h F =>
  obtain rfl:u=_:=r1;obtain⟨⟨k,k1,k2,_⟩,_,_⟩:=(show mI X.prog X.w H s.heap _ (iF _ _ _) from I.hok _ _ h);exact xM (Pf F) I.kIn ⟨k,k1,k2⟩ e (λz=>nomatch z) a
 |tupS h =>
  obtain rfl:u=_:=r1;obtain⟨its,_,⟨o,i,l,_⟩,_⟩:=I.tuple h;exact xM PySem.W.kitx_tuple I.kIn ⟨o,i,l⟩ e (λz=>nomatch z) a
structure jN(k:Nat)(A:Around):Prop where
 dp:A.depth+3*k+5<recursionLimit
 un:A.units+16*k+200<cLine
theorem Room.a{k:Nat}{A:Around}(r:Room k A):jN k A:=⟨r.dp,r.un⟩
theorem jN.mono{j k:Nat}{A:Around}(r:jN k A)(h:j<=k):jN j A:=⟨by have:=r.dp;omega,by have:=r.un;omega⟩
theorem jN.deeper{k:Nat}{A:Around}(r:jN (k+1) A)(env:Env):jN k (A.deeper env):=
 ⟨by have:=r.dp;show A.depth+1+3*k+5<_;omega,by have:=r.un;show A.units+3+16*k+200<_;omega⟩
theorem jN.mark{k:Nat}{A:Around}(r:jN k A)(v:Option Value):jN k (A.mark v):=⟨r.dp,r.un⟩
structure bQ(P:Program)(w:World)(K:Frag)(mg:MT)(base:Heap)(k:Nat)(f:Addr)(fd:FuncData)(ps:List Str)(sp:Sp):Prop where
 len:∀vs H Q E,sp vs H Q E->vs.length=ps.length
 run:∀(A:Around)(outer:List Env)(s:Shared)(H:Hp)(args:Args)(us:LW)(vs:List V)(Q:VK)(E:XK),jN k A->Env0 P w K mg base A outer s H->BindsTo s fd args (ps.zip us)->Vals vs us->sp vs H Q E ->
  codeAny (model P w) A (.call (.ref f) args) (CR CX0 outer P w H s Q E) s
abbrev cxA(P:Program)(w:World)(K:Frag)(mg:MT)(base:Heap)(N:List Str)(qual:Str)(scope:Scope)(f:Addr)(cd:Value)(A:Around)(outer:List Env)(s:Shared)(H:Hp)(E:XK):Cx:=
 {cxOf CX0 P w K mg base N qual scope f cd A outer s H E with calm:=false,xe:=λ_ _=>False}
section
variable {P:Program} {w:World} {K:Frag} {mg:MT} {base:Heap}
theorem Fun.okA{x i:Str}{st:Stmt}{f:Addr}{D:FuncData}{N ps:List Str}{k:Nat}{t:Sp}(F:Fun K x i st f D)(g:nZ N ps (nP st))(len:∀vs H Q E,t vs H Q E->vs.length=ps.length)
  (W:∀(cdv:Value)(A:Around)(outer:List Env)(s:Shared)(H:Hp)(vs:List V)(Q:VK)(E:XK),jN k (A.deeper (envOfC i (nP st) s.heap.objs.size f cdv))->t vs H Q E ->
   ∃m,PSs (cxA P w K mg base N i (nP st) f cdv A outer s H E) (jF st) m/\m {nx:=λ_ H'=>Q .non H',rt:=Q} (jE N vs) H):bQ P w K mg base (k+1) f D ps t:=by
 obtain⟨a1,od,kV,a5,a0,a3,cdv,Z,a4,rfl,X,S⟩:=F.ex;refine⟨len,λA outer s H a2 us vs Q E hr c M r C=>?_⟩;have hl:=len _ _ _ _ C;have l:∀b o,base.get? b=some o->s.heap.get? b=some o:=λb o e=>(c.bs b o e).1;have L:∀y∈ps.zip us,(nP st).names.lookup y.1=some .local\/((nP st).names.lookup y.1=some .cell/\((cellsFrom (s.heap.objs.size+1) (nP st).names []).lookup y.1).isSome=true):=λ⟨n,v⟩R=>by
  rcases g.par n (uT R).1 with q|q
  ·exact .inl q
  ·exact .inr ⟨q,rB _ _ _ (.inl q)⟩
 refine codeAny_call_function (by have:=hr.dp;omega) (c.mod.kin.keeps l _ _ X) rfl g.co g.gen rfl (PySem.W.codeRec_of (c.mod.kin.keeps l) S) (M _ _ _ _ ?_);refine wpAny_newFunctionEnv_cells g.kind L λenv U p x=>?_;subst U;refine⟨(c.mod.nolimit.keeps l).keeps x.toInCall.keep,codeAny_func ?_⟩;obtain⟨m,O,T⟩:=W cdv A outer s H vs Q E (hr.deeper _) C;have a:Inv (cxOf CX0 P w K mg base N i (nP st) f cdv {A with handled:=none} outer s H E) [] (jE N vs) H p:=
  Fb g rfl (⟨c.frames,c.mod,c.bs,c.bsz,c.funs,c.frf,c.hok,c.bare⟩:Env0 P w K mg base {A with handled:=none} outer s H) hl r x
 have I:Inv (cxA P w K mg base N i (nP st) f cdv A outer s H E) [] (jE N vs) H p:=
  ⟨⟨a.ok.mod,a.ok.kind,a.ok.glob,a.ok.blt,a.ok.above,a.ok.inj,a.ok.has,a.ok.cab,(λz=>by cases z),Around.frames_deeper c.frames,a.ok.stk,a.ok.exf,a.ok.bs,a.ok.bsz,a.ok.noex,a.ok.exfs,a.ok.funs,a.ok.frf⟩,
   a.os,a.bare,a.base,a.loc,a.cell,a.free,a.freeC,a.pin,a.hok,a.len⟩
 refine yQ (O [] p (jE N vs) H _ I T) (λfl Y j=>?_) λ_ _ z=>z.elim;cases fl with
 |ret u=>obtain⟨v,J,H',d,G,q⟩:=j;exact⟨v,H',d.os,d.bare,d.base,d.hok,G,q⟩
 |next=>obtain⟨J,H',d,q⟩:=j;exact⟨.non,H',d.os,d.bare,d.base,d.hok,rfl,q⟩
 |brk=>obtain⟨_,_,_,q⟩:=j;exact q.elim
 |cont=>obtain⟨_,_,_,q⟩:=j;exact q.elim
end
section
variable {X:Cx} {k:Nat} {f:Addr} {fd:FuncData} {ps:List Str} {sp:Sp} {dvs:List V} {ds:LW} {x:Str} {p pos:Pos} {e:Expr} {es:List Expr} {t:TA}
theorem Pe(F:bQ X.prog X.w X.K X.mg X.base k f fd ps sp)(hr:jN k X.A)(o:Gl X x)(z:X.mg x=some (.ref f))(m:PySem.W.keepIn X.K (.ref f)=true)(y:lT X.K fd ps ds)(n:Vals dvs ds)
  (v:PA X (e:: es) t)(j:(x == ("__debug__" :Str))=false:=by decide)(i:starEach (e:: es) X.env=(false,eval e X.env):: starEach es X.env:=by rfl)(l:(backTo pos (starEach es X.env)).any (·.1)=false:=by rfl):
  PE X (.Call (.Name x p) (e:: es) [] pos) (kJ sp dvs E0 t):=by
 intro d s w H Q I h;refine wE (iV I o z ?_ j);refine sL (h₀:=X.base) I.ok.mod.kin m (thn (v pos d s w H _ I h) λus c⟨vs,g,b,r,q⟩=>⟨b.kIn,?_⟩) i l;have r2:Vals (vs++dvs) (us++ds):=r.append n;have hl:(us++ds).length=ps.length:=by rw[←r2.length];exact F.len _ _ _ _ q
 refine uS (tK (F.run X.A X.stack c g ⟨us,[]⟩ (us++ds) (vs++dvs) Q E0 hr b.env0 (y c us b.kIn hl) r2 q) λr C a=>?_);cases r with
 |error e=>exact False.elim a
 |ok fl =>
  cases fl with
  |ret u=>exact b.after a
  |next=>exact False.elim a
  |brk=>exact False.elim a
  |cont=>exact False.elim a
end
section
variable {X:Cx}
theorem kK:OpR X (compareOp .Eq) (rI0 λi j=>.bl (decide (i=j))):=opB0 λi j _ _ _ _ _ q=>eq_int (by rw[Bool.beq_eq_decide_eq];exact q)
theorem jU:OpR X (compareOp .NotEq) (rI0 λi j=>.bl (!decide (i=j))):=opB0 λi j _ _ _ _ _ q=>ne_int (by rw[bne,Bool.beq_eq_decide_eq];exact q)
theorem PS.nox{st:Stmt}{a:TS}(h:PS X.nox st a):PS X st a:=λc s d H D I b =>
 yQ (h c s d H D (I.wish _) b) (λ_ _ q=>q.unwish) λ_ _ z=>z.elim
end
section
variable {P:Program} {w:World} {K:Frag} {mg:MT} {base:Heap}
theorem Fun.okX{x b:Str}{st:Stmt}{f:Addr}{c:FuncData}{N ps:List Str}{k:Nat}{a:Sp}(F:Fun K x b st f c)(i:nZ N ps (nP st))(len:∀vs H Q E,a vs H Q E->vs.length=ps.length)
  (g:∀(cdv:Value)(A:Around)(outer:List Env)(s:Shared)(H:Hp)(vs:List V)(Q:VK)(E:XK),Room k (A.deeper (envOfC b (nP st) s.heap.objs.size f cdv))->a vs H Q E ->
   ∃d,PSs (cxOf (CX1 P w) P w K mg base N b (nP st) f cdv A outer s H E) (jF st) d/\d {nx:=λ_ H'=>Q .non H',rt:=Q} (jE N vs) H):FnOk P w K mg base (CX1 P w) (k+1) f c ps a:=by
 obtain⟨p,od,kV,r,o,m,cdv,n,q,rfl,l,j⟩:=F.ex;exact Bp l j i len λA outer s H vs Q E hr e=>g cdv A outer s H vs Q E hr e
end
end L2
namespace Att
open PySem PySem.W PySem.Calls PyProof.Rows
theorem Gg:∀ns:LI',ofPys (ns.map PyData.int)=ns.map WData.int
 |[]=>rfl
 |n:: r=>by
  show ofPy (.int n):: ofPys (r.map PyData.int)=_;rw[Gg r];rfl
theorem Pd{ns:LI'}(h:(WData.list (ns.map WData.int)).layable=true):∀n∈ns,Builtin.Int.intBits n<=1048576:=λn b=>by
 have e:ofPy (.list (ns.map PyData.int))=WData.list (ns.map WData.int):=by
  show WData.list (ofPys (ns.map PyData.int))=_;rw[Gg]
 have a:PySem.Spec.Shape.has (.list .int) (.list (ns.map PyData.int))=true:=by
  simp[PySem.Spec.Shape.has]
 exact intBits_le_of_item b (layable0_of_all (lay0_ofPy (s:=.list .int) rfl a (by rw[e];exact h)))
theorem attach_callB{l:OpenLaw}{n:Nat}{q:Program}{k:List Str}{u:(MT)->Heap->Prop}{t:World->Heap->Prop}{d:DefRec}(S:l.most=some n)(K:d.params.defaults=[])
  (call:∀(w:World)(i b:Shared)(e j:MT)(g:Addr)(a:Addr)(vs:LW)(ns:LI'),Ground q k [] u w i e j b.heap->t w b.heap->e d.name=some (.ref g) ->
   b.heap.get? a=some {cls:=.type "list",data:=.seq vs.toArray}->IntsAre vs ns->ns.length<=n->(∀m∈ns,Builtin.Int.intBits m<=1048576)->b.gens=#[] ->
   codeAny (model l.prog w) callerA (.call (.ref g) ⟨[.ref a],[]⟩) (λr c=>r=.ok (.ret (.bool true))/\OldK b.heap c.heap/\c.os=b.os/\AllBare c.gens) b):
  WalkO q k u t l.row.toRowW d [] (λf vs=>PySem.call f vs):=by
 intro w i b e j R L g o X V a2 D kV W Y Z p M z a0 vals as I y a1 O U;obtain rfl:D=.none:=Dflts.none p K;obtain rfl:kV=.none:=Dflts.noKw p;obtain⟨a,vs,ns,rfl,rfl,C,F,x⟩:=Pu S I O;have J:=Pd (layableW_arg y _ yE);refine enter_call (tK (call w i b e j g a vs ns R L M C F x J z) λr c P=>?_);obtain⟨rfl,N,G,v⟩:=P;exact⟨.inl ⟨.bool true,.bool true,[],rfl,λ_=>rfl,.bool true,Pt l _,λ_=>⟨List.Pairwise.nil,λ_ T=>(nomatch T)⟩⟩,N,G,v⟩
end Att
namespace L2
open PySem PySem.Spec PyProof.Rows
open PySem.W (Frag)
def Gf(K:Frag):Sp:=λvs H Q _=>∃(a:Addr)(ns:LI'),vs=[.ref a]/\SqL K H a (ns.map V.int)/\ns.length<=63/\(∀m∈ns,Builtin.Int.intBits m<=1048576)/\∀H',Q (.bl true) H'
theorem walkB{l:PySem.W.OpenLaw}{k:Nat}{q:Program}{n:List Str}{L:(MT)->Heap->Prop}{m:World->Heap->Prop}{d:DefRec}{K:Params->Frag}{x:Str}
  (M:l.most=some 63)(D:d.params.defaults=[])(hr:Room k callerA)(G:∀(w:World)(h:Heap),m w h->(K w.params).In h)
  (F:∀(w:World)(b:MT)(g:Addr)(h:Heap),(K w.params).In h->h.Ns mainGlobals b->b d.name=some (.ref g) ->
   ∃i:FuncData,(∀(s:Shared)(u:Value),BindsTo s i ⟨[u],[]⟩ [(x,u)])/\∀base:Heap,(K w.params).In base->base.Ns mainGlobals b->FnOk l.prog w (K w.params) b base CX0 k g i [x] (Gf (K w.params))):
  PySem.W.WalkO q n L m l.row.toRowW d [] (λf vs=>PySem.call f vs):=by
 refine Att.attach_callB M D λw P O b R g a vs ns c I J r v j y p=>?_;have KX:=G w _ I;obtain⟨i,o,t⟩:=F w b g _ KX c.T.g J;exact Ps KX c.T.g c.T.b c.T.builtins c.T.nolimit p r v (yC j ∅) hr t o (λH _ C=>⟨a,ns,rfl,C,j,y,λ_=>rfl⟩) λH e N z=>z
theorem lN{f:TI}{g:TG}{tb:TS}{D:Ends}{a:St}{H:Hp}(h:∀B:TS,B=tb->f a H λb k=>∃c:Nat->Nat->St->Hp->Prop,(∃m,c 0 m a k)/\∀i m a H,c i m a H ->
  (b.stop i H/\D.nx a H)\/(b.go i H/\∃N:St->Hp->Prop,(∀e H',N e H'->∃d,d<m/\c (i+1) d e H')/\∀x H',b.yld i H x H'->g x a H' λl j=>B {D with nx:=N,ct:=N,bk:=D.nx} l j)):tFor f g tb D a H:=h _ rfl
theorem Pc{c:TT}{tb:TS}{D:Ends}{a:St}{H:Hp}(h:∀B:TS,B=tb->∃d:Nat->St->Hp->Prop,(∃m,d m a H)/\∀m a H,d m a H ->
  c a H λb f=>if b=true then∃N:St->Hp->Prop,(∀g H',N g H'->∃e,e<m/\d e g H')/\B {D with nx:=N,ct:=N,bk:=D.nx} a f else D.nx a f):Fp c tb D a H:=h _ rfl
theorem st{c u:TS}{D:Ends}{b:St}{H:Hp}(h:∀a:St->Hp->Prop,a=u D->c {D with nx:=a} b H):tSeq c u D b H:=h _ rfl
section
variable {g:Int->Int->V} {C:Int->Int->Prop} {f:Int->V} {i j:Int} {H:Hp} {Q:VK}
theorem t_l:rI0 g (.int i) (.int j) H Q=Q (g i j) H:=propext ⟨λ⟨_,_,e1,a,q⟩=>by cases e1;cases a;exact q,λq=>⟨_,_,rfl,rfl,q⟩⟩
theorem t_V:rI C g (.int i) (.int j) H Q=(C i j/\Q (g i j) H):=propext ⟨λ⟨_,_,e1,a,q⟩=>by cases e1;cases a;exact q,λq=>⟨_,_,rfl,rfl,q⟩⟩
theorem t_W:rU f (.int i) H Q=Q (f i) H:=propext ⟨λ⟨_,e1,q⟩=>by cases e1;exact q,λq=>⟨_,rfl,q⟩⟩
end
theorem Same.new{H:Hp}{a:Addr}{o:HO}(h:H a=none):Same H (upd H a o):=λb u e=>by rw[nO (lI e h)];exact e
theorem Same.over{H c:Hp}{a:Addr}{o:HO}(h:H a=none)(s:Same H c):Same H (upd c a o):=λb u e=>by rw[nO (lI e h)];exact s b u e
theorem Same.tup{K:Frag}{H H':Hp}{a:Addr}{xs:List V}(e:Same H H')(h:SqT K H a xs):SqT K H' a xs:=by
 rcases h with(h|⟨o,h⟩)|h
 ·exact .inl (.inl (e _ _ h))
 ·exact .inl (.inr ⟨o,e _ _ h⟩)
 ·exact .inr h
section
variable {K:Frag} {a b:Addr} {xs:List V} {te:TE} {fr:List (Str×Nat)} {σ:St} {H:Hp} {Q:VK}
def u_t(H:Hp)(a:Addr)(R:Nat->V->Prop)(i:Nat)(H1:Hp):Prop:=Same H H1/\∃ys:List V,H1 a=some (.lst ys)/\ys.length=i/\∀j y,ys[j]?=some y->R j y
end
theorem kE{b a:Type}{ys:List a}{xs:List b}{f:b->a}(hl:ys.length=xs.length)(h:∀(j:Nat)(y:a),ys[j]?=some y->∃x,xs[j]?=some x/\y=f x):ys=xs.map f:=by
 refine tO (by simpa using hl) λi d k=>?_;obtain⟨x,e1,e⟩:=h i ys[i] (by simp[d]);obtain⟨g,c⟩:=nA.mp e1;rw[tL,e,c]
def jV(sc scope:Scope):Scope:={scope with names:=scope.names.map λ(n,k)=>if(k == .free && sc.kind == .function && sc.names.lookup n == some .cell) then(n,.cell) else(n,k)}
theorem Pb{a sc:Scope}{env:Env}(h:env.scope=sc):relabel a env=jV sc a:=by subst h;rfl
theorem cG:∀(a:List (Str×NameKind))(n:Nat)(acc:List (Str×Addr)),cellsFrom n a acc=cellsFrom n a []++acc
 |[],_,_=>rfl
 |(x,k):: r,n,acc=>by
  unfold cellsFrom;split
  ·rw[cG r (n+1) ((x,n):: acc),cG r (n+1) [(x,n)],yK];rfl
  ·exact cG r n acc
theorem Bc{y:Str}{b:Addr}:∀{a:List (Str×NameKind)}{n:Nat}{acc:List (Str×Addr)},(y,b)∈cellsFrom n a acc->(y,b)∈acc\/(y,NameKind.cell)∈a
 |[],_,_,h=>.inl h
 | (x,k):: r,n,acc,h=>by
  unfold cellsFrom at h;split at h
  ·rename_i d;rcases Bc h with q|q
   ·rcases xL.mp q with e|e
    ·have c:k=.cell:=by simpa using d
     cases e;exact .inr (by rw[c];exact yE)
    ·exact .inl e
   ·exact .inr (zU _ q)
  ·rcases Bc h with q|q
   ·exact .inl q
   ·exact .inr (zU _ q)
theorem cH{y:Str}:∀{c:List (Str×NameKind)}{n:Nat}{acc:List (Str×Addr)},((y,NameKind.cell)∈c\/∃b,acc.lookup y=some b)->∃b,(cellsFrom n c acc).lookup y=some b
 |[],_,_,h=>by
  rcases h with h|h
  ·simp at h
  ·exact h
 | (x,k):: r,n,acc,h=>by
  unfold cellsFrom;split
  ·rename_i a;refine cH ?_;rcases h with h|⟨b,h⟩
   ·rcases xL.mp h with e|e
    ·cases e;exact .inr ⟨n,by rw[xG];simp⟩
    ·exact .inl e
   ·rw[xG];cases hx:y == x with
    |true=>exact .inr ⟨n,rfl⟩
    |false=>exact .inr ⟨b,h⟩
  ·rename_i a;refine cH ?_;rcases h with h|h
   ·rcases xL.mp h with e|e
    ·cases e;simp at a
    ·exact .inl e
   ·exact .inr h
theorem Bb{env:Env}{q:NameKind}:∀{f:List (Str×NameKind)}{x:Str},
  (f.map λ(n,k)=>if(k == NameKind.free && env.scope.kind == .function && env.kindOf n == some .cell) then(n,NameKind.cell) else(n,k)).lookup x=some q ->
  (q=.cell\/q=.free)->(x,NameKind.free)∈f\/(x,NameKind.cell)∈f
 |[],_,h,_=>by simp at h
 | (n,k):: r,x,h,c=>by
  have g:=@Bb env q r x;rw[zO]at h;dsimp only at h
  by_cases d:(k == NameKind.free && env.scope.kind == .function && env.kindOf n == some .cell)=true
  ·rw[zF d,xG]at h;cases hx:x == n with
   | true =>
    have a:x=n:=by simpa using hx
    have b:k=.free:=by
     have:=(zN _ _ ▸ ((zN _ _ ▸ d).1)).1;simpa using this
    rw[a,b];exact .inl yE
   |false =>
    rw[hx]at h;exact(g h c).imp (zU _) (zU _)
  ·rw[zD d,xG]at h;cases hx:x == n with
   |true =>
    rw[hx]at h;have a:x=n:=by simpa using hx
    have b:k=q:=zZ h;rcases c with e|e
    ·rw[a,b,e];exact .inr yE
    ·rw[a,b,e];exact .inl yE
   |false =>
    rw[hx]at h;exact(g h c).imp (zU _) (zU _)
theorem Ge{b:Type}{x:Str}{k k':b}:∀{l:List (Str×b)},(l.map (·.1)).Nodup->(x,k)∈l->(x,k')∈l->k=k'
 |(n,q):: r,nd,h,h'=>by
  obtain⟨c,d⟩:=rN.mp nd;rcases xL.mp h with e|e <;> rcases xL.mp h' with a|a
  ·cases e;cases a;rfl
  ·cases e;exact absurd (oZ.mpr ⟨_,a,rfl⟩) c
  ·cases a;exact absurd (oZ.mpr ⟨_,e,rfl⟩) c
  ·exact Ge d e a
theorem Pa{M:Model}{A:Around}{E:VP}{s:Shared}{a:Scope}{f:Addr}{b:List (Str×Addr)}{e:Str}{c:Option Addr}{d:Value}{env:Env}{bl:Addr}{Q:Env->Shared->Prop}
  (h:Q (newEnv a s.heap.objs.size f (cellsFrom (s.heap.objs.size+1) a.names b) e c d (some env) bl) {s with heap:=pushCells (s.heap.push {cls:=.type "dict",data:=.dict #[]}) a.names}):
  wpAny M A (newFunctionEnv a f b [] e c d (some env) bl) Q E s:=by
 simp only[newFunctionEnv,Option.isSome_some,if_true];refine zA (wpAny_alloc ?_);refine zA (wpAny_layCells _ (λname g cells=>by cases hkc:g == NameKind.cell <;> simp[hkc]) _ _ _ _ ?_);rw[show({s with heap:=s.heap.push {cls:=.type "dict",data:=.dict #[]}}:Shared).heap.objs.size=s.heap.objs.size+1 from xP ..];exact zB h
def lO(X:Cx)(scope:Scope)(N:List Str)(s:Shared)(H:Hp)(fp:LA):Cx:=
 {X with N:=N,s₀:=s,H₀:=H,env:=compEnvC scope (cellsFrom (s.heap.objs.size+1) scope.names (clOf X.env scope.names [])) s.heap.objs.size X.env,outer:=X.stack,ex:=fp,fn:=λy=>scope.names.lookup y == some .cell,pn:=[],xe:=λ_ _=>False}
structure iG(X:Cx)(sc scope:Scope)(xs:List Str)(fr:List (Str×Nat)):Prop where
 hsc:X.env.scope=sc
 kind:scope.kind=.function
 nn:(scope.names.map (·.1)).Nodup
 free:∀y∈scope.names,y.2=.free->sc.names.lookup y.1=some .cell\/sc.names.lookup y.1=some .free
 loc:∀y∈scope.names,y.2=.local->scope.names.lookup y.1=some .local
 fr:∀p∈fr,X.N[p.2]?=some p.1/\scope.names.lookup p.1=some .free
section
variable {X:Cx} {sc scope:Scope} {xs:List Str} {fr:List (Str×Nat)}
theorem iG.free'(c:iG X sc scope xs fr):∀y∈scope.names,y.2=.free->X.env.kindOf y.1=some .cell\/X.env.kindOf y.1=some .free:=λy a b=>by
 unfold Env.kindOf;rw[c.hsc];exact c.free y a b
theorem iG.cells{a:PN}{d:St}{H:Hp}{s:Shared}(c:iG X sc scope xs fr)(I:Inv X a d H s):∀y∈scope.names,y.2=.free->∃c,X.env.cells.lookup y.1=some c:=
 λy b e=>I.ok.has y.1 (c.free' y b e)
theorem iG.was{a:PN}{d:St}{H:Hp}{s:Shared}(c:iG X sc scope xs fr)(I:Inv X a d H s){y:Str}{b:Addr}(h:(clOf X.env scope.names []).lookup y=some b):X.env.cells.lookup y=some b:=by
 rcases Gp (c.cells I) h with q|q
 ·simp at q
 ·exact q
theorem eQ{a:List (Str×NameKind)}{n:Nat}{d:List (Str×Addr)}{y:Str}{b:Addr}(h:(cellsFrom n a d).lookup y=some b):(cellsFrom n a []).lookup y=some b\/((cellsFrom n a []).lookup y=none/\d.lookup y=some b):=by
 rw[cG,List.lookup_append]at h;cases q:(cellsFrom n a []).lookup y with
 |none=>rw[q]at h;exact .inr ⟨rfl,h⟩
 |some c=>rw[q]at h;exact .inl h
theorem Qz{C:PN}{n:St}{H:Hp}{s:Shared}{F:LA}(c:iG X sc scope xs fr)(I:Inv X C n H s)
  (x:∀b∈F,FpOk X C H b/\∃o,s.heap.get? b=some o):
  Inv (lO X scope (xs++fr.map (·.1)) s H F) [] (xs.map (λ_=>none)++lV fr n) H {s with heap:=pushCells (s.heap.push {cls:=.type "dict",data:=.dict #[]}) scope.names}:=by
 have k:∀b o,s.heap.get? b=some o->(pushCells (s.heap.push {cls:=.type "dict",data:=.dict #[]}) scope.names).get? b=some o:=λb o e=>pY _ _ b o (zC _ e);have K:(pushCells (s.heap.push {cls:=.type "dict",data:=.dict #[]}) scope.names).Ns s.heap.objs.size (λ_=>none):=(Heap.Ns.new s.heap (.type "dict")).keeps (pY _ _);have ok:=cellsFrom_ok scope.names (s.heap.push {cls:=.type "dict",data:=.dict #[]}) (s.heap.objs.size+1) [] ⟨λ_ _ d=>(nomatch d),List.Pairwise.nil⟩ (by rw[xP];exact zE _);rw[xP]at ok;have t:Inv X C n H {s with heap:=pushCells (s.heap.push {cls:=.type "dict",data:=.dict #[]}) scope.names}:=I.kept (t':=s.toks) k;generalize hh:pushCells (s.heap.push {cls:=.type "dict",data:=.dict #[]}) scope.names=S at k K ok t;have L:∀{y:Str}{b:Nat},(clOf X.env scope.names []).lookup y=some b->b<s.heap.objs.size:=λ{y b}e=>by
  obtain⟨v,z⟩:=I.cell y b (c.was I e);exact z.lt
 have own:∀{y:Str}{b:Nat},(cellsFrom (s.heap.objs.size+1) scope.names []).lookup y=some b->S.IsCell b none/\s.heap.objs.size+1<=b:=λ{y b}e=>ok.empty y b (mem_of_lookup e);refine⟨⟨I.ok.mod,c.kind,I.ok.glob,I.ok.blt,zE _,λy z b r a=>?_,λy l=>?_,λy b a1 r=>?_,I.ok.hd,I.ok.frames,.inl rfl,λb g=>?_,λb o e=>?_,?_,λb o e g=>?_,λb g V=>?_,?_,λb g=>?_⟩,
  rfl,I.bare,Un.kept k,⟨_,K,λi y v r a a3=>?_⟩,λy b h=>?_,?_,λy b h=>?_,λp W=>absurd (show p∈([]:PN) from W) (by simp),t.hok,?_⟩
 ·rcases eQ r with e1|⟨_,e1⟩ <;> rcases eQ a with f|⟨_,f⟩
  ·exact name_of_addr ok.apart (mem_of_lookup e1) (mem_of_lookup f)
  ·exact absurd (zP (L f) (pC (own e1).2)) (yZ _)
  ·exact absurd (zP (L e1) (pC (own f).2)) (yZ _)
  ·exact I.ok.inj y z b (c.was I e1) (c.was I f)
 ·show∃b,(cellsFrom (s.heap.objs.size+1) scope.names (clOf X.env scope.names [])).lookup y=some b;have d:(y,NameKind.free)∈scope.names\/(y,NameKind.cell)∈scope.names:=by
   rcases l with l|l
   ·exact Bb l (.inl rfl)
   ·exact Bb l (.inr rfl)
  rcases d with d|d
  ·exact cH (.inr (Bj (.inl d)))
  ·exact cH (.inl d)
 ·have l:scope.names.lookup y=some .cell:=by
   have U:(scope.names.lookup y == some NameKind.cell)=true:=a1;simpa using U
  rcases eQ r with e1|⟨e1,_⟩
  ·have:=(own e1).2;show s.heap.objs.size<=b;omega
  ·obtain⟨D,e⟩:=cH (n:=s.heap.objs.size+1) (acc:=[]) (.inl (mem_of_lookup l));rw[e1]at e;cases e
 ·obtain⟨⟨_,_,_,_,Z,_⟩,o,e⟩:=x b g;refine⟨zW (zK e),λy D h=>?_⟩;rcases eQ h with e1|⟨_,e1⟩
  ·exactλz=>absurd (zP (zK e) (pC (z ▸ (own e1).2))) (yZ _)
  ·exact Z y D (c.was I e1)
 ·exact I.bs b o e
 ·exact yC I.ok.bsz I.sz
 ·obtain⟨⟨_,_,_,T,_,_⟩,_⟩:=x b g;rcases T with z|z
  ·exact I.ok.noex b o e z
  ·exact absurd (zP (zK e) (yC I.ok.bsz z)) (yZ _)
 ·obtain⟨⟨_,N,P,_,_,_⟩,_⟩:=x b g;rcases xL.mp (I.stkSub b V) with z|z
  ·exact N z
  ·exact P z
 ·exact I.stack
 ·exact I.stkFree b g
 ·have m:(xs++fr.map (·.1))[i]?=some y:=r
  by_cases hi:i<xs.length
  ·rw[yB (by simpa using hi),zH]at a;cases q:xs[i]? with
   |none=>rw[q]at a;cases a
   |some z=>rw[q]at a;cases zZ a
  ·rw [zX ⋯]at m;rw[zX (by simpa using hi),yM]at a;generalize i-xs.length=j at m a;rw[zH]at m;unfold lV at a;rw[zH]at a;cases e:fr[j]? with
   |none=>rw[e]at m;cases m
   | some p =>
    rw[e]at m a;have e1:p.1=y:=zZ m;have f:n.getD p.2 none=some v:=zZ a;obtain⟨O,M⟩:=c.fr p (yF e);have R:n[p.2]?=some (some v):=by
     rw[tU]at f;cases q:n[p.2]? with
     |none=>rw[q]at f;cases f
     |some o=>rw[q]at f;have a0:o=some v:=f;rw[a0]
    subst e1;have d:(p.1,NameKind.free)∈scope.names:=vJ M;have kd:=c.free' _ d rfl;obtain⟨a4,_,hl⟩:=t.loc;obtain⟨u,Y,a2⟩:=hl p.2 p.1 v O R (.inr kd);refine⟨u,Y,.inr ⟨Gn M,?_⟩⟩;rcases a2 with⟨k1,_⟩|⟨_,b,q,z⟩
    ·rcases kd with kd|kd <;> (rw[kd]at k1;cases k1)
    ·obtain⟨D,G⟩:=Bj (env:=X.env) (l:=scope.names) (cs:=[]) (.inl d);have J:=c.was I G;rw[q]at J;cases J;refine⟨b,?_,z⟩;show(cellsFrom (s.heap.objs.size+1) scope.names (clOf X.env scope.names [])).lookup p.1=some b;rw[cG,List.lookup_append];cases w:(cellsFrom (s.heap.objs.size+1) scope.names []).lookup p.1 with
     |none=>exact G
     |some b2 =>
      rcases Bc (mem_of_lookup w) with w|w
      ·simp at w
      ·cases Ge c.nn d w
 ·rcases eQ h with e1|⟨_,e1⟩
  ·exact⟨none,(own e1).1⟩
  ·exact t.cell y b (c.was I e1)
 ·exact I.hok.fresh (zE _)
 ·rcases eQ h with e1|⟨_,e1⟩
  ·exact I.hok.fresh (by have:=(own e1).2;omega)
  ·exact t.freeC y b (c.was I e1)
 ·show(xs.map (λ_=>none)++lV fr n).length=(xs++fr.map (·.1)).length;simp[lV]
end
abbrev TOx:=St->Hp->(Option V->Hp->Prop)->Prop
def tEl(te:TE):TOx:=λσ H Q=>te σ H λy H'=>Q (some y) H'
def hJ(tc:TT)(te:TE):TOx:=λσ H Q=>tc σ H λb H1=>if b=true then te σ H1 (λy H'=>Q (some y) H') else Q none H1
def cI(elt:Expr)(ifs:List Expr)(env:Env)(M:Model)(A:Around)(Q:Option Value->Shared->Prop)(E:VP)(s:Shared):Prop:=
 match ifs with
 |[]=>wpAny M A (eval elt env) (λx s1=>Q (some x) s1) E s
 |[c]=>wpAny M A (isTrue c env (eval c env)) (λb s1=>if b=true then wpAny M A (eval elt env) (λx s2=>Q (some x) s2) E s1 else Q none s1) E s
 |_=>False
def POx(X:Cx)(elt:Expr)(ifs:List Expr)(t:TOx):Prop:=∀(pins:PN)(s:Shared)(σ:St)(H:Hp)(Q:Option V->Hp->Prop),Inv X pins σ H s->t σ H Q ->
 cI elt ifs X.env (model X.prog X.w) X.A (λo s'=>∃v H',Inv X pins σ H' s'/\(match o,v with|some u,some y=>RelV y u|none,none=>True|_,_=>False)/\Q v H') X.xe s
theorem iM{X:Cx}{a:Expr}{te:TE}(h:PE X a te):POx X a [] (tEl te):=λc s g H Q I d =>
 thn (h c s g H _ I d) λu i⟨y,e,f,r1,b⟩=>⟨some y,e,f,r1,b⟩
theorem Gc{X:Cx}{e c:Expr}{j:TT}{te:TE}(p:PT X c j)(h:PE X e te):POx X e [c] (hJ j te):=λd s f H Q I o=>by
 refine thn (p d s f H _ I o) ?_;rintro b l ⟨g,i,a⟩;cases b with
 |true =>
  rw[zF rfl]at a ⊢;exact thn (h d l f g _ i a) λu q⟨y,n,m,r2,k⟩=>⟨some y,n,m,r2,k⟩
 |false =>
  rw[zD yH]at a ⊢;exact⟨none,g,i,trivial,a⟩
theorem Qy{prog:Program}{w:World}{A:Around}{R:Result->Shared->Prop}{s:Shared}{e d f:Expr}{l:List Expr}{i:Scope}{k:Pos}{a acc:Value}{env:Env}(I:Nat->Shared->Prop)
  (J:∀n s,I n s->wpAny (model prog w) A (pyNext a) (λr p=>match r with
   |none=>R (.ok .next) p
   | some v=>wpAny (model prog w) A (letOwnedTupleGo d a v) (λ_ u=>wpAny (model prog w) A (assign d env v) (λ_ t=>cI e l env (model prog w) A (λo q=>match o with
     |some x=>wpAny (model prog w) A (call (.builtin "list.append") [acc,x]) (λ_ C=>∃m,m<n/\I m C) (λ_ _=>False) q
     |none=>∃m,m<n/\I m q)
     (λ_ _=>False) t) (λ_ _=>False) u) (λ_ _=>False) p) (λ_ _=>False) s)
  (n:Nat)(h:I n s)(F:l.length<=1):
  codeAny (model prog w) A (.compLoop (.ListComp e [⟨d,f,l,0⟩] i k) 0 a acc env) R s:=by
 refine codeAny_loop rfl I (λn s G=>?_) n h;show wpAny _ _ ((compTurn (.ListComp e [⟨d,f,l,0⟩] i k) 0 a acc env).onRaise (λx=>do noteFrame x env;theTreesLotGoes x)) _ _ s;refine wpAny_noted ?_;have T:=J n s G
 match l,F,T with
 | [],_,T =>
  rw[compTurn_list1];refine zA (wF (zA (yQ T (λr p j=>?_) λ_ _ h'=>h'.elim)));cases r with
  |none=>exact zB j
  | some v =>
   refine zA (yQ j (λ_ u z=>?_) λ_ _ h'=>h'.elim);exact zA (yQ z (λ_ t y=>zA (zA (yQ (show wpAny _ _ _ _ _ _ from y) (λx q g=>zA (yQ g
    (λ_ C D=>zB (zB ⟨rfl,D⟩)) λ_ _ h'=>h'.elim)) λ_ _ h'=>h'.elim))) λ_ _ h'=>h'.elim)
 | [c],_,T =>
  have e1:compTurn (.ListComp e [⟨d,f,[c],0⟩] i k) 0 a acc env=(standAt f.pos >>= λ_=>pyNext a >>= λr=>match r with
   |none=>pure (.done .next)
   | some v=>letOwnedTupleGo d a v >>= λ_=>assign d env v >>= λ_=>isTrue c env (eval c env) >>= λok =>
    (if ok=true then(eval e env >>= λx=>call (.builtin "list.append") [acc,x] >>= λ_=>pure ()) >>= λ_=>again (.compLoop (.ListComp e [⟨d,f,[c],0⟩] i k) 0 a acc env)
     else again (.compLoop (.ListComp e [⟨d,f,[c],0⟩] i k) 0 a acc env))):=by
   unfold compTurn;simp only[List.forIn_cons,List.forIn_nil,if_true,bind_assoc,pure_bind,List.getElem?_cons_zero];rfl
  rw[e1];refine zA (wF (zA (yQ T (λr p j=>?_) λ_ _ h'=>h'.elim)));cases r with
  |none=>exact zB j
  | some v =>
   refine zA (yQ j (λ_ u z=>?_) λ_ _ h'=>h'.elim);refine zA (yQ z (λ_ t y=>zA (yQ (show wpAny _ _ _ _ _ _ from y) (λb q g=>?_) λ_ _ h'=>h'.elim)) λ_ _ h'=>h'.elim);cases b with
   |true =>
    rw[zF rfl]at g ⊢;exact zA (zA (yQ g (λx C D=>zA (yQ D (λ_ L K=>zB (zB ⟨rfl,K⟩)) λ_ _ h'=>h'.elim)) λ_ _ h'=>h'.elim))
   |false =>
    rw[zD yH]at g ⊢;exact zB ⟨rfl,g⟩
 |_:: _:: _,F,T =>
  exact absurd F (by simp)
def Qx(a:Addr)(N:Hp->Prop):Option V->Hp->Prop
 |some y,H=>∃zs,H a=some (.lst zs)/\zs.length<sizeLine/\N (upd H a (.lst (zs++[y])))
 |none,H=>N H
abbrev kL(J:It)(g:TG)(tt:TOx)(n:Nat)(fr:List (Str×Nat))(σ:St)(a:Addr)(H:Hp)(Q:VK):Prop:=
 ∃ W:Nat->Nat->Hp->Prop,(∃m,W 0 m (upd H a (.lst [])))/\∀i m H2,W i m H2->(J.stop i H2/\Q (.ref a) H2) \/
  (J.go i H2/\∃N:Hp->Prop,(∀H',N H'->∃m',m'<m/\W (i+1) m' H')/\∀(ys:St) x H3,ys.length=n->J.yld i H2 x H3 ->
   g x (ys++lV fr σ) H3 λσ4 H4=>(∃ys':St,ys'.length=n/\σ4=ys'++lV fr σ)/\tt σ4 H4 (Qx a N))
def kW(wi:TI)(g:TG)(tt:TOx)(n:Nat)(fr:List (Str×Nat)):TE:=λσ H Q=>wi σ H λJ H1=>∀a,H1 a=none->kL J g tt n fr σ a H1 Q
section
variable {X:Cx} {sc scope:Scope} {xs:List Str} {fr:List (Str×Nat)} {elt tg iter:Expr} {ifs:List Expr} {g:TG} {tt:TOx}
theorem Gb{G:PN}{D:St}{H:Hp}{s:Shared}{c9:Pos}{c0:It}{k:LA}{W:Addr}{M:Nat->Heap->Prop}{Q:VK}{RR:Value->Addr->Result->Shared->Prop}{E:VP}
  (c:iG X sc scope xs fr)(c7:X.calm=true)(S:ifs.length<=1)(I:Inv X G D H s)(T:Turn X.prog X.w X.K tg c0 k W M)(c6:M 0 s.heap)(a1:∀b∈k,FpOk X G H b)
  (f3:∀(v:Shared)(F:Hp)(k:LA),(lO X scope (xs++fr.map (·.1)) v F k).env.scope=jV sc scope->PG (lO X scope (xs++fr.map (·.1)) v F k) tg g)
  (e0:∀(v:Shared)(F:Hp)(k:LA),(lO X scope (xs++fr.map (·.1)) v F k).env.scope=jV sc scope->POx (lO X scope (xs++fr.map (·.1)) v F k) elt ifs tt)
  (g8:∀a,H a=none->kL c0 g tt xs.length fr D a H Q)
  (g7:∀a C H' t m,t.heap.Ns C m->Inv X G D H' t->FpOk X G H' C->Q (.ref a) H'->RR (.ref a) C (.ok .next) t):
  wpAny (model X.prog X.w) X.A (newList []) (λacc v=>wpAny (model X.prog X.w) X.A (newFunctionEnv scope X.env.globals (clOf X.env scope.names []) [] X.env.qual none .none (some X.env)) (λb6 f7 =>
   codeAny (model X.prog X.w) X.A (.compStart (.ListComp elt [⟨tg,iter,ifs,0⟩] scope c9) 0 (.ref W) acc {b6 with scope:=relabel scope X.env}) (RR acc b6.locals) f7) E v) E s:=by
 obtain⟨d0,⟨d7,d3⟩,g6⟩:=g8 s.heap.objs.size I.fresh;refine xD (Pa ?_);have a8:Inv X G D (upd H s.heap.objs.size (.lst [])) {s with heap:=s.heap.push {cls:=.type "list",dict:=none,data:=.seq ([]:LW).toArray}}:=I.lnew (ys:=[]) (its:=[]) (t':=s.toks) .nil (zY _);have U:∀b o,s.heap.get? b=some o->(s.heap.push {cls:=.type "list",dict:=none,data:=.seq ([]:LW).toArray}).get? b=some o:=λb o e=>zC _ e;have b9:Un (frs X.stack) k H (upd H s.heap.objs.size (.lst [])) s.heap (s.heap.push {cls:=.type "list",dict:=none,data:=.seq ([]:LW).toArray}):=Un.laid U (zE _) I.fresh;dsimp only;generalize hH2:s.heap.push {cls:=.type "list",dict:=none,data:=.seq ([]:LW).toArray}=l at a8 U b9 ⊢;have hsz:s.heap.objs.size<=l.objs.size:=by rw[←hH2,xP];exact tW _
 have b8:∀b∈k,∃o,s.heap.get? b=some o:=λb j=>let ⟨o,e,_⟩:=T.obj _ _ c6 b j;⟨o,e⟩
 have d5:∀b∈k,b≠s.heap.objs.size:=λb j=>let ⟨_,e⟩:=b8 b j;zW (zK e)
 have b7:∀b∈k,FpOk X G (upd H s.heap.objs.size (.lst [])) b/\∃o,l.get? b=some o:=λb j=>by
  obtain⟨o,e⟩:=b8 b j;exact⟨⟨by rw[nO (d5 b j)];exact(a1 b j).1,(a1 b j).2⟩,o,U b o e⟩
 have a3:=Qz c a8 b7;have e4:∀b o,l.get? b=some o->(pushCells (l.push {cls:=.type "dict",data:=.dict #[]}) scope.names).get? b=some o:=λb o e=>pY _ _ b o (zC _ e);have a9:M 0 (pushCells (l.push {cls:=.type "dict",data:=.dict #[]}) scope.names):=T.keep 0 _ _ c6 λb j o e=>e4 b o (U b o e);have c4:∀(v:Shared)(F:Hp)(k:LA),(lO X scope (xs++fr.map (·.1)) v F k).env.scope=jV sc scope:=λ_ _ _=>Pb c.hsc;have Y:∀{H':Hp},(∀b∈k,H' b=none)->∀b∈k,FpOk (lO X scope (xs++fr.map (·.1)) {s with heap:=l} (upd H s.heap.objs.size (.lst [])) k) [] H' b:=λg2 b j=>by
  obtain⟨e1,h0⟩:=a3.ok.exf b j;exact⟨g2 b j,e1,a3.ok.exfs b j,.inl j,h0,λp d8=>absurd (show p∈([]:PN) from d8) (by simp)⟩
 have c1:codeAny (model X.prog X.w) X.A (.compLoop (.ListComp elt [⟨tg,iter,ifs,0⟩] scope c9) 0 (.ref W) (.ref s.heap.objs.size) (compEnvC scope (cellsFrom (l.objs.size+1) scope.names (clOf X.env scope.names [])) l.objs.size X.env))
   (RR (.ref s.heap.objs.size) l.objs.size) {s with heap:=pushCells (l.push {cls:=.type "dict",data:=.dict #[]}) scope.names}:=by
  refine Qy (λn t=>∃i,∃ys:St,∃H',ys.length=xs.length/\Inv (lO X scope (xs++fr.map (·.1)) {s with heap:=l} (upd H s.heap.objs.size (.lst [])) k) [] (ys++lV fr D) H' t/\M i t.heap/\(∀b∈k,H' b=none)/\d0 i n H')
   ?_ d7 ⟨0,xs.map λ_=>none,_,by simp,a3,a9,λb j=>(b7 b j).1.1,d3⟩ S
  rintro n b2 ⟨i,ys,P,g5,b0,c5,d2,f0⟩;rcases g6 i n P f0 with⟨stop,e5⟩|⟨go,N,d4,step⟩
  ·refine thn (T.done (lO X scope (xs++fr.map (·.1)) {s with heap:=l} (upd H s.heap.objs.size (.lst [])) k) rfl rfl rfl c7 i [] b2 _ P (λ_ _=>False) b0 (Y d2) c5 stop) ?_;rintro r a7 ⟨hr,L⟩;subst hr;obtain⟨f9,f2,_⟩:=L.loc;have Z:Inv X G D P a7:=I.call' L.os (b9.trans L.base) L.hok L.bare λb j=>let f:=a1 b j;⟨f.2.2.2.1,f.2.1,f.2.2.2.2.1,f.2.2.2.2.2⟩
   exact g7 _ _ P a7 f9 f2 Z (I.fpOk hsz L.free) e5
  ·refine thn (T.item (lO X scope (xs++fr.map (·.1)) {s with heap:=l} (upd H s.heap.objs.size (.lst [])) k) rfl rfl rfl c7 i [] b2 _ P (λ_ _=>False) b0 (Y d2) c5 go) ?_;rintro r a7 ⟨u,hr,g4⟩;subst hr;refine thn g4 ?_;rintro _ b1 ⟨y,c8,Z,e9,g9,a5,f8⟩;have f5:=Z.pinned (Y f8) (T.obj _ _ a5);refine thn (f3 _ _ _ (c4 _ _ _) _ b1 _ c8 y u _ f5 e9 (step ys y c8 g5 g9)) ?_;rintro _ e8 ⟨h2,e6,f4,⟨c3,f1,d6⟩,d9⟩;subst d6;have b4:∀(J:Shared)(w:Hp),Inv (lO X scope (xs++fr.map (·.1)) {s with heap:=l} (upd H s.heap.objs.size (.lst [])) k) ([]++dU k b1.heap) (c3++lV fr D) w J->N w ->
     ∃m,m<n/\∃i,∃ys:St,∃H',ys.length=xs.length/\Inv (lO X scope (xs++fr.map (·.1)) {s with heap:=l} (upd H s.heap.objs.size (.lst [])) k) [] (ys++lV fr D) H' J/\M i J.heap/\(∀b∈k,H' b=none)/\d0 i m H':=by
    intro J w O a0;obtain⟨e2,g3,e3⟩:=d4 w a0;refine⟨e2,g3,i+1,c3,w,f1,O.unpinned,T.keep _ _ _ a5 λb j o e=>(O.pin (b,o) (yP _ (yP _ (bI j e)))).1,λb j=>?_,e3⟩;obtain⟨o,e,d⟩:=T.obj _ _ a5 b j;exact(O.pin (b,o) (yP _ (yP _ (bI j e)))).2.1
   have g1:=e0 _ _ _ (c4 _ _ _) _ e8 _ e6 _ f4 d9;have mono:∀{Q a6:Option Value->Shared->Prop}{E:VP}{t:Shared}{env:Env},(∀o V,Q o V->a6 o V)->cI elt ifs env (model X.prog X.w) X.A Q E t->cI elt ifs env (model X.prog X.w) X.A a6 E t:=by
    intro Q a6 E t env a2 K;unfold cI at K ⊢
    match ifs,S,K with
    |[],_,K=>exact yQ K (λx V q=>a2 _ _ q) λ_ _ e=>e
    |[c],_,K =>
     refine yQ K (λb V q=>?_) λ_ _ e=>e;split at q
     ·rename_i j;rw[zF j];exact yQ q (λx h1 q=>a2 _ _ q) λ_ _ e=>e
     ·rename_i j;rw[zD j];exact a2 _ _ q
    |_:: _:: _,S,_=>exact absurd S (by simp)
   refine mono (?_) g1;rintro o d1 ⟨R,c2,b3,a4,b5⟩;cases o with
   |none =>
    cases R with
    |none=>exact b4 d1 c2 b3 b5
    |some z=>exact a4.elim
   | some f6 =>
    cases R with
    |none=>exact a4.elim
    |some R =>
     obtain⟨zs,g0,hl,e7⟩:=b5;exact thn (eK _ d1 _ c2 (.ref s.heap.objs.size) [R] (.ref s.heap.objs.size) [f6] (λ_ w=>N w) b3 rfl (.cons a4 .nil) ⟨_,zs,R,rfl,rfl,g0,hl,e7⟩) λ_ J⟨_,w,O,_,a0⟩=>b4 J w O a0
 exact codeAny_compStart_list c1 (T.self _ 0 _ _ _ a9 c1)
variable {wi:TI}
theorem hX{F:Pos}(c:iG X sc scope xs fr)(y:X.calm=true)(hi:PI X tg iter wi)
  (u:∀(i:Shared)(j:Hp)(d:LA),(lO X scope (xs++fr.map (·.1)) i j d).env.scope=jV sc scope->PG (lO X scope (xs++fr.map (·.1)) i j d) tg g)
  (L:∀(i:Shared)(j:Hp)(d:LA),(lO X scope (xs++fr.map (·.1)) i j d).env.scope=jV sc scope->POx (lO X scope (xs++fr.map (·.1)) i j d) elt ifs tt)
  (O:ifs.length<=1:=by exact Nat.le_of_ble_eq_true rfl)(z:∀x,foldedSetIterable iter X.env x=pure x:=by intro _;rfl):PE X (.ListComp elt [⟨tg,iter,ifs,0⟩] scope F) (kW wi g tt xs.length fr):=by
 intro k s l H Q I h;rw[eval_ListComp];refine wpAny_comprehension_free (use:=none) rfl z (Go (c.cells I)) c.kind c.loc (thn (hi k s l H _ I h) λv U G=>thn G λV S J=>?_);obtain⟨R,d,P,W,Y,e,M,T,p,n,w⟩:=J;subst e;refine Gb (RR:=λacc C=>compPost (model X.prog X.w) X.A X.xe none (EP X k l Q) acc C) c y O M T p n u L w ?_;intro a C H' t m N K f q;exact⟨m,N,λh' r=>⟨.ref a,H',K.turned (t':=t.toks) (λb o D e=>(r.2 b D).trans e) f.1 f.2.1 f.2.2.2.1 f.2.2.2.2.1 f.2.2.2.2.2,rfl,q⟩⟩
theorem Ba{t w j:Pos}{y:Str}{i:Nat}(c:iG X sc scope xs fr)(P:X.calm=true)(M:X.N.Nodup)(S:X.N[i]?=some y)(hl:X.env.scope.names.lookup y=some .local)(hi:PI X tg iter wi)
  (J:∀(l:Shared)(n:Hp)(d:LA),(lO X scope (xs++fr.map (·.1)) l n d).env.scope=jV sc scope->PG (lO X scope (xs++fr.map (·.1)) l n d) tg g)
  (a0:∀(l:Shared)(n:Hp)(d:LA),(lO X scope (xs++fr.map (·.1)) l n d).env.scope=jV sc scope->POx (lO X scope (xs++fr.map (·.1)) l n d) elt ifs tt)
  (U:swapsWith (.ListComp elt [⟨tg,iter,ifs,0⟩] scope t) (some (.Name y j)) w.line X.env=pure true:=by rfl)
  (a4:ifs.length<=1:=by exact Nat.le_of_ble_eq_true rfl)(R:∀x,foldedSetIterable iter X.env x=pure x:=by intro _;rfl):PS X (.Assign [.Name y j] (.ListComp elt [⟨tg,iter,ifs,0⟩] scope t) w) (Gm i (kW wi g tt xs.length fr)):=by
 intro r s u H D I h;rw[exec_Assign_Name_used _ _ _ _ U];refine zA (wF (zA ?_));show wpAny _ _ (do let _ ←comprehension (.ListComp elt [⟨tg,iter,ifs,0⟩] scope t) scope X.env _ (newList []) false (eval iter X.env) (some (assign (.Name y j) X.env))) _ _ s;refine zA (yQ (wpAny_comprehension_free (use:=some (assign (.Name y j) X.env)) (Q:=λ_ k=>SP X r D .next k) rfl R (Go (c.cells I)) c.kind c.loc
  (thn (hi r s u H _ I h) λv a8 V=>thn V λa9 a7 Y=>?_)) (λ_ k Z=>zB (zB Z)) λ_ _ e=>e)
 obtain⟨a6,d,a5,b0,b1,e,a1,T,F,z,O⟩:=Y;subst e;refine Gb (RR:=λacc C=>compPost (model X.prog X.w) X.A X.xe (some (assign (.Name y j) X.env)) (λ_ k=>SP X r D .next k) acc C) (Q:=λv L=>D.nx (u.set i (some v)) L) c P a4 a1 T F z J a0 O ?_;intro a C H' k m a2 K f q;show wpAny _ _ (assign (.Name y j) X.env (.ref a)) _ _ _;refine wpAny_assign_Name (Fv K M S (.inl hl) (show RelV (.ref a) (.ref a) from rfl) (λW K2⟨b,N,p⟩=>?_) (.inr hl));have a3:C≠b:=by
  rcases p with e|e
  ·rw[e];exact f.2.1
  ·exact zT (f.2.2.2.2.1 y b e)
 refine⟨m,a2.sameBut N a3,λh' G=>?_⟩;exact⟨_,H',K2.turned (t':=W.toks) (λb o p e=>(G.2 b p).trans e) f.1 f.2.1 f.2.2.2.1 f.2.2.2.2.1 f.2.2.2.2.2,q⟩
end
def bV(sc:Scope)(N:List Str)(scope:Scope)(fr:List (Str×Nat)):Bool:=
 decide (scope.kind=.function) && decide ((scope.names.map (·.1)).Nodup) && decide (∀y∈scope.names,y.2=.free->sc.names.lookup y.1=some .cell\/sc.names.lookup y.1=some .free) &&
 decide (∀y∈scope.names,y.2=.local->scope.names.lookup y.1=some .local) && decide (∀p∈fr,N[p.2]?=some p.1/\scope.names.lookup p.1=some .free)
theorem jW{X:Cx}{sc a:Scope}{N xs:List Str}{fr:List (Str×Nat)}(c:X.env.scope=sc)(g:X.N=N)(h:bV sc N a fr=true):iG X sc a xs fr:=by
 unfold bV at h;simp only[Bool.and_eq_true,decide_eq_true_eq]at h;obtain⟨⟨⟨⟨e1,f⟩,b⟩,d⟩,e⟩:=h;subst g;exact⟨c,e1,f,b,d,e⟩
def bW(sc:Scope)(N:List Str)(i:Nat)(x:Str):Bool:=decide (N.Nodup) && decide (N[i]?=some x) && (decide (sc.names.lookup x=some .local))
theorem iH{X:Cx}{sc:Scope}{N:List Str}{i:Nat}{x:Str}{b:Pos}(a:X.env.scope=sc)(c:X.N=N)(h:bW sc N i x=true):PG X (.Name x b) (nX i):=by
 unfold bW at h;simp only[Bool.and_eq_true,decide_eq_true_eq]at h;subst a c;exact mP h.1.1 h.1.2 (.inl h.2) (.inr h.2)
theorem cJ{X:Cx}{sc:Scope}{N:List Str}{i:Nat}{x:Str}{b:Pos}(a:X.env.scope=sc)(c:X.N=N)(h:(decide (N.Nodup) && decide (N[i]?=some x) && (decide (sc.names.lookup x=some .cell)))=true)(d:X.fn x=true):PG X (.Name x b) (nX i):=by
 simp only[Bool.and_eq_true,decide_eq_true_eq]at h;subst a c;exact mP h.1.1 h.1.2 (.inr h.2) (.inl d)
def SqB(b:Bool)(K:Frag)(H:Hp)(a:Addr)(xs:List V):Prop:=match b with|false=>SqL K H a xs|true=>SqT K H a xs
def ItB(b:Bool)(h:Heap)(it a:Addr)(i:Nat):Prop:=match b with|false=>h.IsListIter it a i|true=>h.IsTupleIter it a i
def seqB(b:Bool)(h:Heap)(a:Addr)(its:Array Value):Prop:=match b with|false=>h.IsList a its|true=>h.IsTuple a its
def nmB(b:Bool):String:=match b with|false => "list_iterator" |true => "tuple_iterator"
theorem ItB.at{b:Bool}{h h':Heap}{c a:Addr}{i:Nat}(x:ItB b h c a i)(e:∀o,h.get? c=some o->h'.get? c=some o):ItB b h' c a i:=by
 cases b
 ·exact Heap.IsListIter.at x e
 ·exact Heap.IsTupleIter.at x e
theorem seqB.at{b:Bool}{h h':Heap}{a:Addr}{its:Array Value}(x:seqB b h a its)(e:∀o,h.get? a=some o->h'.get? a=some o):seqB b h' a its:=by
 cases b
 ·exact Heap.IsList.at x e
 ·obtain⟨o,c,r⟩:=x;exact⟨o,e o c,r⟩
theorem ItB.lt{b:Bool}{h:Heap}{f a:Addr}{i:Nat}(x:ItB b h f a i):∃o,h.get? f=some o/\∀v,o.data≠.cell v:=by
 cases b
 ·obtain⟨o,e,c,d⟩:=x;exact⟨o,e,λv z=>by rw[d]at z;cases z⟩
 ·obtain⟨o,e,c,d⟩:=x;exact⟨o,e,λv z=>by rw[d]at z;cases z⟩
section
variable {prog:Program} {w:World} {A:Around} {E:VP} {s:Shared}
theorem Qw{b a:Addr}{i:Nat}{items}{x:Value}{Q:VP}(e:s.heap.IsTupleIter b a i)(f:s.heap.IsTuple a items)(k:items[i]?=some x)
  (l:∀h',h'.IsTupleIter b a (i+1)->Heap.SameBut b s.heap h'->Q x {s with heap:=h'}):wpAny (model prog w) A (Builtin.SmallTypes.nextOf (.ref b)) Q E s:=by
 obtain⟨o,d,m,c⟩:=id e;obtain⟨p,j,_,n,g⟩:=f;unfold Builtin.SmallTypes.nextOf;refine zA (xO (name:=Str.ofString "__next__") e.typeIs vV
  (xE vV e.typeIs F.entry_tuple_iterator_next ?_ (F.args_tuple_iterator_next_1 _)))
 show wpAny _ _ (field (.ref b) 0 >>= _) _ _ s;refine zA (xA d c (x:=.ref a) rfl ?_);show wpAny _ _ (if(Value.ref a == Value.none)=true then _ else _) _ _ s;rw[zD (show¬ ((Value.ref a == Value.none)=true) from yH)];show wpAny _ _ (field (.ref b) 1 >>= _) _ _ s;refine zA (xA d c (x:=.int i 0) rfl ?_);show wpAny _ _ (seqItems? (.ref a) >>= _) _ _ s;refine zA (wJ j g ?_);simp only[Int.toNat_natCast,k];refine zA (vL d c (by simp) (zB ⟨x,rfl,zB (l _ ?_ (xY ..))⟩));exact⟨_,xB _ d (tG (wU c _)),(qW ..).trans m,by
  rw[wU c];simp[rawInt]⟩
theorem Qv{b a:Addr}{i:Nat}{items}{Q:VP}(hh:A.handled=none)(f:s.heap.IsTupleIter b a i)(g:s.heap.IsTuple a items)(m:items[i]?=none)
  (l:∀h' e,Heap.ExtBut b s.heap h'->(∃o,h'.get? e=some o/\o.cls=.type "StopIteration")->E (.ref e) {s with heap:=h'}):wpAny (model prog w) A (Builtin.SmallTypes.nextOf (.ref b)) Q E s:=by
 obtain⟨o,c,q,d⟩:=id f;obtain⟨p,k,_,n,j⟩:=g;unfold Builtin.SmallTypes.nextOf;refine zA (xO (name:=Str.ofString "__next__") f.typeIs vV
  (xE vV f.typeIs F.entry_tuple_iterator_next ?_ (F.args_tuple_iterator_next_1 _)))
 show wpAny _ _ (field (.ref b) 0 >>= _) _ _ s;refine zA (xA c d (x:=.ref a) rfl ?_);show wpAny _ _ (if(Value.ref a == Value.none)=true then _ else _) _ _ s;rw[zD (show¬ ((Value.ref a == Value.none)=true) from yH)];show wpAny _ _ (field (.ref b) 1 >>= _) _ _ s;refine zA (xA c d (x:=.int i 0) rfl ?_);show wpAny _ _ (seqItems? (.ref a) >>= _) _ _ s;refine zA (wJ k j ?_);simp only[Int.toNat_natCast,m];refine zA (wG (zA (vL c d (by simp) ?_)));show wpAny _ _ (newExc (.type "StopIteration") [] >>= _) _ _ _;refine zA ?_;simp only[newExc,newTuple];refine zA (xD ?_ (by size_fits));refine zA (m:=firstArgMember _ _) (wpAny_of_eq (a:=Value.none) (by first|rfl|(simp only[firstArgMember];rfl)) ?_);refine xD ?_ (by size_fits);simp only[raiseNew];refine zA (wpAny_handled ?_)
 first|rw[show A.in1.handled=none from hh]|rw[hh]
 refine zA (zB (wpAny_throw ?_));exact l _ _ (((xY ..).extBut.push _).push _) ⟨_,zQ _ rfl,rfl⟩
theorem bX{b:Bool}{a l:Addr}{i:Nat}{items:Array Value}{x:Value}{Q:VP}(c:ItB b s.heap a l i)(hl:seqB b s.heap l items)(e:items[i]?=some x)
  (d:∀h',ItB b h' a l (i+1)->Heap.SameBut a s.heap h'->Q x {s with heap:=h'}):wpAny (model prog w) A (Builtin.SmallTypes.nextOf (.ref a)) Q E s:=by
 cases b
 ·exact wpAny_nextOf_list_item c hl e d
 ·exact Qw c hl e d
theorem Cz{b:Bool}{a l:Addr}{i:Nat}{items:Array Value}{Q:VP}(hh:A.handled=none)(c:ItB b s.heap a l i)(hl:seqB b s.heap l items)(f:items[i]?=none)
  (d:∀h' e,Heap.ExtBut a s.heap h'->(∃o,h'.get? e=some o/\o.cls=.type "StopIteration")->E (.ref e) {s with heap:=h'}):wpAny (model prog w) A (Builtin.SmallTypes.nextOf (.ref a)) Q E s:=by
 cases b
 ·exact wpAny_nextOf_list_end hh c hl f d
 ·exact Qv hh c hl f d
theorem Ga{b:Bool}{l:Addr}{items:Array Value}{Q:VP}(hl:seqB b s.heap l items)
  (a:Q (.ref s.heap.objs.size) {s with heap:=s.heap.push {cls:=.type (nmB b),data:=.fields #[.ref l,.int 0 0]}}):wpAny (model prog w) A (pyIter (.ref l)) Q E s:=by
 cases b
 ·exact sT hl a
 ·exact uP hl a
theorem Hz{b:Bool}{h:Heap}{l:Addr}:ItB b (h.push {cls:=.type (nmB b),data:=.fields #[.ref l,.int 0 0]}) h.objs.size l 0:=by
 cases b
 ·exact⟨_,zQ _ rfl,rfl,rfl⟩
 ·exact⟨_,zQ _ rfl,rfl,rfl⟩
theorem Hy(b:Bool)(hh:A.handled=none)(a l:Addr)(f:l≠a)(items:Array Value):
  Draws prog w A a [a,l] items.size (λi v=>items[i]?=some v) (λi h=>ItB b h a l i/\seqB b h l items) where
 live:=λ_ _ st=>let ⟨o,k,_⟩:=st.1.lt;⟨o,k⟩
 frame:=λ_ _ _ st d=>⟨st.1.at λo e=>d a (by simp) o e,st.2.at λo e=>d l (by simp) o e⟩
 item:=λi s Q E hi st m=>by
  refine bX st.1 st.2 (x:=items[i]) (by simp[hi]) λh' g c=>?_;exact m _ h' s.toks (by simp[hi]) ⟨g,st.2.at λo e=>(c.2 l f).trans e⟩ c
 done:=λs Q E st j=>Cz hh st.1 st.2 (by simp) j
theorem Qu{b1 b2:Bool}{z TI TO g f l1 l2:Addr}{k1 k2:Nat}{xs ys:Array Value}{x y a b:Value}{Q:Option Value->Shared->Prop}(D:ZipApart z TI TO g f l1 l2)
  (m:IsZip s.heap z TI TO .none)(a9:IsPair s.heap TI (.ref g) (.ref f))(U:IsPair s.heap TO a b)
  (a5:ItB b1 s.heap g l1 k1)(a8:ItB b2 s.heap f l2 k2)(b5:seqB b1 s.heap l1 xs)(a2:seqB b2 s.heap l2 ys)(b0:xs[k1]?=some x)(a4:ys[k2]?=some y)
  (a6:∀h',IsZip h' z TI TO (rawInt s.heap.objs.size)->IsPair h' TO x y->ItB b1 h' g l1 (k1+1)->ItB b2 h' f l2 (k2+1)->IsPair h' s.heap.objs.size x y->h'.objs.size=s.heap.objs.size+1 ->
   (∀c o,c≠z->c≠TO->c≠g->c≠f->s.heap.get? c=some o->h'.get? c=some o)->Q (some (.ref s.heap.objs.size)) {s with heap:=h'}):
  wpAny (model prog w) A (pyNext (.ref z)) Q E s:=by
 have P:s.TypeIs (.ref z) "zip" := ⟨_,m,rfl⟩;unfold pyNext;refine zA (vF (xO (name:=Str.ofString "__next__") P rR (xE rR P F.entry_zip_next ?_ (F.args_zip_next_1 _))));show wpAny _ _ (field (.ref z) 2 >>= _) _ _ _;refine zA (xA m rfl (x:=.bool false) rfl ?_);show wpAny _ _ (field (.ref z) 3 >>= _) _ _ _;refine zA (xA m rfl (x:=.ref TI) rfl ?_);refine zA (wJ a9 rfl ?_);show wpAny _ _ (Builtin.SmallTypes.ownedTupleIsFree (.ref z) >>= _) _ _ _;refine zA ?_;unfold Builtin.SmallTypes.ownedTupleIsFree;refine zA (xA m rfl (x:=.none) rfl (zB ?_));simp only[if_true];refine zA (wG ?_);refine zA (xA m rfl (x:=.ref TO) rfl ?_);refine zA (vP m (by simp) λZ v j=>?_);replace v:IsZip Z z TI TO .ellipsis:=v;refine zA ?_;simp only[List.zipIdx_cons,List.zipIdx_nil,List.forIn_cons,List.forIn_nil];refine zA (zA (rE ?_));show wpAny _ _ (Builtin.SmallTypes.nextOf (.ref g) >>= _) _ _ _;refine zA (bX (a5.at λo e=>j.extBut _ _ D.i1z e) (b5.at λo e=>j.extBut _ _ D.l1z e) b0 λa1 a3 k=>zB ?_);have R:IsPair a1 TO a b:=k.extBut _ _ D.TOi1 (j.extBut _ _ D.TOz U);refine zA (wJ R rfl ?_);refine zA (rQ R λb3 I l=>?_);replace I:IsPair b3 TO x b:=I;refine zA (qG (zB ?_));refine zA (zA (rE ?_));show wpAny _ _ (Builtin.SmallTypes.nextOf (.ref f) >>= _) _ _ _;refine zA (bX (a8.at λo e=>l.extBut _ _ D.TOi2.symm (k.extBut _ _ D.i12.symm (j.extBut _ _ D.i2z e)))
  (a2.at λo e=>l.extBut _ _ D.l2TO (k.extBut _ _ D.l2i1 (j.extBut _ _ D.l2z e))) a4 λa7 b4 n=>zB ?_)
 have O:IsPair a7 TO x b:=n.extBut _ _ D.TOi2 I;refine zA (wJ O rfl ?_);refine zA (rQ O λd u p=>?_);replace u:IsPair d TO x y:=u;refine zA (qG (zB (zB ?_)));refine zA (wJ u rfl ?_);refine zA (qD ?_);have hsz:d.objs.size=s.heap.objs.size:=by rw[p.1,n.1,l.1,k.1,j.1]
 have M:IsZip d z TI TO .ellipsis:=p.extBut _ _ D.TOz.symm (n.extBut _ _ D.i2z.symm (l.extBut _ _ D.TOz.symm (k.extBut _ _ D.i1z.symm v)));have a0:∀c o,c≠z->c≠TO->c≠g->c≠f->s.heap.get? c=some o->d.get? c=some o:=λc o i r C J e =>
  p.extBut _ _ r (n.extBut _ _ J (l.extBut _ _ r (k.extBut _ _ C (j.extBut _ _ i e))))
 have X:ItB b1 d g l1 (k1+1):=a3.at λo e=>p.extBut _ _ D.TOi1.symm (n.extBut _ _ D.i12 (l.extBut _ _ D.TOi1.symm e));have W:ItB b2 d f l2 (k2+1):=b4.at λo e=>p.extBut _ _ D.TOi2.symm e;have T:z<d.objs.size:=zK M;show wpAny _ _ (Builtin.SmallTypes.ownedTupleHandOut (.ref z) (.ref d.objs.size) >>= _) _ _ _;refine zA ?_;unfold Builtin.SmallTypes.ownedTupleHandOut;have Y:IsZip (d.push {cls:=.type "tuple",data:=.seq #[x,y]}) z TI TO .ellipsis:=zC _ M;refine zA (vP Y (by simp) λV L G=>?_);replace L:IsZip V z TI TO (rawInt d.objs.size):=L;refine vP L (by simp) λq t K=>?_;replace t:IsZip q z TI TO (rawInt d.objs.size):=t;have up:∀c o,c≠z->d.get? c=some o->q.get? c=some o:=λc o i e=>K.extBut _ _ i (G.extBut _ _ i (zC _ e));have S:IsPair q d.objs.size x y:=K.extBut _ _ (sJ T) (G.extBut _ _ (sJ T) (zQ _ rfl));have N:q.objs.size=d.objs.size+1:=by rw[K.1,G.1,xP]
 rw[hsz]at t S N;refine zB ⟨_,rfl,zB ?_⟩;show Q (some (.ref d.objs.size)) _;rw[hsz];exact a6 q t (up _ _ D.TOz u) (X.at λo e=>up _ o D.i1z e) (W.at λo e=>up _ o D.i2z e) S N λc o i r C J e=>up c o i (a0 c o i r C J e)
theorem Qt{b1 b2:Bool}{z TI TO m k l1 l2:Addr}{k1 k2:Nat}{xs ys:Array Value}{a b:Value}{Q:Option Value->Shared->Prop}(hh:A.handled=none)(D:ZipApart z TI TO m k l1 l2)
  (j:IsZip s.heap z TI TO .none)(a0:IsPair s.heap TI (.ref m) (.ref k))(R:IsPair s.heap TO a b)
  (K:ItB b1 s.heap m l1 k1)(Y:ItB b2 s.heap k l2 k2)(O:seqB b1 s.heap l1 xs)(V:seqB b2 s.heap l2 ys)(P:xs[k1]?=none\/ys[k2]?=none)
  (L:∀h',(∀c o,c≠z->c≠TO->c≠m->c≠k->s.heap.get? c=some o->h'.get? c=some o)->Q none {s with heap:=h'}):wpAny (model prog w) A (pyNext (.ref z)) Q E s:=by
 have G:s.TypeIs (.ref z) "zip" := ⟨_,j,rfl⟩;unfold pyNext;refine zA (vF (xO (name:=Str.ofString "__next__") G rR (xE rR G F.entry_zip_next (Q:=_) ?_ (F.args_zip_next_1 _))));show wpAny _ _ (field (.ref z) 2 >>= _) _ _ _;refine zA (xA j rfl (x:=.bool false) rfl ?_);show wpAny _ _ (field (.ref z) 3 >>= _) _ _ _;refine zA (xA j rfl (x:=.ref TI) rfl ?_);refine zA (wJ a0 rfl ?_);show wpAny _ _ (Builtin.SmallTypes.ownedTupleIsFree (.ref z) >>= _) _ _ _;refine zA ?_;unfold Builtin.SmallTypes.ownedTupleIsFree;refine zA (xA j rfl (x:=.none) rfl (zB ?_));simp only[if_true];refine zA (wG ?_);refine zA (xA j rfl (x:=.ref TO) rfl ?_);refine zA (vP j (by simp) λT p d=>?_);replace p:IsZip T z TI TO .ellipsis:=p;refine zA ?_;simp only[List.zipIdx_cons,List.zipIdx_nil,List.forIn_cons,List.forIn_nil];refine zA (zA (rE ?_));show wpAny _ _ (Builtin.SmallTypes.nextOf (.ref m) >>= _) _ _ _;cases hx:xs[k1]? with
 |none =>
  refine zA (Cz hh (K.at λo e=>d.extBut _ _ D.i1z e) (O.at λo e=>d.extBut _ _ D.l1z e) hx λt e f v=>?_);obtain⟨u,i,n⟩:=v;have N:IsZip t z TI TO .ellipsis:=f _ _ D.i1z.symm p;have r:e≠z:=λx=>by subst x;rw[N]at i;cases i;simp at n
  refine vP N (by simp) λM _ g=>?_;refine zA (vM (T:= "StopIteration") (b:=true) ⟨u,g.extBut _ _ r i,n⟩ oJ ?_);exact zB (L M λc o l _ q _ x=>g.extBut _ _ l (f _ _ q (d.extBut _ _ l x)))
 | some x =>
  have W:ys[k2]?=none:=by rcases P with h|h;rw[hx]at h;cases h;exact h
  refine zA (bX (K.at λo e=>d.extBut _ _ D.i1z e) (O.at λo e=>d.extBut _ _ D.l1z e) hx λt a1 f=>zB ?_);have I:IsPair t TO a b:=f.extBut _ _ D.TOi1 (d.extBut _ _ D.TOz R);refine zA (wJ I rfl ?_);refine zA (rQ I λM a2 g=>?_);refine zA (qG (zB ?_));refine zA (zA (rE ?_));show wpAny _ _ (Builtin.SmallTypes.nextOf (.ref k) >>= _) _ _ _;refine zA (Cz hh (Y.at λo e=>g.extBut _ _ D.TOi2.symm (f.extBut _ _ D.i12.symm (d.extBut _ _ D.i2z e)))
   (V.at λo e=>g.extBut _ _ D.l2TO (f.extBut _ _ D.l2i1 (d.extBut _ _ D.l2z e))) W λX e y v=>?_)
  obtain⟨u,i,n⟩:=v;have J:IsZip X z TI TO .ellipsis:=y _ _ D.i2z.symm (g.extBut _ _ D.TOz.symm (f.extBut _ _ D.i1z.symm p));have r:e≠z:=λx=>by subst x;rw[J]at i;cases i;simp at n
  refine vP J (by simp) λU _ C=>?_;refine zA (vM (T:= "StopIteration") (b:=true) ⟨u,C.extBut _ _ r i,n⟩ oJ ?_);exact zB (L U λc o l S q Z x=>C.extBut _ _ l (y _ _ Z (g.extBut _ _ S (f.extBut _ _ q (d.extBut _ _ l x)))))
end
abbrev zB1(b1:Bool)(h:Heap)(l1:Addr):Heap:=h.push {cls:=.type (nmB b1),data:=.fields #[.ref l1,.int 0 0]}
abbrev zB2(b1 b2:Bool)(h:Heap)(l1 l2:Addr):Heap:=(zB1 b1 h l1).push {cls:=.type (nmB b2),data:=.fields #[.ref l2,.int 0 0]}
abbrev zB3(b1 b2:Bool)(h:Heap)(l1 l2:Addr):Heap:=(zB2 b1 b2 h l1 l2).push {cls:=.type "tuple",data:=.seq #[.ref h.objs.size,.ref (zB1 b1 h l1).objs.size]}
abbrev zB4(b1 b2:Bool)(h:Heap)(l1 l2:Addr):Heap:=(zB3 b1 b2 h l1 l2).push {cls:=.type "tuple",data:=.seq #[.none,.none]}
abbrev zB5(b1 b2:Bool)(h:Heap)(l1 l2:Addr):Heap:=(zB4 b1 b2 h l1 l2).push {cls:=.type "zip",data:=.fields #[.none,.bool false,.bool false,.ref (zB2 b1 b2 h l1 l2).objs.size,.ref (zB3 b1 b2 h l1 l2).objs.size]}
theorem Qs(b1 b2:Bool)(l1 l2:Addr)(xs ys:Array Value):
  Meets (Builtin.«zip.__new__» ⟨[.type "zip",.ref l1,.ref l2],[]⟩) (λ_ R s=>seqB b1 s.heap l1 xs/\seqB b2 s.heap l2 ys /\
   R (.ok (.ret (.ref (zB4 b1 b2 s.heap l1 l2).objs.size))) {s with heap:=zB5 b1 b2 s.heap l1 l2}):=
 .of_wp λprog w A R s h=>by
  obtain⟨b,g,d,tk,a⟩:=s;obtain⟨j,i,h⟩:=h;have k:=sub_zip;have f:seqB b1 (Shared.heap ⟨b,g,d,tk,a⟩) l1 xs:=j;have c:seqB b2 (Shared.heap ⟨b.push {cls:=.type (nmB b1),data:=.fields #[.ref l1,.int 0 0]},g,d,tk,a⟩) l2 ys:=i.at λo e=>zC _ e
  wp_walk using Ga f,Ga c
  exact⟨_,rfl,h⟩
theorem Qr{prog:Program}{w:World}{A:Around}{E:VP}{s:Shared}{b1 b2:Bool}{l1 l2:Addr}{xs ys:Array Value}{Q:VP}(p:seqB b1 s.heap l1 xs)(q:seqB b2 s.heap l2 ys)
  (h:∀h',IsZip h' (s.heap.objs.size+4) (s.heap.objs.size+2) (s.heap.objs.size+3) .none->IsPair h' (s.heap.objs.size+2) (.ref s.heap.objs.size) (.ref (s.heap.objs.size+1)) ->
   IsPair h' (s.heap.objs.size+3) .none .none->ItB b1 h' s.heap.objs.size l1 0->ItB b2 h' (s.heap.objs.size+1) l2 0 ->
   (∀c o,s.heap.get? c=some o->h'.get? c=some o)->Q (.ref (s.heap.objs.size+4)) {s with heap:=h'}):
  wpAny (model prog w) A (call (.type "zip") [.ref l1,.ref l2]) Q E s:=by
 refine callType_new F.called_zip ∅ (F.typeCall_zip_2 _ _) (F.newCall_zip_2 _ _) (λn=>F.args_object_init_3 n _ _) F.entry_zip_new
  (Qs b1 b2 l1 l2 xs ys) ⟨p,q,?_⟩
 have b:(zB1 b1 s.heap l1).objs.size=s.heap.objs.size+1:=xP ..;have g:(zB2 b1 b2 s.heap l1 l2).objs.size=s.heap.objs.size+2:=by rw[xP,b]
 have a:(zB3 b1 b2 s.heap l1 l2).objs.size=s.heap.objs.size+3:=by rw[xP,g]
 have i:(zB4 b1 b2 s.heap l1 l2).objs.size=s.heap.objs.size+4:=by rw[xP,a]
 have d:(zB5 b1 b2 s.heap l1 l2).get? (zB4 b1 b2 s.heap l1 l2).objs.size=some _:=zQ _ rfl;have l:(zB5 b1 b2 s.heap l1 l2).get? (zB3 b1 b2 s.heap l1 l2).objs.size=some _:=zC _ (zQ _ rfl);have j:(zB5 b1 b2 s.heap l1 l2).get? (zB2 b1 b2 s.heap l1 l2).objs.size=some _:=zC _ (zC _ (zQ _ rfl));have f:∀c o,(zB2 b1 b2 s.heap l1 l2).get? c=some o->(zB5 b1 b2 s.heap l1 l2).get? c=some o:=λc o e=>zC _ (zC _ (zC _ e));have k:ItB b2 (zB5 b1 b2 s.heap l1 l2) (zB1 b1 s.heap l1).objs.size l2 0:=Hz.at λo e=>f _ o e;have m:ItB b1 (zB5 b1 b2 s.heap l1 l2) s.heap.objs.size l1 0:=Hz.at λo e=>f _ o (zC _ e);show _/\_;rw[g,a,i]at d;rw[b,g]at j;rw[a]at l;rw[b]at k;rw[i];exact⟨⟨_,d,rfl⟩,h _ d j l m k λc o x=>f c o (zC _ (zC _ x))⟩
section
variable {X:Cx} {pins:PN} {σ:St} {H:Hp} {s:Shared} {h':Heap}
theorem Inv.seqB{b:Bool}{a:Addr}{xs:List V}(I:Inv X pins σ H s)(h:SqB b X.K H a xs):∃its:LW,Vals xs its/\L2.seqB b s.heap a its.toArray:=by
 cases b
 ·obtain⟨its,c,p,_⟩:=I.list h;exact⟨its,c,p.isList⟩
 ·obtain⟨its,c,p,_⟩:=I.tuple h;exact⟨its,c,p⟩
theorem Inv.seqB_inj{b:Bool}{a:Addr}{xs ys:List V}(I:Inv X pins σ H s)(h:SqB b X.K H a xs)(c:SqB b X.K H a ys):xs=ys:=by
 cases b
 ·exact I.list_inj h c
 ·exact I.tuple_inj h c
theorem Inv.seq_ne{b:Bool}{a f:Addr}{xs:List V}(I:Inv X pins σ H s)(h:SqB b X.K H a xs)(d:FpOk X pins H f):a≠f:=by
 have g:∀u,Rd H a u->a≠f:=λu r z=>by
  subst z;rcases r with r|⟨o,r⟩ <;> (rw[d.1]at r;cases r)
 have i:∀o,X.K.lookup a=some o->a≠f:=λo e z=>by
  subst z;have q:=I.mod.kin a o e;rcases d.2.2.2.1 with w|w
  ·exact I.ok.noex _ _ q w
  ·exact absurd (zP (zK q) (yC I.ok.bsz w)) (yZ _)
 cases b
 ·rcases h with h|⟨o,its,n,c,_⟩
  ·exact g _ h
  ·exact i _ c
 ·rcases h with h|⟨o,its,n,c,_⟩
  ·exact g _ h
  ·exact i _ c
theorem Inv.turnedNew{d:LA}{n:Addr}{u:HO}{t':Nat}(I:Inv X pins σ H s)(i:∀b∈d,FpOk X pins H b)(k:∀b o,b∉d->s.heap.get? b=some o->h'.get? b=some o)(j:s.heap.objs.size<=n)
  (new:mI X.prog X.w (upd H n u) h' n u):Inv X pins σ (upd H n u) {s with heap:=h',toks:=t'}:=by
 have f:=I.hok.fresh j;have l:∀b v,H b=some v->b∉d:=λb v e z=>by rw[(i b z).1]at e;cases e
 have t:X.env.locals∉d:=λz=>(i _ z).2.1 rfl;refine I.step (g':=s.gens) (d':=s.drawn) (ch:=d) (λb g=>?_) (λb o _ _ a e _=>k b o a e) (λb o _ _ a e _=>⟨o.slots,k b o a e⟩) (λb o _ e z=>?_)
  (λb o a e=>⟨o,k b o a e⟩) (λb xs e=>?_) (λb o v e=>?_) (λb ps e=>⟨#[],?_⟩) (λm D=>?_) (λb v e=>?_) I.bare
 ·obtain⟨J,F,G,C,w,p⟩:=i b g;exact⟨C,F,w,p⟩
 ·rw[nO (zW (zP (zK e) j))];exact z
 ·rw[nO (lI e f)];exact e
 ·rw[nO (lI e f)];exact e
 ·rw[nO (lI e f),e];simp
 ·obtain⟨o,es,ep,y,r⟩:=D;exact⟨o,es,ep,k _ o t y,r⟩
 ·by_cases g:b=n
  ·subst g;rw[nN]at e;cases e;exact new
  ·rw[nO g]at e;refine(I.hok b v e).stay (λc x a q=>k c x ?_ q) (λc q=>by rw[nO (lI q f)];exact q) λc xs q=>by rw[nO (lI q f)];exact q
   rcases a with z|z
   ·rw[z];exact l b v e
   ·exact l c _ z
theorem Inv.turnedL{d:LA}{t':Nat}(I:Inv X pins σ H s)(f:∀b∈d,FpOk X pins H b)(k:∀b o,b∉d->s.heap.get? b=some o->h'.get? b=some o):Inv X pins σ H {s with heap:=h',toks:=t'}:=by
 have g:∀b v,H b=some v->b∉d:=λb v e z=>by rw[(f b z).1]at e;cases e
 have j:X.env.locals∉d:=λz=>(f _ z).2.1 rfl;refine I.step (g':=s.gens) (d':=s.drawn) (ch:=d) (λb w=>?_) (λb o _ _ a e _=>k b o a e) (λb o _ _ a e _=>⟨o.slots,k b o a e⟩) (λb o _ e z=>z)
  (λb o a e=>⟨o,k b o a e⟩) (λb xs e=>e) (λb o v e=>e) (λb ps e=>⟨#[],by rw[e];simp⟩) (λm t=>?_) (λb v e=>?_) I.bare
 ·obtain⟨C,u,y,p,l,i⟩:=f b w;exact⟨p,u,l,i⟩
 ·obtain⟨o,es,ep,n,r⟩:=t;exact⟨o,es,ep,k _ o j n,r⟩
 ·refine(I.hok b v e).stay (λc x a q=>k c x ?_ q) (λc q=>q) λc xs q=>q;rcases a with z|z
  ·rw[z];exact g b v e
  ·exact g c _ z
end
def Itz(K:Frag)(b1:Bool)(l1:Addr)(b2:Bool)(l2:Addr):It:=
  ⟨λi H=>∃xs ys x y,SqB b1 K H l1 xs/\SqB b2 K H l2 ys/\xs[i]?=some x/\ys[i]?=some y,
   λi H v H'=>∃p x y,v=.ref p/\H p=none/\H'=upd H p (.tup [x,y])/\(∀xs,SqB b1 K H l1 xs->xs[i]?=some x)/\∀ys,SqB b2 K H l2 ys->ys[i]?=some y,
   λi H=>∃xs ys,SqB b1 K H l1 xs/\SqB b2 K H l2 ys/\(xs[i]?=none\/ys[i]?=none)⟩
theorem Hx{xs:List V}{its:LW}{i:Nat}(r:Vals xs its):xs[i]?=none->its.toArray[i]?=none:=λh=>by
 have:=r.none_of h;simpa using this
theorem Qq{P:Program}{w:World}{K:Frag}{es:List Expr}{k:Nat}{d1:Pos}{b1 b2:Bool}{z TI TO g d l1 l2:Addr}(S:[z,TI,TO,g,d].Nodup):
  Turn P w K (.Tuple es k d1) (Itz K b1 l1 b2 l2) [z,TI,TO,g,d] z (λi h=>IsZip h z TI TO .none/\IsPair h TI (.ref g) (.ref d)/\(∃a b,IsPair h TO a b)/\ItB b1 h g l1 i/\ItB b2 h d l2 i) where
 mem:=by simp
 obj:=λi h⟨C,l,⟨a,b,p⟩,t,u⟩c N=>by
  simp only[List.mem_cons,List.not_mem_nil,or_false]at N;rcases N with e|e|e|e|e <;> subst e
  ·exact⟨_,C,λv q=>by have O:Data.fields _=Data.cell v:=q;cases O⟩
  ·exact⟨_,l,λv q=>by have O:Data.seq _ _=Data.cell v:=q;cases O⟩
  ·exact⟨_,p,λv q=>by have O:Data.seq _ _=Data.cell v:=q;cases O⟩
  ·exact t.lt
  ·exact u.lt
 keep:=λi h h'⟨C,l,⟨a,b,p⟩,t,u⟩M=>⟨M z (by simp) _ C,M TI (by simp) _ l,⟨a,b,M TO (by simp) _ p⟩,t.at λo e=>M g (by simp) o e,u.at λo e=>M d (by simp) o e⟩
 item:=by
  intro X b5 a2 a5 N i b8 s c2 H E I r st Y;subst b5 a2 a5;obtain⟨C,l,⟨a,b,p⟩,t,u⟩:=st;obtain⟨xs,ys,x,y,L,J,e1,c1⟩:=Y;obtain⟨d8,r1,a9⟩:=I.seqB L;obtain⟨c9,r2,Z⟩:=I.seqB J;obtain⟨b9,d5,c6⟩:=r1.get e1;obtain⟨c0,d2,c8⟩:=r2.get c1;have j:∀f∈[z,TI,TO,g,d],l1≠f:=λf F=>I.seq_ne L (r f F);have m:∀f∈[z,TI,TO,g,d],l2≠f:=λf F=>I.seq_ne J (r f F);simp only[List.nodup_cons,List.mem_cons,List.not_mem_nil,or_false,not_or,List.nodup_nil,and_true,not_false_eq_true]at S;obtain⟨⟨a7,b3,b4,a1⟩,⟨a6,a4,a0⟩,⟨b6,U⟩,b0⟩:=S;have D:ZipApart z TI TO g d l1 l2:=⟨zT a7,zT b3,zT b4,zT a1,a6,a4,a0,b6,U,b0,j z (by simp),j TO (by simp),j g (by simp),j d (by simp),m z (by simp),m TO (by simp),m g (by simp),m d (by simp)⟩;refine Qu D C l p t u a9 Z (x:=b9) (y:=c0) (by simpa using d5) (by simpa using d2) λh' c7 c3 c4 d0 d3 e2 T=>⟨_,rfl,?_⟩;refine wpAny_letOwnedTupleGo_zip c7 λa3 d4 G=>?_;have up:∀c o,c∉[z,TI,TO,g,d]->s.heap.get? c=some o->a3.get? c=some o:=λc o n e=>by
   simp only[List.mem_cons,List.not_mem_nil,or_false,not_or]at n;obtain⟨R,c5,V,a8,W⟩:=n;exact G.extBut _ _ R (T c o R V a8 W e)
  have b7:s.heap.objs.size≠z:=sJ (zK C);have new:mI X.prog X.w (upd H s.heap.objs.size (.tup [x,y])) a3 s.heap.objs.size (.tup [x,y]):=
   ⟨by show 2<=sizeLine;decide,[b9,c0],.cons c6 (.cons c8 .nil),⟨_,G.extBut _ _ b7 d3,rfl,_,rfl⟩⟩
  have d6:Inv X b8 c2 (upd H s.heap.objs.size (.tup [x,y])) {s with heap:=a3}:=I.turnedNew (t':=s.toks) r up (zE _) new;refine⟨.ref s.heap.objs.size,_,d6,rfl,⟨_,x,y,rfl,I.fresh,rfl,λe0 q=>by rw[I.seqB_inj q L];exact e1,λd9 q=>by rw[I.seqB_inj q J];exact c1⟩,⟨d4,G.extBut _ _ D.TIz (T _ _ D.TIz D.TITO D.TIi1 D.TIi2 l),⟨_,_,G.extBut _ _ D.TOz c3⟩,c4.at λo e=>G.extBut _ _ D.i1z e,d0.at λo e=>G.extBut _ _ D.i2z e⟩,λc n=>?_⟩;have d7:=(r c n).1;rw[nO]
  ·exact d7
  ·intro e;subst e;simp only[List.mem_cons,List.not_mem_nil,or_false]at n;rcases n with e|e|e|e|e
   ·exact b7 e
   ·exact absurd (zK l) (by rw[←e];exact yZ _)
   ·exact absurd (zK p) (by rw[←e];exact yZ _)
   ·obtain⟨o,q,_⟩:=t.lt;exact absurd (zK q) (by rw[←e];exact yZ _)
   ·obtain⟨o,q,_⟩:=u.lt;exact absurd (zK q) (by rw[←e];exact yZ _)
 done:=by
  intro X b5 a2 a5 N i b8 s c2 H E I r st Y;subst b5 a2 a5;obtain⟨C,l,⟨a,b,p⟩,t,u⟩:=st;obtain⟨xs,ys,L,J,e1⟩:=Y;obtain⟨d8,r1,a9⟩:=I.seqB L;obtain⟨c9,r2,Z⟩:=I.seqB J;have j:∀f∈[z,TI,TO,g,d],l1≠f:=λf F=>I.seq_ne L (r f F);have m:∀f∈[z,TI,TO,g,d],l2≠f:=λf F=>I.seq_ne J (r f F);simp only[List.nodup_cons,List.mem_cons,List.not_mem_nil,or_false,not_or,List.nodup_nil,and_true,not_false_eq_true]at S;obtain⟨⟨a7,b3,b4,a1⟩,⟨a6,a4,a0⟩,⟨b6,U⟩,b0⟩:=S;have D:ZipApart z TI TO g d l1 l2:=⟨zT a7,zT b3,zT b4,zT a1,a6,a4,a0,b6,U,b0,j z (by simp),j TO (by simp),j g (by simp),j d (by simp),m z (by simp),m TO (by simp),m g (by simp),m d (by simp)⟩;refine Qt (I.ok.hd N) D C l p t u a9 Z (e1.imp (Hx r1) (Hx r2)) λh' T=>⟨rfl,I.turnedL (t':=s.toks) r λc o n e=>?_⟩;simp only[List.mem_cons,List.not_mem_nil,or_false,not_or]at n;obtain⟨R,c5,V,a8,W⟩:=n;exact T c o R V a8 W e
 self:=λ_ _ _ _ _ st h=>wpAny_pyIter_zip st.1 h
section
variable {X:Cx}
def iZip(K:Frag)(ta:TA):TI:=λσ H R=>ta σ H λvs H1=>∃b1 b2 l1 l2,vs=[.ref l1,.ref l2]/\(∃xs,SqB b1 K H1 l1 xs)/\(∃ys,SqB b2 K H1 l2 ys)/\R (Itz K b1 l1 b2 l2) H1
theorem Hw{a b:Expr}{l:TA}{es:List Expr}{k:Nat}{O p u:Pos}(z:Gl X "zip")(T:X.mg "zip"=none)(C:PA X [a,b] l)(D:bootBuiltins "zip"=some (.type "zip"):=by decide +kernel)
  (J:starEach [a,b] X.env=[(false,eval a X.env),(false,eval b X.env)]:=by rfl)(n:starEach [b] X.env=[(false,eval b X.env)]:=by rfl):
  PI X (.Tuple es k O) (.Call (.Name "zip" p) [a,b] [] u) (iZip X.K l):=by
 intro L s S H R I h;refine Call_ (gL I z T D (xV (thn (C u L s S H _ I h) ?_) (by rw[J,n]) (by rw[n];rfl)));rintro us d ⟨vs,x,f,r1,g⟩;obtain⟨b1,b2,l1,l2,e,⟨xs,g⟩,⟨ys,F⟩,q⟩:=g;subst e;cases r1 with
 | cons r i =>
  cases i with
  | cons M i =>
   cases i;cases r;cases M;obtain⟨W,U,P⟩:=f.seqB g;obtain⟨V,v2,y⟩:=f.seqB F;refine Qr P y λh' m v w K N G=>?_;refine wpAny_pyIter_zip m ?_;have lt:∀j,j<=4->d.heap.objs.size<=d.heap.objs.size+j:=λj _=>pH _ _;refine⟨d.heap.objs.size+4,[d.heap.objs.size+4,d.heap.objs.size+2,d.heap.objs.size+3,d.heap.objs.size,d.heap.objs.size+1],_,_,x,rfl,f.kept (t':=d.toks) G,Qq (b1:=b1) (b2:=b2) (l1:=l1) (l2:=l2) ?_,⟨m,v,⟨_,_,w⟩,K,N⟩,λc o=>?_,q⟩
   ·simp
   ·have t:d.heap.objs.size<=c:=by
     simp only[List.mem_cons,List.not_mem_nil,or_false]at o;rcases o with e|e|e|e|e <;> subst e <;> first|exact zE _|exact pH _ _
    exact f.fpOk t (f.hok.fresh t)
end
open AutoSeq1 (wpAny_loadPart')
set_option maxRecDepth 100000 in
theorem Qp(l:Addr)(items:Array Value)(n:Nat)(f:Option Addr)(i:Array (Option Value)):
  Meets (Builtin.«enumerate.__new__» ⟨[.type "enumerate",.ref l],[]⟩) (λ_ R s=>s.heap.get? l=some {cls:=.type "tuple",dict:=f,data:=.seq items n,slots:=i} /\
   R (.ok (.ret (.ref (s.heap.push {cls:=.type "tuple_iterator",data:=.fields #[.ref l,.int 0 0]}).objs.size)))
    {s with heap:=(s.heap.push {cls:=.type "tuple_iterator",data:=.fields #[.ref l,.int 0 0]}).push {cls:=.type "enumerate",data:=.fields #[.none,.bool false,.ref s.heap.objs.size,rawInt 0,.none,.none]}}):=
 .of_wp λprog w A R s h=>by
  obtain⟨e,g,d,tk,b⟩:=s;obtain⟨hl,h⟩:=h;have j:=sub_enumerate;have a:Heap.IsTuple (Shared.heap ⟨e,g,d,tk,b⟩) l items:=⟨_,hl,rfl,n,rfl⟩
  wp_walk using uN hl
  refine wpAny_stack_any λst=>zB ?_;split
  ·rename_i c _ _ _ _ _;cases(c == Value.type "enumerate")
   ·wp_walk using uN hl,uP a
    exact⟨_,rfl,h⟩
   ·wp_walk using uN hl,uP a
    exact⟨_,rfl,h⟩
  ·wp_walk using uN hl,uP a
   exact⟨_,rfl,h⟩
theorem Qo{prog:Program}{w:World}{A:Around}{E:VP}{s:Shared}{b:Bool}{l:Addr}{items:Array Value}{Q:VP}(g:seqB b s.heap l items)
  (h:∀h',IsEnum h' (s.heap.objs.size+1) s.heap.objs.size 0 .none->ItB b h' s.heap.objs.size l 0 ->
   (∀b o,s.heap.get? b=some o->h'.get? b=some o)->Q (.ref (s.heap.objs.size+1)) {s with heap:=h'}):
  wpAny (model prog w) A (call (.type "enumerate") [.ref l]) Q E s:=by
 cases b
 ·exact call_enumerate_list g λh' m j r i=>h h' m j i
 ·obtain⟨⟨c,p,dt,q⟩,hl,a,n,d⟩:=g;replace a:c=.type "tuple" := a;replace d:dt=.seq items n:=d;subst a d;refine callType_new F.called_enumerate ∅ (F.typeCall_enumerate_1 _) (F.newCall_enumerate_1 _) (λk=>F.args_object_init_2 k _) F.entry_enumerate_new
   (Qp l items n p q) ⟨hl,?_⟩
  have f:(s.heap.push {cls:=.type "tuple_iterator",data:=.fields #[.ref l,.int 0 0]}).objs.size=s.heap.objs.size+1:=xP ..;show _/\_;rw[f];have e:IsEnum ((s.heap.push {cls:=.type "tuple_iterator",data:=.fields #[.ref l,.int 0 0]}).push
    {cls:=.type "enumerate",data:=.fields #[.none,.bool false,.ref s.heap.objs.size,rawInt 0,.none,.none]}) (s.heap.objs.size+1) s.heap.objs.size 0 .none:=by
   have:=zQ (s.heap.push {cls:=.type "tuple_iterator",data:=.fields #[.ref l,.int 0 0]})
    (o:={cls:=.type "enumerate",data:=.fields #[.none,.bool false,.ref s.heap.objs.size,rawInt 0,.none,.none]}) rfl
   rw[f]at this;exact this
  refine⟨⟨_,e,rfl⟩,h _ e ⟨_,zC _ (zQ _ rfl),rfl,rfl⟩ λb o x=>zC _ (zC _ x)⟩
def Ite(K:Frag)(b:Bool)(l:Addr):It:=
  ⟨λi H=>∃xs x,SqB b K H l xs/\xs[i]?=some x,
   λi H v H'=>∃p x,v=.ref p/\H p=none/\H'=upd H p (.tup [.int i,x])/\∀xs,SqB b K H l xs->xs[i]?=some x,
   λi H=>∃xs,SqB b K H l xs/\xs.length=i⟩
theorem Qn{P:Program}{w:World}{K:Frag}{es:List Expr}{k:Nat}{a3:Pos}{b:Bool}{e a l:Addr}(M:e≠a):
  Turn P w K (.Tuple es k a3) (Ite K b l) [e,a] e (λi h=>(∃r,IsEnum h e a i r)/\ItB b h a l i) where
 mem:=by simp
 obj:=λi h⟨⟨r,j⟩,g⟩c n=>by
  simp only[List.mem_cons,List.not_mem_nil,or_false]at n;rcases n with e|e <;> subst e
  ·exact⟨_,j,λv q=>by have a7:Data.fields _=Data.cell v:=q;cases a7⟩
  ·exact g.lt
 keep:=λi h h'⟨⟨r,j⟩,g⟩R=>⟨⟨r,R e (by simp) _ j⟩,g.at λo q=>R a (by simp) o q⟩
 item:=by
  intro X t G L n i S s V H E I m st F;subst t G L;obtain⟨⟨r,j⟩,g⟩:=st;obtain⟨xs,x,p,e1⟩:=F;obtain⟨y,r1,O⟩:=I.seqB p;obtain⟨T,U,Z⟩:=r1.get e1;have C:∀f∈[e,a],l≠f:=λf N=>I.seq_ne p (m f N);have a0:i<y.toArray.size:=by
   have:=(nA.mp U).1;simpa using this
  refine wpAny_pyNext_enum_itemD (Hy b (show X.A.in1.handled=none from I.ok.hd n) a l (C a (by simp)) y.toArray) j ⟨g,O⟩ a0 M (λq=>?_) λu h' tk t a1 W Y b2 a4=>⟨_,rfl,?_⟩
  ·simp only[List.mem_cons,List.not_mem_nil,or_false]at q;rcases q with q|q
   ·exact M q
   ·exact C e (by simp) q.symm
  have a2:u=T:=by
   have:y.toArray[i]?=some T:=by simpa using U
   rw[this]at t;exact(zZ t).symm
  subst a2;refine wpAny_letOwnedTupleGo_enum a1 λJ a5 D=>?_;have ne:s.heap.objs.size≠e:=sJ (zK j);have up:∀c o,c∉[e,a]->s.heap.get? c=some o->J.get? c=some o:=λc o d q=>by
   simp only[List.mem_cons,List.not_mem_nil,or_false,not_or]at d;exact D.extBut _ _ d.1 (a4 c o d.1 d.2 q)
  have new:mI X.prog X.w (upd H s.heap.objs.size (.tup [.int i,x])) J s.heap.objs.size (.tup [.int i,x]):=
   ⟨by show 2<=sizeLine;decide,[.int i tk,u],.cons ⟨tk,rfl⟩ (.cons Z .nil),⟨_,D.extBut _ _ ne Y,rfl,_,rfl⟩⟩
  have a9:Inv X S V (upd H s.heap.objs.size (.tup [.int i,x])) {s with heap:=J,toks:=tk+1}:=I.turnedNew (t':=tk+1) m up (zE _) new;refine⟨.ref s.heap.objs.size,_,a9,rfl,⟨_,x,rfl,I.fresh,rfl,λb1 q=>by rw[I.seqB_inj q p];exact e1⟩,⟨⟨u,by simpa using a5⟩,W.1.at λo q=>D.extBut _ _ (zT M) q⟩,λc d=>?_⟩;have a8:=(m c d).1;rw[nO]
  ·exact a8
  ·intro z;subst z;simp only[List.mem_cons,List.not_mem_nil,or_false]at d;rcases d with z|z
   ·exact ne z
   ·obtain⟨o,q,_⟩:=g.lt;exact absurd (zK q) (by rw[←z];exact yZ _)
 done:=by
  intro X t G L n i S s V H E I m st F;subst t G L;obtain⟨⟨r,j⟩,g⟩:=st;obtain⟨xs,p,e1⟩:=F;obtain⟨y,r1,O⟩:=I.seqB p;have C:∀f∈[e,a],l≠f:=λf N=>I.seq_ne p (m f N);have a6:y.toArray.size=i:=by rw[zV,←r1.length,e1]
  refine wpAny_pyNext_enum_endD (Hy b (show X.A.in1.handled=none from I.ok.hd n) a l (C a (by simp)) y.toArray) j ⟨by rw[a6];exact g,O⟩ λh' b0=>⟨rfl,I.turnedL (t':=s.toks) m λc o d q=>?_⟩;simp only[List.mem_cons,List.not_mem_nil,or_false,not_or]at d;exact b0 c o d.2 q
 self:=λ_ _ _ _ _ st h=>let ⟨⟨_,q⟩,_⟩:=st;wpAny_pyIter_enum q h
section
variable {X:Cx}
def cK(K:Frag)(ta:TA):TI:=λσ H R=>ta σ H λvs H1=>∃b l,vs=[.ref l]/\(∃xs,SqB b K H1 l xs)/\R (Ite K b l) H1
theorem bY{a:Expr}{i:TA}{es:List Expr}{k:Nat}{F p o:Pos}(v:Gl X "enumerate")(K:X.mg "enumerate"=none)(w:PA X [a] i)(x:bootBuiltins "enumerate"=some (.type "enumerate"):=by decide +kernel)
  (z:starEach [a] X.env=[(false,eval a X.env)]:=by rfl):
  PI X (.Tuple es k F) (.Call (.Name "enumerate" p) [a] [] o) (cK X.K i):=by
 intro C s J H R I h;refine Call_ (gL I v K x (xV (thn (w o C s J H _ I h) ?_) z rfl));rintro us d ⟨vs,u,f,r1,g⟩;obtain⟨b,l,e,⟨xs,g⟩,q⟩:=g;subst e;cases r1 with
 | cons r D =>
  cases D;cases r;obtain⟨M,L,G⟩:=f.seqB g;refine Qo G λh' j t y=>?_;refine wpAny_pyIter_enum j ?_;refine⟨d.heap.objs.size+1,[d.heap.objs.size+1,d.heap.objs.size],_,_,u,rfl,f.kept (t':=d.toks) y,Qn (b:=b) (l:=l) (by simp),⟨⟨_,j⟩,t⟩,λc m=>?_,q⟩;have n:d.heap.objs.size<=c:=by
   simp only[List.mem_cons,List.not_mem_nil,or_false]at m;rcases m with e|e <;> subst e <;> first|exact zE _|exact pH _ _
  exact f.fpOk n (f.hok.fresh n)
theorem Hv:∀{ns:LI'}{its:LW},Vals (ns.map V.int) its->∃xs:List (Int×Tok),its=xs.map (λp=>Value.int p.1 p.2)/\xs.map (·.1)=ns
 |[],_,.nil=>⟨[],rfl,rfl⟩
 |n:: r,_,.cons ⟨b,h⟩ q=>by
  obtain⟨xs,e1,a⟩:=Hv (ns:=r) q;exact⟨(n,b):: xs,by rw[h,e1];rfl,by rw[zO,a]⟩
theorem bZ(f:X.calm=true):kD X (.builtin "sum") (λxs H Q=>∃(p:Addr)(ns:LI'),xs=[.ref p]/\SqL X.K H p (ns.map V.int)/\Q (.int ns.sum) H):=by
 intro g s j H xs us Q I r h;obtain⟨p,ns,rfl,b,q⟩:=h;obtain⟨u,rfl,c⟩:=jM r;cases c;obtain⟨its,a,pl,i⟩:=I.list b;obtain⟨ps,e1,d⟩:=Hv a;have hl:s.heap.IsList p (intItems ps.toArray):=by
  have:=pl.isList;rw[e1]at this;simpa [intItems]using this
 refine sum_intListG (I.ok.hd f) hl λh' tk t' e=>⟨.int ns.sum,H,I.kept (t':=tk) e,⟨t',?_⟩,q⟩;rw[preSum_eq,yJ (by simp)];simp[d]
end
theorem SqB.or{b:Bool}{K:Frag}{H:Hp}{a:Addr}{xs:List V}(h:SqB b K H a xs):SqL K H a xs\/SqT K H a xs:=by
 cases b
 ·exact .inl h
 ·exact .inr h
theorem SqB.up{b:Bool}{K:Frag}{H H':Hp}{a:Addr}{xs:List V}(h:SqB b K H a xs)(s:Same H H'):SqB b K H' a xs:=by
 cases b
 ·exact s.seq h
 ·exact s.tup h
theorem SqB.lst{K:Frag}{H:Hp}{a:Addr}{xs:List V}(h:H a=some (.lst xs)):SqB false K H a xs:=SqL.of h
theorem SqB.tup{K:Frag}{H:Hp}{a:Addr}{xs:List V}(h:H a=some (.tup xs)):SqB true K H a xs:=SqT.of h
def Its(K:Frag)(b:Bool)(a:Addr):It:=match b with|false=>Itl K a|true=>Itt K a
theorem Its.go{K:Frag}{b:Bool}{a:Addr}{xs:List V}{x:V}{i:Nat}{H:Hp}(h:SqB b K H a xs)(e:xs[i]?=some x):(Its K b a).go i H:=by
 cases b
 ·exact⟨xs,x,h,e⟩
 ·exact⟨xs,x,h,e⟩
theorem Its.stop{K:Frag}{b:Bool}{a:Addr}{xs:List V}{i:Nat}{H:Hp}(h:SqB b K H a xs)(e:xs.length<=i):(Its K b a).stop i H:=by
 cases b
 ·exact⟨xs,h,e⟩
 ·exact⟨xs,h,e⟩
theorem Its.yld{K:Frag}{b:Bool}{a:Addr}{xs:List V}{i:Nat}{H H':Hp}{x:V}(h:SqB b K H a xs)(y:(Its K b a).yld i H x H'):H'=H/\xs[i]?=some x:=by
 cases b
 ·exact⟨y.1,y.2 xs h⟩
 ·exact⟨y.1,y.2 xs h⟩
section
variable {X:Cx}
def iSeq(K:Frag)(tl:TE):TI:=λσ H R=>tl σ H λx H1=>∃b a,x=.ref a/\(∃xs,SqB b K H1 a xs)/\R (Its K b a) H1
theorem mT{u l:Expr}{g:TE}(hl:PE X l g):PI X u l (iSeq X.K g):=by
 intro m s t H R I h;refine thn (hl m s t H _ I h) ?_;rintro v c ⟨x,j,d,r1,k⟩;obtain⟨b,a,e,⟨xs,i⟩,q⟩:=k;subst e;cases r1;cases b
 ·obtain⟨its,n,p,r⟩:=d.list i;refine sT p.isList ?_;refine⟨c.heap.objs.size,[c.heap.objs.size],_,_,j,rfl,d.kept (t':=c.toks) λb o e=>zC _ e,Nt a _,⟨_,zQ _ rfl,rfl,rfl⟩,λb f=>?_,q⟩;have e:b=c.heap.objs.size:=by simpa using f
  subst e;exact d.fpOk (zE _) (d.hok.fresh (zE _))
 ·obtain⟨its,n,p,r⟩:=d.tuple i;refine uP (show c.heap.IsTuple a its.toArray from p) ?_;refine⟨c.heap.objs.size,[c.heap.objs.size],_,_,j,rfl,d.kept (t':=c.toks) λb o e=>zC _ e,Nr a _,⟨_,zQ _ rfl,rfl,rfl⟩,λb f=>?_,q⟩;have e:b=c.heap.objs.size:=by simpa using f
  subst e;exact d.fpOk (zE _) (d.hok.fresh (zE _))
def rIxB(K:Frag):R2:=λx y H Q=>E5 λ(b:Bool)(p:Addr)(xs:List V)(i:Int)(v:V)=>A5 (x=.ref p) (y=.int i) (SqB b K H p xs) (atI xs i=some v) (Q v H)
theorem ix_B:IxR X (rIxB X.K):=by
 intro f e a s l H x y v u Q I d j h;obtain⟨b,p,xs,i,m,e1,g,c,k,q⟩:=h;cases b
 ·exact On f e a s l H x y v u Q I d j ⟨p,xs,i,m,e1,g,c,k,q⟩
 ·exact Om f e a s l H x y v u Q I d j ⟨p,xs,i,m,e1,g,c,k,q⟩
def eT(K:Frag):List V->Hp->VK->Prop:=λxs H Q=>E3 λ(b:Bool)(p:Addr)(ys:List V)=>A3 (xs=[.ref p]) (SqB b K H p ys) (Q (.int ys.length) H)
theorem Qm:kD X (.builtin "len") (eT X.K):=by
 intro a s d H xs us Q I r h;obtain⟨b,p,ys,e,c,q⟩:=h;exact Of a s d H xs us Q I r ⟨p,ys,e,c.or,q⟩
def aA(K:Frag):List V->Hp->VK->Prop:=λxs H Q=>∃b p ys,xs=[.ref p]/\SqB b K H p ys/\∀l,H l=none->Q (.ref l) (upd H l (.lst ys))
theorem hZ:kD X (.type "list") (aA X.K):=by
 intro a s d H xs us Q I r h;obtain⟨b,p,ys,e,c,q⟩:=h;exact Oe a s d H xs us Q I r ⟨p,ys,e,c.or,q⟩
def eX(K:Frag):List V->Hp->VK->Prop:=λxs H Q=>∃p ys,xs=[.ref p]/\((SqL K H p ys/\∀l,H l=none->Q (.ref l) (upd H l (.tup ys)))\/(SqT K H p ys/\Q (.ref p) H))
theorem jX:kD X (.type "tuple") (eX X.K):=Od
end
theorem Ql{K:Frag}{b:Bool}{a:Addr}{xs:List V}{g:TG}{tb:TS}{D:Ends}{c:St}{H:Hp}(d:Nat->St->Hp->Prop)(l:d 0 c H)(hl:∀i c H,i<=xs.length->d i c H->SqB b K H a xs)
  (o:∀i x c H,xs[i]?=some x->d i c H->g x c H λj e=>tb {D with nx:=d (i+1),ct:=d (i+1),bk:=D.nx} j e)(n:∀c H,d xs.length c H->D.nx c H):
  ∃f:Nat->Nat->St->Hp->Prop,(∃m,f 0 m c H)/\∀i m c H,f i m c H ->
   ((Its K b a).stop i H/\D.nx c H)\/((Its K b a).go i H/\∃N:St->Hp->Prop,(∀p H',N p H'->∃k,k<m/\f (i+1) k p H')/\∀x H',(Its K b a).yld i H x H'->g x c H' λj e=>tb {D with nx:=N,ct:=N,bk:=D.nx} j e):=by
 cases b
 ·exact Nn d l hl o n
 ·exact Nm d l hl o n
theorem Qk{K:Frag}{b:Bool}{a:Addr}{xs:List V}{g:TG}{tb:TS}{D:Ends}{c:St}{H:Hp}(d:Nat->St->Hp->Prop)(v:d 0 c H)(hl:∀i c H,i<=xs.length->d i c H->SqB b K H a xs)
  (z:∀i x p c H,xs[i]?=some x->d i c H->H p=none->g (.ref p) c (upd H p (.tup [.int i,x])) λk f=>tb {D with nx:=d (i+1),ct:=d (i+1),bk:=D.nx} k f)(w:∀c H,d xs.length c H->D.nx c H):
  ∃j:Nat->Nat->St->Hp->Prop,(∃m,j 0 m c H)/\∀i m c H,j i m c H ->
   ((Ite K b a).stop i H/\D.nx c H)\/((Ite K b a).go i H/\∃N:St->Hp->Prop,(∀l H',N l H'->∃o,o<m/\j (i+1) o l H')/\∀x H',(Ite K b a).yld i H x H'->g x c H' λk f=>tb {D with nx:=N,ct:=N,bk:=D.nx} k f):=by
 refine⟨λi m c H=>m=xs.length-i/\i<=xs.length/\d i c H,⟨xs.length,by simp,zY _,v⟩,?_⟩;rintro i m c H ⟨rfl,hi,p⟩;have q:=hl i c H hi p
 by_cases n:i<xs.length
 ·refine .inr ⟨⟨xs,xs[i],q,by simp[n]⟩,d (i+1),λl H' u=>⟨xs.length-(i+1),⋯,rfl,n,u⟩,λx H' y=>?_⟩;obtain⟨r,x,rfl,hr,rfl,t⟩:=y;exact z i x r c H (t xs q) p hr
 ·have e:i=xs.length:=⋯
  subst e;exact .inl ⟨⟨xs,q,rfl⟩,w c H p⟩
def jO(a:Addr)(H H':Hp):Prop:=∀b o,b≠a->H b=some o->H' b=some o
theorem Same.x{a:Addr}{H H':Hp}(s:Same H H'):jO a H H':=λb o _ e=>s b o e
section
variable {J:It} {g:TG} {tt:TOx} {te:TE} {n:Nat} {fr:List (Str×Nat)} {σ:St} {a:Addr} {H:Hp} {Q:VK} {K:Frag}
theorem aB(len:Nat)(P:Nat->List V->Hp->Prop)(v:H a=none)(R:len<=1000)(O:P 0 [] (upd H a (.lst [])))
  (hl:∀i zs c,P i zs c->zs.length<=i)(mono:∀i zs c d,P i zs c->jO a c d->P i zs d)
  (N:∀i c,i<len->Same H c->J.go i c)(F:∀c,Same H c->J.stop len c)
  (M:∀i c zs,i<len->Same H c->c a=some (.lst zs)->P i zs c->∀(ys:St) x l,ys.length=n->J.yld i c x l->∀C:Option V->Hp->Prop,
   (∀y d,Same c d->P (i+1) (zs++[y]) d->C (some y) d)->(∀d,Same c d->P (i+1) zs d->C none d) ->
   g x (ys++lV fr σ) l λw z=>(∃u:St,u.length=n/\w=u++lV fr σ)/\tt w z C)
  (L:∀c ys,Same H c->c a=some (.lst ys)->P len ys c->Q (.ref a) c):kL J g tt n fr σ a H Q:=by
 refine⟨λi m c=>m=len-i/\i<=len/\Same H c/\∃zs,c a=some (.lst zs)/\P i zs c,⟨len,by simp,Nat.zero_le _,Same.new v,[],nN,O⟩,?_⟩;rintro i m c ⟨rfl,hi,f,zs,r,p⟩
 by_cases k:i<len
 ·refine .inr ⟨N i c k f,λH'=>i+1<=len/\Same H H'/\∃zs,H' a=some (.lst zs)/\P (i+1) zs H',λH' q=>⟨len-(i+1),⋯,rfl,q⟩,λys x l D I=>?_⟩;refine M i c zs k f r p ys x l D I _ (λy d j t=>?_) λd j t=>?_
  ·refine⟨zs,j _ _ r,fK (by have:=hl i zs c p;omega),k,Same.over v (f.trans j),_,nN,mono _ _ _ _ t λb o G e=>?_⟩;rw[nO G];exact e
  ·exact⟨k,f.trans j,zs,j _ _ r,t⟩
 ·have e:i=len:=⋯
  subst e;exact .inl ⟨F c f,L c zs f r p⟩
theorem aC(len:Nat)(R:Nat->V->Hp->Prop)(u:H a=none)(N:len<=1000)(mono:∀i y b c,R i y b->jO a b c->R i y c)
  (O:∀i b,i<len->Same H b->J.go i b)(v:∀b,Same H b->J.stop len b)
  (M:∀i b zs,i<len->Same H b->b a=some (.lst zs)->∀(ys:St) x d,ys.length=n->J.yld i b x d->∀k:VK,(∀y c,Same b c->R i y c->k y c) ->
   g x (ys++lV fr σ) d λm o=>(∃f:St,f.length=n/\m=f++lV fr σ)/\te m o k)
  (L:∀b ys,Same H b->b a=some (.lst ys)->ys.length=len->(∀j y,ys[j]?=some y->R j y b)->Q (.ref a) b):kL J g (tEl te) n fr σ a H Q:=by
 refine aB len (λi zs b=>zs.length=i/\∀j y,zs[j]?=some y->R j y b) u N ⟨rfl,λj y e=>by simp at e⟩ (λi zs b p=>sI p.1) (λi zs b c p s=>⟨p.1,λj y e=>mono _ _ _ _ (p.2 j y e) s⟩) O v ?_ λb ys s e p=>L b ys s e p.1 p.2;intro i b zs hi G F p ys x d q I C t _;refine M i b zs hi G F ys x d q I _ λy c l r=>t y c l ⟨by simp[p.1],λj z e=>?_⟩
 by_cases D:j<zs.length
 ·rw[yB D]at e;exact mono _ _ _ _ (p.2 j z e) l.x
 ·rw[zX ⋯]at e;have w:j-zs.length=0:=by
   by_cases P:j-zs.length=0
   ·exact P
   ·rw[vS (by simp;omega)]at e;cases e
  rw[w]at e;cases zZ e;have:j=i:=by have:=p.1;omega
  rw[this];exact r
theorem kX{b:Bool}{l:Addr}{xs:List V}(R:Nat->V->Hp->Prop)(z:H a=none)(f:SqB b K H l xs)(r:xs.length<=1000)(mono:∀i y c d,R i y c->jO a c d->R i y d)
  (q:∀i x c zs,xs[i]?=some x->Same H c->c a=some (.lst zs)->∀e:VK,(∀y d,Same c d->R i y d->e y d)->te (some x:: lV fr σ) c e)
  (w:∀c ys,Same H c->c a=some (.lst ys)->ys.length=xs.length->(∀j y,ys[j]?=some y->R j y c)->Q (.ref a) c):kL (Its K b l) (nX 0) (tEl te) 1 fr σ a H Q:=by
 refine aC xs.length R z r mono (λi c hi s=>Its.go (f.up s) (x:=xs[i]) (by simp[hi])) (λc s=>Its.stop (f.up s) (zE _)) ?_ w;intro i c zs hi k m ys x t u p e C;obtain⟨e1,v⟩:=Its.yld (f.up k) p;subst e1
 match ys,u with
 |[o],_=>exact⟨⟨[some x],rfl,rfl⟩,q i x t zs v k m e C⟩
theorem jG{lo:Int}{len:Nat}(R:Nat->V->Hp->Prop)(u:H a=none)(m:len<=1000)(mono:∀i y b c,R i y b->jO a b c->R i y c)
  (l:∀(i:Nat) b zs,i<len->Same H b->b a=some (.lst zs)->∀d:VK,(∀y c,Same b c->R i y c->d y c)->te (some (.int (lo+i)):: lV fr σ) b d)
  (t:∀b ys,Same H b->b a=some (.lst ys)->ys.length=len->(∀j y,ys[j]?=some y->R j y b)->Q (.ref a) b):kL (Itr lo len) (nX 0) (tEl te) 1 fr σ a H Q:=by
 refine aC len R u m mono (λi b hi s=>hi) (λb s=>zE _) ?_ t;intro i b zs hi f e ys x p q k d v;obtain⟨e1,r⟩:=k;subst e1 r
 match ys,q with
 |[o],_=>exact⟨⟨[_],rfl,rfl⟩,l i p zs hi f e d v⟩
theorem Hu{b1 b2:Bool}{l1 l2:Addr}{xs ys:List V}(R:Nat->V->Hp->Prop)(t:H a=none)(m:SqB b1 K H l1 xs)(e:SqB b2 K H l2 ys)(I:xs.length=ys.length)(F:xs.length<=1000)(mono:∀i y b c,R i y b->jO a b c->R i y c)
  (D:∀i x y b zs,xs[i]?=some x->ys[i]?=some y->Same H b->b a=some (.lst zs)->∀d:VK,(∀y c,Same b c->R i y c->d y c)->te (some x:: some y:: lV fr σ) b d)
  (C:∀b zs,Same H b->b a=some (.lst zs)->zs.length=xs.length->(∀j y,zs[j]?=some y->R j y b)->Q (.ref a) b):
  kL (Itz K b1 l1 b2 l2) (gTup K 2 (kC (nX 0) (kC (nX 1) gNil))) (tEl te) 2 fr σ a H Q:=by
 refine aC xs.length R t F mono (λi b hi s=>⟨xs,ys,xs[i],ys[i],m.up s,e.up s,by simp[hi],by simp⟩) (λb s=>⟨xs,ys,m.up s,e.up s,.inl (by simp)⟩) ?_ C;intro i b zs hi f w q x L z k d v;obtain⟨p,x,y,rfl,l,rfl,G,k⟩:=k;refine⟨p,[x,y],rfl,SqT.of nN,rfl,x,[y],rfl,y,[],rfl,rfl,?_⟩
 match q,z with
 |[o,M],_ =>
  refine⟨⟨[some x,some y],rfl,rfl⟩,D i x y _ zs (G xs (m.up f)) (k ys (e.up f)) (f.trans (Same.new l)) (Same.new l _ _ w) d λy c u r=>v y c ((Same.new l).trans u) r⟩
theorem Qj{b:Bool}{l:Addr}{xs:List V}(R:Nat->V->Hp->Prop)(t:H a=none)(f:SqB b K H l xs)(G:xs.length<=1000)(mono:∀i y c d,R i y c->jO a c d->R i y d)
  (F:∀i x c zs,xs[i]?=some x->Same H c->c a=some (.lst zs)->∀e:VK,(∀y d,Same c d->R i y d->e y d)->te (some (.int i):: some x:: lV fr σ) c e)
  (D:∀c zs,Same H c->c a=some (.lst zs)->zs.length=xs.length->(∀j y,zs[j]?=some y->R j y c)->Q (.ref a) c):
  kL (Ite K b l) (gTup K 2 (kC (nX 0) (kC (nX 1) gNil))) (tEl te) 2 fr σ a H Q:=by
 refine aC xs.length R t G mono (λi c hi s=>⟨xs,xs[i],f.up s,by simp[hi]⟩) (λc s=>⟨xs,f.up s,rfl⟩) ?_ D;intro i c zs hi m w q x L z C e v;obtain⟨p,x,rfl,k,rfl,I⟩:=C;refine⟨p,[.int i,x],rfl,SqT.of nN,rfl,_,[x],rfl,x,[],rfl,rfl,?_⟩
 match q,z with
 |[o,M],_ =>
  refine⟨⟨[some (.int i),some x],rfl,rfl⟩,F i x _ zs (I xs (f.up m)) (m.trans (Same.new k)) (Same.new k _ _ w) e λy d u r=>v y d ((Same.new k).trans u) r⟩
end
def MatB(b1 b2:Bool)(K:Frag)(H:Hp)(a:Addr)(rows:List (LI')):Prop:=∃ps:LA,SqB b1 K H a (ps.map V.ref)/\ps.length=rows.length/\∀(i:Nat)(p:Addr)(r:LI'),ps[i]?=some p->rows[i]?=some r->SqB b2 K H p (r.map V.int)
theorem MatB.up{b1 b2:Bool}{K:Frag}{H H':Hp}{a:Addr}{b:List (LI')}(h:MatB b1 b2 K H a b)(s:Same H H'):MatB b1 b2 K H' a b:=let ⟨ps,c,f,e⟩:=h;⟨ps,c.up s,f,λi p r e1 d=>(e i p r e1 d).up s⟩
def RowR(a:Addr)(f:Nat->LI')(j:Nat)(y:V)(H:Hp):Prop:=∃p,y=.ref p/\p≠a/\H p=some (.lst ((f j).map V.int))
theorem RowR.mono{a:Addr}{f:Nat->LI'}(i:Nat)(y:V)(b c:Hp)(h:RowR a f i y b)(s:jO a b c):RowR a f i y c:=let ⟨p,e,n,q⟩:=h;⟨p,e,n,s _ _ n q⟩
def iT:Nat->PyData->Bool
 |_,.int _=>true
 |n+1,.list xs=>xs.all (iT n)
 |n+1,.tuple xs=>xs.all (iT n)
 |_,_=>false
theorem gC:∀(n:Nat)(d:PyData),iT n d=true->d.canLay0=true/\d.depth<=n
 |0,.int _,_=>by simp[PyData.canLay0,PyData.depth]
 |n+1,.int _,_=>by simp[PyData.canLay0,PyData.depth]
 | n+1,.list xs,h=>by
  have all:∀ys:List PyData,ys.all (iT n)=true->PyData.canLayAll0 ys=true/\PyData.depthAll ys<=n:=by
   intro ys
   induction ys with
   |nil=>intro _;simp[PyData.canLayAll0,PyData.depthAll]
   |cons y r c =>
    intro a;rw[yV,zN]at a;have b:=gC n y a.1;have e:=c a.2;simp only[PyData.canLayAll0,PyData.depthAll,Bool.and_eq_true];exact⟨⟨b.1,e.1⟩,⋯⟩
  have:=all xs (by simpa [iT]using h);simp only[PyData.canLay0,PyData.depth];exact⟨this.1,⋯⟩
 | n+1,.tuple xs,h=>by
  have all:∀ys:List PyData,ys.all (iT n)=true->PyData.canLayAll0 ys=true/\PyData.depthAll ys<=n:=by
   intro ys
   induction ys with
   |nil=>intro _;simp[PyData.canLayAll0,PyData.depthAll]
   |cons y r c =>
    intro a;rw[yV,zN]at a;have b:=gC n y a.1;have e:=c a.2;simp only[PyData.canLayAll0,PyData.depthAll,Bool.and_eq_true];exact⟨⟨b.1,e.1⟩,⋯⟩
  have:=all xs (by simpa [iT]using h);simp only[PyData.canLay0,PyData.depth];exact⟨this.1,⋯⟩
theorem aD:∀(n:Nat)(d d':PyData),iT n d=true->iT n d'=true->SeqAt.noMix d d'=true:=by
 intro n
 induction n with
 |zero=>intro d d' h h';cases d <;> simp[iT]at h <;> cases d' <;> simp[iT]at h' <;> simp[SeqAt.noMix]
 | succ n f =>
  have all:∀ys zs:List PyData,ys.all (iT n)=true->zs.all (iT n)=true->SeqAt.noMixAll ys zs=true:=by
   intro ys
   induction ys with
   |nil=>intro zs _ _;cases zs <;> simp[SeqAt.noMixAll]
   | cons y r e =>
    intro zs a b;cases zs with
    |nil=>simp[SeqAt.noMixAll]
    |cons z c =>
     rw[yV,zN]at a b;simp only[SeqAt.noMixAll,Bool.and_eq_true];exact⟨f y z a.1 b.1,e c a.2 b.2⟩
  intro d d' h h';cases d <;> simp only[iT,Bool.false_eq_true]at h <;> cases d' <;> simp only[iT,Bool.false_eq_true]at h' <;> simp only[SeqAt.noMix]
  ·exact all _ _ h h'
  ·exact all _ _ h h'
theorem aE:∀(n:Nat)(d d':PyData),iT n d=true->iT n d'=true->(same d d'=true↔d=d'):=by
 intro n
 induction n with
 |zero=>intro d d' h h';cases d <;> simp[iT]at h <;> cases d' <;> simp[iT]at h' <;> simp[same]
 | succ n f =>
  have all:∀ys zs:List PyData,ys.all (iT n)=true->zs.all (iT n)=true->(sameAll ys zs=true↔ys=zs):=by
   intro ys
   induction ys with
   |nil=>intro zs _ _;cases zs <;> simp[sameAll]
   | cons y r e =>
    intro zs a b;cases zs with
    |nil=>simp[sameAll]
    |cons z c =>
     rw[yV,zN]at a b;simp only[sameAll,Bool.and_eq_true,List.cons.injEq];rw[f y z a.1 b.1,e c a.2 b.2]
  intro d d' h h';cases d <;> simp only[iT,Bool.false_eq_true]at h <;> cases d' <;> simp only[iT,Bool.false_eq_true]at h' <;> simp only[same,beq_iff_eq,PyData.int.injEq,PyData.list.injEq,PyData.tuple.injEq,reduceCtorEq,Bool.false_eq_true]
  ·exact all _ _ h h'
  ·exact all _ _ h h'
theorem aF{n:Nat}{d:PyData}(a:n<=64)(h:iT n d=true):SeqAt.shaped d=true:=by
 have:=gC n d h;unfold SeqAt.shaped;rw[zN];exact⟨this.1,zM ⋯⟩
section
variable {K:Frag} {H:Hp} {x y:V} {d d':PyData} {Q:VK}
theorem Qi(n:Nat)(f:n<=64)(g:Dt K H x d)(i:Dt K H y d')(c:iT n d=true)(a:iT n d'=true){b:Bool}(j:b=true↔d=d')(q:Q (.bl b) H):rEqD K x y H Q:=by
 refine⟨d,d',g,i,aF f c,aF f a,aD n d d' c a,?_⟩;have:=aE n d d' c a;have e:same d d'=b:=by
  cases hs:same d d' <;> cases b <;> simp_all
 rw[e];exact q
theorem Qh(n:Nat)(f:n<=64)(g:Dt K H x d)(i:Dt K H y d')(c:iT n d=true)(a:iT n d'=true){b:Bool}(j:b=true↔d=d')(q:Q (.bl (!b)) H):rNeD K x y H Q:=by
 refine⟨d,d',g,i,aF f c,aF f a,aD n d d' c a,?_⟩;have:=aE n d d' c a;have e:same d d'=b:=by
  cases hs:same d d' <;> cases b <;> simp_all
 rw[e];exact q
end
def seqD(b:Bool)(ds:List PyData):PyData:=match b with|false=>.list ds|true=>.tuple ds
def eY(b:Bool)(ns:LI'):PyData:=seqD b (ns.map PyData.int)
def matD(b1 b2:Bool)(rows:List (LI')):PyData:=seqD b1 (rows.map (eY b2))
theorem Ht{b:Bool}{xs ys:List PyData}:seqD b xs=seqD b ys↔xs=ys:=by cases b <;> simp[seqD]
theorem Cy{a c:Type}{f:a->c}(b:∀x y,f x=f y->x=y):∀{xs ys:List a},xs.map f=ys.map f↔xs=ys
 |[],[]=>by simp
 |[],_:: _=>by simp
 |_:: _,[]=>by simp
 |x:: r,y:: d=>by
  rw[zO,zO,xQ,xQ,Cy b];exact⟨λh=>⟨b _ _ h.1,h.2⟩,λh=>⟨by rw[h.1],h.2⟩⟩
theorem Hr{b:Bool}{ns ms:LI'}:eY b ns=eY b ms↔ns=ms:=by
 unfold eY;rw[Ht,Cy λx y h=>by injection h]
theorem Qg{b1 b2:Bool}{A B:List (LI')}:matD b1 b2 A=matD b1 b2 B↔A=B:=by
 unfold matD;rw[Ht,Cy λx y h=>Hr.mp h]
theorem Dt.seqB{b:Bool}{K:Frag}{H:Hp}{a:Addr}{xs:List V}{ds:List PyData}(h:SqB b K H a xs)(c:Dts K H xs ds):Dt K H (.ref a) (seqD b ds):=by
 cases b
 ·exact .lst h c
 ·exact .tup h c
theorem Dt.intsB{b:Bool}{K:Frag}{H:Hp}{a:Addr}{ns:LI'}(h:SqB b K H a (ns.map V.int)):Dt K H (.ref a) (eY b ns):=Dt.seqB h (Dts.ints ns)
theorem Dt.matB{b1 b2:Bool}{K:Frag}{H:Hp}{a:Addr}{b:List (LI')}(h:MatB b1 b2 K H a b):Dt K H (.ref a) (matD b1 b2 b):=by
 obtain⟨ps,d,c,e⟩:=h;refine Dt.seqB d ?_;clear d
 induction ps generalizing b with
 |nil =>
  cases b with
  |nil=>exact .nil
  |cons r f=>simp at c
 | cons p ps j =>
  cases b with
  |nil=>simp at c
  |cons r f =>
   refine .cons (Dt.intsB (e 0 p r rfl rfl)) (j (by simpa using c) λi q z e1 g=>e (i+1) q z (by simpa using e1) (by simpa using g))
section
variable {wi:TI} {g:TG} {tt:TOx} {te:TE} {tc:TT} {n:Nat} {fr:List (Str×Nat)} {σ:St} {H:Hp} {Q:VK}
theorem mK(h:∀B:TE,B=te->wi σ H λc b=>∀a,b a=none->kL c g (tEl B) n fr σ a b Q):kW wi g (tEl te) n fr σ H Q:=h _ rfl
theorem Hq(h:∀(C:TT)(B:TE),C=tc->B=te->wi σ H λc b=>∀a,b a=none->kL c g (hJ C B) n fr σ a b Q):kW wi g (hJ tc te) n fr σ H Q:=h _ _ rfl rfl
end
def seqO(b:Bool)(xs:List V):HO:=match b with|false=>.lst xs|true=>.tup xs
def rSlB(K:Frag):V->Option Int->Option Int->Hp->VK->Prop:=λx lo hi H Q=>∃b a xs,x=.ref a/\SqB b K H a xs /\
 (b=true->¬ (HT.sIx xs.length 0 lo=0/\HT.sIx xs.length xs.length hi=xs.length))/\∀p,H p=none->Q (.ref p) (upd H p (seqO b (cutV xs lo hi)))
theorem sl_B{X:Cx}:SlR X (rSlB X.K):=by
 intro c s j H x v f l lo hi m Q I g k pl i h;obtain⟨b,a,xs,e,d,n,q⟩:=h;cases b
 ·exact Oh c s j H x v f l lo hi m Q I g k pl i ⟨a,xs,e,d,q⟩
 ·exact Os c s j H x v f l lo hi m Q I g k pl i ⟨a,xs,e,d,n rfl,q⟩
def MatL(H:Hp)(a:Addr)(rows:List (LI')):Prop:=∃ps:LA,H a=some (.lst (ps.map V.ref))/\ps.length=rows.length/\∀(i:Nat)(p:Addr)(r:LI'),ps[i]?=some p->rows[i]?=some r->p≠a/\H p=some (.lst (r.map V.int))
theorem MatL.b{K:Frag}{H:Hp}{a:Addr}{b:List (LI')}(h:MatL H a b):MatB false false K H a b:=let ⟨ps,c,f,e⟩:=h;⟨ps,SqB.lst c,f,λi p r e1 d=>SqB.lst (e i p r e1 d).2⟩
theorem MatL.up{H H':Hp}{a:Addr}{d:List (LI')}(h:MatL H a d)(s:Same H H'):MatL H' a d:=let ⟨ps,e,f,c⟩:=h;⟨ps,s _ _ e,f,λi p r e1 b=>⟨(c i p r e1 b).1,s _ _ (c i p r e1 b).2⟩⟩
theorem MatL.of{H:Hp}{a:Addr}{f:Nat->LI'}{ys:List V}(h:H a=some (.lst ys))(hr:∀(j:Nat) y,ys[j]?=some y->RowR a f j y H):MatL H a ((List.range ys.length).map f):=by
 have d:∃ps:LA,ys=ps.map V.ref:=by
  clear h;have:∀(zs:List V)(k:Nat),(∀(j:Nat) y,zs[j]?=some y->RowR a f (j+k) y H)->∃ps:LA,zs=ps.map V.ref:=by
   intro zs
   induction zs with
   |nil=>intro k _;exact⟨[],rfl⟩
   | cons z r g =>
    intro k c;obtain⟨p,e,_⟩:=c 0 z rfl;obtain⟨ps,b⟩:=g (k+1) λj y q=>by
     have:=c (j+1) y (by simpa using q)
     rwa[rD,Nat.add_comm 1 k]at this
    exact⟨p:: ps,by rw[e,b];rfl⟩
  exact this ys 0 hr
 obtain⟨ps,rfl⟩:=d;refine⟨ps,h,by simp,λi p r e1 b=>?_⟩;obtain⟨l,e,n,q⟩:=hr i (.ref p) (by simp[e1]);cases e;have hi:i<ps.length:=(nA.mp e1).1;have:r=f i:=by
  rw[zH,yM,xC hi]at b;exact(zZ b).symm
 rw[this];exact⟨n,q⟩
theorem MatB.row{b1 b2:Bool}{K:Frag}{H:Hp}{a:Addr}{b:List (LI')}(h:MatB b1 b2 K H a b){i:Nat}{r:LI'}(e:b[i]?=some r):∃ps:LA,∃p,SqB b1 K H a (ps.map V.ref)/\(ps.map V.ref)[i]?=some (.ref p)/\(ps.map V.ref).length=b.length/\SqB b2 K H p (r.map V.int):=by
 obtain⟨ps,c,f,d⟩:=h;have hi:i<ps.length:=by have:=(nA.mp e).1;omega
 exact⟨ps,ps[i],c,by simp[hi],by simp[f],d i _ r (by simp[hi]) e⟩
theorem MatB.walk{b1 b2:Bool}{K:Frag}{H:Hp}{a:Addr}{b:List (LI')}(h:MatB b1 b2 K H a b):∃xs:List V,SqB b1 K H a xs/\xs.length=b.length/\∀(i:Nat) x,xs[i]?=some x->∃p r,x=.ref p/\b[i]?=some r/\SqB b2 K H p (r.map V.int):=by
 obtain⟨ps,c,f,d⟩:=h;refine⟨_,c,by simp[f],λi x e=>?_⟩;rw[zH]at e;cases q:ps[i]? with
 |none=>rw[q]at e;cases e
 |some p =>
  rw[q]at e;have hi:i<b.length:=by have:=(nA.mp q).1;omega
  exact⟨p,b[i],(zZ e).symm,by simp[hi],d i p _ q (by simp[hi])⟩
theorem jH{a:Type}{xs:List a}{k:Nat}{x:a}{i:Int}(h:xs[k]?=some x)(hi:i=k):atI xs i=some x:=by
 subst hi;exact Oq h
theorem jY{ns:LI'}{i:Nat}{x:V}(h:(ns.map V.int)[i]?=some x):∃n,ns[i]?=some n/\x=.int n:=by
 rw[zH]at h;cases e:ns[i]? with
 |none=>rw[e]at h;cases h
 |some n=>rw[e]at h;exact⟨n,rfl,(zZ h).symm⟩
theorem gR{ns:LI'}{i:Nat}{n:Int}(h:ns[i]?=some n):(ns.map V.int)[i]?=some (.int n):=by rw[zH,h];rfl
theorem Qf{ns:LI'}{k:Nat}{n:Int}(h:ns[k]?=some n):ns.getD k 0=n:=by rw[tU,h];rfl
theorem getD_at{ns:LI'}{k:Nat}(h:k<ns.length):ns[k]?=some (ns.getD k 0):=by simp[h]
theorem getD_mem{ns:LI'}{k:Nat}(h:k<ns.length):ns.getD k 0∈ns:=by
 rw[show ns.getD k 0=ns[k] by simp[h]];exact vK h
def colI(k:Nat)(rows:List (LI')):LI':=rows.map λr=>r.getD k 0
def dotI(ms ns:LI'):Int:=(List.zipWith (·*·) ms ns).sum
def aG(w:Nat)(rows:List (LI')):List (LI'):=(List.range w).map λk=>colI k rows
def mulM(w:Nat)(A B:List (LI')):List (LI'):=A.map λr=>(List.range w).map λk=>dotI r (colI k B)
theorem Qe{w:Nat}{A B:List (LI')}{i:Nat}{r:LI'}(h:A[i]?=some r):(mulM w A B)[i]?=some ((List.range w).map λk=>dotI r (colI k B)):=by
 unfold mulM;rw[zH,h];rfl
section
variable {K:Frag} {g:TG} {tb:TS} {σ:St} {H:Hp} {nx:St->Hp->Prop} {rt:VK}
abbrev Cv(J:It)(g:TG)(tb:TS)(nx:St->Hp->Prop)(rt:VK)(σ:St)(H:Hp):Prop:=∃W:Nat->Nat->St->Hp->Prop,(∃m,W 0 m σ H)/\∀i m σ H,W i m σ H ->
 (J.stop i H/\nx σ H)\/(J.go i H/\∃N:St->Hp->Prop,(∀σ' H',N σ' H'->∃m',m'<m/\W (i+1) m' σ' H')/\∀x H',J.yld i H x H'->g x σ H' λσ2 H2=>tb {nx:=N,rt:=rt,bk:=nx,ct:=N} σ2 H2)
theorem gD{lo:Int}{n:Nat}(a:Nat->St->Hp->Prop)(c:a 0 σ H)
  (e:∀i σ H,i<n->a i σ H->g (.int (lo+i)) σ H λf b=>tb {nx:=a (i+1),rt:=rt,bk:=nx,ct:=a (i+1)} f b)(d:∀σ H,a n σ H->nx σ H):Cv (Itr lo n) g tb nx rt σ H:=
 Nl (D:={nx:=nx,rt:=rt,bk:=nx,ct:=nx}) a c e d
theorem jP{b:Bool}{a:Addr}{xs:List V}(c:Nat->St->Hp->Prop)(e:c 0 σ H)(hl:∀i σ H,i<=xs.length->c i σ H->SqB b K H a xs)
  (j:∀i x σ H,xs[i]?=some x->c i σ H->g x σ H λk d=>tb {nx:=c (i+1),rt:=rt,bk:=nx,ct:=c (i+1)} k d)(f:∀σ H,c xs.length σ H->nx σ H):Cv (Its K b a) g tb nx rt σ H:=
 Ql (D:={nx:=nx,rt:=rt,bk:=nx,ct:=nx}) c e hl j f
theorem Ho{b:Bool}{a:Addr}{xs:List V}(c:Nat->St->Hp->Prop)(e:c 0 σ H)(hl:∀i σ H,i<=xs.length->c i σ H->SqB b K H a xs)
  (j:∀i x p σ H,xs[i]?=some x->c i σ H->H p=none->g (.ref p) σ (upd H p (.tup [.int i,x])) λk d=>tb {nx:=c (i+1),rt:=rt,bk:=nx,ct:=c (i+1)} k d)(f:∀σ H,c xs.length σ H->nx σ H):Cv (Ite K b a) g tb nx rt σ H:=
 Qk (D:={nx:=nx,rt:=rt,bk:=nx,ct:=nx}) c e hl j f
end
theorem gE{b1 b2:Bool}{K:Frag}{H:Hp}{a:Addr}{c:List (LI')}{i k:Nat}{r:LI'}{x:Int}{I b:Int}{Q:VK}(h:MatB b1 b2 K H a c)(e:c[i]?=some r)(f:r[k]?=some x)(hi:I=i)(g:b=k)(q:Q (.int x) H):
  rIxB K (.ref a) (.int I) H λv j=>rIxB K v (.int b) j Q:=by
 obtain⟨ps,p,k1,k2,k3,d⟩:=h.row e;exact⟨b1,a,_,_,_,rfl,rfl,k1,jH k2 hi,b2,p,_,_,_,rfl,rfl,d,jH (gR f) g,q⟩
theorem Qd{b1 b2:Bool}{K:Frag}{H:Hp}{a:Addr}{b:List (LI')}{i:Nat}{r:LI'}{I:Int}{Q:VK}(h:MatB b1 b2 K H a b)(e:b[i]?=some r)(hi:I=i)(q:∀p,SqB b2 K H p (r.map V.int)->Q (.ref p) H):
  rIxB K (.ref a) (.int I) H Q:=by
 obtain⟨ps,p,k1,k2,k3,c⟩:=h.row e;exact⟨b1,a,_,_,_,rfl,rfl,k1,jH k2 hi,q p c⟩
theorem fM{b1 b2:Bool}{K:Frag}{H:Hp}{a:Addr}{b:List (LI')}{Q:VK}(h:MatB b1 b2 K H a b)(q:Q (.int b.length) H):eT K [.ref a] H Q:=by
 obtain⟨ps,c,d,e⟩:=h;refine⟨b1,a,_,rfl,c,?_⟩;rw[yM,d];exact q
theorem Cu{b:Bool}{K:Frag}{H:Hp}{a:Addr}{ns:LI'}{Q:VK}(h:SqB b K H a (ns.map V.int))(q:Q (.int ns.length) H):eT K [.ref a] H Q:=by
 refine⟨b,a,_,rfl,h,?_⟩;rw[yM];exact q
def Itq(lo st:Int)(n:Nat):It:=⟨λi _=>i<n,λi H x H'=>H'=H/\x=.int (lo+i*st),λi _=>n<=i⟩
def kY(a:Addr)(H:Hp)(zs:List V)(M:List (LI')):Prop:=∃ps:LA,zs=ps.map V.ref/\ps.length=M.length/\∀(j:Nat)(p:Addr)(r:LI'),ps[j]?=some p->M[j]?=some r->p≠a/\H p=some (.lst (r.map V.int))
theorem kY.nil{a:Addr}{H:Hp}:kY a H [] []:=⟨[],rfl,rfl,λj p r e=>by simp at e⟩
theorem kY.len{a:Addr}{H:Hp}{zs:List V}{M:List (LI')}(h:kY a H zs M):zs.length=M.length:=let ⟨ps,e,l,_⟩:=h;by rw[e,yM,l]
theorem kY.mono{a:Addr}{H H':Hp}{zs:List V}{M:List (LI')}(h:kY a H zs M)(s:jO a H H'):kY a H' zs M:=let ⟨ps,e,l,q⟩:=h;⟨ps,e,l,λj p r e1 b=>⟨(q j p r e1 b).1,s _ _ (q j p r e1 b).1 (q j p r e1 b).2⟩⟩
theorem kY.snoc{a p:Addr}{H:Hp}{zs:List V}{M:List (LI')}{r:LI'}(h:kY a H zs M)(ne:p≠a)(d:H p=some (.lst (r.map V.int))):kY a H (zs++[.ref p]) (M++[r]):=by
 obtain⟨ps,rfl,c,f⟩:=h;refine⟨ps++[p],by simp,by simp[c],λi q z e1 b=>?_⟩
 by_cases hi:i<ps.length
 ·rw[yB hi]at e1;rw[yB ⋯]at b;exact f i q z e1 b
 ·have e:i=ps.length:=by
   have:=(nA.mp e1).1;simp at this;omega
  subst e;rw[zX (zE _)]at e1;rw[c,zX (zE _)]at b;simp at e1 b;subst e1 b;exact⟨ne,d⟩
theorem kY.mat{a:Addr}{H:Hp}{zs:List V}{M:List (LI')}(h:H a=some (.lst zs))(r:kY a H zs M):MatL H a M:=by
 obtain⟨ps,rfl,c,b⟩:=r;exact⟨ps,h,c,b⟩
theorem Ct(ns:LI')(lo hi:Option Int):cutV (ns.map V.int) lo hi=((ns.drop (HT.sIx ns.length 0 lo)).take (HT.sIx ns.length ns.length hi-HT.sIx ns.length 0 lo)).map V.int:=by
 unfold cutV;rw[yM,List.map_take,List.map_drop]
theorem Qb{ns:LI'}{k:Nat}(h:k<=ns.length):cutV (ns.map V.int) none (some (k:Int))=(ns.take k).map V.int:=by
 rw[Ct,HT.sIx_none,HT.sIx_nat,pQ h];simp
theorem Qa{ns:LI'}{k:Nat}(h:k<=ns.length):cutV (ns.map V.int) (some (k:Int)) none=(ns.drop k).map V.int:=by
 rw[Ct,HT.sIx_none,HT.sIx_nat,pQ h,yJ (by simp)]
section
variable {K:Frag} {H:Hp} {a a1:Addr} {M:List (LI')} {σ:St} {Q:VK} {b1 b2:Bool}
def MatT(H:Hp)(a:Addr)(rows:List (LI')):Prop:=∃ps:LA,H a=some (.lst (ps.map V.ref))/\ps.length=rows.length/\∀(i:Nat)(p:Addr)(r:LI'),ps[i]?=some p->rows[i]?=some r->H p=some (.tup (r.map V.int))
theorem Rz(u:MatB b1 false K H a M)(hl:M.length<=1000)(w:H a1=none)(L:∀b,Same H b->MatT b a1 M->Q (.ref a1) b):kL (Its K b1 a) (nX 0) (tEl (tCB (eX K) (mH (tVar 0) tNil))) 1 [] σ a1 H Q:=by
 obtain⟨xs,N,R,I⟩:=u.walk;refine kX (λj y b=>∃p r,y=.ref p/\M[j]?=some r/\p≠a1/\b p=some (.tup (r.map V.int))) w N ⋯ (λi y b W⟨p,r,e1,c,d,g⟩s=>⟨p,r,e1,c,d,s _ _ d g⟩) ?_ ?_
 ·intro i x b zs O f G S F;obtain⟨p,r,rfl,P,J⟩:=I i x O;exact⟨_,rfl,p,_,rfl,.inl ⟨J.up f,λl t=>F _ _ (Same.new t) ⟨l,r,rfl,P,zT (lI G t),nN⟩⟩⟩
 ·intro b ys f e1 k n;have v:∃ps:LA,ys=ps.map V.ref:=by
   clear e1 k;have:∀(zs:List V),(∀(j:Nat) y,zs[j]?=some y->∃p:Addr,y=.ref p)->∃ps:LA,zs=ps.map V.ref:=by
    intro zs
    induction zs with
    |nil=>intro _;exact⟨[],rfl⟩
    |cons z r D =>
     intro o;obtain⟨p,e⟩:=o 0 z rfl;obtain⟨ps,c⟩:=D λj y q=>o (j+1) y (by simpa using q);exact⟨p:: ps,by rw[e,c];rfl⟩
   exact this ys λj y e=>let ⟨p,r,e1,_⟩:=n j y e;⟨p,e1⟩
  obtain⟨ps,rfl⟩:=v;refine L b f ⟨ps,e1,by simp at k;omega,λi p r c d=>?_⟩;obtain⟨T,U,g,m,_,C⟩:=n i (.ref p) (by simp[c]);cases g;rw[d]at m;cases m;exact C
theorem MatT.tuple{l:Addr}(h:MatT H a M)(hl:H l=none):∃zs,H a=some (.lst zs)/\MatB true true K (upd H l (.tup zs)) l M:=by
 obtain⟨ps,b,e,d⟩:=h;exact⟨_,b,ps,SqB.tup nN,e,λi p r e1 c=>SqB.tup (Same.new hl _ _ (d i p r e1 c))⟩
end
theorem Ry{X:Cx}{x:Str}{v:V}{b:Pos}(a:Gl X x)(h:∃u,X.mg x=some u/\RelV v u)(c:(x == ("__debug__" :Str))=false:=by decide):PE X (.Name x b) (tC v):=by
 obtain⟨u,e,r⟩:=h;exact fY a e r c
def MkI(te:TE)(n:Int):Prop:=∀σ H Q,Q (.int n) H->te σ H Q
def MkIs(ta:TA)(ns:LI'):Prop:=∀σ H Q,Q (ns.map V.int) H->ta σ H Q
def MkR(te:TE)(ns:LI'):Prop:=∀σ H Q,(∀p H',Same H H'->H p=none->H' p=some (.lst (ns.map V.int))->Q (.ref p) H')->te σ H Q
def MkRs(ta:TA)(M:List (LI')):Prop:=∀σ H Q,(∀ps H',Same H H'->RefRowsN H H' ps M->Q (ps.map V.ref) H')->ta σ H Q
where RefRowsN (H H':Hp) (ps:LA) (M:List (LI')):Prop:=ps.length=M.length/\∀(j:Nat)(p:Addr)(r:LI'),ps[j]?=some p->M[j]?=some r->H' p=some (.lst (r.map V.int))
def MkM(te:TE)(M:List (LI')):Prop:=∀σ H Q,(∀p H',Same H H'->H p=none->MatL H' p M->Q (.ref p) H')->te σ H Q
def Mats(H:Hp)(p:Addr)(Ms:List (List (LI'))):Prop:=∃ps:LA,H p=some (.lst (ps.map V.ref))/\ps.length=Ms.length/\∀(i:Nat)(q:Addr)(M:List (LI')),ps[i]?=some q->Ms[i]?=some M->MatL H q M
def MkMs(ta:TA)(Ms:List (List (LI'))):Prop:=∀σ H Q,(∀(ps:LA) H',Same H H'->ps.length=Ms.length->(∀(i:Nat)(q:Addr)(M:List (LI')),ps[i]?=some q->Ms[i]?=some M->MatL H' q M)->Q (ps.map V.ref) H')->ta σ H Q
def MatD(H0 H:Hp)(a:Addr)(rows:List (LI')):Prop:=∃ps:LA,H a=some (.lst (ps.map V.ref))/\ps.length=rows.length/\ps.Nodup/\∀(i:Nat)(p:Addr)(r:LI'),ps[i]?=some p->rows[i]?=some r->p≠a/\H0 p=none/\H p=some (.lst (r.map V.int))
theorem MatD.l{f H:Hp}{a:Addr}{d:List (LI')}(h:MatD f H a d):MatL H a d:=let ⟨ps,e,g,_,c⟩:=h;⟨ps,e,g,λi p r e1 b=>⟨(c i p r e1 b).1,(c i p r e1 b).2.2⟩⟩
theorem MatD.up{d H H':Hp}{a:Addr}{e:List (LI')}(h:MatD d H a e)(s:Same H H'):MatD d H' a e:=let ⟨ps,f,g,n,c⟩:=h;⟨ps,s _ _ f,g,n,λi p r e1 b=>⟨(c i p r e1 b).1,(c i p r e1 b).2.1,s _ _ (c i p r e1 b).2.2⟩⟩
theorem MatD.row{f H:Hp}{a:Addr}{d:List (LI')}{i:Nat}{r:LI'}(h:MatD f H a d)(e:d[i]?=some r):∃zs p,H a=some (.lst zs)/\zs[i]?=some (.ref p)/\zs.length=d.length/\p≠a/\f p=none/\H p=some (.lst (r.map V.int))/\∀g,MatD f (upd H p (.lst (g.map V.int))) a (d.set i g):=by
 obtain⟨ps,m,t,n,o⟩:=h;have hi:i<ps.length:=by have:=(nA.mp e).1;omega
 have b:=o i ps[i] r (by simp[hi]) e;refine⟨_,ps[i],m,by simp[hi],by simp[t],b.1,b.2.1,b.2.2,λg=>⟨ps,by rw[nO (zT b.1)];exact m,by simp[t],n,λj q z e1 c=>?_⟩⟩
 by_cases k:j=i
 ·subst k;have x:q=ps[j]:=by simp[hi]at e1;exact e1.symm
  subst x;rw[xR ⋯]at c;cases c;exact⟨b.1,b.2.1,nN⟩
 ·rw[uB (zT k)]at c;obtain⟨v,u,C⟩:=o j q z e1 c;have:q≠ps[i]:=λw=>by
   have l:=(nA.mp e1);obtain⟨l,y⟩:=l;exact k ((List.getElem_inj n).mp (y.trans w))
  exact⟨v,u,by rw[nO this];exact C⟩
def isList:Expr->Bool
 |.List _ _=>true
 |_=>false
section
variable {X:Cx}
theorem Hn:∀{bs:List Bool}{its:LW},Vals (bs.map V.bl) its->∀(i:Nat)(v:Value),its[i]?=some v->∃b,bs[i]?=some b/\v=.bool b
 |[],_,.nil,i,v,e=>by simp at e
 |b:: r,_,.cons h q,i,v,e=>by
  cases i with
  |zero=>simp at e;subst e;exact⟨b,rfl,h⟩
  |succ i=>simpa using Hn (bs:=r) q i v (by simpa using e)
theorem Hm:∀bs:List Bool,((List.range bs.length).any λi=>(bs[i]?).getD false)=bs.any id
 |[]=>rfl
 |b:: bs=>by
  have a:=Hm bs;rw[zR,List.range_succ_eq_map,qR,qR,List.any_map];show(b || _)=(b || _);congr 1
theorem Rx(k:X.calm=true):kD X (.builtin "any") (λxs H Q=>∃(p:Addr)(bs:List Bool),xs=[.ref p]/\SqL X.K H p (bs.map V.bl)/\Q (.bl (bs.any id)) H):=by
 intro o s C H xs us Q I r h;obtain⟨p,bs,rfl,g,q⟩:=h;obtain⟨u,rfl,f⟩:=jM r;cases f;obtain⟨its,a,pl,z⟩:=I.list g;have hl:s.heap.IsList p its.toArray:=pl.isList;have m:p<s.heap.objs.size:=by obtain⟨_,e,_⟩:=hl;exact zK e
 have d:its.toArray.size=bs.length:=by
  have:=a.length;simpa using this.symm
 refine call_any_walk (sT hl ?_);refine⟨s.heap.objs.size,[s.heap.objs.size,p],[s.heap.objs.size],its.toArray.size,_,_,λi=>(bs[i]?).getD false,rfl,Walks.list (A:=X.A.in1) (I.ok.hd k) _ p (zW m) its.toArray,
  ⟨⟨_,zQ _ rfl,rfl,rfl⟩,hl.push _⟩,λi v w y t l c=>?_,λh' tk j=>?_⟩
 ·obtain⟨b,e,rfl⟩:=Hn a i v (by simpa using l);simp only[e,Option.getD_some]at c;exact uY c
 ·rw[d,Hm bs];refine⟨.bl (bs.any id),H,I.kept (t':=tk) λb x e=>j b x (λn=>by rw[oN.mp n]at e;exact yZ _ (zK e)) (zC _ e),rfl,q⟩
end
section
variable {prog:Program} {w:World} {A:Around} {E:VP} {s:Shared}
theorem Rv{env:Env}{a:List Expr}{g}{d:Pos}{b:Addr}{items:Array Value}{Q:Unit->Shared->Prop}(hh:A.handled=none)(c:s.heap.IsList b items)
  (f:(assignEach a env).length=items.size)(e:(assignEach a env).findIdx? (·.1)=none)
  (h:∀h',Heap.ExtBut s.heap.objs.size s.heap h'->wpAny (model prog w) A (assignInOrder ((assignEach a env).map (·.2)) items.toList) Q E {s with heap:=h'}):
  wpAny (model prog w) A (assign (.Tuple a g d) env (.ref b)) Q E s:=by
 rw[assign_Tuple];refine zA (wF ?_);unfold unpack;rw[f,e];exact zA (yN (PySem.W.kun_itemsOf hh c h))
end
section
variable {X:Cx} {pos:Pos}
def Ru(K:Frag)(n:Nat)(t:TGs):TG:=λv σ H Q=>∃b a xs,v=.ref a/\SqB b K H a xs/\xs.length=n/\t xs σ H Q
theorem Rt{es:List Expr}{k:Nat}{l:TGs}{n:Nat}(p:X.calm=true)(h:PGs X es l)
  (m:(assignEach es X.env).length=n:=by rfl)(j:(assignEach es X.env).findIdx? (·.1)=none:=by rfl):PG X (.Tuple es k pos) (Ru X.K n l):=by
 intro d s f H v u Q I r c;obtain⟨b,a,xs,e1,i,hl,c⟩:=c;cases b with
 |true=>exact gO p h m j d s f H v u Q I r ⟨a,xs,e1,i,hl,c⟩
 |false =>
  subst e1;cases r;obtain⟨its,g,pl,w⟩:=I.list i;refine Rv (I.ok.hd p) pl.isList (by simp[m,←hl,g.length]) j λh' q=>?_;have t:Inv X d f H {s with heap:=h'}:=I.kept (t':=s.toks) λb o e=>q b o (zW (zK e)) e;exact h d _ f H xs _ Q t (by simpa using g) c
end
section
variable {prog:Program} {w:World} {A:Around} {E:VP} {s:Shared}
set_option maxRecDepth 100000 in
end
open Builtin Builtin.Str
section
variable {X:Cx}
def Rr:List V->Hp->VK->Prop:=λxs H Q=>∃n:Nat,xs=[.int n]/\n<=1000/\∀l,H l=none->Q (.ref l) (upd H l (.lst ((List.range n).map λ(i:Nat)=>V.int (i:Int))))
theorem Rq{a:Expr}{m:TA}{U j T d:Pos}(L:X.calm=true)(G:Gl X "list")(F:X.mg "list"=none)(S:Gl X "range")(J:X.mg "range"=none)(C:PA X [a] m)
  (W:bootBuiltins "list"=some (.type "list"):=by decide +kernel)(M:starEach [a] X.env=[(false,eval a X.env)]:=by rfl)
  (v:starEach [.Call (.Name "range" j) [a] [] d] X.env=[(false,eval (.Call (.Name "range" j) [a] [] d) X.env)]:=by rfl):
  PE X (.Call (.Name "list" U) [.Call (.Name "range" j) [a] [] d] [] T) (tCB Rr m):=by
 intro O s a0 H Q I h;refine wE (gL I G F W ?_);refine xV ?_ (by rw[v];rfl) (by rfl);rw[v];show wpAny _ _ (spliced ((false,eval (.Call (.Name "range" j) [a] [] d) X.env):: [])) _ _ s;refine Calls.spliced_cons ?_;refine wE (gL I S J boot_range ?_);refine xV (thn (C d O s a0 H _ I h) ?_) (by rw[M];rfl) (by rfl);rintro us c ⟨vs,a1,l,r1,P⟩;obtain⟨n,e,w,q⟩:=P;subst e;obtain⟨u,rfl,z⟩:=jM r1;obtain⟨k,rfl⟩:=z;refine call_range_1 ?_;refine Calls.spliced_nil ?_;have k1:∀b o,c.heap.get? b=some o->(c.heap.push {cls:=.type "range",data:=.fields #[.int 0 c.toks,.int n k,.int 1 (c.toks+1)]}).get? b=some o:=λb o e=>zC _ e;refine call_list_range (n:=n) (l.ok.hd L) (IsRange.new ..) (small_one ∅ ∅ ⋯ ⋯) (by rw[rangeSize_one];split <;> omega) (yC w ∅) λh' tk r D K R Y=>?_;have k2:∀b o,c.heap.get? b=some o->h'.get? b=some o:=λb o e=>K b o (k1 b o e);have t:c.heap.objs.size<=(c.heap.push {cls:=.type "range",data:=.fields #[.int 0 c.toks,.int n k,.int 1 (c.toks+1)]}).objs.size:=by simp[Heap.push]
 have y:Vals ((List.range n).map λ(i:Nat)=>V.int (i:Int)) r.toList:=by
  obtain⟨p,Z⟩:=Y;have g:∀(xs:List V)(us:LW),xs.length=us.length->(∀(i:Nat)(x:V)(u:Value),xs[i]?=some x->us[i]?=some u->RelV x u)->Vals xs us:=by
   intro xs
   induction xs with
   |nil=>intro us hl _;cases us with
    |nil=>exact .nil
    |cons _ _=>cases hl
   |cons x xs N=>intro us hl hr;cases us with
    |nil=>cases hl
    |cons u us=>exact .cons (hr 0 x u rfl rfl) (N us (pI hl) λi x u e1 f=>hr (i+1) x u e1 f)
  refine g _ _ (by rw[yM,uX,zL,p]) λi x u e1 f=>?_;rw[yI]at f;obtain⟨k,rfl⟩:=Z i u f;rw[zH]at e1;have hi:i<n:=by rw[←p];exact(nE.mp f).1
  rw[xC hi]at e1;cases e1;exact⟨k,by rw[rP,oB]⟩
 exact⟨.ref _,_,l.laid (t':=tk) k2 t (show mI X.prog X.w _ h' _ (.lst _) from⟨by rw[yM,uX];exact yC w ∅,r.toList,D,y,by rw[Array.toArray_toList];exact R⟩),rfl,q _ (l.hok.fresh t)⟩
end
def qVar(i:Nat):TE:=λσ H Q=>match σ[i]? with
 |some (some v)=>Q v H
 |_=>False
theorem Rp{i:Nat}{a:St}{H:Hp}{Q:VK}(h:qVar i a H Q):tVar i a H Q:=by
 unfold qVar at h;split at h
 ·next v e=>exact⟨v,e,h⟩
 ·exact h.elim
theorem pq{X:Cx}(i:Nat){x:Str}{c:Pos}(d:X.N[i]?=some x:=by rfl)(b:Vis X.env.scope x:=by first|exact Or.inl rfl|exact Or.inr (Or.inl rfl)|exact Or.inr (Or.inr rfl))(e:(x == ("__debug__" :Str))=false:=by decide)
  (f:(x == ("__classdict__" :Str))=false:=by decide):PE X (.Name x c) (qVar i):=λa s g H Q I q=>pv i d b e f a s g H Q I (Rp q)
section
variable {X:Cx} {e:Expr} {ta:TE} {pos p p':Pos} {i:Int} {j:Nat}
theorem nY(a:PE X e ta):PE X (e.Subscript (.Constant (.int i) j p') pos) (tOp (rIxB X.K) ta (tC (.int i))):=mG ix_B a nK (λ_ _=>rfl)
theorem lC(m:X.mg "len"=none)(a:PE X e ta)(g:Gl X "len" := by rfl)(b:starEach [e] X.env=(false,eval e X.env):: starEach [] X.env:=by rfl):PE X (.Call (.Name "len" p) [e] [] pos) (tCB (eT X.K) (mH ta tNil)):=mS Qm g m (nofun) (nH a nI b) ∅ ∅ b rfl
end
section
variable {X:Cx} {sc scope:Scope} {fr:List (Str×Nat)} {x:Str} {px:Pos} {iter elt:Expr} {wi:TI} {te:TE} {N:List Str}
theorem lE{j:Pos}(k:X.env.scope=sc)(n:X.N=N)(l:bV sc N scope fr=true)(m:X.calm=true)(o:bW (jV sc scope) ([x]++fr.map (·.1)) 0 x=true)(hi:PI X (.Name x px) iter wi)
  (i:∀(e:Shared)(f:Hp)(c:LA),(lO X scope ([x]++fr.map (·.1)) e f c).env.scope=jV sc scope->PE (lO X scope ([x]++fr.map (·.1)) e f c) elt te)(g:∀x,foldedSetIterable iter X.env x=pure x:=by intro _;rfl):PE X (.ListComp elt [⟨.Name x px,iter,[],0⟩] scope j) (kW wi (nX 0) (tEl te) 1 fr):=
 hX (xs:=[x]) (jW k n l) m hi (λ_ _ _ h=>iH (i:=0) h rfl o) (λa b d h=>iM (i a b d h)) (zY _) g
theorem Ro{c k f:Pos}{y:Str}{i:Nat}(o:X.env.scope=sc)(t:X.N=N)(r:bV sc N scope fr=true)(u:X.calm=true)(q:X.N.Nodup)(m:X.N[i]?=some y)(hl:X.env.scope.names.lookup y=some .local)(v:bW (jV sc scope) ([x]++fr.map (·.1)) 0 x=true)(hi:PI X (.Name x px) iter wi)
  (p:∀(g:Shared)(j:Hp)(e:LA),(lO X scope ([x]++fr.map (·.1)) g j e).env.scope=jV sc scope->PE (lO X scope ([x]++fr.map (·.1)) g j e) elt te)
  (n:swapsWith (.ListComp elt [⟨.Name x px,iter,[],0⟩] scope c) (some (.Name y f)) k.line X.env=pure true:=by rfl)(l:∀x,foldedSetIterable iter X.env x=pure x:=by intro _;rfl):PS X (.Assign [.Name y f] (.ListComp elt [⟨.Name x px,iter,[],0⟩] scope c) k) (Gm i (kW wi (nX 0) (tEl te) 1 fr)):=
 Ba (xs:=[x]) (jW o t r) u q m hl hi (λ_ _ _ h=>iH (i:=0) h rfl v) (λa b d h=>iM (p a b d h)) n (zY _) l
end
structure FunT(K:Frag)(mg:MT)(x:Str)(st:Stmt)(f:Addr)(fd:FuncData)(ps:List Str):Prop extends Fun K x x st f fd where
 m:mg x=some (.ref f)
 b:lT K fd ps []
section
variable {X:Cx} {k:Nat} {f:Addr} {fd:FuncData} {ps:List Str} {sp:Sp} {x:Str} {st:Stmt} {p pos:Pos} {e:Expr} {es:List Expr} {t:TA}
theorem nS(F:FnOk X.prog X.w X.K X.mg X.base CX0 k f fd ps sp)(hr:Room k X.A)(c:FunT X.K X.mg x st f fd ps)(i:PA X (e:: es) t)(g:Gl X x:=by rfl)(b:(x == ("__debug__" :Str))=false:=by decide)
  (a:starEach (e:: es) X.env=(false,eval e X.env):: starEach es X.env:=by rfl)(d:(backTo pos (starEach es X.env)).any (·.1)=false:=by rfl):PE X (.Call (.Name x p) (e:: es) [] pos) (kJ sp [] E0 t):=bL F hr g c.m c.kp c.b .nil fJ i b a d
end
instance decPD:DecidableEq PyData:=λ_ _=>Classical.propDecidable _
def tT:Nat->PyData->Bool
 |_,.int _=>true
 |n+1,.tuple xs=>xs.all (tT n)
 |_,_=>false
theorem gF:∀(n:Nat)(d:PyData),tT n d=true->iT n d=true:=by
 intro n
 induction n with
 |zero=>intro d h;cases d <;> simp[tT]at h <;> simp[iT]
 |succ n b =>
  intro d h;cases d <;> simp[tT]at h
  ·simp[iT]
  ·simp only[iT,List.all_eq_true];exactλx a=>b x (h x a)
mutual
def iN:PyData->Int
 |.int i=>hashInt i
 |.tuple xs=>reduceHash (Builtin.Tuple.tupleHashOf (cL xs))
 |_=>0
def cL:List PyData->LI'
 |[]=>[]
 |d:: ds=>iN d:: cL ds
end
mutual
def iO:PyData->Nat
 |.tuple xs=>fN xs+1
 |_=>1
def fN:List PyData->Nat
 |[]=>0
 |d:: ds=>iO d+fN ds
end
section
variable {prog:Program} {w:World} {E:VP}
theorem Rn(n:Nat)(i:∀{A:Around}{s:Shared}{v:Value}{d:PyData}{as:LA}{Q:Int->Shared->Prop},tT n d=true->Reads s.heap v d as->A.units+n<cLine->Q (iN d) {s with toks:=s.toks+iO d}->wpAny (model prog w) A (pyHash v) Q E s):
  ∀(xs:List PyData)(vs:LW)(as:LA)(A:Around)(s:Shared)(b:Array Int)(Q:Array Int->Shared->Prop),xs.all (tT n)=true->ReadsAll s.heap vs xs as->A.units+n<cLine ->
  (∀a:Array Int,a.toList=b.toList++cL xs->Q a {s with toks:=s.toks+fN xs}) ->
  wpAny (model prog w) A (forIn vs b λx r=>do let h ←pyHash x;pure PUnit.unit;pure (ForInStep.yield (r.push h))) Q E s:=by
 intro xs
 induction xs with
 |nil =>
  intro vs as A s b Q _ r _ h;cases r;exact zB (h b (by simp[cL]))
 | cons d ds f =>
  intro vs as A s b Q c r e h;cases r with
  |cons r1 r2 =>
   rw[yV,zN]at c;rw[uQ];refine zA (zA (i c.1 r1 e ?_));refine zA (zB (zB ?_));refine f _ _ A {s with toks:=s.toks+iO d} (b.push (iN d)) Q c.2 r2 e λa g=>?_;have:=h a (by rw[g];simp[cL]);rw[show s.toks+fN (d:: ds)=s.toks+iO d+fN ds by simp[fN,Nat.add_assoc]]at this;exact this
theorem Rm:∀(n:Nat){A:Around}{s:Shared}{v:Value}{d:PyData}{as:LA}{Q:Int->Shared->Prop},tT n d=true->Reads s.heap v d as->A.units+n<cLine->Q (iN d) {s with toks:=s.toks+iO d}->wpAny (model prog w) A (pyHash v) Q E s:=by
 intro n
 induction n with
 |zero =>
  intro A s v d as Q c r g h;cases r <;> simp[tT]at c;exact pG (by simpa [iN,iO]using h)
 | succ n i =>
  intro A s v d as Q c r g h;cases r <;> simp only[tT,Bool.false_eq_true]at c
  case int=>exact pG (by simpa [iN,iO]using h)
  case tuple a o vs m xs hg hc hd hr =>
   unfold pyHash;refine PySem.W.pyHash_slot (T:= "tuple") ⟨_,hg,hc⟩ PySem.F.slot_tuple_hash PySem.F.entry_tuple_hash (PySem.F.args_tuple_hash_1 _) (beq_builtin_none _) (.inr ⋯) ?_;show wpAny _ _ (Builtin.Tuple.tupleItemsOf (.ref a) >>= _) _ _ s;refine zA (uR hg hd ?_);refine zA ?_;rw[←Array.forIn_toList];refine Rn n i xs vs.toList _ A.in1 s #[] _ c hr (by show A.units+1+n<cLine;omega) λb f=>?_;show wpAny _ _ (retInt (Builtin.Tuple.tupleHashOf b.toList)) _ _ _;rw[f];refine zA (wpAny_mkInt (zB ⟨_,_,rfl,?_⟩));have e:s.toks+fN xs+1=s.toks+iO (.tuple xs):=by simp[iO,Nat.add_assoc]
   simp only[iN]at h;rw[←e]at h;exact h
theorem Rl:∀(n m:Nat),n<m->∀{A:Around}{s:Shared}{v:Value}{d:PyData}{as:LA}{Q:Bool->Shared->Prop},tT n d=true->Reads s.heap v d as->Q true s->wpAny (model prog w) A (eqIsQuiet m v) Q E s:=by
 intro n
 induction n with
 |zero =>
  intro m _ A s v d as Q b r h;cases r <;> simp[tT]at b;rw[eqIsQuiet_byValue _ rfl];exact zB h
 | succ n l =>
  intro m p A s v d as Q b r h;cases r <;> simp only[tT,Bool.false_eq_true]at b
  case int=>rw[eqIsQuiet_byValue _ rfl];exact zB h
  case tuple a o vs k xs hg hc hd hr =>
   obtain⟨m,rfl⟩:∃j,m=j+1:=⟨m-1,⋯⟩;have g:s.TypeIs (.ref a) "tuple" := ⟨o,hg,hc⟩;unfold eqIsQuiet;refine zA (wpAny_specialOf g PySem.F.slot_tuple_eq.lookup ?_);show wpAny _ _ (isInstance (.ref a) (.type "tuple") >>= _) _ _ s;refine zA (vM g rJ ?_);simp only[Bool.not_true,Bool.false_eq_true,if_false];refine zA (wJ hg hd ?_);refine zA ?_;show wpAny _ _ (forIn vs _ _) _ _ s;rw[←Array.forIn_toList];refine pM _ (λrest q f=>q.1=none/\f=s/\∃ys bs,ys.all (tT n)=true/\ReadsAll s.heap rest ys bs) _ ?_ ?_ _ _ ⟨rfl,rfl,xs,_,b,hr⟩
   ·rintro u rest q f ⟨c,rfl,ys,bs,e,i⟩;cases i with
    |cons r1 r2 =>
     rw[yV,zN]at e;refine zA (l m ⋯ e.1 r1 ?_);simp only[Bool.not_true,Bool.false_eq_true,if_false];exact zB ⟨rfl,rfl,_,_,e.2,r2⟩
   ·rintro⟨r1,r2⟩ f ⟨c,rfl,_⟩;simp only at c;subst c;exact zB h
end
theorem Rj{h h':Heap}{x:Addr}{c:Obj}{es:Array DictEntry}{ep:Nat}(f:h.get? x=some c)(g:c.data=.dict es ep)(j:Heap.SameBut x h h'):∀(n:Nat){v:Value}{d:PyData}{as:LA},tT n d=true->Reads h v d as->Reads h' v d as:=by
 intro n
 induction n with
 |zero =>
  intro v d as b r;cases r <;> simp[tT]at b;exact .int _ _
 | succ n l =>
  have all:∀(xs:List PyData)(vs:LW)(as:LA),xs.all (tT n)=true->ReadsAll h vs xs as->ReadsAll h' vs xs as:=by
   intro xs
   induction xs with
   |nil=>intro vs as _ r;cases r;exact .nil
   | cons d ds i =>
    intro vs as b r;cases r with
    |cons r1 r2 =>
     rw[yV,zN]at b;exact .cons (l b.1 r1) (i _ _ b.2 r2)
  intro v d as b r;cases r <;> simp only[tT,Bool.false_eq_true]at b
  case int=>exact .int _ _
  case tuple a o vs k xs hg hc hdd hr =>
   have e:a≠x:=by
    rintro rfl;rw[f]at hg;cases hg;rw[g]at hdd;cases hdd
   exact .tuple ((j.2 a e).trans hg) hc hdd (all _ _ _ b hr)
def isT(h:Heap)(d:PyData)(a:Addr):Prop:=tT 4 d=true/\∃as,Reads h (.ref a) d as
def kZ(prog:Program)(w:World):HeapKind prog w PyData where
 is:=isT
 hash:=iN
 draws:=iO
 room:=λA=>A.units+8<cLine
 inj:=λ{h a x y}hx hy=>by
  obtain⟨t1,as,r1⟩:=hx;obtain⟨t2,bs,r2⟩:=hy;exact PySem.SeqAt.Reads.unique _ _ _ _ _ (gC 4 _ (gF 4 _ t1)).1 r1 r2
 keeps:=λ{h h' k a x o es ep}hk hx hd hs=>⟨hk.1,let ⟨as,r⟩:=hk.2;⟨as,Rj hx hd hs 4 hk.1 r⟩⟩
 pyHash:=λ{A E s k a Q}hu hk h=>let ⟨as,r⟩:=hk.2;Rm 4 hk.1 r ⋯ h
 eqBool:=λ{A E s x y a b Q}hu hx hy h=>by
  obtain⟨t1,as,r1⟩:=hx;obtain⟨t2,bs,r2⟩:=hy;have i1:=gF 4 _ t1;have i2:=gF 4 _ t2;have l1:=gC 4 _ i1;have l2:=gC 4 _ i2;refine PySem.SeqAt.eqBoolOverData _ _ _ _ _ _ _ _ _ _ _ _ r1 r2 l1.1 l2.1 ⋯ ?_;rw[←SeqAt.same_eq_eqv _ _ (aD 4 _ _ i1 i2)];have e:=aE 4 _ _ i1 i2
  by_cases z:x=y
  ·rw[zM z]at h;rw[e.mpr z];exact h
  ·rw[zJ z]at h;have:same x y=false:=by
    cases q:same x y with
    |false=>rfl
    |true=>exact absurd (e.mp q) z
   rw[this];exact h
 quiet:=λ{A E s k a Q}hk h=>let ⟨as,r⟩:=hk.2;Rl 4 8 ∅ hk.1 r h
def lD(a:Addr)(xs:List (PyData×Addr×Value)):HO:=.ext λh=>∃o es ep,h.get? a=some o/\o.ExactDict/\o.data=.dict es ep/\es.toList=xs.map λx=>⟨iN x.1,.ref x.2.1,x.2.2⟩
theorem Cs{o:Option V}{u:Option Value}(h:RelO o u):o.isSome=u.isSome:=by
 cases o <;> cases u <;> first|rfl|exact h.elim
def vT(kvs:List (PyData×V))(k:PyData):Option V:=(kvs.find? λkv=>decide (kv.1=k)).map (·.2)
def pT(kvs:List (PyData×V))(k:PyData)(v:V):List (PyData×V):=if(vT kvs k).isSome=true then kvs.map (λkv=>if kv.1=k then(kv.1,v) else kv) else kvs++[(k,v)]
theorem jI{p:PyData×V}{r:List (PyData×V)}{k:PyData}(e:p.1=k):vT (p:: r) k=some p.2:=by simp[vT,List.find?_cons,e]
theorem jJ{p:PyData×V}{r:List (PyData×V)}{k:PyData}(e:¬ p.1=k):vT (p:: r) k=vT r k:=by simp[vT,List.find?_cons,e]
abbrev KP(K:Frag)(H:Hp):List (PyData×V)->List (PyData×Addr×Value)->Prop:=Paired λp q=>p.1=q.1/\(tT 4 p.1=true/\Dt K H (.ref q.2.1) p.1)/\RelV p.2 q.2.2
structure DTr(K:Frag)(H:Hp)(a:Addr)(kvs:List (PyData×V)):Prop where
 len:kvs.length<=sizeLine
 sys:(a == sysModules)=false
 ex:∃xs,H a=some (lD a xs)/\(xs.map (·.1)).Nodup/\KP K H kvs xs
theorem KP.val{K:Frag}{H:Hp}{kvs:List (PyData×V)}{xs:List (PyData×Addr×Value)}(r:KP K H kvs xs)(k:PyData):RelO (vT kvs k) ((atKey xs k).map (·.2)):=by
 induction r with
 |nil=>exact True.intro
 | @cons p q ps a h i g =>
  obtain⟨c,_,f⟩:=h
  by_cases e:p.1=k
  ·have b:atKey (q:: a) k=some q.2:=by simp[atKey,List.find?_cons,c.symm.trans e]
   rw[jI e,b];exact f
  ·have d:¬ q.1=k:=λz=>e (c.trans z);have b:atKey (q:: a) k=atKey a k:=by simp[atKey,List.find?_cons,d]
   rw[jJ e,b];exact g
theorem KP.put{K:Frag}{H:Hp}{kvs:List (PyData×V)}{xs:List (PyData×Addr×Value)}(r:KP K H kvs xs)(k:PyData){b:Addr}{y:V}{u:Value}(tk:tT 4 k=true)(g:Dt K H (.ref b) k)(d:RelV y u):KP K H (pT kvs k y) (storedH xs k b u):=by
 have e:(vT kvs k).isSome=(atKey xs k).isSome:=by rw[Cs (r.val k),qZ]
 unfold pT storedH;rw[e]
 by_cases q:(atKey xs k).isSome=true
 ·rw[zF q,zF q];clear e q
  induction r with
  |nil=>exact .nil
  |@cons p q ps j h l i =>
   rw[zO,zO];refine .cons ?_ i;obtain⟨a,c,f⟩:=h;unfold putAt
   by_cases e:p.1=k
   ·rw[zF e,zF (a.symm.trans e)];exact⟨a,c,d⟩
   ·rw[zD e,zD (λz=>e (a.trans z))];exact⟨a,c,f⟩
 ·rw[zD q,zD q];exact Paired.snoc r ⟨rfl,⟨tk,g⟩,d⟩
theorem jZ{K:Frag}{H H':Hp}(c:∀b xs,SqT K H b xs->SqT K H' b xs):∀(n:Nat){x:V}{d:PyData},tT n d=true->Dt K H x d->Dt K H' x d:=by
 intro n
 induction n with
 |zero =>
  intro x d h r;cases r <;> simp[tT]at h;exact .int _
 | succ n e =>
  have all:∀(ds:List PyData)(xs:List V),ds.all (tT n)=true->Dts K H xs ds->Dts K H' xs ds:=by
   intro ds
   induction ds with
   |nil=>intro xs _ r;cases r;exact .nil
   | cons d ds f =>
    intro xs h r;cases r with
    |cons r1 r2 =>
     rw[yV,zN]at h;exact .cons (e h.1 r1) (f _ h.2 r2)
  intro x d h r;cases r <;> simp only[tT,Bool.false_eq_true]at h
  case int=>exact .int _
  case tup a xs ds hq hr=>exact .tup (c _ _ hq) (all _ _ h hr)
theorem Hl{K:Frag}{H:Hp}{a:Addr}{o:HO}(d:∀xs,¬ Rd H a (.tup xs)):∀b xs,SqT K H b xs->SqT K (upd H a o) b xs:=λb xs h=>by
 rcases h with h|h
 ·have ne:b≠a:=λe=>d xs (e ▸ h);rcases h with h|⟨c,h⟩
  ·exact .inl (.inl (by rw[nO ne];exact h))
  ·exact .inl (.inr ⟨c,by rw[nO ne];exact h⟩)
 ·exact .inr h
theorem KP.keeps{K:Frag}{H H':Hp}{kvs:List (PyData×V)}{xs:List (PyData×Addr×Value)}(r:KP K H kvs xs)(a:∀b ys,SqT K H b ys->SqT K H' b ys):KP K H' kvs xs:=
 Paired.mapP r λ_ _ z=>⟨z.1,⟨z.2.1.1,jZ a 4 z.2.1.1 z.2.1.2⟩,z.2.2⟩
theorem lY{K:Frag}{H H':Hp}(s:Same H H'):∀b xs,SqT K H b xs->SqT K H' b xs:=λb xs h=>by
 rcases h with(h|⟨o,h⟩)|h
 ·exact .inl (.inl (s _ _ h))
 ·exact .inl (.inr ⟨o,s _ _ h⟩)
 ·exact .inr h
theorem DTr.up{K:Frag}{H H':Hp}{a:Addr}{kvs:List (PyData×V)}(h:DTr K H a kvs)(s:Same H H'):DTr K H' a kvs:=by
 obtain⟨l,y,xs,e,n,r⟩:=h;exact⟨l,y,xs,s _ _ e,n,r.keeps (lY s)⟩
section
variable {X:Cx} {pins:PN} {σ:St} {H:Hp} {s:Shared} {a:Addr}
theorem gS{k:PyData}{b:Addr}(I:Inv X pins σ H s)(tk:tT 4 k=true)(c:Dt X.K H (.ref b) k):(kZ X.prog X.w).is s.heap k b:=⟨tk,c.reads I rfl⟩
theorem gG{kvs:List (PyData×V)}(I:Inv X pins σ H s)(g:DTr X.K H a kvs):∃xs,H a=some (lD a xs)/\KP X.K H kvs xs/\s.heap.DictOfH (kZ X.prog X.w) a xs:=by
 obtain⟨_,_,xs,e,n,r⟩:=g;obtain⟨⟨o,es,ep,f,j,i,d⟩,_⟩:=(show mI X.prog X.w H s.heap a (lD a xs) from I.hok a _ e);refine⟨xs,e,r,o,es,ep,f,j,i,d,λx b=>?_,n⟩;have all:∀{l:List (PyData×V)}{m:List (PyData×Addr×Value)},KP X.K H l m->∀x∈m,(kZ X.prog X.w).is s.heap x.1 x.2.1:=by
  intro l m q
  induction q with
  |nil=>intro x b;exact nomatch b
  |@cons p q ps t c u k =>
   intro x b;rcases xL.mp b with e|b
   ·subst e;rw[←c.1];exact gS I c.2.1.1 c.2.1.2
   ·exact k x b
 exact all r x b
end
def aH(K:Frag):R2:=λx y H Q=>∃a kvs b k v,x=.ref a/\y=.ref b/\DTr K H a kvs/\tT 4 k=true/\Dt K H (.ref b) k/\vT kvs k=some v/\Q v H
def rInT(K:Frag)(neg:Bool):R2:=λy x H Q=>∃a kvs b k,x=.ref a/\y=.ref b/\DTr K H a kvs/\tT 4 k=true/\Dt K H (.ref b) k/\Q (.bl (if neg=true then !(vT kvs k).isSome else(vT kvs k).isSome)) H
def Ri(K:Frag):TSet:=λx y v H Q=>∃a kvs b k,x=.ref a/\y=.ref b/\DTr K H a kvs/\tT 4 k=true/\Dt K H (.ref b) k/\kvs.length<sizeLine/\∀H',(∀c o,c≠a->H c=some o->H' c=some o)->(∀c,c≠a->H' c=H c)->DTr K H' a (pT kvs k v)->Q H'
section
variable {X:Cx}
theorem ix_T(w:X.A.units+64<cLine):IxR X (aH X.K):=by
 intro D C t s F H x y v u Q I f m h n;obtain⟨a,kvs,b,k,z,rfl,rfl,g,tk,o,d,q⟩:=h;cases f;cases m;obtain⟨xs,e,r,dd⟩:=gG I g;obtain⟨w',l,j⟩:=RelO.some_of (v:=z) (o:=(atKey xs k).map (·.2)) (by rw[←d];exact r.val k);obtain⟨p,i,c⟩:=Option.map_eq_some_iff.mp l;refine uV (x:=w') dd.typeIs PySem.F.slot_dict_getitem.lookup ?_ n;refine wpAny_getItem_heap (knd:=kZ X.prog X.w) (show X.A.units+1+8<cLine by omega) (gS I tk o) dd i ⟨c,z,H,I.tok _,?_,q⟩;rw[c];exact j
theorem Rh(j:X.A.units+64<cLine):OpR X (compareOp .In) (rInT X.K false):=by
 intro i s l H x y v u Q I c d h;obtain⟨a,kvs,b,k,rfl,rfl,g,tk,f,q⟩:=h;cases c;cases d;obtain⟨xs,e,r,dd⟩:=gG I g;refine wpAny_in_heap (knd:=kZ X.prog X.w) (show X.A.units+1+8<cLine by omega) (gS I tk f) g.sys dd ?_;have e:=Cs (r.val k);rw[qZ]at e;rw[←e];exact⟨.bl _,H,I.tok _,rfl,q⟩
theorem aI(j:X.A.units+64<cLine):OpR X (compareOp .NotIn) (rInT X.K true):=by
 intro i s l H x y v u Q I c d h;obtain⟨a,kvs,b,k,rfl,rfl,g,tk,f,q⟩:=h;cases c;cases d;obtain⟨xs,e,r,dd⟩:=gG I g;refine wpAny_notIn_heap (knd:=kZ X.prog X.w) (show X.A.units+1+8<cLine by omega) (gS I tk f) g.sys dd ?_;have e:=Cs (r.val k);rw[qZ]at e;rw[←e];exact⟨.bl _,H,I.tok _,rfl,q⟩
theorem Cr(kvs:List (PyData×V))(k:PyData)(v:V):(pT kvs k v).length<=kvs.length+1:=by
 unfold pT;split
 ·rw[yM];omega
 ·rw[yA];exact zE _
theorem aJ{P:Program}{w:World}{H:Hp}{h:Heap}{a:Addr}{xs:List (PyData×Addr×Value)}{o:Obj}{es:Array DictEntry}{ep:Nat}(b:h.get? a=some o)(j:o.ExactDict)(i:o.data=.dict es ep)(f:es.toList=xs.map λx=>⟨iN x.1,.ref x.2.1,x.2.2⟩):mI P w H h a (lD a xs):=
 ⟨⟨o,es,ep,b,j,i,f⟩,⟨o,b⟩,λn m⟨c,g,l,d,e⟩k=>⟨c,g,l,k c d,e⟩⟩
theorem cM(J:X.A.units+64<cLine):PSet X (Ri X.K):=by
 intro K s N H o i v M L u Q I G p m h;obtain⟨a,kvs,b,k,rfl,rfl,g,tk,j,hl,q⟩:=h;cases G;cases p;obtain⟨xs,e,r,dd⟩:=gG I g;have F:xs.length<=sizeLine:=by rw[←Paired.length r];exact g.len
 have D:∀ys,¬ Rd H a (.tup ys):=λys z=>by
  rcases z with z|⟨f,z⟩
  ·rw[e]at z;cases z
  ·rw[e]at z;cases z
 refine wpAny_setItem_heap (knd:=kZ X.prog X.w) (hsz:=F) (show X.A.units+1+8<cLine by omega) (gS I tk j) dd λh' w y=>?_;obtain⟨f,es,ep,l,C,x,n,_,t⟩:=w;refine⟨upd H a (lD a (storedH xs k b u)),I.write (x:=a) (e:=a) (by rw[e];exact True.intro) (.inl rfl) (λc o d z=>(y.2 c d).trans z) ⟨f,l⟩ (aJ l C x n),?_⟩;refine q _ (λc o d z=>by rw[nO d];exact z) (λc d=>nO d) ⟨by have:=Cr kvs k v;omega,g.sys,_,nN,t,(r.put k tk j m).keeps (Hl D)⟩
end
section
variable {X:Cx} {pos:Pos}
theorem aK{a:PN}{b:St}{H:Hp}{s:Shared}(I:Inv X a b H s):sysModules<s.heap.objs.size:=
 Nat.lt_trans ∅ (show mainGlobals<s.heap.objs.size from(I.mod.glob.keeps I.bk).lt)
theorem Hk{P:Program}{w:World}{H:Hp}(h:Heap):mI P w H (h.push {cls:=.type "dict",data:=.dict #[]}) h.objs.size (lD h.objs.size []):=
 aJ (es:=#[]) (ep:=0) (zQ _ rfl) ⟨rfl,rfl,rfl⟩ rfl rfl
theorem Hj{K:Frag}{H:Hp}{p:Addr}(a:(p == sysModules)=false)(e:H p=some (lD p [])):DTr K H p []:=⟨zY _,a,[],e,tD,.nil⟩
def Cq(K:Frag):TE:=λ_ H Q=>∀p,H p=none->DTr K (upd H p (lD p [])) p []->Q (.ref p) (upd H p (lD p []))
theorem Hi:PE X (.Dict [] [] pos) (Cq X.K):=λa s b H Q I h =>
 wpAny_Dict_empty ⟨.ref s.heap.objs.size,_,I.laid (a:=s.heap.objs.size) (o:=lD s.heap.objs.size []) (t':=s.toks) (λ_ _ q=>zC _ q) (zE _) (Hk s.heap),rfl,
  h _ (I.hok.fresh (zE _)) (Hj (oV.mpr (zT (zW (aK I)))) nN)⟩
def Cp(K:Frag)(tk tv:TE):TE:=λσ H Q=>∀p,H p=none->tk σ (upd H p (lD p [])) λx H1=>tv σ H1 λy H2=>∃b d,x=.ref b/\tT 4 d=true/\Dt K H2 (.ref b) d/\H2 p=some (lD p [])/\∀H3,(∀c,c≠p->H3 c=H2 c)->DTr K H3 p [(d,y)]->Q (.ref p) H3
theorem Hh{k v:Expr}{tk t:TE}(a1:X.A.units+64<cLine)(M:PE X k tk)(K:PE X v t):PE X (.Dict [some k] [v] pos) (Cp X.K tk t):=by
 intro l s w H Q I q;have Z:=I.hok.fresh (zE s.heap.objs.size);have n:(s.heap.objs.size == sysModules)=false:=oV.mpr (zT (zW (aK I)));have W:=I.laid (a:=s.heap.objs.size) (o:=lD s.heap.objs.size []) (h':=s.heap.push {cls:=.type "dict",data:=.dict #[]}) (t':=s.toks) (λ_ _ q=>zC _ q) (zE _) (Hk s.heap);rw[arm_eval_Dict,zip_pairTrees [some k] [v] X.env pos rfl rfl,dictDisplay_pairs (pairTrees [some k] [v] X.env pos) (by intro e;cases e) (show 1<17 by decide)];refine zA (wF (zA ?_));unfold subDict;refine zA (wpAny_alloc ?_);refine zA (yN ?_);rw[zF (show(pairTrees [some k] [v] X.env pos).length<=15 from(show 1<=15 by decide))];refine zA (pairTrees_cons_walk (thn (M l _ w _ _ W (q _ Z)) λu S⟨x,G,Y,D,R⟩=>thn (K l S w G _ Y R) λP a2⟨y,p,a,U,b,d,a0,g,j,e,L⟩=>pairTrees_nil_walk ?_));subst a0;cases D;refine yN ?_;obtain⟨xs,a3,r,dd⟩:=gG a (Hj n e);cases r;refine zA ?_;rw[uQ];refine zA (zA (wpAny_dictSet_heap (knd:=kZ X.prog X.w) (hsz:=zY _) (show X.A.units+8<cLine by omega) (gS a g j) dd λh' J O=>zB ?_));refine zB (zB (zB (zB ?_)));obtain⟨i,es,ep,m,T,N,C,_,F⟩:=J;have V:∀ys,¬ Rd p s.heap.objs.size (.tup ys):=λys z=>by
  rcases z with z|⟨i,z⟩
  ·rw[e]at z;cases z
  ·rw[e]at z;cases z
 refine⟨.ref s.heap.objs.size,upd p s.heap.objs.size (lD s.heap.objs.size (storedH [] d b P)),a.write (x:=s.heap.objs.size) (e:=s.heap.objs.size) (by rw[e];exact True.intro) (.inl rfl) (λc o f z=>(O.2 c f).trans z) ⟨i,m⟩ (aJ m T N C),rfl,?_⟩;exact L _ (λc f=>nO f) ⟨by show 1<=sizeLine;decide,n,_,nN,F,.cons ⟨rfl,⟨g,jZ (Hl V) 4 g j⟩,U⟩ .nil⟩
def Rg(K:Frag):V->List V->Hp->VK->Prop:=λx vs H Q=>∃a kvs b k,x=.ref a/\vs=[.ref b]/\DTr K H a kvs/\tT 4 k=true/\Dt K H (.ref b) k/\Q ((vT kvs k).getD .non) H
def tBMR(K:Frag)(r:V->List V->Hp->VK->Prop)(to:TE)(ta:TA):TE:=λσ H Q=>to σ H λx H1=>(∃a kvs,x=.ref a/\DTr K H1 a kvs)/\ta σ H1 λvs H2=>r x vs H2 Q
theorem Rf{T:String}{o e:Expr}{es:List Expr}{name:Str}{id:String}{j b:Pos}{k:TE}{i:TA}{r:V->List V->Hp->VK->Prop}(t:PlainAttrs "dict")(n:Slot "dict" name id)(y:typeOf (.builtin id)=pure (.type "method_descriptor"))(N:MtM X id r)(G:PE X o k)(q:PA X (e:: es) i)
  (m:attributeBase o name X.env (eval o X.env)=eval o X.env:=by rfl)
  (w:((backTo b (starEach (e:: es) X.env)).all (λx=>!x.1) && (backToKw b (keywordEach [] X.env)).all (λx=>x.1.isSome)
   && decide ((e:: es).length+([]:List Keyword).length+(if([]:List Keyword).isEmpty then 0 else 1)<30))=true:=by rfl)
  (M:(j.endLine == b.line)=true:=by rfl)(z:starEach (e:: es) X.env=(false,eval e X.env):: starEach es X.env:=by rfl)(L:(backTo b (starEach es X.env)).any (·.1)=false:=by rfl):
  PE X (.Call (.Attribute o name j) (e:: es) [] b) (tBMR X.K r k i):=by
 intro c s d H Q I h;refine wpAny_Call_method_late m w M rfl (thn (G c s d H _ I h) ?_);rintro v F ⟨x,p,l,r1,ty,D⟩;obtain⟨a,kvs,rfl,g⟩:=ty;cases r1;obtain⟨xs,O,r,dd⟩:=gG l g;refine⟨"dict",id,t,n,y,dd.typeIs,dictOfH_noDict dd,?_⟩;have f:=q b c F d p _ l D;rw[z]at f ⊢;refine sZ (by show(false || (backTo b (starEach es X.env)).any (·.1))=false;rw[L] <;> rfl) (vY ?_);exact thn f λus C⟨vs,K,J,r2,u⟩=>N c C d K (.ref a) vs _ us Q J rfl r2 u
theorem Re{o:Option V}{u:Option Value}{d:V}{r:Value}(h:RelO o u)(a:RelV d r):RelV (o.getD d) (u.getD r):=by
 cases o <;> cases u <;> first|exact a|exact h.elim|exact h
theorem Rc(l:X.A.units+64<cLine):MtM X "dict.get" (Rg X.K):=by
 intro j s m H x vs v us Q I d c h;obtain⟨a,kvs,b,k,rfl,rfl,g,tk,i,q⟩:=h;cases d;obtain⟨u,rfl,f⟩:=c.one;cases f;obtain⟨xs,e,r,dd⟩:=gG I g;refine call_meetsIn PySem.F.slot_dict_get dd.typeIs PySem.F.entry_dict_get (PySem.F.args_dict_get_2 _ _) (meetsH_dict_get (kZ X.prog X.w) a b g.sys) ⟨show X.A.units+1+8<cLine by omega,k,xs,gS I tk i,dd,⟨_,H,I.tok _,?_,q⟩⟩;exact Re (r.val k) rfl
end
def jQ:Bool->Keyed->Array Keyed->Nat->Nat->Nat->StateT SortSt Sem (Option Nat):=sortPriv%PySem.Builtin.gallop
def fO(left:Bool)(key:Keyed)(arr:Array Keyed)(base i:Nat):StateT SortSt Sem (Option Bool):=do
 let x ←elem' arr (base+i)
 if left then lt' x key else return (←lt' key x).map (!·)
theorem Rb(left:Bool)(c:Keyed)(arr:Array Keyed)(base n a:Nat):jQ left c arr base n a=(do
 let mut lastofs:=0
 let mut ofs:=1
 let mut lo:=0
 let mut hi:=0
 let some right ←fO left c arr base a|return none
 if right then
  let b:=n-a
  for _ in[0:n] do
   if ofs≥b then break
   let some more ←fO left c arr base (a+ofs)|return none
   if !more then break
   lastofs:=ofs
   ofs:=2*ofs+1
  lo:=a+lastofs+1
  hi:=a+min ofs b
 else
  let b:=a+1
  for _ in[0:n] do
   if ofs≥b then break
   let some found ←fO left c arr base (a-ofs)|return none
   if found then break
   lastofs:=ofs
   ofs:=2*ofs+1
  lo:=a+1-min ofs b
  hi:=a-lastofs
 for _ in[0:n] do
  if lo≥hi then break
  let m:=lo+(hi-lo)/2
  let some more ←fO left c arr base m|return none
  if more then lo:=m+1 else hi:=m
 return some hi):=rfl
section
variable {prog:Program} {w:World} {A:Around} {E:VP} {s:Shared} {κ:PyProof.Rows.KeyKind} {kd:SortKind}
def Cmp(prog:Program)(w:World)(A:Around)(s:Shared)(κ:PyProof.Rows.KeyKind)(kd:SortKind):Prop:=
 ∀(E:VP)(x y:Value)(a b:κ.α)(Q:Bool->Shared->Prop),κ.keyOf x=some a->κ.keyOf y=some b->Q (κ.blt a b) s->wpAny (model prog w) A (keyLt' kd x y) Q E s
def ky(κ:PyProof.Rows.KeyKind)(p:Keyed):κ.α:=(κ.keyOf p.1).getD κ.dflt
def Gd(κ:PyProof.Rows.KeyKind)(p:Keyed):Prop:=∃a,κ.keyOf p.1=some a
def lq(κ:PyProof.Rows.KeyKind)(p q:Keyed):Bool:=κ.blt (ky κ p) (ky κ q)
theorem Hg{p:Keyed}(h:Gd κ p):κ.keyOf p.1=some (ky κ p):=by
 obtain⟨a,e⟩:=h;unfold ky;rw[e];rfl
theorem cN(a:Cmp prog w A s κ kd){st:SortSt}{x y:Keyed}{Q:Option Bool->SortSt->Prop}(b:kindOf st=kd)(c:Gd κ x)(d:Gd κ y)(h:Q (some (lq κ x y)) st):wpS (model prog w) A E s (lt' x y) Q st:=by
 rw[lt'_eq];refine zG (tH ?_);rw[b];refine zG (qE (vF (a _ x.1 y.1 _ _ _ (Hg c) (Hg d) ⟨rfl,?_⟩)));exact zI h
theorem kF{st:SortSt}{arr:Array Keyed}{i:Nat}{p:Keyed}{Q:Keyed->SortSt->Prop}(hi:arr[i]?=some p)(h:Q p st):wpS (model prog w) A E s (elem' arr i) Q st:=by
 rw[elem'_eq,hi];exact zI h
def bey(κ:PyProof.Rows.KeyKind)(left:Bool)(key p:Keyed):Bool:=if left=true then lq κ p key else !lq κ key p
theorem Ra(c:Cmp prog w A s κ kd){st:SortSt}{left:Bool}{a p:Keyed}{arr:Array Keyed}{base i:Nat}{Q:Option Bool->SortSt->Prop}(d:kindOf st=kd)(e:Gd κ a)(f:arr[base+i]?=some p)(b:Gd κ p)(h:Q (some (bey κ left a p)) st):
  wpS (model prog w) A E s (fO left a arr base i) Q st:=by
 unfold fO;refine zG (kF f ?_);unfold bey at h;cases left with
 |true =>
  rw[zF rfl]at h ⊢;exact cN c d b e h
 |false =>
  rw[zD (by simp)]at h ⊢;exact zG (cN c d e b (zI h))
theorem Hf{st:SortSt}{n lo hi:Nat}{B:Nat->Bool}{f:Nat->StateT SortSt Sem (Option Bool)}{Q:Option Nat->SortSt->Prop}
  (t:∀(i:Nat)(R:Option Bool->SortSt->Prop),i<n->R (some (B i)) st->wpS (model prog w) A E s (f i) R st)(g:lo<=hi)(q:hi<=n)(mono:∀i j,i<=j->j<n->B j=true->B i=true)(p:∀i,i<lo->B i=true)(r:∀i,hi<=i->i<n->B i=false)
  (h:∀k,k<=n->(∀i,i<k->B i=true)->(∀i,k<=i->i<n->B i=false)->Q (some k) st):
  wpS (model prog w) A E s (do
   let mut lo:=lo
   let mut hi:=hi
   for _ in[0:n] do
    if lo≥hi then break
    let m:=lo+(hi-lo)/2
    let some more ←f m|return none
    if more then lo:=m+1 else hi:=m
   return some hi) Q st:=by
 refine zG (wN (xH (I:=λx c e=>e=st/\∃lo hi,c=(none,lo,hi)/\lo<=hi/\hi<=n/\hi-lo+x<=n/\(∀i,i<lo->B i=true)/\∀i,hi<=i->i<n->B i=false)
  (Q:=λc e=>e=st/\∃k,c=(none,k,k)/\k<=n/\(∀i,i<k->B i=true)/\∀i,k<=i->i<n->B i=false) ?_ ?_ ⟨rfl,lo,hi,rfl,g,q,⋯,p,r⟩) ?_)
 ·rintro x c e _ v ⟨rfl,lo,hi,rfl,u,b,o,a,d⟩;dsimp only
  by_cases hl:lo≥hi
  ·rw[zF hl];exact zI ⟨rfl,hi,by rw[show lo=hi by omega],b,λi hi'=>a i ⋯,d⟩
  ·rw[zD hl];refine zG (t _ _ ⋯ ?_);dsimp only;cases hb:B (lo+(hi-lo)/2) with
   |true =>
    rw[zF rfl];refine zI ⟨rfl,_,_,rfl,⋯,b,⋯,λi hi'=>?_,d⟩;exact mono i _ ⋯ ⋯ hb
   |false =>
    rw[zD (by simp)];refine zI ⟨rfl,_,_,rfl,⋯,⋯,⋯,a,λi hi' l=>?_⟩;cases hbi:B i with
    |false=>rfl
    |true=>rw[mono _ i hi' l hbi]at hb;cases hb
 ·rintro c e ⟨rfl,lo,hi,rfl,u,b,o,a,d⟩;have:lo=hi:=⋯
  subst this;exact⟨rfl,lo,rfl,b,a,d⟩
 ·rintro c e ⟨rfl,k,rfl,b,a,d⟩;exact zI (h k b a d)
theorem cO(y:Cmp prog w A s κ kd){st:SortSt}{left:Bool}{o:Keyed}{arr:Array Keyed}{base n b:Nat}{B:Nat->Bool}{Q:Option Nat->SortSt->Prop}(F:kindOf st=kd)(C:Gd κ o)(v:b<n)
  (z:∀i,i<n->∃p,arr[base+i]?=some p/\Gd κ p/\bey κ left o p=B i)(mono:∀i j,i<=j->j<n->B j=true->B i=true)
  (h:∀k,k<=n->(∀i,i<k->B i=true)->(∀i,k<=i->i<n->B i=false)->Q (some k) st):wpS (model prog w) A E s (jQ left o arr base n b) Q st:=by
 have m:∀(i:Nat)(R:Option Bool->SortSt->Prop),i<n->R (some (B i)) st->wpS (model prog w) A E s (fO left o arr base i) R st:=λi R hi r=>by
  obtain⟨p,e1,I,D⟩:=z i hi;exact Ra y F C e1 I (by rw[D];exact r)
 rw[Rb];refine zG (m b _ v ?_);dsimp only;cases hh:B b with
 | true =>
  rw[zF rfl];refine zG (wN (xH (I:=λx c e=>e=st/\∃lo a,c=(none,lo,a)/\x+1<=a/\lo<a/\b+lo<n/\B (b+lo)=true)
   (Q:=λc e=>e=st/\∃lo a,c=(none,lo,a)/\lo<a/\b+lo<n/\B (b+lo)=true/\(n-b<=a\/(b+a<n/\B (b+a)=false))) ?_ ?_ ⟨rfl,0,1,rfl,zE _,⋯,v,hh⟩) ?_)
  ·rintro x c e _ G ⟨rfl,lo,a,rfl,u,g,f,d⟩;dsimp only
   by_cases hl:a≥n-b
   ·rw[zF hl];exact zI ⟨rfl,lo,a,rfl,g,f,d,.inl hl⟩
   ·rw[zD hl];refine zG (m _ _ ⋯ ?_);dsimp only;cases hb:B (b+a) with
    |true =>
     rw[zD (by simp)];exact zI ⟨rfl,_,_,rfl,⋯,⋯,⋯,hb⟩
    |false =>
     rw[zF ∅];exact zI ⟨rfl,lo,a,rfl,g,f,d,.inr ⟨⋯,hb⟩⟩
  ·rintro c e ⟨rfl,lo,a,rfl,u,g,f,d⟩;exact⟨rfl,lo,a,rfl,g,f,d,.inl ⋯⟩
  ·rintro c e ⟨rfl,lo,a,rfl,g,f,d,l⟩;dsimp only;refine Hf (lo:=b+lo+1) (hi:=b+min a (n-b)) m ⋯ ⋯ mono (λi hi=>mono i _ ⋯ f d) (λi hi t=>?_) h;rcases l with l|⟨l,q⟩
   ·omega
   ·cases hbi:B i with
    |false=>rfl
    |true=>rw[mono _ i ⋯ t hbi]at q;cases q
 | false =>
  rw[zD (by simp)];refine zG (wN (xH (I:=λx c e=>e=st/\∃lo a,c=(none,lo,a)/\x+1<=a/\lo<a/\lo<=b/\B (b-lo)=false)
   (Q:=λc e=>e=st/\∃lo a,c=(none,lo,a)/\lo<a/\lo<=b/\B (b-lo)=false/\(b+1<=a\/(a<=b/\B (b-a)=true))) ?_ ?_ ⟨rfl,0,1,rfl,zE _,⋯,zY _,hh⟩) ?_)
  ·rintro x c e _ G ⟨rfl,lo,a,rfl,u,g,f,d⟩;dsimp only
   by_cases hl:a≥b+1
   ·rw[zF hl];exact zI ⟨rfl,lo,a,rfl,g,f,d,.inl hl⟩
   ·rw[zD hl];refine zG (m _ _ ⋯ ?_);dsimp only;cases hb:B (b-a) with
    |true =>
     rw[zF rfl];exact zI ⟨rfl,lo,a,rfl,g,f,d,.inr ⟨⋯,hb⟩⟩
    |false =>
     rw[zD (by simp)];exact zI ⟨rfl,_,_,rfl,⋯,⋯,⋯,hb⟩
  ·rintro c e ⟨rfl,lo,a,rfl,u,g,f,d⟩;exact⟨rfl,lo,a,rfl,g,f,d,.inl ⋯⟩
  ·rintro c e ⟨rfl,lo,a,rfl,g,f,d,l⟩;dsimp only;refine Hf (lo:=b+1-min a (b+1)) (hi:=b-lo) m ⋯ ⋯ mono (λi hi=>?_) (λi hi t=>?_) h
   ·rcases l with l|⟨l,q⟩
    ·omega
    ·exact mono i _ ⋯ ⋯ q
   ·cases hbi:B i with
    |false=>rfl
    |true=>rw[mono _ i ⋯ t hbi]at d;cases d
end
section
variable {κ:PyProof.Rows.KeyKind}
def le'(κ:PyProof.Rows.KeyKind)(x y:Keyed):Prop:=lq κ y x=false
theorem kA{x y z:Keyed}(a:le' κ x y)(b:le' κ y z):le' κ x z:=KeyOrd.kle_trans (O:=κ.toKeyOrd) a b
theorem kG{x y:Keyed}(h:lq κ x y=true):le' κ x y:=KeyOrd.klt_asymm (O:=κ.toKeyOrd) h
theorem gH(x:Keyed):le' κ x x:=κ.irrefl _
abbrev Srt(κ:PyProof.Rows.KeyKind)(l:List Keyed):Prop:=l.Pairwise (le' κ)
structure MI(κ:PyProof.Rows.KeyKind)(A B out:List Keyed)(ia ib:Nat):Prop where
 pm:out.Perm (A.take ia++B.take ib)
 so:Srt κ out
 oa:∀x∈out,∀y∈A.drop ia,le' κ x y
 ob:∀x∈out,∀y∈B.drop ib,le' κ x y
theorem MI.symm{A B out:List Keyed}{ia ib:Nat}(h:MI κ A B out ia ib):MI κ B A out ib ia:=⟨h.pm.trans vR,h.so,h.ob,h.oa⟩
theorem Sz{A:List Keyed}{i k:Nat}:A.take (i+k)=A.take i++(A.drop i).take k:=by rw[qP]
theorem MI.ext{A B out:List Keyed}{ia ib k:Nat}(h:MI κ A B out ia ib)(d:Srt κ A)(e:∀x∈(A.drop ia).take k,∀y∈B.drop ib,le' κ x y):MI κ A B (out++(A.drop ia).take k) (ia+k) ib:=by
 have f:Srt κ (A.drop ia):=tJ (sW _ _) d;have cut:(A.drop ia).take k++A.drop (ia+k)=A.drop ia:=by rw[←oK];exact xU _ _
 have c:=oX.mp (show Srt κ ((A.drop ia).take k++A.drop (ia+k)) by rw[cut];exact f);refine⟨?_,oX.mpr ⟨h.so,c.1,λx b y a=>h.oa x b y (List.mem_of_mem_take a)⟩,λx b y a=>?_,λx b y a=>?_⟩
 ·rw[Sz,yK];refine(h.pm.append_right _).trans ?_;rw[yK];exact rL _ vR
 ·rcases oW.mp b with q|q
  ·exact h.oa x q y (by rw[←cut];exact yP _ a)
  ·exact c.2.2 x q y a
 ·rcases oW.mp b with q|q
  ·exact h.ob x q y a
  ·exact e x q y a
theorem aL{A:List Keyed}{i:Nat}{p:Keyed}(e:A[i]?=some p):A.drop i=p:: A.drop (i+1):=by
 obtain⟨h,rfl⟩:=nA.mp e;exact vZ h
theorem MI.push{A B out:List Keyed}{ia ib:Nat}{p:Keyed}(h:MI κ A B out ia ib)(d:Srt κ A)(e:A[ia]?=some p)(f:∀y∈B.drop ib,le' κ p y):MI κ A B (out++[p]) (ia+1) ib:=by
 have:=MI.ext (k:=1) h d (λx a y b=>by
  rw[aL e]at a;have c:x=p:=by simpa using a
  rw[c];exact f y b)
 rw[aL e]at this;simpa using this
theorem eZ{A:List Keyed}{i:Nat}{p q:Keyed}(c:Srt κ A)(e:A[i]?=some q)(h:le' κ p q):∀y∈A.drop i,le' κ p y:=λy a=>by
 have b:Srt κ (A.drop i):=tJ (sW _ _) c;rw[aL e]at a b;rcases xL.mp a with d|a
 ·rw[d];exact h
 ·exact kA h ((List.pairwise_cons.mp b).1 y a)
def Res(κ:PyProof.Rows.KeyKind)(A B r:List Keyed):Prop:=r.Perm (A++B)/\Srt κ r
theorem MI.all{A B out:List Keyed}{ia ib:Nat}(h:MI κ A B out ia ib)(a:Srt κ A)(b:B.length<=ib):Res κ A B (out++A.drop ia):=by
 refine⟨?_,oX.mpr ⟨h.so,tJ (sW _ _) a,h.oa⟩⟩;have:=h.pm;rw[yJ b]at this;refine(this.append_right _).trans ?_;rw[yK];refine(rL _ vR).trans ?_;rw[←yK,xU]
theorem Res.symm{A B r:List Keyed}(h:Res κ A B r):Res κ B A r:=⟨h.1.trans vR,h.2⟩
theorem MI.last{A B out:List Keyed}{ia ib:Nat}{p:Keyed}(h:MI κ A B out ia ib)(c:Srt κ B)(e:A[ia]?=some p)(hl:ia+1=A.length)(d:∀y∈B,le' κ y p):Res κ A B (out++B.drop ib++A.drop ia):=by
 have a:A.drop ia=[p]:=by rw[aL e,rA ⋯]
 rw[a];refine⟨?_,oX.mpr ⟨oX.mpr ⟨h.so,tJ (sW _ _) c,h.ob⟩,sO _ _,λx g y b=>?_⟩⟩
 ·have f:A=A.take ia++[p]:=by rw[←a,xU]
  have:=(h.pm.append_right (B.drop ib)).append_right [p];refine this.trans ?_;rw[yK (A.take ia),xU,yK]
  conv=>rhs;rw[f]
  rw[yK];exact rL _ vR
 ·rw[oN.mp b];rcases oW.mp g with q|q
  ·exact h.oa x q p (by rw[a];exact List.mem_singleton_self _)
  ·exact d x (List.mem_of_mem_drop q)
theorem Co(a:Array Keyed)(i j:Nat):(a.extract i (i+j)).toList=(a.toList.drop i).take j:=by simp[Array.toList_extract,List.extract_eq_take_drop]
theorem dA(a:Array Keyed)(i:Nat):(a.extract i a.size).toList=a.toList.drop i:=by
 simp only[Array.toList_extract,List.extract_eq_take_drop];exact yJ (by rw[tM,zL];exact zE _)
end
section
variable {prog:Program} {w:World} {A:Around} {E:VP} {s:Shared} {κ:PyProof.Rows.KeyKind} {kd:SortKind}
structure MG(κ:PyProof.Rows.KeyKind)(a b:Array Keyed):Prop where
 sa:Srt κ a.toList
 sb:Srt κ b.toList
 ga:∀p∈a.toList,Gd κ p
 gb:∀p∈b.toList,Gd κ p
 na:1<=a.size
 nb:1<=b.size
 top:∀p,a[a.size-1]?=some p->∀y∈b.toList,le' κ y p
 fst:∀p q,b[0]?=some p->a[0]?=some q->le' κ p q
structure Sm(st st':SortSt):Prop where
 k:kindOf st'=kindOf st
 a:arrOf st'=arrOf st
 p:pendingOf st'=pendingOf st
 f:failedOf st'=failedOf st
theorem Sm.refl(st:SortSt):Sm st st:=⟨rfl,rfl,rfl,rfl⟩
theorem Sm.set{st a:SortSt}(h:Sm st a)(g:Nat):Sm st (SortSt.mk' (kindOf a) (arrOf a) (pendingOf a) g (failedOf a)):=⟨h.k,h.a,h.p,h.f⟩
theorem nW{a:Array Keyed}{i:Nat}{p:Keyed}:a[i]?=some p↔a.toList[i]?=some p:=by rw[yI]
theorem lQ{a:Array Keyed}{i:Nat}(h:i<a.size):∃p,a[i]?=some p:=⟨a[i],Array.getElem?_eq_getElem h⟩
theorem kR{st:SortSt}{arr:Array Keyed}{i:Nat}{Q:Keyed->SortSt->Prop}(hi:i<arr.size)(h:∀p,arr[i]?=some p->Q p st):wpS (model prog w) A E s (elem' arr i) Q st:=by
 obtain⟨p,e⟩:=lQ hi;exact kF e (h p e)
theorem gU{l:List Keyed}(c:Srt κ l){i j:Nat}{p q:Keyed}(h:i<=j)(e1:l[i]?=some p)(a:l[j]?=some q):le' κ p q:=by
 rcases uE i j with h'|h'
 ·obtain⟨b,rfl⟩:=nA.mp e1;obtain⟨d,rfl⟩:=nA.mp a;exact oU.mp c i j b d h'
 ·have:i=j:=⋯
  subst this;rw[e1]at a;cases a;exact gH _
theorem Cn{l:List Keyed}{i:Nat}{x:Keyed}(h:x∈l.drop i):∃j,i<=j/\l[j]?=some x:=by
 obtain⟨j,a,rfl⟩:=wP h;exact⟨i+j,⋯,by rw[←vQ];exact xN a⟩
theorem dB{l:List Keyed}{i k:Nat}{x:Keyed}(h:x∈(l.drop i).take k):∃j,j<k/\l[i+j]?=some x:=by
 obtain⟨j,a,rfl⟩:=wP h;rw[yG]at a;refine⟨j,⋯,?_⟩;rw[←vQ,List.getElem_take];exact xN ⋯
theorem Sy(t:Cmp prog w A s κ kd){st:SortSt}{a:Array Keyed}{ia:Nat}{p:Keyed}{Q:Option Nat->SortSt->Prop}(v:kindOf st=kd)(u:Srt κ a.toList)(m:∀x∈a.toList,Gd κ x)(l:Gd κ p)(F:ia<a.size)
  (h:∀k,ia+k<=a.size->(∀x∈(a.toList.drop ia).take k,le' κ x p)->(∀y∈a.toList.drop (ia+k),lq κ p y=true)->Q (some k) st):wpS (model prog w) A E s (jQ false p a ia (a.size-ia) 0) Q st:=by
 refine cO t (B:=λi=>!lq κ p (a.getD (ia+i) p)) v l ⋯ (λi hi=>?_) (λi j D b d=>?_) λk C n z=>h k ⋯ (λx o=>?_) λy g=>?_
 ·obtain⟨q,e⟩:=lQ (a:=a) (i:=ia+i) ⋯;refine⟨q,e,m q (yF (nW.mp e)),?_⟩;rw[show a.getD (ia+i) p=q by simp[Array.getD_eq_getD_getElem?,e]];rfl
 ·obtain⟨q,e⟩:=lQ (a:=a) (i:=ia+i) ⋯;obtain⟨r,c⟩:=lQ (a:=a) (i:=ia+j) ⋯;rw[show a.getD (ia+j) p=r by simp[Array.getD_eq_getD_getElem?,c]]at d;rw[show a.getD (ia+i) p=q by simp[Array.getD_eq_getD_getElem?,e]];have l1:le' κ r p:=by unfold le';simpa using d
  have:=kA (gU u (show ia+i<=ia+j by omega) (nW.mp e) (nW.mp c)) l1;unfold le' at this;rw[this];rfl
 ·obtain⟨j,b,e⟩:=dB o;have:=n j b;rw[show a.getD (ia+j) p=x by simp[Array.getD_eq_getD_getElem?,nW.mpr e]]at this;unfold le';simpa using this
 ·obtain⟨j,b,e⟩:=Cn g;have f:=(nA.mp e).1;rw[zL]at f;have:=z (j-ia) ⋯ ⋯;rw[show ia+(j-ia)=j by omega,show a.getD j p=y by simp[Array.getD_eq_getD_getElem?,nW.mpr e]]at this;simpa using this
theorem aM(t:Cmp prog w A s κ kd){st:SortSt}{b:Array Keyed}{ib c:Nat}{q:Keyed}{n:Nat}{Q:Option Nat->SortSt->Prop}(u:kindOf st=kd)(m:Srt κ b.toList)(f:∀x∈b.toList,Gd κ x)(y:Gd κ q)(C:ib+n<=b.size)(hh:c<n)
  (h:∀k,k<=n->(∀i x,i<k->b[ib+i]?=some x->lq κ x q=true)->(∀i x,k<=i->i<n->b[ib+i]?=some x->le' κ q x)->Q (some k) st):wpS (model prog w) A E s (jQ true q b ib n c) Q st:=by
 refine cO t (B:=λi=>lq κ (b.getD (ib+i) q) q) u y hh (λi hi=>?_) (λi j z D d=>?_) λk g o v=>h k g (λi x hi e=>?_) λi x hi l e=>?_
 ·obtain⟨p,e⟩:=lQ (a:=b) (i:=ib+i) ⋯;refine⟨p,e,f p (yF (nW.mp e)),?_⟩;rw[show b.getD (ib+i) q=p by simp[Array.getD_eq_getD_getElem?,e]];rfl
 ·obtain⟨p,e⟩:=lQ (a:=b) (i:=ib+i) ⋯;obtain⟨r,a⟩:=lQ (a:=b) (i:=ib+j) ⋯;rw[show b.getD (ib+j) q=r by simp[Array.getD_eq_getD_getElem?,a]]at d;rw[show b.getD (ib+i) q=p by simp[Array.getD_eq_getD_getElem?,e]];exact KeyOrd.klt_of_kle_of_klt (O:=κ.toKeyOrd) (gU m (show ib+i<=ib+j by omega) (nW.mp e) (nW.mp a)) d
 ·have:=o i hi;rw[show b.getD (ib+i) q=x by simp[Array.getD_eq_getD_getElem?,e]]at this;exact this
 ·have:=v i hi l;rw[show b.getD (ib+i) q=x by simp[Array.getD_eq_getD_getElem?,e]]at this;exact this
end
def Cm:Array Keyed->Array Keyed->StateT SortSt Sem (Array Keyed):=sortPriv%PySem.Builtin.mergeLo
def cP:Nat->StateT SortSt Sem Unit:=sortPriv%PySem.Builtin.setMinGallop
theorem Sx(a b:Array Keyed):Cm a b=(do
 rule "list.sort.merge-lo"
 let d:=a.size+b.size
 let done (out:Array Keyed) (ia ib:Nat):=out++a.extract ia a.size++b.extract ib b.size
 let c (out:Array Keyed) (ia ib:Nat):=out++b.extract ib b.size++a.extract ia a.size
 let mut out:Array Keyed:=#[←elem' b 0]
 let mut ia:=0
 let mut ib:=1
 if ib == b.size then return done out ia ib
 if ia+1 == a.size then return c out ia ib
 let mut minGallop:=gallopOf (←get)
 for _ in[0:d] do
  let mut acount:=0
  let mut bcount:=0
  for _ in[0:d] do
   let some bWins ←lt' (←elem' b ib) (←elem' a ia)|return done out ia ib
   if bWins then
    out:=out.push (←elem' b ib);ib:=ib+1;bcount:=bcount+1;acount:=0
    if ib == b.size then return done out ia ib
    if bcount≥minGallop then break
   else
    out:=out.push (←elem' a ia);ia:=ia+1;acount:=acount+1;bcount:=0
    if ia+1 == a.size then return c out ia ib
    if acount≥minGallop then break
  rule "list.sort.gallop"
  minGallop:=minGallop+1
  for _ in[0:d] do
   if minGallop > 1 then minGallop:=minGallop-1
   cP minGallop
   let some k ←jQ false (←elem' b ib) a ia (a.size-ia) 0|return done out ia ib
   acount:=k
   if k > 0 then
    out:=out++a.extract ia (ia+k);ia:=ia+k
    if ia+1 == a.size then return c out ia ib
    if ia == a.size then return done out ia ib
   out:=out.push (←elem' b ib);ib:=ib+1
   if ib == b.size then return done out ia ib
   let some k ←jQ true (←elem' a ia) b ib (b.size-ib) 0|return done out ia ib
   bcount:=k
   if k > 0 then
    out:=out++b.extract ib (ib+k);ib:=ib+k
    if ib == b.size then return done out ia ib
   out:=out.push (←elem' a ia);ia:=ia+1
   if ia+1 == a.size then return c out ia ib
   if acount<7 && bcount<7 then break
  minGallop:=minGallop+1
  cP minGallop
 unsupported "internal:list.sort.merge-bound"):=rfl
theorem aN(g:Nat):cP g=modify λs=>SortSt.mk' (kindOf s) (arrOf s) (pendingOf s) g (failedOf s):=rfl
section
variable {prog:Program} {w:World} {A:Around} {E:VP} {s:Shared} {κ:PyProof.Rows.KeyKind} {kd:SortKind}
theorem dC{a b out:Array Keyed}{ia ib:Nat}(d:MG κ a b)(h:MI κ a.toList b.toList out.toList ia ib)(c:b.size<=ib):Res κ a.toList b.toList (out++a.extract ia a.size++b.extract ib b.size).toList:=by
 rw[yL,yL,dA,dA,rA (as:=b.toList) (by rw[zL];exact c),wO];exact h.all d.sa (by rw[zL];exact c)
theorem Sw{a b out:Array Keyed}{ia ib:Nat}(d:MG κ a b)(h:MI κ a.toList b.toList out.toList ia ib)(c:a.size<=ia):Res κ a.toList b.toList (out++a.extract ia a.size++b.extract ib b.size).toList:=by
 rw[yL,yL,dA,dA,rA (as:=a.toList) (by rw[zL];exact c),wO];exact(h.symm.all d.sb (by rw[zL];exact c)).symm
theorem fP{a b out:Array Keyed}{ia ib:Nat}(c:MG κ a b)(h:MI κ a.toList b.toList out.toList ia ib)(d:ia+1=a.size):Res κ a.toList b.toList (out++b.extract ib b.size++a.extract ia a.size).toList:=by
 rw[yL,yL,dA,dA];obtain⟨p,e⟩:=lQ (a:=a) (i:=ia) ⋯;exact h.last c.sb (nW.mp e) (by rw[zL];exact d) (c.top p (by rw[show a.size-1=ia by omega];exact e))
theorem aO{a b out:Array Keyed}{ia ib:Nat}{p:Keyed}(d:MG κ a b)(h:MI κ a.toList b.toList out.toList ia ib)(e:b[ib]?=some p)(c:∀y∈a.toList.drop ia,le' κ p y):MI κ a.toList b.toList (out.push p).toList ia (ib+1):=by
 rw[uZ];exact(h.symm.push d.sb (nW.mp e) c).symm
theorem cQ{a b out:Array Keyed}{ia ib:Nat}{p:Keyed}(d:MG κ a b)(h:MI κ a.toList b.toList out.toList ia ib)(e:a[ia]?=some p)(c:∀y∈b.toList.drop ib,le' κ p y):MI κ a.toList b.toList (out.push p).toList (ia+1) ib:=by
 rw[uZ];exact h.push d.sa (nW.mp e) c
theorem Sv{a b out:Array Keyed}{ia ib k:Nat}{p:Keyed}(c:MG κ a b)(h:MI κ a.toList b.toList out.toList ia ib)(e:b[ib]?=some p)(f:∀x∈(a.toList.drop ia).take k,le' κ x p):MI κ a.toList b.toList (out++a.extract ia (ia+k)).toList (ia+k) ib:=by
 rw[yL,Co];exact h.ext c.sa λx d y g=>kA (f x d) (eZ c.sb (nW.mp e) (gH p) y g)
theorem He{a b out:Array Keyed}{ia ib k:Nat}{p:Keyed}(c:MG κ a b)(h:MI κ a.toList b.toList out.toList ia ib)(e:a[ia]?=some p)(f:∀x∈(b.toList.drop ib).take k,le' κ x p):MI κ a.toList b.toList (out++b.extract ib (ib+k)).toList ia (ib+k):=by
 rw[yL,Co];exact(h.symm.ext c.sb λx d y g=>kA (f x d) (eZ c.sa (nW.mp e) (gH p) y g)).symm
theorem Cl{a out:Array Keyed}{i:Nat}:out++a.extract i (i+0)=out:=by simp;omega
theorem mC{a:Type}{c:Prop}[Decidable c]{b e:StateT SortSt Sem a}{Q:a->SortSt->Prop}{st:SortSt}(d:c->wpS (model prog w) A E s b Q st)(f:¬ c->wpS (model prog w) A E s e Q st):wpS (model prog w) A E s (if c then b else e) Q st:=by
 by_cases h:c
 ·rw[zF h];exact d h
 ·rw[zD h];exact f h
theorem Hd{a:Type}{c:Nat->Prop}[∀m,Decidable (c m)]{b F:Nat->StateT SortSt Sem a}{Q:a->SortSt->Prop}{st:SortSt}(h:∀m,wpS (model prog w) A E s (F m) Q st)(e:∀m,F (m-1)=b m)(m:Nat):wpS (model prog w) A E s (if c m then b m else F m) Q st:=mC (λ_=>by rw[←e];exact h _) λ_=>h m
theorem Su(N:Cmp prog w A s κ kd){st:SortSt}{a b:Array Keyed}{Q:Array Keyed->SortSt->Prop}(R:kindOf st=kd)(d:MG κ a b)
  (h:∀r n,Sm st n->Res κ a.toList b.toList r.toList->Q r n):wpS (model prog w) A E s (Cm a b) Q st:=by
 have b6:=d.na;have c2:=d.nb;have U:∀i p,a[i]?=some p->Gd κ p:=λi p e=>d.ga p (yF (nW.mp e));have a3:∀i p,b[i]?=some p->Gd κ p:=λi p e=>d.gb p (yF (nW.mp e));rw[Sx];refine zG (qE (wG ⟨rfl,?_⟩));refine zG (kR ⋯ λa7 a6=>?_);dsimp only;obtain⟨b1,a4⟩:=lQ (a:=a) (i:=0) ⋯;have W:MI κ a.toList b.toList (#[a7]:Array Keyed).toList 0 1:=by
  have:=aO (out:=#[]) (ia:=0) (ib:=0) d ⟨by simp,List.Pairwise.nil,λx I=>by simp at I,λx I=>by simp at I⟩ a6 (eZ d.sa (nW.mp a4) (d.fst a7 b1 a6 a4));simpa using this
 by_cases O:(1 == b.size)=true
 ·rw[zF O];exact zI (h _ _ (Sm.refl _) (dC d W (by have:=yO O;omega)))
 rw[zD O];have b8:1≠b.size:=λe=>O (oS.mpr e)
 by_cases P:(0+1 == a.size)=true
 ·rw[zF P];exact zI (h _ _ (Sm.refl _) (fP d W (by have:=yO P;omega)))
 rw[zD P];have c1:0+1≠a.size:=λe=>P (oS.mpr e);refine zG (tH ?_);refine zG (wN (xH (I:=λx c n=>Sm st n/\E4 λ(out:Array Keyed)(ia ib u:Nat)=>A5 (c=(none,out,ia,ib,u)) (MI κ a.toList b.toList out.toList ia ib) (ia+1<a.size) (ib<b.size) (x+1<=ia+ib))
  (Q:=λc n=>Sm st n/\∃r G,c=(some r,G)/\Res κ a.toList b.toList r.toList) ?_ ?_ ⟨Sm.refl _,_,_,_,_,rfl,W,⋯,⋯,⋯⟩) ?_)
 ·rintro x c V _ I ⟨sm,out,ia,ib,u,rfl,l,lia,g,pr⟩;dsimp only;refine zG (wN (xH (I:=λy c n=>Sm st n/\E5 λ(out:Array Keyed)(ia ib t o:Nat)=>A6 (c=(none,out,ia,ib,t,o)) (MI κ a.toList b.toList out.toList ia ib) (ia+1<a.size) (ib<b.size) (x+1<=ia+ib) (1<=y->x+2<=ia+ib))
   (Q:=λc n=>Sm st n/\((∃r G,c=(some r,G)/\Res κ a.toList b.toList r.toList)\/E5 λ(out:Array Keyed)(ia ib t o:Nat)=>A5 (c=(none,out,ia,ib,t,o)) (MI κ a.toList b.toList out.toList ia ib) (ia+1<a.size) (ib<b.size) (x+2<=ia+ib))) ?_ ?_ ⟨sm,out,ia,ib,0,0,rfl,l,lia,g,pr,⋯⟩) ?_)
  ·rintro y c a2 _ C ⟨sm,out,ia,ib,t,o,rfl,l,lia,g,pr,_⟩;dsimp only;refine zG (kR g λp e=>?_);refine zG (kR (show ia<a.size by omega) λq f=>?_);refine zG (cN N (by rw[sm.k];exact R) (a3 _ _ e) (U _ _ f) ?_);dsimp only;cases hl:lq κ p q with
   |true =>
    rw[zF rfl];have J:=aO d l e (eZ d.sa (nW.mp f) (kG hl));refine zG (kF e ?_)
    by_cases F:(ib+1 == b.size)=true
    ·rw[zF F];exact zI ⟨sm,.inl ⟨_,_,rfl,dC d J (by have:=yO F;omega)⟩⟩
    rw[zD F];have b3:ib+1≠b.size:=λe=>F (oS.mpr e);split
    ·exact zI ⟨sm,.inr ⟨_,_,_,_,_,rfl,J,lia,⋯,⋯⟩⟩
    ·exact zI ⟨sm,_,_,_,_,_,rfl,J,lia,⋯,⋯,⋯⟩
   |false =>
    rw[zD (by simp)];have J:=cQ d l f (eZ d.sb (nW.mp e) hl);refine zG (kF f ?_)
    by_cases F:(ia+1+1 == a.size)=true
    ·rw[zF F];exact zI ⟨sm,.inl ⟨_,_,rfl,fP d J (by have:=yO F;omega)⟩⟩
    rw[zD F];have b3:ia+1+1≠a.size:=λe=>F (oS.mpr e);split
    ·exact zI ⟨sm,.inr ⟨_,_,_,_,_,rfl,J,⋯,g,⋯⟩⟩
    ·exact zI ⟨sm,_,_,_,_,_,rfl,J,⋯,g,⋯,⋯⟩
  ·rintro c a2 ⟨sm,out,ia,ib,t,o,rfl,l,lia,g,pr,a8⟩;exact⟨sm,.inr ⟨_,_,_,_,_,rfl,l,lia,g,a8 ⋯⟩⟩
  ·rintro c a2 ⟨sm,⟨r,G,rfl,L⟩|⟨out,ia,ib,t,o,rfl,l,lia,g,pr⟩⟩
   ·exact zI ⟨sm,_,_,rfl,L⟩
   dsimp only;refine zG (qE (wG ⟨rfl,?_⟩));refine zG (wN (xH (I:=λy c n=>Sm st n/\E6 λ(out:Array Keyed)(ia ib u t o:Nat)=>A5 (c=(none,out,ia,ib,u,t,o)) (MI κ a.toList b.toList out.toList ia ib) (ia+1<a.size) (ib<b.size) (x+2<=ia+ib))
    (Q:=λc n=>Sm st n/\((∃r G,c=(some r,G)/\Res κ a.toList b.toList r.toList)\/E6 λ(out:Array Keyed)(ia ib u t o:Nat)=>A5 (c=(none,out,ia,ib,u,t,o)) (MI κ a.toList b.toList out.toList ia ib) (ia+1<a.size) (ib<b.size) (x+2<=ia+ib))) ?_ ?_ ⟨sm,_,_,_,_,_,_,rfl,l,lia,g,pr⟩) ?_)
   ·rintro y c a5 _ C ⟨sm,out,ia,ib,u,t,o,rfl,l,lia,g,pr⟩;dsimp only
    revert u
    refine Hd (λu=>?_) λ_=>rfl;rw[aN];refine zG (wT ?_);refine zG (kR (arr:=b) g λp e=>?_);refine zG (Sy N (show kindOf _=kd from sm.k.trans R) d.sa d.ga (a3 _ _ e) (show ia<a.size by omega) λk c0 b5 a1=>?_);have mk:=Sv d l e b5;dsimp only;refine mC (λa9=>?_) λa9=>?_
    ·refine mC (λz=>?_) λz=>?_
     ·exact zI ⟨sm.set _,.inl ⟨_,_,rfl,fP d mk (yO z)⟩⟩
     have b7:ia+k+1≠a.size:=λe=>z (oS.mpr e);refine mC (λy=>?_) λy=>?_
     ·exact zI ⟨sm.set _,.inl ⟨_,_,rfl,Sw d mk (by have:=yO y;omega)⟩⟩
     have b9:ia+k≠a.size:=λe=>y (oS.mpr e);have K:=aO d mk e λy C=>kG (a1 y C);refine zG (kF e ?_);refine mC (λz=>?_) λz=>?_
     ·exact zI ⟨sm.set _,.inl ⟨_,_,rfl,dC d K (by have:=yO z;omega)⟩⟩
     have b4:ib+1≠b.size:=λe=>z (oS.mpr e);refine zG (kR (arr:=a) (i:=(ia+k)) ⋯ λq f=>?_);refine zG (aM N (show kindOf _=kd from sm.k.trans R) d.sb d.gb (U _ _ f) (show ib+1+(b.size-(ib+1))<=b.size by omega) ⋯ λk2 b2 Z T=>?_);have v:=He (k:=k2) d K f λx I=>by
      obtain⟨j,M,D⟩:=dB I;exact kG (Z j x M (nW.mpr D))
     have nx:∀y∈b.toList.drop (ib+1+k2),le' κ q y:=λy C=>by
      obtain⟨j,M,D⟩:=Cn C;have X:=(nA.mp D).1;rw[zL]at X;exact T (j-(ib+1)) y ⋯ ⋯ (by rw[show ib+1+(j-(ib+1))=j by omega];exact nW.mpr D)
     dsimp only;refine mC (λS=>?_) λS=>?_
     ·refine mC (λz=>?_) λz=>?_
      ·exact zI ⟨sm.set _,.inl ⟨_,_,rfl,dC d v (by have:=yO z;omega)⟩⟩
      have b0:ib+1+k2≠b.size:=λe=>z (oS.mpr e);have m:=cQ d v f nx;refine zG (kF f ?_);refine mC (λz=>?_) λz=>?_
      ·exact zI ⟨sm.set _,.inl ⟨_,_,rfl,fP d m (yO z)⟩⟩
      have a0:(ia+k)+1+1≠a.size:=λe=>z (oS.mpr e);refine mC (λ_=>?_) λ_=>?_
      ·exact zI ⟨sm.set _,.inr ⟨_,_,_,_,_,_,rfl,m,⋯,⋯,⋯⟩⟩
      ·exact zI ⟨sm.set _,_,_,_,_,_,_,rfl,m,⋯,⋯,⋯⟩
     ·have Y:k2=0:=⋯
      subst Y;rw[Cl]at v;simp only[Nat.add_zero]at v nx;have m:=cQ d v f nx;refine zG (kF f ?_);refine mC (λz=>?_) λz=>?_
      ·exact zI ⟨sm.set _,.inl ⟨_,_,rfl,fP d m (yO z)⟩⟩
      have a0:(ia+k)+1+1≠a.size:=λe=>z (oS.mpr e);refine mC (λ_=>?_) λ_=>?_
      ·exact zI ⟨sm.set _,.inr ⟨_,_,_,_,_,_,rfl,m,⋯,⋯,⋯⟩⟩
      ·exact zI ⟨sm.set _,_,_,_,_,_,_,rfl,m,⋯,⋯,⋯⟩
    ·have k0:k=0:=⋯
     subst k0;rw[Cl]at mk;simp only[Nat.add_zero]at mk a1;have K:=aO d mk e λy C=>kG (a1 y C);refine zG (kF e ?_);refine mC (λz=>?_) λz=>?_
     ·exact zI ⟨sm.set _,.inl ⟨_,_,rfl,dC d K (by have:=yO z;omega)⟩⟩
     have b4:ib+1≠b.size:=λe=>z (oS.mpr e);refine zG (kR (arr:=a) (i:=ia) ⋯ λq f=>?_);refine zG (aM N (show kindOf _=kd from sm.k.trans R) d.sb d.gb (U _ _ f) (show ib+1+(b.size-(ib+1))<=b.size by omega) ⋯ λk2 b2 Z T=>?_);have v:=He (k:=k2) d K f λx I=>by
      obtain⟨j,M,D⟩:=dB I;exact kG (Z j x M (nW.mpr D))
     have nx:∀y∈b.toList.drop (ib+1+k2),le' κ q y:=λy C=>by
      obtain⟨j,M,D⟩:=Cn C;have X:=(nA.mp D).1;rw[zL]at X;exact T (j-(ib+1)) y ⋯ ⋯ (by rw[show ib+1+(j-(ib+1))=j by omega];exact nW.mpr D)
     dsimp only;refine mC (λS=>?_) λS=>?_
     ·refine mC (λz=>?_) λz=>?_
      ·exact zI ⟨sm.set _,.inl ⟨_,_,rfl,dC d v (by have:=yO z;omega)⟩⟩
      have b0:ib+1+k2≠b.size:=λe=>z (oS.mpr e);have m:=cQ d v f nx;refine zG (kF f ?_);refine mC (λz=>?_) λz=>?_
      ·exact zI ⟨sm.set _,.inl ⟨_,_,rfl,fP d m (yO z)⟩⟩
      have a0:ia+1+1≠a.size:=λe=>z (oS.mpr e);refine mC (λ_=>?_) λ_=>?_
      ·exact zI ⟨sm.set _,.inr ⟨_,_,_,_,_,_,rfl,m,⋯,⋯,⋯⟩⟩
      ·exact zI ⟨sm.set _,_,_,_,_,_,_,rfl,m,⋯,⋯,⋯⟩
     ·have Y:k2=0:=⋯
      subst Y;rw[Cl]at v;simp only[Nat.add_zero]at v nx;have m:=cQ d v f nx;refine zG (kF f ?_);refine mC (λz=>?_) λz=>?_
      ·exact zI ⟨sm.set _,.inl ⟨_,_,rfl,fP d m (yO z)⟩⟩
      have a0:ia+1+1≠a.size:=λe=>z (oS.mpr e);refine mC (λ_=>?_) λ_=>?_
      ·exact zI ⟨sm.set _,.inr ⟨_,_,_,_,_,_,rfl,m,⋯,⋯,⋯⟩⟩
      ·exact zI ⟨sm.set _,_,_,_,_,_,_,rfl,m,⋯,⋯,⋯⟩
   ·rintro c a5 ⟨sm,out,ia,ib,u,t,o,rfl,l,lia,g,pr⟩;exact⟨sm,.inr ⟨_,_,_,_,_,_,rfl,l,lia,g,pr⟩⟩
   ·rintro c a5 ⟨sm,⟨r,G,rfl,L⟩|⟨out,ia,ib,u,t,o,rfl,l,lia,g,pr⟩⟩
    ·exact zI ⟨sm,_,_,rfl,L⟩
    dsimp only;rw[aN];refine zG (wT (zI ⟨sm.set _,_,_,_,_,rfl,l,lia,g,⋯⟩))
 ·rintro c V ⟨sm,out,ia,ib,u,rfl,l,lia,g,pr⟩;omega
 ·rintro c V ⟨sm,r,G,rfl,L⟩;exact zI (h r V sm L)
end
def Ck:Array Keyed->Array Keyed->StateT SortSt Sem (Array Keyed):=sortPriv%PySem.Builtin.mergeHi
theorem Ss(a b:Array Keyed):Ck a b=(do
 rule "list.sort.merge-hi"
 let d:=a.size+b.size
 let done (out:Array Keyed) (na nb:Nat):=a.extract 0 na++b.extract 0 nb++out.reverse
 let c (out:Array Keyed) (na nb:Nat):=b.extract 0 nb++a.extract 0 na++out.reverse
 let mut na:=a.size-1
 let mut nb:=b.size
 let mut out:Array Keyed:=#[←elem' a na]
 if na == 0 then return done out na nb
 if nb == 1 then return c out na nb
 let mut minGallop:=gallopOf (←get)
 for _ in[0:d] do
  let mut acount:=0
  let mut bcount:=0
  for _ in[0:d] do
   let some aWins ←lt' (←elem' b (nb-1)) (←elem' a (na-1))|return done out na nb
   if aWins then
    na:=na-1;out:=out.push (←elem' a na);acount:=acount+1;bcount:=0
    if na == 0 then return done out na nb
    if acount≥minGallop then break
   else
    nb:=nb-1;out:=out.push (←elem' b nb);bcount:=bcount+1;acount:=0
    if nb == 1 then return c out na nb
    if bcount≥minGallop then break
  rule "list.sort.gallop"
  minGallop:=minGallop+1
  for _ in[0:d] do
   if minGallop > 1 then minGallop:=minGallop-1
   cP minGallop
   let some at_ ←jQ false (←elem' b (nb-1)) a 0 na (na-1)|return done out na nb
   let k:=na-at_
   acount:=k
   if k > 0 then
    out:=out++(a.extract at_ na).reverse;na:=at_
    if na == 0 then return done out na nb
   nb:=nb-1;out:=out.push (←elem' b nb)
   if nb == 1 then return c out na nb
   let some at_ ←jQ true (←elem' a (na-1)) b 0 nb (nb-1)|return done out na nb
   let k:=nb-at_
   bcount:=k
   if k > 0 then
    out:=out++(b.extract at_ nb).reverse;nb:=at_
    if nb == 1 then return c out na nb
    if nb == 0 then return done out na nb
   na:=na-1;out:=out.push (←elem' a na)
   if na == 0 then return done out na nb
   if acount<7 && bcount<7 then break
  minGallop:=minGallop+1
  cP minGallop
 unsupported "internal:list.sort.merge-bound"):=rfl
def revK(κ:PyProof.Rows.KeyKind):PyProof.Rows.KeyKind where
 α:=κ.α
 blt:=λa b=>κ.blt b a
 irrefl:=κ.irrefl
 trans:=λa b c h1 h2=>κ.trans c b a h2 h1
 negTrans:=λa b c h=>(κ.negTrans c b a h).symm
 total:=λa b h1 h2=>κ.total a b h2 h1
 keyOf:=κ.keyOf
 dflt:=κ.dflt
section
variable {prog:Program} {w:World} {A:Around} {E:VP} {s:Shared} {κ:PyProof.Rows.KeyKind} {kd:SortKind}
theorem Hc{x y:Keyed}:le' (revK κ) x y↔le' κ y x:=Iff.rfl
theorem fQ{l:List Keyed}(h:Srt κ l):Srt (revK κ) l.reverse:=List.pairwise_reverse.mpr h
theorem Sr{l:List Keyed}(h:Srt (revK κ) l):Srt κ l.reverse:=List.pairwise_reverse.mpr h
def MH(κ:PyProof.Rows.KeyKind)(a b out:Array Keyed)(na nb:Nat):Prop:=MI (revK κ) a.toList.reverse b.toList.reverse out.toList (a.size-na) (b.size-nb)
theorem Cj{a:Array Keyed}{n:Nat}{p:Keyed}(h:n<a.size)(e:a[n]?=some p):a.toList.reverse[a.size-(n+1)]?=some p:=by
 rw[rK (by rw[zL];omega),zL,show a.size-1-(a.size-(n+1))=n by omega];exact nW.mp e
theorem dD{a:Array Keyed}{n:Nat}(h:n<=a.size):a.toList.reverse.drop (a.size-n)=(a.toList.take n).reverse:=by
 rw[List.drop_reverse,zL,show a.size-(a.size-n)=n by omega]
theorem aP{a:Array Keyed}{n:Nat}{y:Keyed}(h:n<=a.size)(b:y∈a.toList.reverse.drop (a.size-n)):∃i,i<n/\a[i]?=some y:=by
 rw[dD h]at b;obtain⟨i,hi,e⟩:=wP (List.mem_reverse.mp b);rw[yG]at hi;refine⟨i,⋯,?_⟩;rw[nW,←e,List.getElem_take];exact xN _
theorem Ci{a b r:Array Keyed}{l:List Keyed}(e:r.toList.reverse=l)(h:Res (revK κ) a.toList.reverse b.toList.reverse l):Res κ a.toList b.toList r.toList:=by
 subst e;refine⟨?_,?_⟩
 ·refine(qV r.toList).symm.trans (h.1.trans ?_);exact((qV _).append (qV _))
 ·have:=Sr h.2
  rwa[List.reverse_reverse]at this
theorem dE{a:Array Keyed}{n:Nat}:(a.extract 0 n).toList=a.toList.take n:=by
 have:=Co a 0 n;rw[wS,oG]at this;exact this
theorem fR{a b out:Array Keyed}{c:Nat}(e:MG κ a b)(h:MH κ a b out 0 c)(d:c<=b.size):Res κ a.toList b.toList (a.extract 0 0++b.extract 0 c++out.reverse).toList:=by
 refine Ci (l:=out.toList++b.toList.reverse.drop (b.size-c)) ?_ ((MI.symm h).all (fQ e.sb) (by simp)).symm;rw[yL,yL,dE,dE,dD d,tP];simp
theorem Hb{a b out:Array Keyed}{c:Nat}(e:MG κ a b)(h:MH κ a b out c 0)(d:c<=a.size):Res κ a.toList b.toList (a.extract 0 c++b.extract 0 0++out.reverse).toList:=by
 refine Ci (l:=out.toList++a.toList.reverse.drop (a.size-c)) ?_ (MI.all h (fQ e.sa) (by simp));rw[yL,yL,dE,dE,dD d,tP];simp
theorem dF{a b out:Array Keyed}{d:Nat}(c:MG κ a b)(h:MH κ a b out d 1)(i:d<=a.size):Res κ a.toList b.toList (b.extract 0 1++a.extract 0 d++out.reverse).toList:=by
 have j:=c.nb;obtain⟨p,e⟩:=lQ (a:=b) (i:=0) ⋯;obtain⟨q,f⟩:=lQ (a:=a) (i:=0) (by have:=c.na;omega);refine Ci (l:=out.toList++a.toList.reverse.drop (a.size-d)++b.toList.reverse.drop (b.size-1)) ?_ (Res.symm ((MI.symm h).last (fQ c.sa) (Cj ⋯ e) (by rw[List.length_reverse,zL];omega) λy g=>?_))
 ·rw[yL,yL,dE,dE,dD i,dD j,tP];simp
 ·exact eZ c.sa (nW.mp f) (c.fst p q e f) y (by simpa using List.mem_reverse.mp g)
theorem dG{a b out:Array Keyed}{c d:Nat}{p:Keyed}(j:MG κ a b)(h:MH κ a b out (c+1) d)(l:c<a.size)(m:d<=b.size)(e:a[c]?=some p)(k:∀i y,i<d->b[i]?=some y->le' κ y p):MH κ a b (out.push p) c d:=by
 unfold MH at h ⊢;rw[uZ,show a.size-c=a.size-(c+1)+1 by omega];exact MI.push h (fQ j.sa) (Cj l e) λy g=>by
  obtain⟨i,hi,f⟩:=aP m g;exact k i y hi f
theorem Cg{a b out:Array Keyed}{d c:Nat}{p:Keyed}(j:MG κ a b)(h:MH κ a b out d (c+1))(l:c<b.size)(m:d<=a.size)(e:b[c]?=some p)(k:∀i y,i<d->a[i]?=some y->le' κ y p):MH κ a b (out.push p) d c:=by
 unfold MH at h ⊢;rw[uZ,show b.size-c=b.size-(c+1)+1 by omega];exact(MI.push (MI.symm h) (fQ j.sb) (Cj l e) λy g=>by
  obtain⟨i,hi,f⟩:=aP m g;exact k i y hi f).symm
theorem Ha{a:Array Keyed}{n m:Nat}(h:n<=a.size)(b:m<=n):(a.extract m n).reverse.toList=(a.toList.reverse.drop (a.size-n)).take (n-m):=by
 rw[dD h,tP,List.take_reverse,yG,zL,show min n a.size-(n-m)=m by omega];simp only[Array.toList_extract,List.extract_eq_take_drop];rw[List.drop_take]
theorem So{a b out:Array Keyed}{c d m:Nat}{p:Keyed}(f:MG κ a b)(h:MH κ a b out c d)(q:c<=a.size)(t:m<=c)(r:d<=b.size)(u:0<d)(e:b[d-1]?=some p)(n:∀i x,m<=i->i<c->a[i]?=some x->le' κ p x):MH κ a b (out++(a.extract m c).reverse) m d:=by
 unfold MH at h ⊢;rw[yL,Ha q t,show a.size-m=a.size-c+(c-m) by omega];refine MI.ext h (fQ f.sa) λx o y k=>?_;obtain⟨i,hi,l⟩:=aP r k;obtain⟨j,v,g⟩:=dB o;rw[rK (by rw[zL];omega),zL]at g;have l1:le' κ y p:=gU f.sb (show i<=d-1 by omega) (nW.mp l) (nW.mp e);exact Hc.mpr (kA l1 (n _ x ⋯ ⋯ (nW.mpr g)))
theorem Iz{a b out:Array Keyed}{d c m:Nat}{p:Keyed}(f:MG κ a b)(h:MH κ a b out d c)(q:c<=b.size)(t:m<=c)(r:d<=a.size)(u:0<d)(e:a[d-1]?=some p)(n:∀i x,m<=i->i<c->b[i]?=some x->le' κ p x):MH κ a b (out++(b.extract m c).reverse) d m:=by
 unfold MH at h ⊢;rw[yL,Ha q t,show b.size-m=b.size-c+(c-m) by omega];refine(MI.ext (MI.symm h) (fQ f.sb) λx o y k=>?_).symm;obtain⟨i,hi,l⟩:=aP r k;obtain⟨j,v,g⟩:=dB o;rw[rK (by rw[zL];omega),zL]at g;have l1:le' κ y p:=gU f.sa (show i<=d-1 by omega) (nW.mp l) (nW.mp e);exact Hc.mpr (kA l1 (n _ x ⋯ ⋯ (nW.mpr g)))
theorem Sn(t:Cmp prog w A s κ kd){st:SortSt}{b:Array Keyed}{ib c:Nat}{q:Keyed}{n:Nat}{Q:Option Nat->SortSt->Prop}(u:kindOf st=kd)(m:Srt κ b.toList)(f:∀x∈b.toList,Gd κ x)(y:Gd κ q)(C:ib+n<=b.size)(hh:c<n)
  (h:∀k,k<=n->(∀i x,i<k->b[ib+i]?=some x->le' κ x q)->(∀i x,k<=i->i<n->b[ib+i]?=some x->lq κ q x=true)->Q (some k) st):wpS (model prog w) A E s (jQ false q b ib n c) Q st:=by
 refine cO t (B:=λi=>!lq κ q (b.getD (ib+i) q)) u y hh (λi hi=>?_) (λi j z D d=>?_) λk g o v=>h k g (λi x hi e=>?_) λi x hi l e=>?_
 ·obtain⟨p,e⟩:=lQ (a:=b) (i:=ib+i) ⋯;refine⟨p,e,f p (yF (nW.mp e)),?_⟩;rw[show b.getD (ib+i) q=p by simp[Array.getD_eq_getD_getElem?,e]];rfl
 ·obtain⟨p,e⟩:=lQ (a:=b) (i:=ib+i) ⋯;obtain⟨r,a⟩:=lQ (a:=b) (i:=ib+j) ⋯;rw[show b.getD (ib+j) q=r by simp[Array.getD_eq_getD_getElem?,a]]at d;rw[show b.getD (ib+i) q=p by simp[Array.getD_eq_getD_getElem?,e]];have l1:le' κ r q:=by unfold le';simpa using d
  have:=kA (gU m (show ib+i<=ib+j by omega) (nW.mp e) (nW.mp a)) l1;unfold le' at this;rw[this];rfl
 ·have:=o i hi;rw[show b.getD (ib+i) q=x by simp[Array.getD_eq_getD_getElem?,e]]at this;unfold le';simpa using this
 ·have:=v i hi l;rw[show b.getD (ib+i) q=x by simp[Array.getD_eq_getD_getElem?,e]]at this;simpa using this
theorem Cf{a out:Array Keyed}{n:Nat}:out++(a.extract n n).reverse=out:=by simp;omega
theorem Sl(W:Cmp prog w A s κ kd){st:SortSt}{a b:Array Keyed}{Q:Array Keyed->SortSt->Prop}(X:kindOf st=kd)(j:MG κ a b)
  (h:∀r C,Sm st C->Res κ a.toList b.toList r.toList->Q r C):wpS (model prog w) A E s (Ck a b) Q st:=by
 have c3:=j.na;have c5:=j.nb;have a0:∀i p,a[i]?=some p->Gd κ p:=λi p e=>j.ga p (yF (nW.mp e));have a5:∀i p,b[i]?=some p->Gd κ p:=λi p e=>j.gb p (yF (nW.mp e));rw[Ss];refine zG (qE (wG ⟨rfl,?_⟩));refine zG (kR ⋯ λb0 a7=>?_);dsimp only;have S:MH κ a b #[b0] (a.size-1) b.size:=by
  have b3:MH κ a b #[] (a.size-1+1) b.size:=by
   unfold MH;rw[show a.size-(a.size-1+1)=0 by omega,vN];exact⟨by simp,List.Pairwise.nil,λx Y=>by simp at Y,λx Y=>by simp at Y⟩
  exact dG j b3 ⋯ (zE _) a7 λi y _ o=>j.top b0 a7 y (yF (nW.mp o))
 refine mC (λz=>?_) λz=>?_
 ·have l:=yO z;rw[l]at S ⊢;exact zI (h _ _ (Sm.refl _) (fR j S (zE _)))
 have b1:a.size-1≠0:=λe=>z (oS.mpr e);refine mC (λy=>?_) λy=>?_
 ·have c2:=yO y;refine zI (h _ _ (Sm.refl _) ?_);rw[c2]at S ⊢;exact dF j S ⋯
 have c4:b.size≠1:=λe=>y (oS.mpr e);refine zG (tH ?_);refine zG (wN (xH (I:=λx c C=>Sm st C/\E4 λ(g d:Nat)(out:Array Keyed)(I:Nat)=>A7 (c=(none,g,d,out,I)) (MH κ a b out g d) (0<g) (g<a.size) (1<d) (d<=b.size) (x+g+d<a.size+b.size))
  (Q:=λc C=>Sm st C/\∃r K,c=(some r,K)/\Res κ a.toList b.toList r.toList) ?_ ?_ ⟨Sm.refl _,_,_,_,_,rfl,S,⋯,⋯,⋯,⋯,⋯⟩) ?_)
 ·rintro x c a1 _ Y ⟨sm,g,d,out,I,rfl,t,l1,l2,J,D,pr⟩;dsimp only;refine zG (wN (xH (I:=λy c C=>Sm st C/\E5 λ(g d:Nat)(out:Array Keyed)(G F:Nat)=>A8 (c=(none,g,d,out,G,F)) (MH κ a b out g d) (0<g) (g<a.size) (1<d) (d<=b.size) (x+g+d<a.size+b.size) (1<=y->x+1+g+d<a.size+b.size))
   (Q:=λc C=>Sm st C/\((∃r K,c=(some r,K)/\Res κ a.toList b.toList r.toList)\/E5 λ(g d:Nat)(out:Array Keyed)(G F:Nat)=>A7 (c=(none,g,d,out,G,F)) (MH κ a b out g d) (0<g) (g<a.size) (1<d) (d<=b.size) (x+1+g+d<a.size+b.size))) ?_ ?_ ⟨sm,g,d,out,0,0,rfl,t,l1,l2,J,D,pr,⋯⟩) ?_)
  ·rintro y c a4 _ b5 ⟨sm,g,d,out,G,F,rfl,t,l1,l2,J,D,pr,_⟩;obtain⟨n,rfl⟩:∃n,g=n+1:=⟨g-1,⋯⟩;obtain⟨m,rfl⟩:∃m,d=m+1:=⟨d-1,⋯⟩;dsimp only;refine zG (kR (arr:=b) (i:=m+1-1) ⋯ λp e=>?_);refine zG (kR (arr:=a) (i:=n+1-1) ⋯ λq f=>?_);refine zG (cN W (by rw[sm.k];exact X) (a5 _ _ e) (a0 _ _ f) ?_);dsimp only;cases hl:lq κ p q with
   |true =>
    rw[zF rfl];have M:=dG j t (show n<a.size by omega) ⋯ f λi y hi o=>kA (gU j.sb (show i<=m by omega) (nW.mp o) (nW.mp e)) (kG hl);refine zG (kF f ?_);refine mC (λz=>?_) λz=>?_
    ·have l:n=0:=yO z;subst l;exact zI ⟨sm,.inl ⟨_,_,rfl,fR j M ⋯⟩⟩
    have b7:n≠0:=λe=>z (oS.mpr e);refine mC (λ_=>?_) λ_=>?_
    ·exact zI ⟨sm,.inr ⟨n,m+1,_,_,_,rfl,M,⋯,⋯,⋯,⋯,⋯⟩⟩
    ·exact zI ⟨sm,n,m+1,_,_,_,rfl,M,⋯,⋯,⋯,⋯,⋯,⋯⟩
   |false =>
    rw[zD (by simp)];have M:=Cg j t (show m<b.size by omega) ⋯ e λi y hi o=>kA (gU j.sa (show i<=n by omega) (nW.mp o) (nW.mp f)) hl;refine zG (kF e ?_);refine mC (λz=>?_) λz=>?_
    ·have l:m=1:=yO z;subst l;exact zI ⟨sm,.inl ⟨_,_,rfl,dF j M ⋯⟩⟩
    have b7:m≠1:=λe=>z (oS.mpr e);refine mC (λ_=>?_) λ_=>?_
    ·exact zI ⟨sm,.inr ⟨n+1,m,_,_,_,rfl,M,⋯,⋯,⋯,⋯,⋯⟩⟩
    ·exact zI ⟨sm,n+1,m,_,_,_,rfl,M,⋯,⋯,⋯,⋯,⋯,⋯⟩
  ·rintro c a4 ⟨sm,g,d,out,G,F,rfl,t,l1,l2,J,D,pr,b2⟩;exact⟨sm,.inr ⟨_,_,_,_,_,rfl,t,l1,l2,J,D,b2 ⋯⟩⟩
  ·rintro c a4 ⟨sm,⟨r,K,rfl,R⟩|⟨g,d,out,G,F,rfl,t,l1,l2,J,D,pr⟩⟩
   ·exact zI ⟨sm,_,_,rfl,R⟩
   dsimp only;refine zG (qE (wG ⟨rfl,?_⟩));refine zG (wN (xH (I:=λy c C=>Sm st C/\E6 λ(g d:Nat)(out:Array Keyed)(I G F:Nat)=>A7 (c=(none,g,d,out,I,G,F)) (MH κ a b out g d) (0<g) (g<a.size) (1<d) (d<=b.size) (x+1+g+d<a.size+b.size))
    (Q:=λc C=>Sm st C/\((∃r K,c=(some r,K)/\Res κ a.toList b.toList r.toList)\/E6 λ(g d:Nat)(out:Array Keyed)(I G F:Nat)=>A7 (c=(none,g,d,out,I,G,F)) (MH κ a b out g d) (0<g) (g<a.size) (1<d) (d<=b.size) (x+1+g+d<a.size+b.size))) ?_ ?_ ⟨sm,_,_,_,_,_,_,rfl,t,l1,l2,J,D,pr⟩) ?_)
   ·rintro y c a6 _ b5 ⟨sm,g,d,out,I,G,F,rfl,t,l1,l2,J,D,pr⟩;dsimp only
    revert I
    refine Hd (λI=>?_) λ_=>rfl;rw[aN];refine zG (wT ?_);refine zG (kR (arr:=b) (i:=d-1) ⋯ λp e=>?_);refine zG (Sn W (show kindOf _=kd from sm.k.trans X) j.sa j.ga (a5 _ _ e) (show 0+g<=a.size by omega) ⋯ λk b4 a9 b9=>?_);have mk:=So (m:=k) j t ⋯ b4 D ⋯ e λi x hi O V=>kG (b9 i x hi O (by rw[wS];exact V));dsimp only;refine mC (λa8=>?_) λa8=>?_
    ·refine mC (λz=>?_) λz=>?_
     ·have l:k=0:=yO z;subst l;exact zI ⟨sm.set _,.inl ⟨_,_,rfl,fR j mk D⟩⟩
     have b1:k≠0:=λe=>z (oS.mpr e)
     -- the other's last comes out
     obtain⟨m,rfl⟩:∃m,d=m+1:=⟨d-1,⋯⟩;have P:=Cg j mk (show m<b.size by omega) ⋯ e λi y hi o=>a9 i y hi (by rw[wS];exact o);refine zG (kF (show b[m+1-1]?=some p from e) ?_);refine mC (λz=>?_) λz=>?_
     ·have l:m=1:=yO z;subst l;exact zI ⟨sm.set _,.inl ⟨_,_,rfl,dF j P ⋯⟩⟩
     have c1:m≠1:=λe=>z (oS.mpr e);have c0:0<m:=⋯
     refine zG (kR (arr:=a) (i:=k-1) ⋯ λq f=>?_);refine zG (aM W (show kindOf _=kd from sm.k.trans X) j.sb j.gb (a0 _ _ f) (show 0+(m+1-1)<=b.size by omega) ⋯ λk2 L T Z=>?_);replace L:k2<=m:=L;have u:=Iz (m:=k2) j P ⋯ L ⋯ ⋯ f λi x hi O V=>Z i x hi O (by rw[wS];exact V);obtain⟨n,U⟩:∃n,k=n+1:=⟨k-1,⋯⟩;dsimp only;refine mC (λN=>?_) λN=>?_
     ·refine mC (λz=>?_) λz=>?_
      ·have l:k2=1:=yO z;subst l;exact zI ⟨sm.set _,.inl ⟨_,_,rfl,dF j u ⋯⟩⟩
      have b6:k2≠1:=λe=>z (oS.mpr e);refine mC (λz=>?_) λz=>?_
      ·have l:k2=0:=yO z;subst l;exact zI ⟨sm.set _,.inl ⟨_,_,rfl,Hb j u ⋯⟩⟩
      have b8:k2≠0:=λe=>z (oS.mpr e);rw[U]at u f ⊢;have v:=dG j u (show n<a.size by omega) ⋯ f λi y hi o=>kG (T i y hi (by rw[wS];exact o));refine zG (kF (show a[n+1-1]?=some q from f) ?_);refine mC (λz=>?_) λz=>?_
      ·have l:n=0:=yO z;subst l;exact zI ⟨sm.set _,.inl ⟨_,_,rfl,fR j v ⋯⟩⟩
      have a2:n≠0:=λe=>z (oS.mpr e);refine mC (λ_=>?_) λ_=>?_
      ·exact zI ⟨sm.set _,.inr ⟨n,_,_,_,_,_,rfl,v,⋯,⋯,⋯,⋯,⋯⟩⟩
      ·exact zI ⟨sm.set _,n,_,_,_,_,_,rfl,v,⋯,⋯,⋯,⋯,⋯⟩
     ·have a3:k2=m:=by
       have:¬ m-k2 > 0:=N;omega
      subst a3;rw[Cf]at u;rw[U]at u f ⊢;have v:=dG j u (show n<a.size by omega) ⋯ f λi y hi o=>kG (T i y hi (by rw[wS];exact o));refine zG (kF (show a[n+1-1]?=some q from f) ?_);refine mC (λz=>?_) λz=>?_
      ·have l:n=0:=yO z;subst l;exact zI ⟨sm.set _,.inl ⟨_,_,rfl,fR j v ⋯⟩⟩
      have a2:n≠0:=λe=>z (oS.mpr e);refine mC (λ_=>?_) λ_=>?_
      ·exact zI ⟨sm.set _,.inr ⟨n,_,_,_,_,_,rfl,v,⋯,⋯,⋯,⋯,⋯⟩⟩
      ·exact zI ⟨sm.set _,n,_,_,_,_,_,rfl,v,⋯,⋯,⋯,⋯,⋯⟩
    ·have k0:k=g:=by
      have:¬ g-k > 0:=a8;omega
     subst k0;rw[Cf]at mk
     -- the other's last comes out
     obtain⟨m,rfl⟩:∃m,d=m+1:=⟨d-1,⋯⟩;have P:=Cg j mk (show m<b.size by omega) ⋯ e λi y hi o=>a9 i y hi (by rw[wS];exact o);refine zG (kF (show b[m+1-1]?=some p from e) ?_);refine mC (λz=>?_) λz=>?_
     ·have l:m=1:=yO z;subst l;exact zI ⟨sm.set _,.inl ⟨_,_,rfl,dF j P ⋯⟩⟩
     have c1:m≠1:=λe=>z (oS.mpr e);have c0:0<m:=⋯
     refine zG (kR (arr:=a) (i:=k-1) ⋯ λq f=>?_);refine zG (aM W (show kindOf _=kd from sm.k.trans X) j.sb j.gb (a0 _ _ f) (show 0+(m+1-1)<=b.size by omega) ⋯ λk2 L T Z=>?_);replace L:k2<=m:=L;have u:=Iz (m:=k2) j P ⋯ L ⋯ ⋯ f λi x hi O V=>Z i x hi O (by rw[wS];exact V);obtain⟨n,U⟩:∃n,k=n+1:=⟨k-1,⋯⟩;dsimp only;refine mC (λN=>?_) λN=>?_
     ·refine mC (λz=>?_) λz=>?_
      ·have l:k2=1:=yO z;subst l;exact zI ⟨sm.set _,.inl ⟨_,_,rfl,dF j u ⋯⟩⟩
      have b6:k2≠1:=λe=>z (oS.mpr e);refine mC (λz=>?_) λz=>?_
      ·have l:k2=0:=yO z;subst l;exact zI ⟨sm.set _,.inl ⟨_,_,rfl,Hb j u ⋯⟩⟩
      have b8:k2≠0:=λe=>z (oS.mpr e);rw[U]at u f ⊢;have v:=dG j u (show n<a.size by omega) ⋯ f λi y hi o=>kG (T i y hi (by rw[wS];exact o));refine zG (kF (show a[n+1-1]?=some q from f) ?_);refine mC (λz=>?_) λz=>?_
      ·have l:n=0:=yO z;subst l;exact zI ⟨sm.set _,.inl ⟨_,_,rfl,fR j v ⋯⟩⟩
      have a2:n≠0:=λe=>z (oS.mpr e);refine mC (λ_=>?_) λ_=>?_
      ·exact zI ⟨sm.set _,.inr ⟨n,_,_,_,_,_,rfl,v,⋯,⋯,⋯,⋯,⋯⟩⟩
      ·exact zI ⟨sm.set _,n,_,_,_,_,_,rfl,v,⋯,⋯,⋯,⋯,⋯⟩
     ·have a3:k2=m:=by
       have:¬ m-k2 > 0:=N;omega
      subst a3;rw[Cf]at u;rw[U]at u f ⊢;have v:=dG j u (show n<a.size by omega) ⋯ f λi y hi o=>kG (T i y hi (by rw[wS];exact o));refine zG (kF (show a[n+1-1]?=some q from f) ?_);refine mC (λz=>?_) λz=>?_
      ·have l:n=0:=yO z;subst l;exact zI ⟨sm.set _,.inl ⟨_,_,rfl,fR j v ⋯⟩⟩
      have a2:n≠0:=λe=>z (oS.mpr e);refine mC (λ_=>?_) λ_=>?_
      ·exact zI ⟨sm.set _,.inr ⟨n,_,_,_,_,_,rfl,v,⋯,⋯,⋯,⋯,⋯⟩⟩
      ·exact zI ⟨sm.set _,n,_,_,_,_,_,rfl,v,⋯,⋯,⋯,⋯,⋯⟩
   ·rintro c a6 ⟨sm,g,d,out,I,G,F,rfl,t,l1,l2,J,D,pr⟩;exact⟨sm,.inr ⟨_,_,_,_,_,_,rfl,t,l1,l2,J,D,pr⟩⟩
   ·rintro c a6 ⟨sm,⟨r,K,rfl,R⟩|⟨g,d,out,I,G,F,rfl,t,l1,l2,J,D,pr⟩⟩
    ·exact zI ⟨sm,_,_,rfl,R⟩
    dsimp only;rw[aN];refine zG (wT (zI ⟨sm.set _,_,_,_,_,rfl,t,l1,l2,J,D,pr⟩))
 ·rintro c a1 ⟨sm,g,d,out,I,rfl,t,l1,l2,J,D,pr⟩;omega
 ·rintro c a1 ⟨sm,r,K,rfl,R⟩;exact zI (h r a1 sm R)
end
theorem Sk(i:Nat):mergeAt' i=(do
 let s ←get
 let (some (sa,na,power),some (sb,nb,_)):=((pendingOf s)[i]?,(pendingOf s)[i+1]?)|unsupported "internal:list.sort.pending"
 set (SortSt.mk' (kindOf s) (arrOf s) (((pendingOf s).setIfInBounds i (sa,na+nb,power)).eraseIdxIfInBounds (i+1)) (gallopOf s) (failedOf s))
 let some k ←jQ false (←elem' (arrOf s) sb) (arrOf s) sa na 0|return false
 let (sa,na):=(sa+k,na-k)
 if na == 0 then return true
 let some nb ←jQ true (←elem' (arrOf s) (sa+na-1)) (arrOf s) sb nb (nb-1)|return false
 if nb == 0 then return true
 let x:=(arrOf s).extract sa sb
 let y:=(arrOf s).extract sb (sb+nb)
 let b ←if na<=nb then Cm x y else Ck x y
 modify λs=>setArr s (b.toList.zipIdx.foldl (λa(p,j)=>a.setIfInBounds (sa+j) p) (arrOf s))
 return (failedOf (←get)).isNone):=rfl
section
variable {prog:Program} {w:World} {A:Around} {E:VP} {s:Shared} {κ:PyProof.Rows.KeyKind} {kd:SortKind}
def seg(l:List Keyed)(i j:Nat):List Keyed:=(l.drop i).take (j-i)
theorem Sj{st a:SortSt}{Q:PUnit->SortSt->Prop}(h:Q ⟨⟩ a):wpS (model prog w) A E s (set a:StateT SortSt Sem PUnit) Q st:=by
 unfold wpS;rw[StateT.run_set];exact zB ⟨rfl,h⟩
theorem Ce{l:List Keyed}{i j k:Nat}(a:i<=j)(b:j<=k):seg l i k=seg l i j++seg l j k:=by
 unfold seg;rw[show k-i=(j-i)+(k-j) by omega,qP,oK,show i+(j-i)=j by omega]
theorem Iy{l:List Keyed}{i j:Nat}(h:i<=j):l.take i++seg l i j++l.drop j=l:=by
 unfold seg;have:l.take j=l.take i++(l.drop i).take (j-i):=by
  conv=>lhs;rw[show j=i+(j-i) by omega]
  exact qP
 rw[←this,xU]
theorem cR{l:List Keyed}{i j t:Nat}:(seg l i j)[t]?=if t<j-i then l[i+t]? else none:=by
 unfold seg;rw[List.getElem?_take];split
 ·rw[vQ]
 ·rfl
theorem iP{l:List Keyed}{i j:Nat}{x:Keyed}(h:x∈seg l i j):∃t,t<j-i/\l[i+t]?=some x:=dB h
theorem Cd{l:List Keyed}{i j:Nat}(h:j<=l.length):(seg l i j).length=j-i:=by
 unfold seg;rw[yG,tM];omega
theorem aQ{l:List Keyed}{i j:Nat}(f:Srt κ (seg l i j)){a u:Nat}{x y:Keyed}(b:a<=u)(c:u<j-i)(e:l[i+a]?=some x)(d:l[i+u]?=some y):le' κ x y:=
 gU f b (by rw[cR,zF ⋯];exact e) (by rw[cR,zF c];exact d)
theorem iQ(a:Array Keyed)(i j:Nat):(a.extract i j).toList=seg a.toList i j:=by
 unfold seg;simp only[Array.toList_extract,List.extract_eq_take_drop]
theorem Ix:∀(m:List Keyed)(c b:Nat)(a:Array Keyed),b+c+m.length<=a.size->((m.zipIdx c).foldl (λa(x:Keyed×Nat)=>a.setIfInBounds (b+x.2) x.1) a).toList=a.toList.take (b+c)++m++a.toList.drop (b+c+m.length)
 |[],c,b,a,_=>by simp
 | p:: m,c,b,a,h=>by
  rw[zR]at h;have hl:b+c<a.toList.length:=by rw[zL];omega
  rw[uL,vA,Ix m (c+1) b _ (by rw[Array.size_setIfInBounds];omega),Array.toList_setIfInBounds,zR];show List.take (b+(c+1)) (a.toList.set (b+c) p)++m++List.drop (b+(c+1)+m.length) (a.toList.set (b+c) p)=_;have e1:List.take (b+(c+1)) (a.toList.set (b+c) p)=a.toList.take (b+c)++[p]:=by
   rw[show b+(c+1)=b+c+1 by omega,yY,List.take_set_of_le (zE _),xR hl];rfl
  have d:List.drop (b+(c+1)+m.length) (a.toList.set (b+c) p)=a.toList.drop (b+c+(m.length+1)):=by
   rw[List.drop_set_of_lt ⋯,show b+(c+1)+m.length=b+c+(m.length+1) by omega]
  rw[e1,d];simp
theorem Si(t:Cmp prog w A s κ kd){st:SortSt}{b:Array Keyed}{ib c:Nat}{q:Keyed}{n:Nat}{Q:Option Nat->SortSt->Prop}(u:kindOf st=kd)(z:∀i j x y,i<=j->j<n->b[ib+i]?=some x->b[ib+j]?=some y->le' κ x y)(f:∀x∈b.toList,Gd κ x)(C:Gd κ q)(F:ib+n<=b.size)(hh:c<n)
  (h:∀k,k<=n->(∀i x,i<k->b[ib+i]?=some x->le' κ x q)->(∀i x,k<=i->i<n->b[ib+i]?=some x->lq κ q x=true)->Q (some k) st):wpS (model prog w) A E s (jQ false q b ib n c) Q st:=by
 refine cO t (B:=λi=>!lq κ q (b.getD (ib+i) q)) u C hh (λi hi=>?_) (λi j o D d=>?_) λk g m v=>h k g (λi x hi e=>?_) λi x hi l e=>?_
 ·obtain⟨p,e⟩:=lQ (a:=b) (i:=ib+i) ⋯;refine⟨p,e,f p (yF (nW.mp e)),?_⟩;rw[show b.getD (ib+i) q=p by simp[Array.getD_eq_getD_getElem?,e]];rfl
 ·obtain⟨p,e⟩:=lQ (a:=b) (i:=ib+i) ⋯;obtain⟨r,a⟩:=lQ (a:=b) (i:=ib+j) ⋯;rw[show b.getD (ib+j) q=r by simp[Array.getD_eq_getD_getElem?,a]]at d;rw[show b.getD (ib+i) q=p by simp[Array.getD_eq_getD_getElem?,e]];have l1:le' κ r q:=by unfold le';simpa using d
  have:=kA (z i j p r o D e a) l1;unfold le' at this;rw[this];rfl
 ·have:=m i hi;rw[show b.getD (ib+i) q=x by simp[Array.getD_eq_getD_getElem?,e]]at this;unfold le';simpa using this
 ·have:=v i hi l;rw[show b.getD (ib+i) q=x by simp[Array.getD_eq_getD_getElem?,e]]at this;simpa using this
theorem Sh(t:Cmp prog w A s κ kd){st:SortSt}{b:Array Keyed}{ib c:Nat}{q:Keyed}{n:Nat}{Q:Option Nat->SortSt->Prop}(u:kindOf st=kd)(z:∀i j x y,i<=j->j<n->b[ib+i]?=some x->b[ib+j]?=some y->le' κ x y)(f:∀x∈b.toList,Gd κ x)(C:Gd κ q)(F:ib+n<=b.size)(hh:c<n)
  (h:∀k,k<=n->(∀i x,i<k->b[ib+i]?=some x->lq κ x q=true)->(∀i x,k<=i->i<n->b[ib+i]?=some x->le' κ q x)->Q (some k) st):wpS (model prog w) A E s (jQ true q b ib n c) Q st:=by
 refine cO t (B:=λi=>lq κ (b.getD (ib+i) q) q) u C hh (λi hi=>?_) (λi j o D d=>?_) λk g m v=>h k g (λi x hi e=>?_) λi x hi l e=>?_
 ·obtain⟨p,e⟩:=lQ (a:=b) (i:=ib+i) ⋯;refine⟨p,e,f p (yF (nW.mp e)),?_⟩;rw[show b.getD (ib+i) q=p by simp[Array.getD_eq_getD_getElem?,e]];rfl
 ·obtain⟨p,e⟩:=lQ (a:=b) (i:=ib+i) ⋯;obtain⟨r,a⟩:=lQ (a:=b) (i:=ib+j) ⋯;rw[show b.getD (ib+j) q=r by simp[Array.getD_eq_getD_getElem?,a]]at d;rw[show b.getD (ib+i) q=p by simp[Array.getD_eq_getD_getElem?,e]];exact KeyOrd.klt_of_kle_of_klt (O:=κ.toKeyOrd) (z i j p r o D e a) d
 ·have:=m i hi;rw[show b.getD (ib+i) q=x by simp[Array.getD_eq_getD_getElem?,e]]at this;exact this
 ·have:=v i hi l;rw[show b.getD (ib+i) q=x by simp[Array.getD_eq_getD_getElem?,e]]at this;exact this
theorem Sg(K:Cmp prog w A s κ kd){st:SortSt}{i b c M f c3:Nat}{Q:Bool->SortSt->Prop}(c0:kindOf st=kd)(T:∀x∈(arrOf st).toList,Gd κ x)(b7:failedOf st=none)(e1:(pendingOf st)[i]?=some (b,c,M))(a6:(pendingOf st)[i+1]?=some (b+c,f,c3))
  (d0:1<=c)(c8:1<=f)(d6:b+c+f<=(arrOf st).size)(I:Srt κ (seg (arrOf st).toList b (b+c)))(G:Srt κ (seg (arrOf st).toList (b+c) (b+c+f)))
  (h:∀n X,kindOf n=kd->failedOf n=none->pendingOf n=((pendingOf st).setIfInBounds i (b,c+f,M)).eraseIdxIfInBounds (i+1)->(arrOf n).toList=(arrOf st).toList.take b++X++(arrOf st).toList.drop (b+c+f)->X.Perm (seg (arrOf st).toList b (b+c+f))->Srt κ X->Q true n):
  wpS (model prog w) A E s (mergeAt' i) Q st:=by
 rw[Sk];refine zG (tH ?_);rw[e1,a6];dsimp only;refine zG (Sj ?_);generalize hst:SortSt.mk' (kindOf st) (arrOf st) (((pendingOf st).setIfInBounds i (b,c+f,M)).eraseIdxIfInBounds (i+1)) (gallopOf st) (failedOf st)=C;have k1:kindOf C=kd:=by rw[←hst];exact c0
 have Z:arrOf C=arrOf st:=by rw[←hst]
 have a4:pendingOf C=((pendingOf st).setIfInBounds i (b,c+f,M)).eraseIdxIfInBounds (i+1):=by rw[←hst]
 have a0:failedOf C=none:=by rw[←hst];exact b7
 clear hst e1 a6;generalize harr:arrOf st=arr at*
 generalize pendingOf st=d4 at*;have d7:arr.toList.length=arr.size:=zL;have L:∀d x,arr[d]?=some x->Gd κ x:=λd x e=>T x (yF (nW.mp e))
 -- already in order
 have stay:Srt κ (seg arr.toList b (b+c+f))->Q true C:=λb6=>h C _ k1 a0 a4 (by rw[Z,Iy ⋯]) (List.Perm.refl _) b6;have P:seg arr.toList b (b+c+f)=seg arr.toList b (b+c)++seg arr.toList (b+c) (b+c+f):=Ce ⋯ ⋯;refine zG (kR (arr:=arr) (i:=b+c) ⋯ λp ep=>?_);refine zG (Si K k1 (λd u x y O b8 o F=>aQ I O ⋯ (nW.mp o) (nW.mp F)) T (L _ _ ep) ⋯ ⋯ λk d2 a8 c6=>?_);dsimp only;have R:∀y∈seg arr.toList (b+c) (b+c+f),le' κ p y:=λy m=>by
  obtain⟨d,v,l⟩:=iP m;exact aQ G (zY d) v (nW.mp ep) l
 refine mC (λz=>?_) λz=>?_
 ·have d3:c-k=0:=yO z;refine zI (stay ?_);rw[P];refine oX.mpr ⟨I,G,λx g y m=>?_⟩;obtain⟨d,v,l⟩:=iP g;exact kA (a8 d x ⋯ (nW.mpr l)) (R y m)
 have c9:c-k≠0:=λe=>z (oS.mpr e);refine zG (kR (arr:=arr) (i:=b+k+(c-k)-1) ⋯ λq J=>?_);rw[show b+k+(c-k)-1=b+(c-1) by omega]at J;refine zG (Sh K k1 (λd u x y O b8 o F=>aQ G O ⋯ (nW.mp o) (nW.mp F)) T (L _ _ J) ⋯ ⋯ λk2 d5 c4 Y=>?_);dsimp only;have V:∀x∈seg arr.toList b (b+c),le' κ x q:=λx g=>by
  obtain⟨d,v,l⟩:=iP g;exact aQ I (show d<=c-1 by omega) ⋯ l (nW.mp J)
 refine mC (λy=>?_) λy=>?_
 ·have d8:k2=0:=yO y;refine zI (stay ?_);rw[P];refine oX.mpr ⟨I,G,λx g y m=>?_⟩;obtain⟨d,v,l⟩:=iP m;exact kA (V x g) (Y d y ⋯ ⋯ (nW.mpr l))
 have d1:k2≠0:=λe=>y (oS.mpr e)
 -- the parts
 have U:seg arr.toList b (b+c)=seg arr.toList b (b+k)++seg arr.toList (b+k) (b+c):=Ce ⋯ ⋯;have N:seg arr.toList (b+c) (b+c+f)=seg arr.toList (b+c) (b+c+k2)++seg arr.toList (b+c+k2) (b+c+f):=Ce ⋯ ⋯;have a1:=I;have a7:=G;rw[U]at a1;rw[N]at a7;obtain⟨b1,b5,c5⟩:=oX.mp a1;obtain⟨c1,b0,b4⟩:=oX.mp a7;have W:∀x∈seg arr.toList b (b+k),le' κ x p:=λx g=>by
  obtain⟨d,v,l⟩:=iP g;exact a8 d x ⋯ (nW.mpr l)
 have b2:∀x∈seg arr.toList (b+k) (b+c),le' κ p x:=λx g=>by
  obtain⟨d,v,l⟩:=iP g;exact kG (c6 (k+d) x ⋯ ⋯ (by rw[show b+(k+d)=b+k+d by omega];exact nW.mpr l))
 have c7:∀y∈seg arr.toList (b+c) (b+c+k2),le' κ y q:=λy m=>by
  obtain⟨d,v,l⟩:=iP m;exact kG (c4 d y ⋯ (nW.mpr l))
 have c2:∀y∈seg arr.toList (b+c+k2) (b+c+f),le' κ q y:=λy m=>by
  obtain⟨d,v,l⟩:=iP m;exact Y (k2+d) y ⋯ ⋯ (by rw[show b+c+(k2+d)=b+c+k2+d by omega];exact nW.mpr l)
 have a3:MG κ (arr.extract (b+k) (b+c)) (arr.extract (b+c) (b+c+k2)):=by
  refine⟨by rw[iQ];exact b5,by rw[iQ];exact c1,λx g=>?_,λx g=>?_,by rw[qL];omega,by rw[qL];omega,λx o y m=>?_,λx y o F=>?_⟩
  ·rw[iQ]at g;obtain⟨d,_,l⟩:=iP g;exact L _ x (nW.mpr l)
  ·rw[iQ]at g;obtain⟨d,_,l⟩:=iP g;exact L _ x (nW.mpr l)
  ·rw[iQ]at m;rw[nW,iQ,cR,qL]at o;split at o
   ·rw[show b+k+(min (b+c) arr.size-(b+k)-1)=b+(c-1) by omega,nW.mp J]at o;cases o;exact c7 y m
   ·cases o
  ·rw[nW,iQ,cR,zF ⋯,tE,nW.mp ep]at o;cases o;rw[nW,iQ]at F;exact b2 y (yF F)
 have a2:∀(r:Array Keyed)(n:SortSt),Sm C n->Res κ (arr.extract (b+k) (b+c)).toList (arr.extract (b+c) (b+c+k2)).toList r.toList->wpS (model prog w) A E s (do
   modify λs=>setArr s (r.toList.zipIdx.foldl (λa(p,j)=>a.setIfInBounds (b+k+j) p) (arrOf s))
   return (failedOf (←get)).isNone) Q n:=λr n sm t=>by
  rw[iQ,iQ]at t;refine zG (wT (zG (tH (zI ?_))));have a5:failedOf n=none:=sm.f.trans a0;show Q (failedOf n).isNone _;rw[a5];have b9:r.toList.length=(c-k)+k2:=by
   rw[t.1.length_eq,yA,Cd ⋯,Cd ⋯];omega
  refine h _ (seg arr.toList b (b+k)++r.toList++seg arr.toList (b+c+k2) (b+c+f)) (sm.k.trans k1) a5 (sm.p.trans a4) ?_ ?_ ?_
  ·show(List.foldl _ (arrOf n) _).toList=_;rw[sm.a,Z,Ix r.toList 0 (b+k) arr ⋯,b9];have b3:arr.toList.take (b+k+0)=arr.toList.take b++seg arr.toList b (b+k):=by
    unfold seg;rw[tE,qP,show b+k-b=k by omega]
   have a9:arr.toList.drop (b+k+0+(c-k+k2))=seg arr.toList (b+c+k2) (b+c+f)++arr.toList.drop (b+c+f):=by
    unfold seg;rw[show b+k+0+(c-k+k2)=b+c+k2 by omega]
    conv=>lhs;rw[←xU (b+c+f-(b+c+k2)) (arr.toList.drop (b+c+k2))]
    rw[oK,show b+c+k2+(b+c+f-(b+c+k2))=b+c+f by omega]
   rw[b3,a9];simp only[List.append_assoc]
  ·rw[P,U,N];have:=(t.1.append_left (seg arr.toList b (b+k))).append_right (seg arr.toList (b+c+k2) (b+c+f));simp only[List.append_assoc]at this ⊢;exact this
  ·have mem:∀x∈r.toList,x∈seg arr.toList (b+k) (b+c)\/x∈seg arr.toList (b+c) (b+c+k2):=λx g=>oW.mp (t.1.mem_iff.mp g);refine oX.mpr ⟨oX.mpr ⟨b1,t.2,λx g y m=>?_⟩,b0,λx g y m=>?_⟩
   ·rcases mem y m with D|D
    ·exact c5 x g y D
    ·exact kA (W x g) (R y (by rw[N];exact xI _ D))
   ·rcases oW.mp g with D|D
    ·exact kA (W x D) (R y (by rw[N];exact yP _ m))
    ·rcases mem x D with S|S
     ·exact kA (V x (by rw[U];exact yP _ S)) (c2 y m)
     ·exact b4 x S y m
 refine mC (λ_=>?_) λ_=>?_
 ·exact zG (Su K k1 a3 λr n sm t=>a2 r n sm t)
 ·exact zG (Sl K k1 a3 λr n sm t=>a2 r n sm t)
theorem cS(d:Cmp prog w A s κ kd){st:SortSt}{i j:Nat}{Q:Option Bool->SortSt->Prop}(e:kindOf st=kd)(c:∀x∈(arrOf st).toList,Gd κ x)(hi:i<(arrOf st).size)(f:j<(arrOf st).size)
  (h:∀x y,(arrOf st)[i]?=some x->(arrOf st)[j]?=some y->Q (some (lq κ x y)) st):wpS (model prog w) A E s (ltAt' i j) Q st:=by
 rw[ltAt'_eq];refine zG (tH ?_);refine zG (kR hi λx b=>?_);refine zG (kR f λy a=>?_);exact cN d e (c x (yF (nW.mp b))) (c y (yF (nW.mp a))) (h x y b a)
structure Ch(lo hi:Nat)(st st':SortSt):Prop where
 k:kindOf st'=kindOf st
 p:pendingOf st'=pendingOf st
 f:failedOf st'=failedOf st
 z:(arrOf st').size=(arrOf st).size
 m:(arrOf st').Perm (arrOf st)
 o:∀i,i<lo\/hi<=i->(arrOf st')[i]?=(arrOf st)[i]?
theorem Ch.refl(lo hi:Nat)(st:SortSt):Ch lo hi st st:=⟨rfl,rfl,rfl,rfl,oA _,λ_ _=>rfl⟩
theorem Ch.trans{lo hi:Nat}{a b c:SortSt}(d:Ch lo hi a b)(e:Ch lo hi b c):Ch lo hi a c:=⟨e.k.trans d.k,e.p.trans d.p,e.f.trans d.f,e.z.trans d.z,e.m.trans d.m,λi hi=>(e.o i hi).trans (d.o i hi)⟩
theorem Ch.wide{lo hi hi':Nat}{a b:SortSt}(h:Ch lo hi a b)(hh:hi<=hi'):Ch lo hi' a b:=⟨h.k,h.p,h.f,h.z,h.m,λi hi=>h.o i ⋯⟩
theorem Ch.good{lo hi:Nat}{a b:SortSt}(h:Ch lo hi a b)(c:∀x∈(arrOf a).toList,Gd κ x):∀x∈(arrOf b).toList,Gd κ x:=λx d=>c x ((h.m.toList.mem_iff).mp d)
def Up(κ:PyProof.Rows.KeyKind)(a:Array Keyed)(lo hi:Nat):Prop:=∀i j x y,lo<=i->i<=j->j<hi->a[i]?=some x->a[j]?=some y->le' κ x y
def Dn(κ:PyProof.Rows.KeyKind)(a:Array Keyed)(lo hi:Nat):Prop:=∀i j x y,lo<=i->i<=j->j<hi->a[i]?=some x->a[j]?=some y->le' κ y x
theorem Up.one{a:Array Keyed}{lo:Nat}:Up κ a lo (lo+1):=λi j x y d f e c b=>by
 have:i=j:=⋯
 subst this;rw[c]at b;cases b;exact gH _
theorem Up.more{a:Array Keyed}{lo hi hi':Nat}(h:Up κ a lo hi)(hl:lo<hi)(n:hi<a.size)(k:∀x y,a[hi-1]?=some x->a[hi]?=some y->le' κ x y)(g:hi'=hi+1:=by omega):Up κ a lo hi':=λi j x y e l o c b=>by
 subst g;rcases uE j hi with q|q
 ·exact h i j x y e l q c b
 ·have m:j=hi:=⋯
  subst m;rcases uE i j with f|f
  ·obtain⟨u,d⟩:=lQ (a:=a) (i:=j-1) ⋯;exact kA (h i (j-1) x u e ⋯ ⋯ c d) (k u y d b)
  ·have:i=j:=⋯
   subst this;rw[c]at b;cases b;exact gH _
theorem Up.same{a b:Array Keyed}{lo hi:Nat}(h:Up κ a lo hi)(e:∀i,lo<=i->i<hi->b[i]?=a[i]?):Up κ b lo hi:=λi j x y c k d g f=>h i j x y c k d (by rw[←e i c ⋯];exact g) (by rw[←e j ⋯ d];exact f)
theorem Dn.more{a:Array Keyed}{lo hi hi':Nat}(h:Dn κ a lo hi)(hl:lo<hi)(n:hi<a.size)(k:∀x y,a[hi-1]?=some x->a[hi]?=some y->le' κ y x)(g:hi'=hi+1:=by omega):Dn κ a lo hi':=λi j x y e l o c b=>by
 subst g;rcases uE j hi with q|q
 ·exact h i j x y e l q c b
 ·have m:j=hi:=⋯
  subst m;rcases uE i j with f|f
  ·obtain⟨u,d⟩:=lQ (a:=a) (i:=j-1) ⋯;exact kA (k u y d b) (h i (j-1) x u e ⋯ ⋯ c d)
  ·have:i=j:=⋯
   subst this;rw[c]at b;cases b;exact gH _
abbrev mir(a:Array Keyed)(i j:Nat):Array Keyed:=mirror a i j ((j-i)/2)
theorem gW{a:Array Keyed}{i j k:Nat}(b:j<=a.size):(mir a i j)[k]?=if i<=k/\k<j then a[i+j-1-k]? else a[k]?:=getElem?_mirror_all b k
theorem Dn.turned{a:Array Keyed}{lo hi b c:Nat}(h:Dn κ a lo hi)(u:Up κ a b c)(hl:lo<=b)(o:c<=hi)(n:hi<=a.size):Dn κ (mir a b c) lo hi:=λi j x y g m l e d=>by
 rw[gW ⋯]at e d
 by_cases k:b<=i/\i<c
 ·rw[zF k]at e
  by_cases f:b<=j/\j<c
  ·rw[zF f]at d;exact u _ _ y x ⋯ (show b+c-1-j<=b+c-1-i by omega) ⋯ d e
  ·rw[zD f]at d;exact h _ _ x y ⋯ (show b+c-1-i<=j by omega) l e d
 ·rw[zD k]at e
  by_cases f:b<=j/\j<c
  ·rw[zF f]at d;exact h _ _ x y g (show i<=b+c-1-j by omega) ⋯ e d
  ·rw[zD f]at d;exact h _ _ x y g m l e d
theorem Dn.up{a:Array Keyed}{lo hi:Nat}(h:Dn κ a lo hi)(b:hi<=a.size):Up κ (mir a lo hi) lo hi:=λi j x y e g f d c=>by
 rw[gW b,zF ⟨e,⋯⟩]at d;rw[gW b,zF ⟨⋯,f⟩]at c;exact h _ _ y x ⋯ (show lo+hi-1-j<=lo+hi-1-i by omega) ⋯ c d
theorem aR{st:SortSt}{i j:Nat}{Q:Unit->SortSt->Prop}(b:j<=(arrOf st).size)(h:∀a,Ch i j st a->arrOf a=mir (arrOf st) i j->Q () a):wpS (model prog w) A E s (reverseSlice' i j) Q st:=by
 rw[reverseSlice'_eq];refine wT (h _ ⟨rfl,rfl,rfl,mirror_size _ _ _ _,mirror_perm _ _ _ _,λk c=>?_⟩ rfl);exact(gW b).trans (zD ⋯)
theorem Iw(m:Cmp prog w A s κ kd){st:SortSt}{lo n0 a:Nat}{f:Nat->Option (Option Nat)×Nat->StateT SortSt Sem (ForInStep (Option (Option Nat)×Nat))}{Q:Option (Option Nat)×Nat->SortSt->Prop}(t:kindOf st=kd)(C:∀x∈(arrOf st).toList,Gd κ x)(I:lo+a<=(arrOf st).size)(K:1<=n0)(D:n0<=a)(r:Up κ (arrOf st) lo (lo+n0))
  (o:∀x c,f x c=(do
   let F ←ltAt' (lo+c.2) (lo+c.2-1)
   match F with
    |some l=>if l=true then pure (ForInStep.done (none,c.2)) else pure (ForInStep.yield (none,c.2+1))
    |_=>pure (ForInStep.done (some none,c.2))))
  (h:∀n,n0<=n->n<=a->Up κ (arrOf st) lo (lo+n)->(n=a\/∀x y,(arrOf st)[lo+n]?=some x->(arrOf st)[lo+n-1]?=some y->lq κ x y=true)->Q (none,n) st):
  wpS (model prog w) A E s (forIn [n0:a] ((none,n0):Option (Option Nat)×Nat) f) Q st:=by
 refine wN (xH (I:=λx c d=>d=st/\c=(none,x)/\n0<=x/\x<=a/\Up κ (arrOf st) lo (lo+x))
  (Q:=λc d=>d=st/\∃n,c=(none,n)/\n0<=n/\n<=a/\Up κ (arrOf st) lo (lo+n)/\(n=a\/∀x y,(arrOf st)[lo+n]?=some x->(arrOf st)[lo+n-1]?=some y->lq κ x y=true)) ?_ ?_ ⟨rfl,rfl,zE _,D,r⟩) ?_
 ·rintro x c d J G ⟨rfl,rfl,g,e,b⟩;rw[o];dsimp only;refine zG (cS m t C ⋯ ⋯ λp q ep k=>?_);dsimp only;cases hl:lq κ p q with
  |true =>
   rw[zF rfl];refine zI ⟨rfl,x,rfl,g,e,b,.inr λu v i j=>?_⟩;rw[ep]at i;rw[k]at j;cases i;cases j;exact hl
  |false =>
   rw[zD (by simp)];refine zI ⟨rfl,rfl,⋯,⋯,?_⟩;refine Up.more b ⋯ ⋯ λu v i j=>?_;rw[k]at i;rw[ep]at j;cases i;cases j;exact hl
 ·rintro c d ⟨rfl,rfl,g,e,b⟩;exact⟨rfl,_,rfl,g,e,b,.inl ⋯⟩
 ·rintro c d ⟨rfl,n,rfl,g,e,b,z⟩;exact h n g e b z
theorem Iv{b:Type}{c:Prop}[Decidable c]{P T:StateT SortSt Sem b}{R:SortSt->Prop}{st:SortSt}{Q:b->SortSt->Prop}(d:c->(∀a,R a->wpS (model prog w) A E s P Q a)->wpS (model prog w) A E s T Q st)(e:¬ c->R st)(go:∀a,R a->wpS (model prog w) A E s P Q a):wpS (model prog w) A E s (if c then T else P) Q st:=
 mC (λx=>d x go) λx=>go st (e x)
theorem Sf(C:Cmp prog w A s κ kd){st:SortSt}{lo o:Nat}{Q:Option Nat->SortSt->Prop}(K:kindOf st=kd)(L:∀x∈(arrOf st).toList,Gd κ x)(b0:lo+o<=(arrOf st).size)(a4:1<=o)
  (h:∀n b,1<=n->n<=o->Ch lo (lo+n) st b->Up κ (arrOf b) lo (lo+n)->Q (some n) b):wpS (model prog w) A E s (countRun' lo o) Q st:=by
 rw[countRun'_eq];refine zG (Iw C K L b0 (zE _) a4 Up.one (λx c=>rfl) λn S Y up nx=>?_);dsimp only;refine mC (λz=>?_) λz=>?_
 ·exact zI (h n st S Y (Ch.refl _ _ _) up)
 have N:n≠o:=λe=>z (oS.mpr e);have T:=nx.resolve_left N;refine Iv (R:=λr=>Ch lo (lo+n) st r/\Dn κ (arrOf r) lo (lo+n+1)) (λy go=>?_) (λy=>?_) λr a7=>?_
 ·refine zG (cS C K L ⋯ ⋯ λp q ep l=>?_);dsimp only;cases hl:lq κ p q with
  |true =>
   rw[zF rfl];exact zI (h n st S Y (Ch.refl _ _ _) up)
  | false =>
   rw[zD (by simp)];refine zG (aR ⋯ λr D X=>?_);refine go r ⟨D,Dn.more (hi:=lo+n) ?_ ⋯ (by rw[D.z];omega) λu v f g=>?_⟩
   ·-- all alike
    rw[X];intro i j x y b1 b2 a1 M F;rw[gW ⋯,zF ⟨b1,⋯⟩]at M;rw[gW ⋯,zF ⟨⋯,a1⟩]at F;exact up _ _ y x ⋯ (show lo+(lo+n)-1-j<=lo+(lo+n)-1-i by omega) ⋯ F M
   ·rw[D.o _ (.inr (zE _))]at g;rw[X,gW ⋯,zF ⋯,show lo+(lo+n)-1-(lo+n-1)=lo by omega,ep]at f;cases f;exact kA (kG (T v q g l)) hl
 ·have:n=1:=⋯
  subst this;refine⟨Ch.refl _ _ _,Dn.more (hi:=lo+1) (λi j x y b1 b2 a1 M F=>?_) ⋯ ⋯ λu v f g=>kG (T v u g f)⟩;have:i=j:=⋯
  subst this;rw[M]at F;cases F;exact gH _
 ·obtain⟨D,dn⟩:=a7;refine zG (qE (wG ⟨rfl,?_⟩));refine zG (wN (xH (I:=λx c b=>∃d,c=(none,x,d)/\n+1<=x/\x<=o/\d+1<=x/\Ch lo (lo+x) st b/\Dn κ (arrOf b) lo (lo+x)/\Up κ (arrOf b) (lo+x-(d+1)) (lo+x))
   (Q:=λc b=>∃x d,c=(none,x,d)/\n+1<=x/\x<=o/\d+1<=x/\Ch lo (lo+x) st b/\Dn κ (arrOf b) lo (lo+x)/\Up κ (arrOf b) (lo+x-(d+1)) (lo+x)) ?_ ?_ ⟨0,rfl,zE _,⋯,⋯,D.wide ⋯,dn,by rw[show lo+(n+1)=lo+n+1 by omega];exact Up.one⟩) ?_)
  ·rintro x c b c0 b6 ⟨d,rfl,I,t,G,ch,dn,up⟩;have a0:kindOf b=kd:=ch.k.trans K;have V:=ch.good L;have N:=ch.z;dsimp only;refine zG (cS C a0 V ⋯ ⋯ λp q ep l=>?_);dsimp only;cases hl:lq κ p q with
   |true =>
    rw[zF rfl];refine mC (λO=>?_) λO=>?_
    ·refine zG (aR ⋯ λk a J=>zI ?_);have P:Ch lo (lo+x) b k:=⟨a.k,a.p,a.f,a.z,a.m,λi hi=>a.o i ⋯⟩;refine⟨0,rfl,⋯,⋯,⋯,(ch.trans P).wide ⋯,?_,by rw[show lo+(x+1)-(0+1)=lo+x by omega];exact Up.one⟩;refine Dn.more (hi:=lo+x) (by rw[J];exact Dn.turned dn up ⋯ (zE _) ⋯) ⋯ (by rw[a.z];omega) λu v f g=>?_;rw[a.o _ (.inr (zE _)),ep]at g;cases g;rw[J,gW ⋯,zF ⋯]at f;have l1:le' κ q u:=dn _ _ u q ⋯ (show lo+x-(d+1)+(lo+x)-1-(lo+x-1)<=lo+x-1 by omega) ⋯ f l;exact kA (kG hl) l1
    ·refine zI ⟨0,rfl,⋯,⋯,⋯,ch.wide ⋯,?_,by rw[show lo+(x+1)-(0+1)=lo+x by omega];exact Up.one⟩;refine Dn.more dn ⋯ ⋯ λu v f g=>?_;rw[l]at f;rw[ep]at g;cases f;cases g;exact kG hl
   | false =>
    rw[zD (by simp)];refine zG (cS C a0 V ⋯ ⋯ λb8 b5 U Z=>?_);rw[l]at U;rw[ep]at Z;cases U;cases Z;dsimp only;cases hl2:lq κ q p with
    |true =>
     rw[zF rfl];exact zI ⟨x,d,rfl,I,t,G,ch,dn,up⟩
    | false =>
     rw[zD (by simp)];refine zI ⟨d+1,rfl,⋯,⋯,⋯,ch.wide ⋯,?_,?_⟩
     ·refine Dn.more dn ⋯ ⋯ λu v f g=>?_;rw[l]at f;rw[ep]at g;cases f;cases g;exact hl2
     ·have:=Up.more (hi':=lo+(x+1)) up ⋯ ⋯ λu v f g=>by
       rw[l]at f;rw[ep]at g;cases f;cases g;exact hl
      rw[show lo+(x+1)-(d+1+1)=lo+x-(d+1) by omega];exact this
  ·rintro c b ⟨d,rfl,I,t,G,ch,dn,up⟩;exact⟨_,d,rfl,I,t,G,ch,dn,up⟩
  ·rintro c b ⟨x,d,rfl,I,t,G,ch,dn,up⟩;dsimp only;refine Iv (R:=λk=>Ch lo (lo+x) st k/\Dn κ (arrOf k) lo (lo+x)) (λO a5=>?_) (λO=>⟨ch,dn⟩) λk a3=>?_
   ·have N:=ch.z;refine zG (aR ⋯ λk a J=>?_);have P:Ch lo (lo+x) b k:=⟨a.k,a.p,a.f,a.z,a.m,λi hi=>a.o i ⋯⟩;exact a5 k ⟨ch.trans P,by rw[J];exact Dn.turned dn up ⋯ (zE _) ⋯⟩
   ·obtain⟨a,a2⟩:=a3;have b4:=a.z;refine zG (aR ⋯ λa8 W b3=>?_);have R:=a.trans W;have b9:=W.z;refine zG (Iw C (R.k.trans K) (R.good L) ⋯ ⋯ t (by rw[b3];exact Dn.up a2 ⋯) (λ_ _=>rfl) λm b7 a9 a6 _=>?_);dsimp only;exact zI (h m a8 ⋯ a9 (R.wide ⋯) a6)
theorem Se{x y z:Keyed}(a:lq κ x y=true)(b:le' κ y z):lq κ x z=true:=KeyOrd.klt_of_klt_of_kle (O:=κ.toKeyOrd) a b
theorem Up.put{a:Array Keyed}{lo k l:Nat}{p:Keyed}(d:Up κ a lo (lo+k))(n:lo+k<a.size)(ep:a[lo+k]?=some p)(hl:l<=k)(m:∀i u,lo<=i->i<lo+l->a[i]?=some u->le' κ u p)(q:∀i u,lo+l<=i->i<lo+k->a[i]?=some u->lq κ p u=true):
  Up κ (bubble a (lo+k) (lo+k-(lo+l))) lo (lo+(k+1)):=λi j x y e o r c b=>by
 rw[getElem?_bubble n _ ⋯,show lo+k-(lo+k-(lo+l))=lo+l by omega]at c b
 by_cases g:i=lo+l
 ·rw[zF g,ep]at c;cases c
  by_cases b1:j=lo+l
  ·rw[zF b1,ep]at b;cases b;exact gH _
  ·rw[zD b1,zF ⋯]at b;exact kG (q _ _ ⋯ ⋯ b)
 ·rw[zD g]at c
  by_cases f:lo+l<i/\i<=lo+k
  ·rw[zF f]at c;rw[zD ⋯,zF ⋯]at b;exact d _ _ _ _ ⋯ (show i-1<=j-1 by omega) ⋯ c b
  ·rw[zD f]at c
   by_cases b1:j=lo+l
   ·rw[zF b1,ep]at b;cases b;exact m _ _ e ⋯ c
   ·rw[zD b1]at b
    by_cases b2:lo+l<j/\j<=lo+k
    ·rw[zF b2]at b;exact d _ _ _ _ e (show i<=j-1 by omega) ⋯ c b
    ·rw[zD b2]at b;exact d _ _ _ _ e o ⋯ c b
theorem Sd(C:Cmp prog w A s κ kd){st:SortSt}{lo n ok:Nat}{Q:Bool->SortSt->Prop}(J:kindOf st=kd)(N:∀x∈(arrOf st).toList,Gd κ x)(Z:lo+n<=(arrOf st).size)(M:1<=ok)(G:ok<=n)(I:Up κ (arrOf st) lo (lo+ok))
  (h:∀a,Ch lo (lo+n) st a->Up κ (arrOf a) lo (lo+n)->Q true a):wpS (model prog w) A E s (binarySort' lo n ok) Q st:=by
 rw[binarySort'_eq];refine zG (wN (xH (I:=λk c a=>c=(none,())/\ok<=k/\k<=n/\Ch lo (lo+n) st a/\Up κ (arrOf a) lo (lo+k))
  (Q:=λc a=>c=(none,())/\Ch lo (lo+n) st a/\Up κ (arrOf a) lo (lo+n)) ?step ?fin ?init) ?post)
 case post =>
  rintro c a ⟨rfl,b,d⟩;exact zI (h a b d)
 case init=>rw[show max ok 1=ok by omega];exact⟨rfl,zE _,G,Ch.refl _ _ _,I⟩
 case fin =>
  rintro c a ⟨K,F,z,b,d⟩;rw[show max (max ok 1) n=n by omega]at d;exact⟨K,b,d⟩
 case step =>
  rintro k c a W Y ⟨rfl,F,z,b,d⟩;have T:=b.z;have R:kindOf a=kd:=b.k.trans J;have L:=b.good N;obtain⟨p,ep⟩:=lQ (a:=arrOf a) (i:=lo+k) ⋯;refine zG (wN (xH (I:=λx c f=>f=a/\∃l r,c=(none,l,r)/\l<=r/\r<=k/\r-l<=k-x /\
    (∀i u,lo<=i->i<lo+l->(arrOf a)[i]?=some u->le' κ u p)/\(∀i u,lo+r<=i->i<lo+k->(arrOf a)[i]?=some u->lq κ p u=true))
   (Q:=λc f=>f=a/\∃l r,c=(none,l,r)/\l<=k /\
    (∀i u,lo<=i->i<lo+l->(arrOf a)[i]?=some u->le' κ u p)/\(∀i u,lo+l<=i->i<lo+k->(arrOf a)[i]?=some u->lq κ p u=true)) ?istep ?ifin ?iinit) ?ipost)
  case iinit=>exact⟨rfl,0,k,rfl,⋯,⋯,⋯,λi u _ hi=>⋯,λi u M X=>⋯⟩
  case ifin =>
   rintro c f ⟨rfl,l,r,rfl,P,j,S,e,g⟩;have:l=r:=⋯
   subst this;exact⟨rfl,l,l,rfl,j,e,g⟩
  case istep =>
   rintro x c f _ U ⟨rfl,l,r,rfl,P,j,S,e,g⟩;dsimp only;refine mC (λD=>?_) λD=>?_
   ·have:l=r:=⋯
    subst this;exact zI ⟨rfl,l,l,rfl,j,e,g⟩
   ·refine zG (cS C R L ⋯ ⋯ λV q y t=>?_);rw[ep]at y;cases y;dsimp only;cases hless:lq κ p q with
    |true =>
     rw[zF rfl];refine zI ⟨rfl,l,(l+r)/2,rfl,⋯,⋯,⋯,e,λi u o v m=>?_⟩;exact Se hless (d _ _ _ _ ⋯ o v t m)
    |false =>
     rw[zD (by simp)];refine zI ⟨rfl,(l+r)/2+1,r,rfl,⋯,⋯,⋯,λi u o v m=>?_,g⟩;exact kA (d _ _ _ _ o (show i<=lo+(l+r)/2 by omega) ⋯ m t) hless
  case ipost =>
   rintro c f ⟨rfl,l,r,rfl,O,e,g⟩;show wpS _ _ _ _ (do moveDown' (lo+k) (lo+l);pure (ForInStep.yield (none,()))) _ _;rw[moveDown'_eq];refine zG (wT (zI ⟨rfl,⋯,⋯,b.trans ⟨rfl,rfl,rfl,bubble_size _ _ _,bubble_perm _ _ _,λi hi=>?_⟩,d.put ⋯ ep O e g⟩));exact(getElem?_bubble ⋯ _ ⋯ i).trans (by rw[zD ⋯,zD ⋯])
def Run(κ:PyProof.Rows.KeyKind)(a:Array Keyed):Nat->List (Nat×Nat×Nat)->Nat->Prop
 |s,[],e=>s=e
 |s,x:: xs,e=>x.1=s/\1<=x.2.1/\Up κ a s (s+x.2.1)/\Run κ a (s+x.2.1) xs e
theorem Run.le{a:Array Keyed}:∀{xs:List (Nat×Nat×Nat)}{s e:Nat},Run κ a s xs e->s+xs.length<=e
 |[],s,e,h=>by have:s=e:=h;simp[this]
 |x:: xs,s,e,h=>by have:=Run.le h.2.2.2;have:=h.2.1;simp only[List.length_cons];omega
theorem Run.app{a:Array Keyed}:∀{xs ys:List (Nat×Nat×Nat)}{s e:Nat},Run κ a s (xs++ys) e ↔ ∃m,Run κ a s xs m/\Run κ a m ys e
 |[],ys,s,e=>⟨λh=>⟨s,rfl,h⟩,λ⟨m,b,c⟩=>by cases(show s=m from b);exact c⟩
 |x:: xs,ys,s,e=>⟨λ⟨b,c,f,d⟩=>let ⟨m,j,i⟩:=Run.app.mp d;⟨m,⟨b,c,f,j⟩,i⟩,λ⟨m,⟨b,c,f,d⟩,g⟩=>⟨b,c,f,Run.app.mpr ⟨m,d,g⟩⟩⟩
theorem Run.same{a b:Array Keyed}:∀{xs:List (Nat×Nat×Nat)}{s e:Nat},(∀i,s<=i->i<e->b[i]?=a[i]?)->Run κ a s xs e->Run κ b s xs e
 |[],_,_,_,h=>h
 |x:: xs,s,e,q,h=>by
  have:=Run.le h.2.2.2;exact⟨h.1,h.2.1,h.2.2.1.same λi c d=>q i c ⋯,Run.same (λi c d=>q i ⋯ d) h.2.2.2⟩
theorem aS{a:Array Keyed}{i j:Nat}(h:Up κ a i j):Srt κ (seg a.toList i j):=by
 rw[Srt,oU];intro e u c d f;have e1:=xN c;have b:=xN d;rw[cR]at e1 b;split at e1
 ·split at b
  ·exact h _ _ _ _ ⋯ (show i+e<=i+u by omega) ⋯ (nW.mpr e1) (nW.mpr b)
  ·cases b
 ·cases e1
theorem Sc{a:Array Keyed}{l X r:List Keyed}{i j:Nat}(e:a.toList=l++X++r)(hl:l.length=i)(m:X.length=j-i)(h:Srt κ X):Up κ a i j:=λp q x y k o n d b=>by
 have d:=nW.mp d;have b:=nW.mp b;rw[e,yK,zX ⋯,yB ⋯]at d b;rcases uE p q with c|c
 ·have g:p-l.length<X.length:=⋯
  have f:q-l.length<X.length:=⋯
  rw[xN g]at d;rw[xN f]at b;cases d;cases b;exact(oU.mp h) _ _ g f ⋯
 ·have:p=q:=⋯
  subst this;rw[d]at b;cases b;exact gH _
structure Wt(κ:PyProof.Rows.KeyKind)(kd:SortKind)(a₀:Array Keyed)(hi:Nat)(st:SortSt):Prop where
 k:kindOf st=kd
 f:failedOf st=none
 m:(arrOf st).Perm a₀
 r:Run κ (arrOf st) 0 (pendingOf st).toList hi
theorem Wt.z{a₀:Array Keyed}{hi:Nat}{st:SortSt}(h:Wt κ kd a₀ hi st):(arrOf st).size=a₀.size:=h.m.size_eq
theorem Wt.good{a₀:Array Keyed}{hi:Nat}{st:SortSt}(h:Wt κ kd a₀ hi st)(a:∀x∈a₀.toList,Gd κ x):∀x∈(arrOf st).toList,Gd κ x:=λx b=>a x ((h.m.toList.mem_iff).mp b)
theorem Sb{p:Array (Nat×Nat×Nat)}{xs ys:List (Nat×Nat×Nat)}{e f g:Nat×Nat×Nat}(h:p.toList=xs++e:: f:: ys):((p.setIfInBounds xs.length g).eraseIdxIfInBounds (xs.length+1)).toList=xs++g:: ys:=by
 have a:xs.length+1<(p.setIfInBounds xs.length g).size:=by
  rw[Array.size_setIfInBounds,←zL,h];simp
 rw[Array.eraseIdxIfInBounds,dif_pos a,Array.toList_eraseIdx,Array.toList_setIfInBounds,h,List.set_append_right _ _ (zE _),vN];rw[uD ⋯];simp
theorem Cc(p:Cmp prog w A s κ kd){a₀:Array Keyed}(z:∀x∈a₀.toList,Gd κ x){st:SortSt}{i hi:Nat}{xs ys:List (Nat×Nat×Nat)}{e f:Nat×Nat×Nat}{Q:Bool->SortSt->Prop}(c:Wt κ kd a₀ hi st)(hh:hi<=a₀.size)(g:(pendingOf st).toList=xs++e:: f:: ys)(D:i=xs.length)
  (h:∀a,Wt κ kd a₀ hi a->(pendingOf a).toList=xs++(e.1,e.2.1+f.2.1,e.2.2):: ys->(∀j,hi<=j->(arrOf a)[j]?=(arrOf st)[j]?)->Q true a):wpS (model prog w) A E s (mergeAt' i) Q st:=by
 subst D;have hr:=c.r;rw[g]at hr;obtain⟨m,r1,k,C,v,o,r,u,r2⟩:=Run.app.mp hr;have l1:=r1.le;have l2:=r2.le;have J:=c.z;have e1:(pendingOf st)[xs.length]?=some (m,e.2.1,e.2.2):=by
  rw[←yI,g,zX (zE _),vN,←k];rfl
 have F:(pendingOf st)[xs.length+1]?=some (m+e.2.1,f.2.1,f.2.2):=by
  rw[←yI,g,zX ⋯,Nat.add_sub_cancel_left,←o];rfl
 refine Sg p c.k (c.good z) c.f e1 F C r ⋯ (aS v) (aS u) λa X k' G y d l t=>?_;have I:X.length=e.2.1+f.2.1:=by rw[l.length_eq,Cd (by rw[zL];omega)];omega
 have lt:((arrOf st).toList.take m).length=m:=by rw[yG,zL];omega
 have ps:(pendingOf a).toList=xs++(e.1,e.2.1+f.2.1,e.2.2):: ys:=by
  rw[y,←k];exact Sb g
 have up:Up κ (arrOf a) m (m+e.2.1+f.2.1):=Sc d lt ⋯ t;have lo:∀j,j<m->(arrOf a)[j]?=(arrOf st)[j]?:=λj b=>by
  rw[←yI,←yI,d,yK,yB ⋯,wC b]
 have n:∀j,m+e.2.1+f.2.1<=j->(arrOf a)[j]?=(arrOf st)[j]?:=λj b=>by
  rw[←yI,←yI,d,zX (by rw[yA];omega),vQ];congr 1;rw[yA];omega
 refine h a ⟨k',G,?_,?_⟩ ps λj b=>n j ⋯
 ·refine Array.Perm.trans (Array.perm_iff_toList_perm.mpr ?_) c.m;have q:=(l.append_left ((arrOf st).toList.take m)).append_right ((arrOf st).toList.drop (m+e.2.1+f.2.1));rw[Iy ⋯]at q;rw[d];exact q
 ·rw[ps];refine Run.app.mpr ⟨m,r1.same λj _ b=>lo j b,k,(show 1<=e.2.1+f.2.1 by omega),?_,?_⟩
  ·show Up κ _ m (m+(e.2.1+f.2.1));rw[←rD];exact up
  ·show Run κ _ (m+(e.2.1+f.2.1)) _ _;rw[←rD];exact r2.same λj b _=>n j b
theorem Run.modify{a:Array Keyed}{f:Nat×Nat×Nat->Nat×Nat×Nat}(b:∀e,(f e).1=e.1/\(f e).2.1=e.2.1):∀{xs:List (Nat×Nat×Nat)}{i s e:Nat},Run κ a s xs e->Run κ a s (xs.modify i f) e
 |[],i,s,e,h=>by cases i <;> exact h
 |x:: xs,0,s,e,h=>by
  show(f x).1=s/\1<=(f x).2.1/\Up κ a s (s+(f x).2.1)/\Run κ a (s+(f x).2.1) xs e;rw[(b x).1,(b x).2];exact h
 |x:: xs,i+1,s,e,h=>⟨h.1,h.2.1,h.2.2.1,Run.modify b h.2.2.2⟩
theorem Sa{b:Prop}[Decidable b]{z:Nat}(h:¬ z<=1):(if b then z-2-1 else z-2)+1<z:=by split <;> omega
theorem Cb{p:Array (Nat×Nat×Nat)}{i:Nat}(h:i+1<p.size):∃xs e f ys,p.toList=xs++e:: f:: ys/\xs.length=i:=by
 have h':i+1<p.toList.length:=by rw[zL];exact h
 refine⟨p.toList.take i,p.toList[i],p.toList[i+1],p.toList.drop (i+2),?_,by rw[yG];omega⟩;rw[←vZ,←vZ,xU]
theorem Wt.push{a₀:Array Keyed}{lo n:Nat}{st:SortSt}(h:Wt κ kd a₀ lo st)(b:1<=n)(a:Up κ (arrOf st) lo (lo+n)):Wt κ kd a₀ (lo+n) (setPending st ((pendingOf st).push (lo,n,0))):=
 ⟨h.k,h.f,h.m,by
  show Run κ (arrOf st) 0 ((pendingOf st).push (lo,n,0)).toList (lo+n);rw[uZ];exact Run.app.mpr ⟨lo,h.r,rfl,b,a,rfl⟩⟩
theorem Tz(u:Cmp prog w A s κ kd){a₀:Array Keyed}(J:∀x∈a₀.toList,Gd κ x){st:SortSt}{Q:Unit->SortSt->Prop}(a1:kindOf st=kd)(Y:failedOf st=none)(a4:pendingOf st=#[])(T:arrOf st=a₀)
  (h:∀a,kindOf a=kd->failedOf a=none->(arrOf a).Perm a₀->Up κ (arrOf a) 0 a₀.size->Q () a):wpS (model prog w) A E s sortRuns' Q st:=by
 rw[sortRuns'_eq];refine zG (tH ?_);rw[T];dsimp only;have X:Wt κ kd a₀ 0 st:=⟨a1,Y,by rw[T],by rw[a4];rfl⟩;refine zG (wN (xH (I:=λx c a=>∃lo,c=(none,lo)/\x<=lo/\lo<=a₀.size/\Wt κ kd a₀ lo a)
  (Q:=λc a=>c=(none,a₀.size)/\Wt κ kd a₀ a₀.size a) ?step ?fin ⟨0,rfl,zE _,zY _,X⟩) ?post)
 case fin =>
  rintro c a ⟨lo,rfl,a3,R,g⟩;have:lo=a₀.size:=⋯
  subst this;exact⟨rfl,g⟩
 case step =>
  rintro x c a b4 b2 ⟨lo,rfl,a3,R,g⟩;dsimp only;refine mC (λz=>?_) λz=>?_
  ·have:lo=a₀.size:=⋯
   subst this;exact zI ⟨rfl,g⟩
  have b3:=g.z;refine zG (Sf u g.k (g.good J) ⋯ ⋯ λn V N b5 k P=>?_);dsimp only;have U:∀l,kindOf l=kindOf a->pendingOf l=pendingOf a->failedOf l=failedOf a->(arrOf l).Perm (arrOf a)->(∀i,i<lo->(arrOf l)[i]?=(arrOf a)[i]?)->Wt κ kd a₀ lo l:=λl e1 b0 Z a9 a5=>⟨e1.trans g.k,Z.trans g.f,a9.trans g.m,by rw[b0];exact g.r.same λi _ hi=>a5 i hi⟩;refine mC (λy=>?_) λy=>?_
  ·refine zG (qE (wG ⟨rfl,?_⟩));have b1:=k.z;refine zG (Sd u (k.k.trans g.k) (k.good (g.good J)) ⋯ N ⋯ P λl v t=>?_);rw[zD (by simp)];obtain⟨F,L,r,t⟩:Wt κ kd a₀ lo l/\1<=min (a₀.size-lo) (minRun' a₀.size a₀.size 0)/\lo+min (a₀.size-lo) (minRun' a₀.size a₀.size 0)<=a₀.size/\Up κ (arrOf l) lo (lo+min (a₀.size-lo) (minRun' a₀.size a₀.size 0)):=⟨U l (v.k.trans k.k) (v.p.trans k.p) (v.f.trans k.f) (v.m.trans k.m) λi hi=>(v.o i (.inl hi)).trans (k.o i (.inl hi)),⋯,⋯,t⟩
   revert L r t
   generalize min (a₀.size-lo) (minRun' a₀.size a₀.size 0)=n;intro L r t;refine zG (tH ?_);cases hb:(pendingOf l).back? with
   |none =>
    dsimp only;exact zG (wT (zI ⟨lo+n,rfl,⋯,r,F.push L t⟩))
   | some C =>
    obtain⟨G,k1,a8⟩:=C;dsimp only;generalize power' a₀.size (2*G+k1) (2*G+k1+k1+n) a₀.size=I;refine zG (wN (xH (I:=λx c a=>c=(none,())/\Wt κ kd a₀ lo a/\Up κ (arrOf a) lo (lo+n))
     (Q:=λc a=>c=(none,())/\Wt κ kd a₀ lo a/\Up κ (arrOf a) lo (lo+n)) ?istep1 (λc a hh=>hh) ⟨rfl,F,t⟩) ?ipost1)
    case istep1 =>
     rintro x c b _ _ ⟨rfl,d,m⟩;refine zG (tH ?_)
     by_cases D:(pendingOf b).size > 1
     ·rw[zF D];obtain⟨xs,e,f,ys,ep,p⟩:=Cb (p:=pendingOf b) (i:=(pendingOf b).size-2) ⋯;have S:(pendingOf b)[(pendingOf b).size-2]?=some e:=by
       rw[←yI,ep,zX ⋯,p,vN];rfl
      rw[S];dsimp only;refine mC (λ_=>zI ⟨rfl,d,m⟩) λ_=>?_;refine zG (Cc u J d R ep p.symm λW o M O=>?_);rw[zD (by simp)];exact zI ⟨rfl,o,m.same λi hi _=>O i hi⟩
     ·rw[zD D];exact zI ⟨rfl,d,m⟩
    case ipost1 =>
     rintro c b ⟨rfl,d,m⟩;dsimp only;refine zG (wT ?_);have o:Wt κ kd a₀ lo (setPending b ((pendingOf b).modify ((pendingOf b).size-1) λx=>(x.1,x.2.1,I))):=⟨d.k,d.f,d.m,by
      show Run κ (arrOf b) 0 ((pendingOf b).modify _ _).toList lo;rw[Array.toList_modify];exact Run.modify (f:=λx=>(x.1,x.2.1,I)) (λe=>⟨rfl,rfl⟩) d.r⟩
     exact zG (wT (zI ⟨lo+n,rfl,⋯,r,o.push L m⟩))
  ·have F:=U V k.k k.p k.f k.m λi hi=>k.o i (.inl hi);have r:lo+n<=a₀.size:=⋯
   refine zG (tH ?_);cases hb:(pendingOf V).back? with
   |none =>
    dsimp only;exact zG (wT (zI ⟨lo+n,rfl,⋯,r,F.push N P⟩))
   | some C =>
    obtain⟨G,k1,a8⟩:=C;dsimp only;generalize power' a₀.size (2*G+k1) (2*G+k1+k1+n) a₀.size=I;refine zG (wN (xH (I:=λx c a=>c=(none,())/\Wt κ kd a₀ lo a/\Up κ (arrOf a) lo (lo+n))
     (Q:=λc a=>c=(none,())/\Wt κ kd a₀ lo a/\Up κ (arrOf a) lo (lo+n)) ?istep (λc a hh=>hh) ⟨rfl,F,P⟩) ?ipost)
    case istep =>
     rintro x c b _ _ ⟨rfl,d,m⟩;refine zG (tH ?_)
     by_cases D:(pendingOf b).size > 1
     ·rw[zF D];obtain⟨xs,e,f,ys,ep,p⟩:=Cb (p:=pendingOf b) (i:=(pendingOf b).size-2) ⋯;have S:(pendingOf b)[(pendingOf b).size-2]?=some e:=by
       rw[←yI,ep,zX ⋯,p,vN];rfl
      rw[S];dsimp only;refine mC (λ_=>zI ⟨rfl,d,m⟩) λ_=>?_;refine zG (Cc u J d R ep p.symm λW o M O=>?_);rw[zD (by simp)];exact zI ⟨rfl,o,m.same λi hi _=>O i hi⟩
     ·rw[zD D];exact zI ⟨rfl,d,m⟩
    case ipost =>
     rintro c b ⟨rfl,d,m⟩;dsimp only;refine zG (wT ?_);have o:Wt κ kd a₀ lo (setPending b ((pendingOf b).modify ((pendingOf b).size-1) λx=>(x.1,x.2.1,I))):=⟨d.k,d.f,d.m,by
      show Run κ (arrOf b) 0 ((pendingOf b).modify _ _).toList lo;rw[Array.toList_modify];exact Run.modify (f:=λx=>(x.1,x.2.1,I)) (λe=>⟨rfl,rfl⟩) d.r⟩
     exact zG (wT (zI ⟨lo+n,rfl,⋯,r,o.push N m⟩))
 case post =>
  rintro c a ⟨rfl,g⟩;dsimp only;have a7:=g.r.le;rw[zL]at a7;refine zG (wN (xH (I:=λx c a=>c=(none,())/\Wt κ kd a₀ a₀.size a/\((pendingOf a).size<=1\/(pendingOf a).size+x<=a₀.size))
   (Q:=λc a=>c=(none,())/\Wt κ kd a₀ a₀.size a/\(pendingOf a).size<=1) ?fstep ?ffin ⟨rfl,g,.inr ⋯⟩) ?fpost)
  case ffin =>
   rintro c b ⟨rfl,d,K⟩;exact⟨rfl,d,⋯⟩
  case fstep =>
   rintro x c b _ _ ⟨rfl,d,K⟩;refine zG (tH ?_);refine mC (λq=>zI ⟨rfl,d,q⟩) λq=>?_;generalize hi:(if Option.any (λx=>decide (x<(pendingOf b)[(pendingOf b).size-2+1]?.elim 0 λx=>x.2.1)) (if(pendingOf b).size-2 > 0 then Option.map (λx=>x.2.1) (pendingOf b)[(pendingOf b).size-2-1]? else none)=true then(pendingOf b).size-2-1 else(pendingOf b).size-2)=i;have hi':i+1<(pendingOf b).size:=by
    rw[←hi];exact Sa q
   obtain⟨xs,e,f,ys,ep,p⟩:=Cb hi';refine zG (Cc u J d (zE _) ep p.symm λW o M _=>?_);rw[zD (by simp)];refine zI ⟨rfl,o,.inr ?_⟩;have a6:=wZ List.length ep;have a0:=wZ List.length M;simp only[Array.length_toList,List.length_append,List.length_cons]at a6 a0;omega
  case fpost =>
   rintro c b ⟨rfl,d,K⟩;refine zI (h b d.k d.f d.m ?_);have hr:=d.r;rw[←zL]at K
   match hl:(pendingOf b).toList,hr,K with
   |[],hr,_ =>
    have:0=a₀.size:=hr;rw[←this];exactλi j x y _ _ a2=>absurd a2 (pS _)
   |[C],hr,_ =>
    have:0+C.2.1=a₀.size:=hr.2.2.2;rw[←this];exact hr.2.2.1
end
def gX(prog:Program)(w:World)(n:Nat):Prop:=∀{A:Around}{E:VP}{s:Shared}{κ:PyProof.Rows.KeyKind}{kd:SortKind}{a₀:Array Keyed}{st:SortSt}{Q:Unit->SortSt->Prop},a₀.size=n->2<=n->Cmp prog w A s κ kd->(∀x∈a₀.toList,Gd κ x)->kindOf st=kd->failedOf st=none->pendingOf st=#[]->arrOf st=a₀ ->
 (∀st',kindOf st'=kd->failedOf st'=none->(arrOf st').Perm a₀->Up κ (arrOf st') 0 a₀.size->Q () st')->wpS (model prog w) A E s sortRuns' Q st
section
variable {prog:Program} {w:World}
theorem Ty(n:Nat):gX prog w n:=λ_ _ b d c f a e h=>Tz b d c f a e h
end
mutual
def fl:PyData->LI'
 |.int i=>[i]
 |.tuple xs=>flA xs
 |_=>[]
def flA:List PyData->LI'
 |[]=>[]
 |d:: ds=>fl d++flA ds
end
mutual
def sm:PyData->PyData->Bool
 |.int _,.int _=>true
 |.tuple xs,.tuple ys=>smA xs ys
 |_,_=>false
def smA:List PyData->List PyData->Bool
 |[],[]=>true
 |x:: xs,y:: ys=>sm x y && smA xs ys
 |_,_=>false
end
mutual
theorem fS:∀(x y:PyData),sm x y=true->(fl x).length=(fl y).length
 |.int _,y,h=>by cases y <;> simp[sm]at h <;> simp[fl]
 |.tuple xs,y,h=>by cases y <;> simp[sm]at h <;> simp[fl];exact Iu _ _ h
 |.none,y,h=>by simp[sm]at h
 |.bool _,y,h=>by simp[sm]at h
 |.str _,y,h=>by simp[sm]at h
 |.list _,y,h=>by simp[sm]at h
 |.dict _,y,h=>by simp[sm]at h
theorem Iu:∀(xs ys:List PyData),smA xs ys=true->(flA xs).length=(flA ys).length
 |[],ys,h=>by cases ys <;> simp[smA]at h <;> rfl
 |x:: xs,ys,h=>by
  cases ys <;> simp[smA]at h;simp only[flA,List.length_append];rw[fS _ _ h.1,Iu _ _ h.2]
end
mutual
theorem fT:∀(x y:PyData),sm x y=true->fl x=fl y->x=y
 |.int _,y,h,e=>by cases y <;> simp[sm]at h;simp[fl]at e;rw[e]
 |.tuple xs,y,h,e=>by cases y <;> simp[sm]at h;simp only[fl]at e;rw[Ir _ _ h e]
 |.none,y,h,e=>by simp[sm]at h
 |.bool _,y,h,e=>by simp[sm]at h
 |.str _,y,h,e=>by simp[sm]at h
 |.list _,y,h,e=>by simp[sm]at h
 |.dict _,y,h,e=>by simp[sm]at h
theorem Ir:∀(xs ys:List PyData),smA xs ys=true->flA xs=flA ys->xs=ys
 |[],ys,h,e=>by cases ys <;> simp[smA]at h;rfl
 |x:: xs,ys,h,e=>by
  cases ys <;> simp[smA]at h;simp only[flA]at e;obtain⟨e1,a⟩:=List.append_inj e (fS _ _ h.1);rw[fT _ _ h.1 e1,Ir _ _ h.2 a]
end
def lx(a b:LI'):Bool:=decide (a<b)
theorem dH:∀(a l1 l2:LI'),lx (a++l1) (a++l2)=lx l1 l2
 |[],_,_=>rfl
 |x:: a,l1,l2=>by
  rw[←dH a l1 l2]
  refine decide_eq_decide.mpr ?_
  simp[List.cons_lt_cons_iff]
theorem dI:∀(a b l1 l2:LI'),a.length=b.length->a≠b->lx (a++l1) (b++l2)=lx a b
 |[],[],_,_,_,h=>absurd rfl h
 |[],_:: _,_,_,h,_=>by simp at h
 |_:: _,[],_,_,h,_=>by simp at h
 |x:: a,y:: b,l1,l2,h,c=>by
  refine decide_eq_decide.mpr ?_
  simp only[List.cons_append,List.cons_lt_cons_iff]
  by_cases e:x=y
  ·subst e;have:=decide_eq_decide.mp (dI a b l1 l2 (by simpa using h) (by simpa using c));rw[this]
  ·simp[e]
section
variable {prog:Program} {w:World} {E:VP}
theorem eqT{n:Nat}(g:n<=4){A:Around}{s:Shared}{v u:Value}{x y:PyData}{as bs:LA}{Q:Bool->Shared->Prop}(d:tT n x=true)(c:tT n y=true)(r1:Reads s.heap v x as)(r2:Reads s.heap u y bs)(f:A.units+8<cLine)(h:Q (decide (x=y)) s):wpAny (model prog w) A (eqBool v u) Q E s:=by
 have b:=gF n _ d;have a:=gF n _ c;have l1:=gC n _ b;have l2:=gC n _ a;refine PySem.SeqAt.eqBoolOverData _ _ _ _ _ _ _ _ _ _ _ _ r1 r2 l1.1 l2.1 ⋯ ?_;rw[←SeqAt.same_eq_eqv _ _ (aD n _ _ b a)];have e:=aE n _ _ b a
 by_cases z:x=y
 ·rw[zM z]at h;rw[e.mpr z];exact h
 ·rw[zJ z]at h;have:same x y=false:=by
   cases q:same x y with
   |false=>rfl
   |true=>exact absurd (e.mp q) z
  rw[this];exact h
theorem ltT:∀(n:Nat),n<=4->∀{A:Around}{s:Shared}{v u:Value}{x y:PyData}{as bs:LA}{Q:VP},tT n x=true->tT n y=true->sm x y=true->Reads s.heap v x as->Reads s.heap u y bs->A.units+8+n<cLine->Q (.bool (lx (fl x) (fl y))) s->wpAny (model prog w) A (richCompare .Lt v u) Q E s:=by
 intro n
 induction n with
 |zero =>
  intro a6 A s v u x y as bs Q C z D r1 r2 W h;cases r1 <;> simp[tT]at C;cases r2 <;> simp[tT]at z;refine wpAny_lt_int ?_;simpa [fl,lx,wA]using h
 | succ n a1 =>
  intro a6 A s v u x y as bs Q C z D r1 r2 W h;cases r1 <;> simp only[tT,Bool.false_eq_true]at C
  case int =>
   cases r2 <;> simp only[sm,Bool.false_eq_true]at D;refine wpAny_lt_int ?_;simpa [fl,lx,wA]using h
  case tuple a o vs m xs hg hc hd hr =>
   cases r2 <;> simp only[sm,Bool.false_eq_true]at D;rename_i b V us b6 ys N R Z a5;simp only[tT]at z;have M:s.TypeIs (.ref a) "tuple" := ⟨o,hg,hc⟩;have O:s.TypeIs (.ref b) "tuple" := ⟨V,N,R⟩;refine wpAny_richCompare_same_room (op:=.Lt) M O PySem.F.slot_tuple_lt (xE PySem.F.slot_tuple_lt M PySem.F.entry_tuple_lt ?_ (PySem.F.args_tuple_lt_2 _ _)) ⋯;show wpAny _ _ (isInstance (.ref b) (.type "tuple") >>= _) _ _ s;refine zA (vM O rJ ?_);simp only[Bool.not_true,Bool.false_eq_true,if_false];refine zA (uR hg hd ?_);refine zA (uR N Z ?_);refine zA ?_;refine pM _
    (λrest r i=>r.1=none/\i=s/\∃f d k t J K,rest=List.zip k t/\ReadsAll s.heap k f J/\ReadsAll s.heap t d K/\f.all (tT n)=true/\d.all (tT n)=true/\smA f d=true/\lx (flA f) (flA d)=lx (flA xs) (flA ys)/\(k.length+us.size=t.length+vs.size))
    _ ?_ ?_ _ _ ⟨rfl,rfl,xs,ys,vs.toList,us.toList,_,_,rfl,hr,a5,C,z,D,rfl,by simp;omega⟩
   ·rintro⟨p,q⟩ rest r i ⟨L,rfl,f,d,k,t,J,K,l,I,F,j,tb,c,g,G⟩;cases I with
    |nil=>simp at l
    | @cons b3 a7 d' U b0 a9 r1 Y =>
     cases F with
     |nil=>simp[smA]at c
     |@cons b5 T P a8 b1 b4 r2 S =>
      simp only[List.zip_cons_cons,List.cons.injEq,Prod.mk.injEq]at l;obtain⟨⟨rfl,rfl⟩,rfl⟩:=l;rw[yV,zN]at j tb;simp only[smA,Bool.and_eq_true]at c;refine zA (eqT (n:=n) ⋯ j.1 tb.1 r1 r2 (by show A.units+1+8<cLine;omega) ?_)
      by_cases e:d'=P
      ·subst e;rw[zM rfl];simp only[Bool.not_true,Bool.false_eq_true,if_false];refine zB ⟨rfl,rfl,U,a8,a7,T,_,_,rfl,Y,S,j.2,tb.2,c.2,?_,by simp at G;omega⟩;rw[←g];simp only[flA];rw[dH]
      ·rw[zJ e];simp only[Bool.not_false,if_true];have a4:fl d'≠fl P:=λq=>e (fT _ _ c.1 q);simp only[flA]at g;rw[dI _ _ _ _ (fS _ _ c.1) a4]at g;refine zA (wG ?_);refine zA (a1 ⋯ j.1 tb.1 c.1 r1 r2 (by show A.units+1+8+n<cLine;omega) ?_);rw[g];exact zA (zB (zB (zB ⟨_,rfl,(λe=>nomatch e),h⟩)))
   ·rintro⟨r1,r2⟩ i ⟨L,rfl,f,d,k,t,J,K,l,I,F,j,tb,c,g,G⟩;simp only at L;subst L;cases I with
    |cons b2 b7 =>
     cases F with
     |nil=>simp[smA]at c
     |cons a0 a2=>simp at l
    | nil =>
     cases F with
     |cons a0 a2=>simp[smA]at c
     |nil =>
      have a3:vs.size=us.size:=by simp at G;omega
      have X:lx (flA xs) (flA ys)=false:=by rw[←g];simp[flA,lx]
      refine zB ⟨_,rfl,(λe=>nomatch e),?_⟩;show Q (.bool (decide (vs.size<us.size))) i;have h':Q (.bool (lx (flA xs) (flA ys))) i:=h;rw[X]at h';rw[a3,zJ (yZ _)];exact h'
end
mutual
theorem Ca:∀(d x y:PyData),sm d x=true->sm d y=true->sm x y=true
 |.int _,x,y,a,b=>by cases x <;> simp[sm]at a;cases y <;> simp[sm]at b;simp[sm]
 |.tuple xs,x,y,a,b=>by cases x <;> simp[sm]at a;cases y <;> simp[sm]at b;simp only[sm];exact Iq _ _ _ a b
 |.none,x,y,a,b=>by simp[sm]at a
 |.bool _,x,y,a,b=>by simp[sm]at a
 |.str _,x,y,a,b=>by simp[sm]at a
 |.list _,x,y,a,b=>by simp[sm]at a
 |.dict _,x,y,a,b=>by simp[sm]at a
theorem Iq:∀(d x y:List PyData),smA d x=true->smA d y=true->smA x y=true
 |[],x,y,a,b=>by cases x <;> simp[smA]at a;cases y <;> simp[smA]at b;simp[smA]
 |d:: ds,x,y,a,b=>by
  cases x <;> simp[smA]at a;cases y <;> simp[smA]at b;simp only[smA,Bool.and_eq_true];exact⟨Ca _ _ _ a.1 b.1,Iq _ _ _ a.2 b.2⟩
end
theorem Tx(a:LI'):lx a a=false:=zJ (List.lt_irrefl a)
theorem Tw(a b c:LI')(d:lx a b=true)(e:lx b c=true):lx a c=true:=zM (List.lt_trans (xT d) (xT e))
theorem Ip(a b:LI')(c:lx a b=false)(d:lx b a=false):a=b:=List.le_antisymm (nB.mp (sF d)) (nB.mp (sF c))
theorem Tv(a b c:LI')(h:lx a c=true):lx a b=true\/lx b c=true:=by
 cases h1:lx a b with
 |true=>exact .inl rfl
 | false =>
  refine .inr ?_;cases h2:lx b c with
  |true=>rfl
  |false =>
   have e1:b<=a:=nB.mp (sF h1);have d:c<=b:=nB.mp (sF h2);exact absurd (xT h) (nB.mpr (List.le_trans d e1))
open Classical in
def keyT(h:Heap)(d0:PyData)(v:Value):Option (LI'):=if q:∃d,tT 4 d=true/\sm d0 d=true/\∃as,Reads h v d as then some (fl q.choose) else none
theorem aT{h:Heap}{d0 d:PyData}{v:Value}{as:LA}(b:tT 4 d=true)(z:sm d0 d=true)(r:Reads h v d as):keyT h d0 v=some (fl d):=by
 have q:∃d,tT 4 d=true/\sm d0 d=true/\∃as,Reads h v d as:=⟨d,b,z,as,r⟩;unfold keyT;rw[dif_pos q];obtain⟨t',e,c,a⟩:=q.choose_spec;rw[PySem.SeqAt.Reads.unique _ _ _ _ _ (gC 4 _ (gF 4 _ t')).1 a r]
theorem aU{h:Heap}{d0:PyData}{v:Value}{a:LI'}(e:keyT h d0 v=some a):∃d as,tT 4 d=true/\sm d0 d=true/\Reads h v d as/\a=fl d:=by
 unfold keyT at e
 by_cases q:∃d,tT 4 d=true/\sm d0 d=true/\∃as,Reads h v d as
 ·rw[dif_pos q]at e;obtain⟨t',f,b,c⟩:=q.choose_spec;exact⟨_,b,t',f,c,by cases e;rfl⟩
 ·rw[dif_neg q]at e;cases e
def iA(h:Heap)(d0:PyData):PyProof.Rows.KeyKind where
 α:=LI'
 blt:=lx
 irrefl:=Tx
 trans:=Tw
 negTrans:=Tv
 total:=Ip
 keyOf:=keyT h d0
 dflt:=[]
section
variable {prog:Program} {w:World} {A:Around} {s:Shared}
theorem katT(o:A.units+16<cLine){Q:Bool->Shared->Prop}:∀(c a:List PyData)(j g:LW)(k m:LA)(i:Nat),ReadsAll s.heap j c k->ReadsAll s.heap g a m->c.all (tT 3)=true->a.all (tT 3)=true->smA c a=true->Q (lx (flA c) (flA a)) s->PySem.W.KatLex prog w A false false Q (j.zip g) i s
 | [],a,j,g,k,m,i,l,n,_,_,b,h=>by
  cases l;cases a with
  |cons _ _=>simp[smA]at b
  |nil =>
   cases n;refine PySem.W.kat_nil ?_;simpa [flA,lx]using h
 | d :: c,a,j,g,k,m,i,l,n,f,tb,b,h=>by
  cases a with
  |nil=>simp[smA]at b
  | cons e a =>
   cases l with
   | cons r1 p =>
    cases n with
    |cons r2 r =>
     rw[yV,zN]at f tb;simp only[smA,Bool.and_eq_true]at b;rw[vO];refine pJ (eqT (n:=3) ⋯ f.1 tb.1 r1 r2 ⋯ ?_);simp only[flA]at h
     by_cases z:d=e
     ·subst z;rw[zM rfl];rw[dH]at h;exact pR (katT o c a _ _ _ _ (i+1) p r f.2 tb.2 b.2 h)
     ·rw[zJ z];rw[dI _ _ _ _ (fS _ _ b.1) λq=>z (fT _ _ b.1 q)]at h;refine oE ?_;show wpAny (model prog w) A (oneLt' false _ _) Q _ s;exact PySem.W.kat_one _ _ (ltT 3 ⋯ f.1 tb.1 b.1 r1 r2 ⋯ h)
theorem cmpT(p:A.units+16<cLine){d0:PyData}(c:∃l,d0=.tuple l):Cmp prog w A s (iA s.heap d0) (tuples' false):=by
 intro E x y a b Q u q h;obtain⟨l,rfl⟩:=c;obtain⟨d,as,k,j,r1,rfl⟩:=aU u;obtain⟨e,bs,g,n,r2,rfl⟩:=aU q;have z:=Ca _ _ _ j n;cases r1 <;> simp only[sm,Bool.false_eq_true]at j
 case tuple a o vs m xs hg hc c hr =>
  cases r2 <;> simp only[sm,Bool.false_eq_true]at n;rename_i b G us F ys t D C i;simp only[tT]at k g;simp only[sm]at z;have hl:vs.size=us.size:=by
   have e1:∀{h:Heap}{vs:LW}{xs:List PyData}{as:LA},ReadsAll h vs xs as->vs.length=xs.length:=by
    intro h vs xs as r
    induction xs generalizing vs as with
    |nil=>cases r;rfl
    |cons x xs f=>cases r with|cons r1 r2=>simp[f r2]
   have v:∀{xs ys:List PyData},smA xs ys=true->xs.length=ys.length:=by
    intro xs
    induction xs with
    |nil=>intro ys h;cases ys <;> simp[smA]at h;rfl
    |cons x xs f=>intro ys h;cases ys <;> simp[smA]at h;simp[f h.2]
   have:=e1 hr;have:=e1 i;have:=v z;simp only[Array.length_toList]at*
   omega
  refine PySem.W.kat_lt hg c t C ?_;rw[zJ ⋯];exact katT p xs ys _ _ _ _ 0 hr i k g z h
end
theorem Dz{h h':Heap}(e:∀b o,h.get? b=some o->o.cls=.type "tuple" -> h'.get? b=some o):∀(n:Nat){v:Value}{d:PyData}{as:LA},tT n d=true->Reads h v d as->Reads h' v d as:=by
 intro n
 induction n with
 |zero =>
  intro v d as c r;cases r <;> simp[tT]at c;exact .int _ _
 | succ n f =>
  have all:∀(xs:List PyData)(vs:LW)(as:LA),xs.all (tT n)=true->ReadsAll h vs xs as->ReadsAll h' vs xs as:=by
   intro xs
   induction xs with
   |nil=>intro vs as _ r;cases r;exact .nil
   | cons d ds g =>
    intro vs as c r;cases r with
    |cons r1 r2 =>
     rw[yV,zN]at c;exact .cons (f c.1 r1) (g _ _ c.2 r2)
  intro v d as c r;cases r <;> simp only[tT,Bool.false_eq_true]at c
  case int=>exact .int _ _
  case tuple a o vs k xs hg hc hdd hr=>exact .tuple (e _ _ hg hc) hc hdd (all _ _ _ c hr)
theorem Paired.perm{f g:Type}{F:f->g->Prop}{ys i:List g}(p:ys.Perm i):∀{xs:List f},Paired F xs ys->∃e,e.Perm xs/\Paired F e i:=by
 induction p with
 |nil=>intro xs h;exact⟨xs,List.Perm.refl _,h⟩
 | cons x p q =>
  intro xs h;cases h with
  |@cons a b l1 l2 c d =>
   obtain⟨e,n,h'⟩:=q d;exact⟨a:: e,n.cons _,.cons c h'⟩
 | swap x y l =>
  intro xs h;cases h with
  |@cons a b l1 l2 c d =>
   cases d with
   |@cons j I t D w v=>exact⟨j:: a:: t,List.Perm.swap ..,.cons w (.cons c v)⟩
 |trans G z o m =>
  intro xs h;obtain⟨C,r,c⟩:=o h;obtain⟨u,k,d⟩:=m c;exact⟨u,k.trans r,d⟩
theorem Paired.mem{b c:Type}{F:b->c->Prop}{xs:List b}{ys:List c}(h:Paired F xs ys):∀x∈xs,∃y∈ys,F x y:=by
 induction h with
 |nil=>intro x a;cases a
 |cons f i g =>
  intro x a;rcases xL.mp a with e|a
  ·subst e;exact⟨_,.head _,f⟩
  ·obtain⟨y,d,q⟩:=g x a;exact⟨y,.tail _ d,q⟩
theorem ord_of{κ:PyProof.Rows.KeyKind}{a:Type}{F:a->Value->Prop}{k:a->κ.α}(d:∀p v,F p v->κ.keyOf v=some (k p)):∀(L:List Keyed)(ps:List a),(∀e∈L,e.1=e.2)->L.Pairwise (le' κ)->Paired F ps (L.map (·.2))->ps.Pairwise λp q=>κ.blt (k q) (k p)=false
 |[],ps,_,_,h=>by cases h;exact .nil
 | e:: L,ps,c,f,h=>by
  cases h with
  |@cons p b l1 l2 r i =>
   rw[List.pairwise_cons]at f;refine .cons (λq o=>?_) (ord_of d L l1 (λx t=>c x (.tail _ t)) f.2 i);obtain⟨v,n,m⟩:=Paired.mem i q o;obtain⟨y,g,rfl⟩:=oZ.mp n;have l:=f.1 y g;have k1:ky κ e=k p:=by unfold ky;rw[c e (.head _),d _ _ r];rfl
   have k2:ky κ y=k q:=by unfold ky;rw[c y (.tail _ g),d _ _ m];rfl
   have j:κ.blt (ky κ y) (ky κ e)=false:=l;rw[k1,k2]at j;exact j
structure TV(K:Frag)(H:Hp)(d0:PyData)(p:V×PyData)(v:Value):Prop where
 r:RelV p.1 v
 t:tT 4 p.2=true
 z:sm d0 p.2=true
 d:Dt K H p.1 p.2
theorem TV.vals{K:Frag}{H:Hp}{d0:PyData}{ps:List (V×PyData)}{vs:LW}(h:Paired (TV K H d0) ps vs):Vals (ps.map (·.1)) vs:=by
 induction h with
 |nil=>exact .nil
 |cons a _ b=>exact .cons a.r b
theorem Io{K:Frag}{H:Hp}{d0:PyData}:∀{ps:List (V×PyData)}{vs:LW},Vals (ps.map (·.1)) vs->(∀p∈ps,tT 4 p.2=true/\sm d0 p.2=true/\Dt K H p.1 p.2)->Paired (TV K H d0) ps vs
 |[],vs,h,_=>by cases h;exact .nil
 |p:: ps,vs,h,q=>by
  cases h with
  |cons a c=>exact .cons ⟨a,(q p (.head _)).1,(q p (.head _)).2.1,(q p (.head _)).2.2⟩ (Io c λx b=>q x (.tail _ b))
theorem cT:∀{vs:LW}{e:Keyed},e∈vs.zip vs->e.1=e.2
 |[],e,h=>by cases h
 |v:: vs,e,h=>by
  rw[vO]at h;rcases xL.mp h with h|h
  ·rw[h]
  ·exact cT h
theorem mU{a b:Type}{F:a->b->Prop}{xs:List a}{ys:List b}(h:Paired F xs ys):xs.length=ys.length:=by
 induction h with
 |nil=>rfl
 |cons _ _ c=>simp[c]
theorem aV{b c:Type}{F:b->c->Prop}{xs:List b}{ys:List c}(h:Paired F xs ys):∀y∈ys,∃x∈xs,F x y:=by
 induction h with
 |nil=>intro x a;cases a
 |cons f i g =>
  intro x a;rcases xL.mp a with e|a
  ·subst e;exact⟨_,.head _,f⟩
  ·obtain⟨y,d,q⟩:=g x a;exact⟨y,.tail _ d,q⟩
theorem Im{l:List Keyed}{n:Nat}(h:l.length=n):seg l 0 n=l:=by
 unfold seg;rw[oG,Nat.sub_zero,yJ ⋯]
section
variable {X:Cx} {pins:PN} {σ:St} {H:Hp} {s:Shared} {a:Addr} {A:Around} {E:VP} {vs:LW} {ps:List (V×PyData)} {n0:Nat} {R:VP} {d0:PyData} {l0 l1:List PyData}
theorem Tu(b9:gX X.prog X.w vs.length)(b3:A.units+16<cLine)(I:Inv X pins σ H s)(c7:FpOk X pins H a)(D:s.heap.get? a=some (seqObj "list" vs.toArray n0))(U:vs.length<=sizeLine)(a1:d0=.tuple (.tuple l1:: l0))(C:Paired (TV X.K H d0) ps vs)
  (h:∀(n:List (V×PyData)) H' F,Inv X pins σ H' F->Same H H'->H' a=some (.lst (n.map (·.1)))->n.Perm ps->n.Pairwise (λp q=>lx (fl q.2) (fl p.2)=false)->R .none F):
  wpAny (model X.prog X.w) A (Builtin.«list.sort» ⟨[.ref a],[]⟩) (λM F=>∃v,M=.done (.ret v)/\R v F) E s:=by
 obtain⟨O,S,c9,Z,a0,a3⟩:=c7;rw[list_sort_plain];have d1:a<s.heap.objs.size:=zK D;refine zA (listItems_at D rfl ?_);refine zA (tR D rfl ?_ (by rw[zV];exact U) (zY _));obtain⟨e1,a2⟩:∃e1,(s.heap.update a (Obj.mapSeq λ_=>(#[]:Array Value))).get? a=some (seqObj "list" #[] e1):=⟨_,rT D (λ_=>#[])⟩;have c1:=xY s.heap a (Obj.mapSeq λ_=>(#[]:Array Value));have c3:Inv X pins σ H {s with heap:=s.heap.update a (Obj.mapSeq λ_=>(#[]:Array Value)),toks:=s.toks}:=I.turned (λb o j q=>(c1.2 b j).trans q) O S Z a0 a3;refine zA (rC a2 rfl ?_);refine zA (qD ?_ U);refine zA (qQ ?_ (zY _));refine yN ?_;have J:(((s.heap.update a (Obj.mapSeq λ_=>(#[]:Array Value))).push (seqObj "tuple" vs.toArray 0)).push (seqObj "list" #[] 0)).get? a=some (seqObj "list" #[] e1):=zC _ (zC _ a2);have w:Inv X pins σ H {s with heap:=((s.heap.update a (Obj.mapSeq λ_=>(#[]:Array Value))).push (seqObj "tuple" vs.toArray 0)).push (seqObj "list" #[] 0),toks:=s.toks}:=c3.kept λb o q=>zC _ (zC _ q);show wpAny (model X.prog X.w) A _ _ E {s with heap:=((s.heap.update a (Obj.mapSeq λ_=>(#[]:Array Value))).push (seqObj "tuple" vs.toArray 0)).push (seqObj "list" #[] 0),toks:=s.toks};generalize ((s.heap.update a (Obj.mapSeq λ_=>(#[]:Array Value))).push (seqObj "tuple" vs.toArray 0)).push (seqObj "list" #[] 0)=f at*
 dsimp only;have M:∀d:SortSt,(arrOf d).Perm (pairsOf vs)->Srt (iA f d0) (arrOf d).toList->R .none {s with heap:=f.update a (Obj.mapSeq λ_=>(arrOf d).map (·.2))}:=by
  intro d K a9;have pl:(arrOf d).toList.Perm (vs.zip vs):=by rw[←tI];exact Array.perm_iff_toList_perm.mp K
  have T:∀e∈(arrOf d).toList,e.1=e.2:=λe T=>cT (pl.mem_iff.mp T);have c6:vs.Perm ((arrOf d).toList.map (·.2)):=by
   have:=(pl.map (·.2)).symm;rw[List.map_snd_zip (zE _)]at this;exact this
  obtain⟨n,a4,a5⟩:=Paired.perm c6 C;have b5:∀p v,TV X.K H d0 p v->(iA f d0).keyOf v=some (fl p.2):=λp v i=>by
   obtain⟨as,r⟩:=i.d.reads w i.r;exact aT i.t i.z r
  have c8:=ord_of (κ:=iA f d0) (k:=λp:V×PyData=>fl p.2) b5 _ n T a9 a5;have b1:((arrOf d).map (·.2)).toList=(arrOf d).toList.map (·.2):=Array.toList_map ..;generalize (arrOf d).map (·.2)=out at*
  have L:=xY f a (Obj.mapSeq λ_=>out);obtain⟨P,N⟩:∃P,(f.update a (Obj.mapSeq λ_=>out)).get? a=some (seqObj "list" (out) P):=⟨_,rT J λ_=>out⟩;generalize f.update a (Obj.mapSeq λ_=>out)=c5 at*
  refine h n (upd H a (.lst (n.map (·.1)))) _ ?_ ?_ nN a4 c8
  ·have y:∀b u,H b=some u->b≠a:=λb u e z=>by rw[z,O]at e;cases e
   refine Inv.step (s:={s with heap:=f,toks:=s.toks}) (h':=c5) (H':=upd H a (.lst (n.map (·.1)))) (I:=w) (g':=s.gens) (d':=s.drawn) (t':=s.toks) (ch:=[a]) (λb j=>?_) (λb o _ _ g e _=>(L.2 b (λz=>g (by simp[z]))).trans e) (λb o _ _ g e _=>⟨o.slots,(L.2 b (λz=>g (by simp[z]))).trans e⟩)
    (λb o g e q=>by rw[nO (λz=>g (by simp[z]))];exact q) (λb o g e=>⟨o,(L.2 b (λz=>g (by simp[z]))).trans e⟩) (λb xs e=>by rw[nO (y _ _ e)];exact e) (λb o u e=>by rw[nO (y _ _ e)];exact e)
    (λb ps e=>⟨#[],by rw[nO (y _ _ e),e];simp⟩) (λm Y=>?_) (λb u e=>?_) w.bare
   ·have e:b=a:=by simpa using j
    subst e;exact⟨Z,S,a0,a3⟩
   ·obtain⟨o,es,ep,D,r⟩:=Y;exact⟨o,es,ep,(L.2 _ (zT S)).trans D,r⟩
   ·by_cases j:b=a
    ·subst j;rw[nN]at e;cases e;refine⟨?_,(arrOf d).toList.map (·.2),P,TV.vals a5,by rw[N,←b1]⟩;rw[yM,a4.length_eq,mU C];exact U
    ·rw[nO j]at e;refine(w.hok b u e).stay (λc v g q=>(L.2 c ?_).trans q) (λc q=>by rw[nO (y _ _ q)];exact q) λc xs q=>by rw[nO (y _ _ q)];exact q
     rcases g with z|z
     ·rw[z];exact j
     ·exact y c _ z
  ·intro b u q;rw[nO (λz=>by rw[z,O]at q;cases q)];exact q
 have hsz:vs.toArray.size=vs.length:=by simp
 by_cases t:vs.toArray.size<2
 ·rw[zF t,zF t];refine zA (zB ?_);rw[StateT.run_pure];refine zA (zB ?_);dsimp only;refine zA (rC J rfl ?_);refine zA (tR J rfl ?_ (zY _) (by rw[qF];show(pairsOf vs).size<=_;rw[sN];omega));simp only[bne_self_eq_false,Bool.false_eq_true,if_false];refine zB ⟨_,rfl,M (SortSt.mk' general' (vs.toArray.zip vs.toArray) #[] 7 none) (oA _) ?_⟩;show Srt _ (pairsOf vs).toList;rw[tI]
  match vs,hsz,t with
  |[],_,_=>exact .nil
  |[_],_,_=>exact .cons (λ_ h=>nomatch h) .nil
  |_:: _:: _,_,t=>simp at t;omega
 ·rw [zD t,zD t];have b4:∀{ps:List (V×PyData)}{vs:LW},Paired (TV X.K H d0) ps vs->∃fs,PySem.W.KatTups f vs fs/\fs.length=vs.length/\∀v∈fs,∃b o,v=.ref b/\f.get? b=some o/\o.cls=.type "tuple" := by
   intro ps vs C
   induction C with
   |nil=>exact⟨[],PySem.W.KatTups.nil,rfl,λ_ h=>nomatch h⟩
   | @cons p v ps vs i _ b7 =>
    obtain⟨fs,k,l,b6⟩:=b7;obtain⟨as,r⟩:=i.d.reads w i.r;have z:=i.z;rw[a1]at z;generalize p.2=dd at*
    cases r <;> simp only[sm,Bool.false_eq_true]at z
    case tuple b o us m xs hg g hd hr =>
     cases xs with
     |nil=>simp[smA]at z
     | cons x xs =>
      simp only[smA,Bool.and_eq_true]at z;cases hr0:us.toList with
      |nil=>rw[hr0]at hr;cases hr
      | cons u d2 =>
       rw[hr0]at hr;cases hr with
       | cons r1 r2 =>
        have a8:=z.1;cases r1 <;> simp only[sm,Bool.false_eq_true]at a8
        case tuple b2 o2 us2 m2 xs2 hg2 N hd2 hr2 =>
         refine⟨.ref b2:: fs,PySem.W.KatTups.cons hg g hd ?_ k,by simp[l],λv G=>?_⟩
         ·rw[←yI,hr0];rfl
         ·rcases xL.mp G with e|G
          ·exact⟨b2,o2,e,hg2,N⟩
          ·exact b6 v G
  obtain⟨fs,c2,d3,c4⟩:=b4 C;refine zA (PySem.W.kat_kind (s:={s with heap:=f,toks:=s.toks}) (T:=.type "tuple") c2 ⋯ (λv G=>?_) rfl ?_)
  ·obtain⟨b,o,rfl,j,g⟩:=c4 v G;exactλA Q E s k q=>uH (T:= "tuple") ⟨o,k _ _ j,g⟩ q
  have c0:(Value.type "tuple" != Value.type "tuple")=false:=∅
  rw[c0];refine zA (yQ (b9 (κ:=iA f d0) (kd:=tuples' false) (a₀:=pairsOf vs) (st:=SortSt.mk' (tuples' false) (vs.toArray.zip vs.toArray) #[] 7 none)
   (Q:=λ_ d=>(arrOf d).Perm (pairsOf vs)/\failedOf d=none/\Up (iA f d0) (arrOf d) 0 (pairsOf vs).size) (sN _) ⋯ (cmpT (s:={s with heap:=f,toks:=s.toks}) b3 ⟨_,a1⟩) (λx W=>?_) rfl rfl rfl rfl λd _ a6 a7 b8=>⟨a7,a6,b8⟩) ?_ λ_ _ e=>e)
  ·rw[tI]at W;have e:=cT W;have Y:x.2∈vs:=(uT (a:=x.1) (b:=x.2) W).2;obtain⟨p,_,i⟩:=aV C x.2 Y;obtain⟨as,r⟩:=i.d.reads w i.r;exact⟨fl p.2,by rw[e];exact aT i.t i.z r⟩
  rintro⟨⟨⟩,d⟩ F ⟨rfl,K,b0,up⟩;dsimp only;refine zA (rC J rfl ?_);refine zA (tR J rfl ?_ (zY _) (by refine yC (sI ((qF ..).trans (K.size_eq.trans (sN _)))) ?_;omega));rw[b0];simp only[bne_self_eq_false,Bool.false_eq_true,if_false];refine zB ⟨_,rfl,M d K ?_⟩;have:=aS up
  rwa[Im (by rw[zL];exact K.size_eq)]at this
end
abbrev Asc(ps:List (V×PyData)):Prop:=ps.Pairwise λp q=>lx (fl q.2) (fl p.2)=false
section
variable {X:Cx} {pins:PN} {σ:St} {H:Hp} {s:Shared} {d0:PyData} {l0 l1:List PyData}
theorem Tt{N:Nat}(j:∀n,n<=N->gX X.prog X.w n)(y:X.A.units+64<cLine){ps:List (V×PyData)}{its:LW}{v:Value}{Q:VK}(g:its.length<=sizeLine)(l:its.length<=N)(r:d0=.tuple (.tuple l1:: l0))(t:Paired (TV X.K H d0) ps its)
  (u:∀(i:LW->Shared->Prop)(x:VP),(∀a,Inv X pins σ H a->i its a)->wpAny (model X.prog X.w) X.A.in1 (collect v) i x s)
  (h:∀q(c:List (V×PyData)) H',Same H H'->H q=none->H' q=some (.lst (c.map (·.1)))->c.Perm ps->Asc c->Q (.ref q) H'):
  wpAny (model X.prog X.w) X.A (call (.builtin "sorted") [v]) (EP X pins σ Q) X.xe s:=by
 refine tZ kind_sorted plain_sorted entry_sorted (args_sorted1 _) ?_;unfold Builtin.«sorted»;refine zA (m:=checkCount "sorted" 1 1 _) (zB ?_);refine zA (u _ _ λa I=>?_);refine zA (qQ ?_ g);have d:(a.heap.push (seqObj "list" its.toArray 0)).get? a.heap.objs.size=some (seqObj "list" its.toArray 0):=zQ _ rfl;have f:H a.heap.objs.size=none:=I.hok.fresh (zE _);have m:=I.fpOk (zE _) f;have k:Inv X pins σ H {a with heap:=a.heap.push (seqObj "list" its.toArray 0),toks:=a.toks}:=I.kept λb o q=>zC _ q;refine zA (yN (xE slot_list_sort ⟨_,d,rfl⟩ entry_list_sort ?body (args_list_sort _)));show wpAny (model X.prog X.w) X.A.in1.in1 (Builtin.«list.sort» ⟨[.ref a.heap.objs.size],[]⟩) _ _ {a with heap:=a.heap.push (seqObj "list" its.toArray 0),toks:=a.toks};refine Tu (j _ l) (A:=X.A.in1.in1) (by show X.A.units+1+1+16<cLine;omega) k m d g r t λc H' z w sm e p o=>?_;exact zB ⟨_,rfl,.ref a.heap.objs.size,H',w,rfl,h _ c H' sm f e p o⟩
end
def RawD(h:Heap)(d:Addr)(es:Array DictEntry)(ep:Nat):Prop:=∃o,h.get? d=some o/\o.ExactDict/\o.data=.dict es ep
theorem RawD.at{h h':Heap}{d:Addr}{es:Array DictEntry}{ep:Nat}(x:RawD h d es ep)(e:∀o,h.get? d=some o->h'.get? d=some o):RawD h' d es ep:=let ⟨o,a,r⟩:=x;⟨o,e _ a,r⟩
section
variable {prog:Program} {w:World} {A:Around} {E:VP} {s:Shared} {d it:Addr} {es:Array DictEntry} {ep i:Nat}
theorem RawD.typeIs(x:RawD s.heap d es ep):s.TypeIs (.ref d) "dict" := let ⟨o,b,a,_⟩:=x;⟨o,b,a.1⟩
theorem Ts{Q:VP}(g:(d == sysModules)=false)(e:RawD s.heap d es ep)
  (f:Q (.ref s.heap.objs.size) {s with heap:=s.heap.push {cls:=.type "dict_keyiterator",data:=.fields #[.ref d,.int 0 0,.int es.size 0,.int ep 0]}}):wpAny (model prog w) A (pyIter (.ref d)) Q E s:=by
 obtain⟨o,b,j,c⟩:=id e;have a:=e.typeIs;refine wpAny_pyIter_slot a PySem.F.slot_dict_iter (xE PySem.F.slot_dict_iter a PySem.F.entry_dict_iter ?_ (PySem.F.args_dict_iter_1 _));unfold Builtin.«dict.__iter__»;refine zA ?_;unfold Builtin.Dict.dictSlotNone;refine zA (wpAny_notOrdered_dict a ?_);show wpAny _ _ (pure (Value.ref d)) _ _ s;refine zB ?_;show wpAny _ _ (Builtin.Dict.showsAll d >>= _) _ _ s;unfold Builtin.Dict.showsAll;rw[zD (by rw[g];exact yH)];refine zA (zB ?_);refine zA (sU b c ?_);refine zA (pU b c ?_);exact zA (xD (zB ⟨_,rfl,"dict_keyiterator",_,⟨_,zQ _ rfl,rfl⟩,PySem.F.slot_dict_keyiterator_next.lookup,f⟩))
theorem Tr{Q:Option Value->Shared->Prop}(a:s.heap.IsKeyIter it d i es.size ep)(m:RawD s.heap d es ep)(hi:i<es.size)
  (j:∀h',h'.IsKeyIter it d (i+1) es.size ep->Heap.SameBut it s.heap h'->Q (some es[i].key) {s with heap:=h'}):wpAny (model prog w) A (pyNext (.ref it)) Q E s:=by
 obtain⟨o,c,k,b⟩:=id a;obtain⟨od,e,n,g⟩:=id m;unfold pyNext;refine zA (vF (xO (name:=Str.ofString "__next__") a.typeIs wM
  (xE wM a.typeIs PySem.F.entry_dict_keyiterator_next ?_ (PySem.F.args_dict_keyiterator_next_1 _))))
 refine zA (zB ?_);refine zA ?_;refine zA ?_
 first|refine zA (vH a.typeIs (zB ?_))|refine zA (uF a.typeIs (zB ?_))
 refine zA (wpAny_fieldsOf c b ?_);have l:Builtin.Dict_items.ownsTuple "dict_keyiterator"=false:=∅
 simp only[l,Bool.false_eq_true,if_false];show wpAny _ _ (if(Value.ref d == Value.none)=true then _ else _) _ _ s;rw[zD (show¬ ((Value.ref d == Value.none)=true) from yH)];refine zA (zB ?_);refine zA (sU e g ?_);rw[zD (by simp)];refine zA (zB ?_);refine zA (pU e g ?_);rw[zD (by simp)];refine zB ?_;simp only[show¬ ((i:Int)<0) from⋯,if_false,Int.toNat_natCast,Array.getElem?_eq_getElem hi];refine zA ?_
 first|refine zA (vH a.typeIs (zB ?_))|refine zA (uF a.typeIs (zB ?_))
 refine zA (wpAny_isOneOf_keyiter a.typeIs ?_);show wpAny _ _ (setField (.ref it) 1 (rawInt ((i:Int)+1)) >>= _) _ _ s;refine zA (vL c b (by simp) ?_);have f:(s.heap.update it (Obj.mapFields (·.setIfInBounds 1 (rawInt ((i:Int)+1))))).IsKeyIter it d (i+1) es.size ep:=
  ⟨_,xB _ c (tG (wU b _)),(qW ..).trans k,by rw[wU b];simp[rawInt]⟩
 refine zA (yN ?_);refine zA (wpAny_isOneOf_keyiter (s:={s with heap:=s.heap.update it (Obj.mapFields (·.setIfInBounds 1 (rawInt ((i:Int)+1))))}) f.typeIs ?_);show wpAny _ _ (pure es[i].key) _ _ _;exact zB (zB ⟨_,rfl,zB (j _ f (xY ..))⟩)
theorem Tq{Q:Option Value->Shared->Prop}(hh:A.handled=none)(a:s.heap.IsKeyIter it d es.size es.size ep)(k:RawD s.heap d es ep)
  (g:∀h',Heap.ExtBut it s.heap h'->Q none {s with heap:=h'}):wpAny (model prog w) A (pyNext (.ref it)) Q E s:=by
 obtain⟨o,c,l,e⟩:=id a;obtain⟨od,b,m,f⟩:=id k;unfold pyNext;refine zA (vF (xO (name:=Str.ofString "__next__") a.typeIs wM
  (xE wM a.typeIs PySem.F.entry_dict_keyiterator_next ?_ (PySem.F.args_dict_keyiterator_next_1 _))))
 refine zA (zB ?_);refine zA ?_;refine zA ?_
 first|refine zA (vH a.typeIs (zB ?_))|refine zA (uF a.typeIs (zB ?_))
 refine zA (wpAny_fieldsOf c e ?_);have j:Builtin.Dict_items.ownsTuple "dict_keyiterator"=false:=∅
 simp only[j,Bool.false_eq_true,if_false];show wpAny _ _ (if(Value.ref d == Value.none)=true then _ else _) _ _ s;rw[zD (show¬ ((Value.ref d == Value.none)=true) from yH)];refine zA (zB ?_);refine zA (sU b f ?_);rw[zD (by simp)];refine zA (zB ?_);refine zA (pU b f ?_);rw[zD (by simp)];refine zB ?_;simp only[show¬ ((es.size:Int)<0) from⋯,if_false,Int.toNat_natCast,Array.getElem?_eq_none (Nat.le_refl _)];refine zA ?_
 first|refine zA (vH a.typeIs (zB ?_))|refine zA (uF a.typeIs (zB ?_))
 show wpAny _ _ (setField (.ref it) 0 .none >>= _) _ _ s;refine zA (vL c e (by simp) ?_);show wpAny _ _ (newExc (.type "StopIteration") [] >>= _) _ _ _;refine zA ?_;simp only[newExc,newTuple];refine zA (xD ?_ (by size_fits));refine zA (m:=firstArgMember _ _) (wpAny_of_eq (a:=Value.none) (by first|rfl|(simp only[firstArgMember];rfl)) ?_);refine xD ?_ (by size_fits);simp only[raiseNew];refine zA (wpAny_handled ?_);rw[show A.in1.handled=none from hh];refine zA (zB (wpAny_throw ?_));refine zA (vM (T:= "StopIteration") (b:=true) ⟨_,zQ _ rfl,rfl⟩ oJ ?_);exact zB (g _ (((xY ..).extBut.push _).push _))
theorem Tp(hh:A.handled=none)(I d:Addr)(j:d≠I)(es:Array DictEntry)(ep:Nat):
  Walks prog w A I [I,d] [I] es.size (λi v=>(es[i]?).map (·.key)=some v) (λi h=>h.IsKeyIter I d i es.size ep/\RawD h d es ep) where
 sub:=λb a=>by simp at a;simp[a]
 frame:=λ_ _ _ st g=>⟨st.1.at λo e=>g I (by simp) o e,st.2.at λo e=>g d (by simp) o e⟩
 item:=λi s Q E hi st c=>by
  refine Tr st.1 st.2 hi λh' k f=>?_;exact c _ h' s.toks (by simp[hi]) ⟨k,st.2.at λo e=>(f.2 d j).trans e⟩ λb o a e=>(f.2 b (λh=>a (by simp[h]))).trans e
 done:=λs Q E st c=>Tq hh st.1 st.2 λh' l=>c h' s.toks λb o a e=>l b o (λh=>a (by simp[h])) e
 self:=λ_ _ _ _ st c=>wpAny_pyIter_keyiter st.1 c
theorem To:typeLookup (.type "dict") "__len__"=pure (some (.builtin "dict.__len__")):=PySem.F.slot_dict_len.lookup
theorem Tn{Q:LW->Shared->Prop}(hh:A.handled=none)(R:(d == sysModules)=false)(c:RawD s.heap d es ep)(T:es.size<=sizeLine)
  (h:∀h' tk,(∀b o,s.heap.get? b=some o->h'.get? b=some o)->Q (es.toList.map (·.key)) {s with heap:=h',toks:=tk}):wpAny (model prog w) A (collect (.ref d)) Q E s:=by
 obtain⟨o,P,X,Y⟩:=id c;have q:@LT.lt Nat _ d s.heap.objs.size:=zK P;unfold collect;refine zA (wpAny_runValue (sD PySem.F.entry_proto_collect ?_));rw[tN PySem.F.plain_proto_collect _];show wpAny _ A.in1 (newList [] >>= λl=>again (.builtin "list.__iadd__" ⟨[l,.ref d],[]⟩)) _ _ s;refine zA (xD ?_);refine zB ⟨qO PySem.F.plain_list_iadd _,sD PySem.F.entry_list_iadd ?_⟩;rw[tN PySem.F.plain_list_iadd _];have K:(s.heap.push {cls:=.type "list",data:=.seq ([]:LW).toArray}).get? s.heap.objs.size=some {cls:=.type "list",data:=.seq ([]:LW).toArray}:=zQ _ rfl;have u:RawD (s.heap.push {cls:=.type "list",data:=.seq ([]:LW).toArray}) d es ep:=c.at λo e=>zC _ e;have k1:∀b o,s.heap.get? b=some o->(s.heap.push {cls:=.type "list",data:=.seq ([]:LW).toArray}).get? b=some o:=λb o e=>zC _ e;have r:(s.heap.push {cls:=.type "list",data:=.seq ([]:LW).toArray}).objs.size=s.heap.objs.size+1:=size_push' _ _;show wpAny _ A.in1 (Builtin.List.listExtendWith (.ref s.heap.objs.size) (.ref d) (.ref s.heap.objs.size)) _ _ {s with heap:=s.heap.push {cls:=.type "list",data:=.seq ([]:LW).toArray}};generalize s.heap.push {cls:=.type "list",data:=.seq ([]:LW).toArray}=a at*
 unfold Builtin.List.listExtendWith;refine zA (uH (s:={s with heap:=a}) (T:= "dict") (RawD.typeIs (s:={s with heap:=a}) u) ?_);have e1:Builtin.List.listSameRef (.ref s.heap.objs.size) (.ref d)=false:=by simp only[Builtin.List.listSameRef,beq_eq_false_iff_ne];exact zT (zW q)
 rw[zD (by rw[e1];decide)];refine zA (Ts (s:={s with heap:=a}) R u ?_);have p:RawD (a.push {cls:=.type "dict_keyiterator",data:=.fields #[.ref d,.int 0 0,.int es.size 0,.int ep 0]}) d es ep:=u.at λo e=>zC _ e;have L:(a.push {cls:=.type "dict_keyiterator",data:=.fields #[.ref d,.int 0 0,.int es.size 0,.int ep 0]}).IsKeyIter a.objs.size d 0 es.size ep:=⟨_,zQ _ rfl,rfl,rfl⟩;have y:(a.push {cls:=.type "dict_keyiterator",data:=.fields #[.ref d,.int 0 0,.int es.size 0,.int ep 0]}).get? s.heap.objs.size=_:=zC _ K;have k2:∀b o,a.get? b=some o->(a.push {cls:=.type "dict_keyiterator",data:=.fields #[.ref d,.int 0 0,.int es.size 0,.int ep 0]}).get? b=some o:=λb o e=>zC _ e;generalize a.push {cls:=.type "dict_keyiterator",data:=.fields #[.ref d,.int 0 0,.int es.size 0,.int ep 0]}=f at*
 refine zA (yN ?_);unfold Builtin.List.listLengthHint;refine zA (wpAny_specialOf (s:={s with heap:=f}) (RawD.typeIs (s:={s with heap:=f}) p) To ?_);generalize hid:("dict.__len__" :String)=C
 (fail_if_success (clear hid C))
 wp_delta
 rw[show splitId C=some ("dict","__len__") from by subst hid;decide +kernel];subst hid;refine zA (vM (b:=true) (RawD.typeIs (s:={s with heap:=f}) p) (by rw[isSubtype_type];kernel_rfl) ?_);refine zA (uH (s:={s with heap:=f}) (T:= "dict") (RawD.typeIs (s:={s with heap:=f}) p) ?_);refine zB ?_;rw[zF ∅];refine zA (wG ?_);refine zA ?_;show wpAny _ A.in1 (updateSeq s.heap.objs.size (·.push .none) >>= λ_=>updateSeq s.heap.objs.size (·.pop)) _ _ _;refine zA (wpAny_updateSeq y rfl ?_);have x:=xB (Obj.mapSeq (·.push Value.none)) y rfl;refine wpAny_updateSeq x rfl ?_;have V:=xB (Obj.mapSeq (·.pop)) x rfl;have M:d≠a.objs.size:=zW (by rw[r];exact pE q);have G:s.heap.objs.size≠a.objs.size:=by rw[r];exact zW (uG _)
 have D:s.heap.objs.size≠d:=zT (zW q);have t:∀b o,b≠s.heap.objs.size->f.get? b=some o->((f.update s.heap.objs.size (Obj.mapSeq (·.push Value.none))).update s.heap.objs.size (Obj.mapSeq (·.pop))).get? b=some o:=
  λb o m e=>(xJ _ _ (zT m)).trans ((xJ _ _ (zT m)).trans e)
 have S:=(Tp (prog:=prog) (w:=w) (A:=A.in1) hh a.objs.size d M es ep).toS;refine zB ⟨qO PySem.F.plain_extend_loop _,codeAny_extend_loopS S T s.heap.objs.size (λc=>by rcases xL.mp c with z|z;exact G z;exact D (oN.mp z)) _ es.size 0 _ _ _ rfl (zY _)
  ⟨L.at λo e=>t _ _ (zT G) e,p.at λo e=>t _ _ (zT D) e⟩ V (ItemsOf.nil _) λk n W c N F=>?_⟩
 show wpAny _ A (load s.heap.objs.size >>= _) _ _ k;refine zA (wpAny_load N ?_);have J:n.toList=es.toList.map (·.key):=by
  refine List.ext_getElem? ?_
  intro j;rw[zH,yI,yI];cases hj:n[j]? with
  |some v=>exact(F.2 j v hj).symm
  |none =>
   have:n.size<=j:=Array.getElem?_eq_none_iff.mp hj;rw[Array.getElem?_eq_none (by rw[←F.1];exact this)];rfl
 show wpAny _ _ (pure n.toList) Q E k;rw[J];have O:k={s with heap:=k.heap,toks:=k.toks}:=by
  obtain⟨_,g,U,I,_⟩:=c;cases k;cases g;cases U;cases I;rfl
 rw[O];refine zB (h _ _ λb o e=>c.heap b o ?_ (t b o ?_ (k2 _ _ (k1 _ _ e))))
 ·have m:@LT.lt Nat _ b s.heap.objs.size:=zK e;intro c;rcases xL.mp c with z|z
  ·exact absurd z (zW m)
  ·rw[oN.mp z,r]at m;exact absurd m (Nat.not_lt.mpr (tW _))
 ·exact zW (zK e)
end
def Tm(K:Frag)(N:Nat):List V->Hp->VK->Prop:=λxs H Q=>∃(a:Addr)(kvs:List (PyData×V))(l0 l1:List PyData),xs=[.ref a]/\kvs.length<=N/\DTr K H a kvs/\(∀kv∈kvs,sm (.tuple (.tuple l1:: l0)) kv.1=true) /\
 ∀q(ps':List (V×PyData)) H',Same H H'->H q=none->H' q=some (.lst (ps'.map (·.1)))->(∀p∈ps',tT 4 p.2=true/\Dt K H p.1 p.2)->(ps'.map (·.2)).Perm (kvs.map (·.1))->Asc ps'->Q (.ref q) H'
section
variable {X:Cx}
theorem Tl{N:Nat}(U:∀n,n<=N->gX X.prog X.w n)(J:X.A.units+64<cLine)(P:X.calm=true):kD X (.builtin "sorted") (Tm X.K N):=by
 intro a7 s b1 H xs us Q I r h;obtain⟨a,kvs,i,l1,rfl,a5,g,c,q⟩:=h;obtain⟨u,rfl,D⟩:=jM r;cases D;obtain⟨xs,e,d,dd⟩:=gG I g;obtain⟨o,es,ep,W,Z,L,k,_⟩:=id dd;have a4:=g.len;have S:RawD s.heap a es ep:=⟨o,W,Z,L⟩;have M:es.toList.map (·.key)=xs.map λx=>Value.ref x.2.1:=by rw[k,yW];rfl
 have pr:∀{kvs:List (PyData×V)}{xs:List (PyData×Addr×Value)},KP X.K H kvs xs->(∀f∈kvs,sm (.tuple (.tuple l1:: i)) f.1=true)->Paired (TV X.K H (.tuple (.tuple l1:: i))) (xs.map λx=>(V.ref x.2.1,x.1)) (xs.map λx=>Value.ref x.2.1)/\(xs.map (·.1))=kvs.map (·.1):=by
  intro kvs xs d
  induction d with
  |nil=>intro _;exact⟨.nil,rfl⟩
  |@cons p q ps a9 b a6 T =>
   intro c;obtain⟨O,K⟩:=T λf C=>c f (.tail _ C);have z:=c p (.head _);rw[b.1]at z;have l:=b.2.1.1;have j:=b.2.1.2;rw[b.1]at l j;refine⟨.cons ⟨rfl,l,z,j⟩ O,?_⟩;rw[zO,zO,K,b.1]
 obtain⟨w,m⟩:=pr d c;have b0:xs.length=kvs.length:=by have:=wZ List.length m;simpa using this
 have le:es.size=xs.length:=by have:=wZ List.length k;simpa using this
 refine Tt U J (d0:=.tuple (.tuple l1:: i)) (its:=xs.map λx=>Value.ref x.2.1) (ps:=xs.map λx=>(V.ref x.2.1,x.1)) (by rw[yM];omega) (by rw[yM];omega) rfl w (λa8 b2 a3=>?_) λa0 G H' R a2 a1 t as=>?_
 ·refine Tn (I.ok.hd P) g.sys S ⋯ λh' tk F=>?_;rw[M];exact a3 _ (I.kept (t':=tk) F)
 ·refine q a0 G H' R a2 a1 (λp Y=>?_) ?_ as
  ·obtain⟨v,_,y⟩:=Paired.mem w p (t.mem_iff.mp Y);exact⟨y.t,y.d⟩
  ·have:=t.map (·.2);rw[yW]at this;rw[←m];exact this
end
open Sem (wp)
theorem Tk:typeLookup (.type "list") (Str.ofString "keys")=pure none:=am_miss_of_fast (by kernel_rfl)
theorem Tj:typeLookup (.type "list") "__getattr__"=pure none:=by rw[typeLookup_type,builtinLookup_eq_fast];kernel_rfl
section
variable {prog:Program} {w:World} {A:Around} {E:VP} {h:Heap} {g:Array GenState} {d:Drawn} {t:Nat} {os:OsState} {a:Addr} {o:Obj}
theorem Ti{tk:Tok}{Q:PySem.Fin->Shared->Prop}(hh:A.handled=none)(f:h.get? a=some o)(b:o.cls=.type "list")(j:o.dict=none){xs:Array Value}{n:Nat}(i:o.data=.seq xs n)(c:∀h' tk e,Heap.NewAttrErr h h' e (.ref a) (Str.ofString "keys")->E (.ref e) ⟨h',g,d,tk,os⟩):
  wpAny (model prog w) A (Builtin.«object.__getattribute__» ⟨[.ref a,.str (Str.ofString "keys") tk],[]⟩) Q E ⟨h,g,d,t,os⟩:=by
 have l:(⟨h,g,d,t,os⟩:Shared).TypeIs (.ref a) "list" := ⟨_,f,b⟩;have k:=Tk;unfold Builtin.«object.__getattribute__»
 repeat (any_goals (first|assumption|wp_step))
 rw[i];dsimp only;unfold instanceDict
 repeat (any_goals (first|assumption|wp_step))
 rw[b,j];dsimp only;simp only[Bool.not_false,Bool.true_or,if_true]
 repeat (any_goals (first|assumption|wp_step))
 exact wpAny_raiseAttrError hh c (attrMsg_fits (nofun) (by size_fits))
theorem Th{Q:Option Value->Shared->Prop}(hh:A.handled=none)(c:h.get? a=some o)(f:o.cls=.type "list")(m:o.dict=none){xs:Array Value}{n:Nat}(k:o.data=.seq xs n)(j:∀h' tk,(∀b i,h.get? b=some i->h'.get? b=some i)->Q none ⟨h',g,d,tk,os⟩):
  wpAny (model prog w) A (getAttr? (.ref a) (Str.ofString "keys")) Q E ⟨h,g,d,t,os⟩:=by
 have l:∀t,(⟨h,g,d,t,os⟩:Shared).TypeIs (.ref a) "list" := λt=>⟨_,c,f⟩;have y:(⟨h,g,d,t+1,os⟩:Shared).TypeIs (.ref a) "list" := ⟨_,c,f⟩;have z:=sub_AttributeError;have v:=PySem.F.slot_list_getattribute.lookup;have r:=PySem.F.slot_list_getattribute.bind (.ref a);have p:=Tj;unfold getAttr? getAttrBy?;refine zA (oO ?_);refine zA (vF ?_);unfold getAttrBy
 repeat (any_goals (first|assumption|((with_reducible show wpAny _ _ (call (Value.builtin "list.__getattribute__") _ _) _ _ _);refine xE PySem.F.slot_list_getattribute (l _) PySem.F.entry_list_ga (Ti hh c f m k λh' x e c=>?_) (PySem.F.args_list_getattribute_2 _ _))|wp_step))
 obtain⟨t',u,q⟩:=c.there
 repeat (any_goals (first|assumption|wp_step))
 exact j _ _ c.keeps
end
theorem aW:plainId "dict.update.loop"=true:=nofun
theorem Il:entryFor table "dict.update.loop"=some Builtin.«dict.update.loop»:=entryFor_of_fast (by kernel_rfl)
structure Ent where
 p:Addr
 k:PyData
 b:Addr
 v:Value
def Ent.ok(h:Heap)(t:Ent):Prop:=(∃o n,h.get? t.p=some o/\o.cls=.type "tuple" /\ o.data=.seq #[.ref t.b,t.v] n)/\isT h t.k t.b
theorem Ent.up{h h':Heap}{c:Ent}(x:c.ok h)(d:∀b o,h.get? b=some o->o.cls=.type "tuple" -> h'.get? b=some o):c.ok h':=by
 obtain⟨⟨o,n,f,e,g⟩,a,as,i⟩:=x;exact⟨⟨o,n,d _ _ f e,e,g⟩,a,as,Dz d 4 a i⟩
def putP(xs:List (PyData×Addr×Value))(t:Ent):List (PyData×Addr×Value):=storedH xs t.k t.b t.v
theorem Tg(xs:List (PyData×Addr×Value))(k:PyData)(b:Addr)(v:Value):(storedH xs k b v).length<=xs.length+1:=by
 unfold storedH;split <;> simp
section
variable {prog:Program} {w:World} {A:Around} {R:Result->Shared->Prop} {d it l:Addr} {items:Array Value}
theorem Ik(hh:A.handled=none)(X:A.units+32<cLine)(n:d≠it)(L:d≠l)(T:l≠it):
  ∀(rest:List Ent)(i:Nat)(xs:List (PyData×Addr×Value))(s:Shared),(∀j,items[i+j]?=rest[j]?.map λa=>Value.ref a.p)->s.heap.IsListIter it l i->s.heap.IsList l items->s.heap.DictOfH (kZ prog w) d xs->(∀a∈rest,a.ok s.heap)->xs.length+rest.length<=sizeLine ->
  (∀h' tk,(∀b o,b≠it->b≠d->s.heap.get? b=some o->h'.get? b=some o)->h'.DictOfH (kZ prog w) d (rest.foldl putP xs)->R (.ok (.ret .none)) {s with heap:=h',toks:=tk}) ->
  codeAny (model prog w) A (.builtin "dict.update.loop" ⟨[.ref d,.ref it,.int i 0,.none],[]⟩) R s
 | [],i,xs,s,q,m,hl,F,_,_,K=>by
  refine sD Il ?_;rw[tN aW _];show wpAny _ A.in1 (pyNext (.ref it) >>= _) _ _ s;refine zA (wpAny_pyNext_list_end (i:=i) hh m hl (by simpa using q 0) λh' I=>?_);show wpAny _ _ (Builtin.Dict.addKeywords d [] >>= _) _ _ _;refine zA (zB (zB ?_));obtain⟨o,es,ep,c,G⟩:=F;exact K h' s.toks (λb o a0 _ e=>I b o a0 e) ⟨o,es,ep,I d o n c,by
   obtain⟨f,y,v,D,u⟩:=G;refine⟨f,y,v,λx J=>?_,u⟩;obtain⟨a,as,r⟩:=D x J;refine⟨a,as,Dz (λb o e g=>I b o (λz=>?_) e) 4 a r⟩;obtain⟨a7,e1,b5,_⟩:=m;rw[z,e1]at e;cases e;rw[b5]at g;simp at g⟩
 | a:: rest,i,xs,s,q,m,hl,F,W,P,K=>by
  refine sD Il ?_;rw[tN aW _];show wpAny _ A.in1 (pyNext (.ref it) >>= _) _ _ s;have b4:items[i]?=some (.ref a.p):=by simpa using q 0
  refine zA (wpAny_pyNext_list_item (i:=i) m hl b4 λc Y t=>?_);obtain⟨a7,U,b6,_⟩:=id m;have O:∀b o,s.heap.get? b=some o->o.cls=.type "tuple" -> c.get? b=some o:=λb o e g=>(t.2 b (λz=>by rw[z,U]at e;cases e;rw[b6]at g;simp at g)).trans e;have M:c.DictOfH (kZ prog w) d xs:=by
   obtain⟨o,es,ep,k,f,y,v,D,u⟩:=F;exact⟨o,es,ep,(t.2 d n).trans k,f,y,v,λx J=>let ⟨a,as,r⟩:=D x J;⟨a,as,Dz O 4 a r⟩,u⟩
  have b7:c.IsList l items:=by
   obtain⟨o,k,f⟩:=hl;exact⟨o,(t.2 l T).trans k,f⟩
  have N:∀t'∈a:: rest,t'.ok c:=λt' C=>Ent.up (W t' C) O;obtain⟨⟨op,c0,S,V,a9⟩,a5⟩:=N a (.head _);refine zA (yN ?_);have a4:xs.length<=sizeLine:=by
   have:=P;simp only[List.length_cons]at this;omega
  refine zA (wpAny_tryCatch ?_);unfold Builtin.Dict.pairItems;refine zA (uH (s:={s with heap:=c}) (T:= "tuple") ⟨op,S,V⟩ ?_);rw[zF ∅];refine zA (wJ (s:={s with heap:=c}) S a9 (zB ?_));show wpAny _ A.in1 (holding [.ref a.b,a.v] (dictSet d (.ref a.b) a.v)) _ _ _;refine yN ?_;refine wpAny_dictSet_heap (knd:=kZ prog w) (s:={s with heap:=c}) (hsz:=a4) (show A.units+1+8<cLine by omega) a5 M λG a1 p=>?_;obtain⟨c1,b8,b9,a8,b0,c2,_⟩:=id M;have a3:∀b o,c.get? b=some o->o.cls=.type "tuple" -> G.get? b=some o:=λb o e g=>(p.2 b (λz=>by rw[z,a8]at e;cases e;rw[b0.1]at g;simp at g)).trans e;refine zB ⟨qO aW _,?_⟩;have a2:(rawInt ((i:Int)+1))=.int ((i+1:Nat):Int) 0:=rfl;rw[a2];refine Ik hh X n L T rest (i+1) (storedH xs a.k a.b a.v) _ (λj=>?_) ?_ ?_ a1 (λt' C=>Ent.up (N t' (.tail _ C)) a3) ?_ λZ b3 k3 a6=>?_
  ·have:=q (j+1);rw[List.getElem?_cons_succ]at this;rw[←this];congr 1;omega
  ·obtain⟨o,k,f⟩:=Y;exact⟨o,(p.2 it (zT n)).trans k,f⟩
  ·obtain⟨o,k,f⟩:=b7;exact⟨o,(p.2 l (zT L)).trans k,f⟩
  ·have:=Tg xs a.k a.b a.v;have:=P;simp only[List.length_cons]at this;omega
  ·exact K Z b3 (λb o b1 b2 e=>k3 b o b1 b2 ((p.2 b b2).trans ((t.2 b b1).trans e))) a6
end
section
variable {prog:Program} {w:World} {A:Around} {E:VP} {s:Shared} {l:Addr}
theorem Tf{Q:VP}{es:List Ent}{o:Obj}{n:Nat}(hh:A.handled=none)(V:A.units+48<cLine)(d:s.heap.get? l=some o)(f:o.cls=.type "list")(S:o.dict=none)(g:o.data=.seq (es.map λc=>Value.ref c.p).toArray n)(F:∀c∈es,c.ok s.heap)(O:es.length<=sizeLine)
  (h:∀h' tk,(∀b o,s.heap.get? b=some o->h'.get? b=some o)->h'.DictOfH (kZ prog w) s.heap.objs.size (es.foldl putP [])->Q (.ref s.heap.objs.size) {s with heap:=h',toks:=tk}):
  wpAny (model prog w) A (call (.type "dict") [.ref l]) Q E s:=by
 have q:@LT.lt Nat _ l s.heap.objs.size:=zK d;refine callType_codes (Q₁:=λt u=>t=.ref s.heap.objs.size/\u={s with heap:=s.heap.push {cls:=.type "dict",data:=.dict #[]}}) PySem.F.kt_called_dict (PySem.F.kt_typeCall_dict_1 _) PySem.F.entry_dict_init (kt_code_dict_new _ ⟨rfl,rfl⟩) ?_;rintro t u ⟨rfl,rfl⟩;have k:(s.heap.push {cls:=.type "dict",data:=.dict #[]}).DictOfH (kZ prog w) s.heap.objs.size []:=Heap.DictOfH.new s.heap;have k1:∀b o,s.heap.get? b=some o->(s.heap.push {cls:=.type "dict",data:=.dict #[]}).get? b=some o:=λb o e=>zC _ e;have U:(s.heap.push {cls:=.type "dict",data:=.dict #[]}).objs.size=s.heap.objs.size+1:=size_push' _ _;generalize s.heap.push {cls:=.type "dict",data:=.dict #[]}=m at*
 have z:=Heap.DictOfH.typeIs (s:={s with heap:=m}) k;refine⟨z,PySem.F.args_dict_init_2 _ _,?_⟩;unfold Builtin.«dict.__init__»;refine zA ?_;unfold Builtin.Dict.selfAndRest;refine zA (wpAny_notOrdered_dict z ?_);show wpAny _ _ (pure (s.heap.objs.size,[Value.ref l])) _ _ _;refine zB ?_;show wpAny _ _ (Builtin.Dict.updateFrom "dict.__init__" s.heap.objs.size (.ref l) [] .none) _ _ {s with heap:=m};unfold Builtin.Dict.updateFrom;refine zA (uH (s:={s with heap:=m}) (T:= "list") ⟨o,k1 _ _ d,f⟩ ?_);rw[zF ∅];refine zA (Th (A:=A.in1.in1) hh (k1 _ _ d) f S g λa y k2=>?_);rw[zF (by rfl)];refine zA (wG ?_);have G:a.IsList l (es.map λc=>Value.ref c.p).toArray:=⟨o,k2 _ _ (k1 _ _ d),f,n,g⟩;refine zA (sT (s:={s with heap:=a,toks:=y}) G ?_);have p:s.heap.objs.size+1<=a.objs.size:=by
  obtain⟨od,_,_,e,_⟩:=id k;exact(show @LT.lt Nat _ s.heap.objs.size a.objs.size from zK (k2 _ _ e))
 have k3:∀b o,a.get? b=some o->(a.push {cls:=.type "list_iterator",data:=.fields #[.ref l,.int 0 0]}).get? b=some o:=λb o e=>zC _ e;have L:(a.push {cls:=.type "list_iterator",data:=.fields #[.ref l,.int 0 0]}).IsListIter a.objs.size l 0:=⟨_,zQ _ rfl,rfl,rfl⟩;show wpAny _ _ _ _ _ {s with heap:=a.push {cls:=.type "list_iterator",data:=.fields #[.ref l,.int 0 0]},toks:=y};generalize a.push {cls:=.type "list_iterator",data:=.fields #[.ref l,.int 0 0]}=I at*
 have i:∀b o,s.heap.get? b=some o->I.get? b=some o:=λb o e=>k3 _ _ (k2 _ _ (k1 _ _ e));refine zA (zB ?_);refine zB ⟨qO aW _,?_⟩;refine Ik (A:=A.in1) (items:=(es.map λc=>Value.ref c.p).toArray) hh (by show A.units+1+32<cLine;omega) (zW (zP (uG _) p)) (zT (zW q)) (zW (zP (pE q) p)) es 0 [] _ (λj=>by simp) L
  ⟨o,i _ _ d,f,n,g⟩ ?_ (λc J=>Ent.up (F c J) λb o e _=>i b o e) (by simpa using O) λC P D T=>?_
 ·obtain⟨od,K,ep,e,r⟩:=id k;obtain⟨r1,r2,M,_,N⟩:=r;exact⟨od,K,ep,k3 _ _ (k2 _ _ e),r1,r2,M,λx R=>(nomatch R),N⟩
 ·refine⟨rfl,h C P (λb o e=>?_) T⟩;have v:@LT.lt Nat _ b s.heap.objs.size:=zK e;exact D b o (zW (zP (pE v) p)) (zW v) (i _ _ e)
end
def Td(K:Frag):List V->Hp->VK->Prop:=λxs H Q=>∃(l:Addr)(ts:List (Addr×PyData×Addr×V)),xs=[.ref l]/\SqL K H l (ts.map λt=>V.ref t.1)/\(∀t∈ts,SqT K H t.1 [.ref t.2.2.1,t.2.2.2]/\tT 4 t.2.1=true/\Dt K H (.ref t.2.2.1) t.2.1)/\(ts.map (·.2.1)).Nodup /\
 ∀D H',Same H H'->H D=none->DTr K H' D (ts.map λt=>(t.2.1,t.2.2.2))->Q (.ref D) H'
theorem Tc{kvs:List (PyData×V)}{k:PyData}(h:k∉kvs.map (·.1)):vT kvs k=none:=by
 induction kvs with
 |nil=>rfl
 |cons p r a =>
  rw[zO,xL,not_or]at h;rw[jJ (λe=>h.1 e.symm)];exact a h.2
section
variable {X:Cx}
theorem Ta(a5:X.A.units+64<cLine)(O:X.calm=true):kD X (.type "dict") (Td X.K):=by
 intro a7 s b0 H xs us Q I r h;obtain⟨l,ts,rfl,W,b,a1,q⟩:=h;obtain⟨u,rfl,F⟩:=jM r;cases F;obtain⟨its,y,⟨o,n0,e,c,od,dd⟩,v⟩:=I.list W;have mk:∀(ts:List (Addr×PyData×Addr×V))(its:LW),Vals (ts.map λa=>V.ref a.1) its->(∀a∈ts,SqT X.K H a.1 [.ref a.2.2.1,a.2.2.2]/\tT 4 a.2.1=true/\Dt X.K H (.ref a.2.2.1) a.2.1) ->
   ∃es:List Ent,its=es.map (λa=>Value.ref a.p)/\Paired (λa(e:Ent)=>e.k=a.2.1/\e.b=a.2.2.1/\RelV a.2.2.2 e.v/\e.ok s.heap) ts es:=by
  intro ts
  induction ts with
  |nil=>intro its r _;cases r;exact⟨[],rfl,.nil⟩
  | cons a ts j =>
   intro its r b;cases r with
   | cons r1 r2 =>
    obtain⟨es,e1,g⟩:=j _ r2 λx p=>b x (.tail _ p);obtain⟨f,m,i⟩:=b a (.head _);obtain⟨a6,S,⟨op,T,N,R,M⟩,_⟩:=I.tuple f;cases S with
    | cons G n =>
     cases n with
     |cons n K =>
      cases K;cases G;cases r1;rename_i v2;refine⟨⟨a.1,a.2.1,a.2.2.1,v2⟩:: es,by rw[zO,←e1],.cons ⟨rfl,rfl,n,⟨op,R,T,N,M⟩,gS I m i⟩ g⟩
 obtain⟨es,e1,g⟩:=mk ts its y b;subst e1;have C:ts.length=es.length:=mU g;refine Tf (es:=es) (I.ok.hd O) ⋯ e c od (by rw[dd]) (λa k=>?_) (by rw[←C];simpa using v) λh' tk J D=>?_
 ·obtain⟨_,_,z⟩:=aV g a k;exact z.2.2.2
 have w:∀(ts:List (Addr×PyData×Addr×V))(es:List Ent),Paired (λa(e:Ent)=>e.k=a.2.1/\e.b=a.2.2.1/\RelV a.2.2.2 e.v/\e.ok s.heap) ts es->(∀a∈ts,tT 4 a.2.1=true/\Dt X.K H (.ref a.2.2.1) a.2.1)->∀(kvs:List (PyData×V))(xs:List (PyData×Addr×Value)),KP X.K H kvs xs->(kvs.map (·.1)++ts.map (·.2.1)).Nodup->KP X.K H (kvs++ts.map λa=>(a.2.1,a.2.2.2)) (es.foldl putP xs):=by
  intro ts es pr
  induction pr with
  |nil=>intro _ kvs xs d _;rw[List.map_nil,wO];exact d
  | @cons a e ts es Y _ j =>
   intro b kvs xs d nd;obtain⟨f,m,i,_⟩:=Y;have st:=d.put a.2.1 (b a (.head _)).1 (b a (.head _)).2 i;have Z:a.2.1∉kvs.map (·.1):=λa3=>by
    have:=(qX.mp nd).2.2 _ a3 a.2.1 (by simp);exact this rfl
   have ep:pT kvs a.2.1 a.2.2.2=kvs++[(a.2.1,a.2.2.2)]:=by
    unfold pT;rw[Tc Z];rfl
   rw[ep,←f,←m]at st;have:=j (λx p=>b x (.tail _ p)) _ _ st (by rw[yX,yK];simpa [f]using nd);rw[yK]at this;rw[f]at this;show KP X.K H _ (List.foldl putP (storedH xs e.k e.b e.v) es);rw[f];exact this
 have d:=w ts es g (λa k=>(b a k).2) [] [] .nil (by simpa using a1);rw[pZ]at d;obtain⟨a8,a9,a4,U,a0,a2,L,_,P⟩:=D;have t:H s.heap.objs.size=none:=I.hok.fresh (zE _);have sm:Same H (upd H s.heap.objs.size (lD s.heap.objs.size (es.foldl putP []))):=Same.new t;refine⟨.ref s.heap.objs.size,_,I.laid (a:=s.heap.objs.size) (o:=lD s.heap.objs.size (es.foldl putP [])) (t':=tk) J (zE _) (aJ U a0 a2 L),rfl,?_⟩;refine q _ _ sm t ⟨by rw[yM];simpa using v,oV.mpr (zT (zW (aK I))),_,nN,P,d.keeps (lY sm)⟩
end
open Classical in
section
variable {prog:Program} {w:World} {E:VP}
theorem geT:∀(n:Nat),n<=4->∀{A:Around}{s:Shared}{v u:Value}{x y:PyData}{as bs:LA}{Q:VP},tT n x=true->tT n y=true->sm x y=true->Reads s.heap v x as->Reads s.heap u y bs->A.units+8+n<cLine->Q (.bool (!lx (fl x) (fl y))) s->wpAny (model prog w) A (richCompare .GtE v u) Q E s:=by
 intro n
 induction n with
 |zero =>
  intro a6 A s v u x y as bs Q C z D r1 r2 W h;cases r1 <;> simp[tT]at C;cases r2 <;> simp[tT]at z;refine PyProof.Rows.ge_int ?_;simpa [fl,lx,wA,←decide_not,Int.not_lt]using h
 | succ n a1 =>
  intro a6 A s v u x y as bs Q C z D r1 r2 W h;cases r1 <;> simp only[tT,Bool.false_eq_true]at C
  case int =>
   cases r2 <;> simp only[sm,Bool.false_eq_true]at D;refine PyProof.Rows.ge_int ?_;simpa [fl,lx,wA,←decide_not,Int.not_lt]using h
  case tuple a o vs m xs hg hc hd hr =>
   cases r2 <;> simp only[sm,Bool.false_eq_true]at D;rename_i b V us b6 ys N R Z a5;simp only[tT]at z;have M:s.TypeIs (.ref a) "tuple" := ⟨o,hg,hc⟩;have O:s.TypeIs (.ref b) "tuple" := ⟨V,N,R⟩;refine wpAny_richCompare_same_room (op:=.GtE) M O PySem.F.slot_tuple_ge (xE PySem.F.slot_tuple_ge M PySem.F.entry_tuple_ge ?_ (PySem.F.args_tuple_ge_2 _ _)) ⋯;show wpAny _ _ (isInstance (.ref b) (.type "tuple") >>= _) _ _ s;refine zA (vM O rJ ?_);simp only[Bool.not_true,Bool.false_eq_true,if_false];refine zA (uR hg hd ?_);refine zA (uR N Z ?_);refine zA ?_;refine pM _
    (λrest r i=>r.1=none/\i=s/\∃f d k t J K,rest=List.zip k t/\ReadsAll s.heap k f J/\ReadsAll s.heap t d K/\f.all (tT n)=true/\d.all (tT n)=true/\smA f d=true/\lx (flA f) (flA d)=lx (flA xs) (flA ys)/\(k.length+us.size=t.length+vs.size))
    _ ?_ ?_ _ _ ⟨rfl,rfl,xs,ys,vs.toList,us.toList,_,_,rfl,hr,a5,C,z,D,rfl,by simp;omega⟩
   ·rintro⟨p,q⟩ rest r i ⟨L,rfl,f,d,k,t,J,K,l,I,F,j,tb,c,g,G⟩;cases I with
    |nil=>simp at l
    | @cons b3 a7 d' U b0 a9 r1 Y =>
     cases F with
     |nil=>simp[smA]at c
     |@cons b5 T P a8 b1 b4 r2 S =>
      simp only[List.zip_cons_cons,List.cons.injEq,Prod.mk.injEq]at l;obtain⟨⟨rfl,rfl⟩,rfl⟩:=l;rw[yV,zN]at j tb;simp only[smA,Bool.and_eq_true]at c;refine zA (eqT (n:=n) ⋯ j.1 tb.1 r1 r2 (by show A.units+1+8<cLine;omega) ?_)
      by_cases e:d'=P
      ·subst e;rw[zM rfl];simp only[Bool.not_true,Bool.false_eq_true,if_false];refine zB ⟨rfl,rfl,U,a8,a7,T,_,_,rfl,Y,S,j.2,tb.2,c.2,?_,by simp at G;omega⟩;rw[←g];simp only[flA];rw[dH]
      ·rw[zJ e];simp only[Bool.not_false,if_true];have a4:fl d'≠fl P:=λq=>e (fT _ _ c.1 q);simp only[flA]at g;rw[dI _ _ _ _ (fS _ _ c.1) a4]at g;refine zA (wG ?_);refine zA (a1 ⋯ j.1 tb.1 c.1 r1 r2 (by show A.units+1+8+n<cLine;omega) ?_);rw[g];exact zA (zB (zB (zB ⟨_,rfl,(λe=>nomatch e),h⟩)))
   ·rintro⟨r1,r2⟩ i ⟨L,rfl,f,d,k,t,J,K,l,I,F,j,tb,c,g,G⟩;simp only at L;subst L;cases I with
    |cons b2 b7 =>
     cases F with
     |nil=>simp[smA]at c
     |cons a0 a2=>simp at l
    | nil =>
     cases F with
     |cons a0 a2=>simp[smA]at c
     |nil =>
      have a3:vs.size=us.size:=by simp at G;omega
      have X:lx (flA xs) (flA ys)=false:=by rw[←g];simp[flA,lx]
      refine zB ⟨_,rfl,(λe=>nomatch e),?_⟩;show Q (.bool (decide (vs.size≥us.size))) i;have h':Q (.bool (!lx (flA xs) (flA ys))) i:=h;rw[X]at h';rw[a3,zM (zE _)];exact h'
end
def Uz(K:Frag)(ge:Bool):R2:=λx y H Q=>∃d e,tT 4 d=true/\tT 4 e=true/\sm d e=true/\Dt K H x d/\Dt K H y e/\Q (.bl (if ge=true then !lx (fl d) (fl e) else lx (fl d) (fl e))) H
section
variable {X:Cx}
theorem Uy(k:X.A.units+64<cLine):OpR X (compareOp .GtE) (Uz X.K true):=by
 intro j s l H x y v u Q I b i h;obtain⟨d,e,f,a,z,c,g,q⟩:=h;obtain⟨as,r1⟩:=c.reads I b;obtain⟨bs,r2⟩:=g.reads I i;exact geT 4 (zE _) f a z r1 r2 ⋯ ⟨.bl _,H,I,rfl,q⟩
end
structure FunD(K:Frag)(x qual:Str)(st:Stmt)(f:Addr)(fd:FuncData)(ds:LW):Prop where
 ex:∃(oc:Value)(od:Option Addr)(T:Addr)(kV doc pm:Value)(an:Option Addr)(cdv ct:Value)(osl:Array (Option Value)),
  fd=PySem.W.fnOf x qual (iL st) (jF st) (nP st) (.ref T) kV doc pm an cdv ct/\K.lookup f=some ⟨oc,od,.func fd,osl⟩/\PySem.W.codeIn K cdv qual=true/\∃(o2:Value)(d2:Option Addr)(n2:Nat)(s2:Array (Option Value)),K.lookup T=some ⟨o2,d2,.seq ds.toArray n2,s2⟩
 kp:PySem.W.keepIn K (.ref f)=true
section
variable {P:Program} {w:World} {K:Frag} {mg:MT} {base:Heap}
theorem FunD.binds{x g:Str}{st:Stmt}{f:Addr}{e:FuncData}{ps:List Str}{ds:LW}(F:FunD K x g st f e ds)
  (h:∀(T:Addr)(kV d c:Value)(a:Option Addr)(cdv b:Value)(us:LW),us.length+ds.length=ps.length->∃k,bindArgs (PySem.W.fnOf x g (iL st) (jF st) (nP st) (.ref T) kV d c a cdv b) ⟨us,[]⟩=seqItems? (.ref T) >>= k/\k (some ds.toArray)=pure (ps.zip (us++ds))):lT K e ps ds:=by
 obtain⟨n,od,T,kV,d,c,a,cdv,b,p,rfl,t,q,r,m,o,l,lt⟩:=F.ex;intro s us i hl;obtain⟨k,e1,j⟩:=h T kV d c a cdv b us (by simpa using hl);exact BindsTo.of_defaults (T:=T) rfl (i _ _ lt) rfl e1 j
theorem FunD.bindsA{x g:Str}{st:Stmt}{f:Addr}{e:FuncData}{ps:List Str}{ds:LW}(F:FunD K x g st f e ds)
  (h:∀(T:Addr)(kV d c:Value)(a:Option Addr)(cdv b:Value)(us:LW),us.length=ps.length->∃k,bindArgs (PySem.W.fnOf x g (iL st) (jF st) (nP st) (.ref T) kV d c a cdv b) ⟨us,[]⟩=seqItems? (.ref T) >>= k/\k (some ds.toArray)=pure (ps.zip us)):lT K e ps []:=by
 obtain⟨n,od,T,kV,d,c,a,cdv,b,p,rfl,t,q,r,m,o,l,lt⟩:=F.ex;intro s us i hl;rw[wO]at hl ⊢;obtain⟨k,e1,j⟩:=h T kV d c a cdv b us hl;exact BindsTo.of_defaults (T:=T) rfl (i _ _ lt) rfl e1 j
theorem Ux{x a:Str}{st:Stmt}{f T:Addr}{m p:Value}{od j b:Option Addr}{o i:Array (Option Value)}{kV g e cdv d:Value}{ds:LW}{n:Nat}(l:K.lookup f=some ⟨m,od,.func (PySem.W.fnOf x a (iL st) (jF st) (nP st) (.ref T) kV g e b cdv d),o⟩)
  (c:PySem.W.codeIn K cdv a=true)(k:PySem.W.keepIn K (.ref f)=true)(l2:K.lookup T=some ⟨p,j,.seq ds.toArray n,i⟩):FunD K x a st f (PySem.W.fnOf x a (iL st) (jF st) (nP st) (.ref T) kV g e b cdv d) ds:=⟨⟨m,od,T,kV,g,e,b,cdv,d,o,rfl,l,c,p,j,n,i,l2⟩,k⟩
end
end L2
namespace PySem
section
variable {prog:Program} {w:World} {A:Around} {E:VP} {h:Heap} {g:Array GenState} {d:Drawn} {t:Nat} {os:OsState}
variable {nm q:Str} {C N:Addr} {bs bm bmB:LW} {hdct:Bool} {sn:List Str} {sub:LW} {ab:Bool} {col:Option Bool} {dd:Option Addr} {k0 k1 k2 k3 k5:Option Value} {B newId initId:String}
abbrev xTup(us:LW):Obj:={cls:=.type "tuple",data:=.seq us.toArray}
abbrev xExc(C t:Addr)(dx:Option Addr):Obj:={cls:=.ref C,dict:=dx,data:=.fields #[.ref t,.none,.none,.none,.bool false,.none]}
abbrev gY(h:Heap)(C:Addr)(us:LW):Heap:=(h.push (xTup us)).push (xExc C h.objs.size none)
theorem Uw(F:ExcBaseFacts B newId initId bmB)(T:OwnTail h bmB bm){mN:MT}{us:LW}{f:Addr}{k:Obj}{Q:Fin->Shared->Prop}
  (a:h.get? C=some (excClassObj nm q C N bs bm hdct sn sub ab col dd k0 k1 k2 k3 k5 newId))(p:h.Ns N mN)(hi:mN "__init__"=some (.ref f))(v:h.get? f=some k)(z:k.cls=.type "function")(n:us.length<=sizeLine)
  (m:wpAny (model prog w) A (call (.ref f) (.ref (h.objs.size+1):: us)) (λr j=>r=.none/\Q (.done (.ret (.ref (h.objs.size+1)))) j) E ⟨gY h C us,g,d,t,os⟩):
  wpAny (model prog w) A (Builtin.«type.__call__» ⟨.ref C:: us,[]⟩) Q E ⟨h,g,d,t,os⟩:=by
 repeat (first|with_reducible refine uW a ?_|with_reducible refine wpAny_madeBy_exc a ?_|wp_step)
 refine codeAny_call_builtin_code (qJ _ F.quiet) (wpAny_check_new_subT F T a (codeAny_exc_new_subT F T a ?_ n));show wpAny _ _ _ _ _ _;have c:∀b o,h.get? b=some o->(gY h C us).get? b=some o:=λb o e=>zC _ (zC _ e);have i:=c _ _ a;have D:=c _ _ v;have G:=p.keeps c;have y:(gY h C us).get? (h.objs.size+1)=some (xExc C h.objs.size none):=by heap_get
 have l:(Value.ref C:: bm).contains (.ref C)=true:=by simp
 have I:=T.keeps c;unfold isInstance
 repeat (first|with_reducible refine uW y ?_|(with_reducible refine wpAny_isSubtype_exc i ?_;rw[l])|wp_step)
 show wpAny _ _ (typeLookup (.ref C) _) _ _ _;refine wpAny_typeLookup_tail i G I F.mroIs F.init.lookup ?_;rw[hi];refine yN (zA ?_);unfold bindSpecial;refine zA (uH (T:= "function") ⟨_,D,z⟩ ?_);rw[zF ∅];refine zB (zA (yQ m (λr j hr=>?_) λ_ _ x=>x));obtain⟨rfl,u⟩:=hr
 wp_walk
 exact u
theorem Uv(F:ExcBaseFacts B newId initId bmB)(T:OwnTail h bmB bm){mN:MT}{us:LW}{b:Addr}{c:Obj}{Q:VP}
  (a:h.get? C=some (excClassObj nm q C N bs bm hdct sn sub ab col dd k0 k1 k2 k3 k5 newId))(j:h.Ns N mN)(hi:mN "__init__"=some (.ref b))(k:h.get? b=some c)(l:c.cls=.type "function")(i:us.length<=sizeLine)
  (e:wpAny (model prog w) (A.under (.builtin "type.__call__" ⟨.ref C:: us,[]⟩)) (call (.ref b) (.ref (h.objs.size+1):: us)) (λr f=>r=.none/\Q (.ref (h.objs.size+1)) f) E ⟨gY h C us,g,d,t,os⟩):
  wpAny (model prog w) A (call (.ref C) us) Q E ⟨h,g,d,t,os⟩:=by
 have o:=tc_lookup;have m:=tc_bind (.ref C);have n:(⟨h,g,d,t,os⟩:Shared).TypeIs (.ref C) "type" := ⟨_,a,rfl⟩;refine uS (codeAny_of_tree ?_);show wpAny _ _ (callAny (.ref C) _) _ _ _
 repeat (any_goals (first|assumption|with_reducible refine uW a ?_|wp_step))
 refine⟨rfl,codeAny_call_builtin_at (qJ _ (nofun)) entry_typeCall (wpAny_check_type_call_sub a (Uw F T a j hi k l i ?_))⟩;exact e
theorem Uu{env:Env}{s:Shared}{x:Sem Value}{Q:Flow->Shared->Prop}(l:bm.contains (.type "BaseException")=true)(hh:A.handled=none){M:Model}
  (h:wpAny M A x (λv a=>∃e t c,v=.ref e/\a.heap.get? C=some (excClassObj nm q C N bs bm hdct sn sub ab col dd k0 k1 k2 k3 k5 newId)/\a.heap.get? e=some (xExc C t c)/\E (.ref e) a) E s):
  wpAny M A (raiseStmt env (some x) none) Q E s:=by
 have f:(Value.ref C:: bm).contains (.type "BaseException")=true:=by rw[List.contains_cons,l,Bool.or_true]
 unfold raiseStmt;refine zA (yQ h (λv a j=>?_) λ_ _ x=>x);obtain⟨e,t,c,rfl,b,i,k⟩:=j;obtain⟨m,g,d,tk,os⟩:=a
 repeat (first|with_reducible refine uW i ?_|with_reducible refine uW b ?_|(with_reducible refine wpAny_isSubtype_exc b ?_;rw[f])|wp_step)
 exact wpAny_raiseNew_none hh k
end
end PySem
namespace L2
open PySem PySem.Spec PyProof.Rows
open PySem.W (Frag)
def XObj(e C:Addr)(od:Option Addr):HO:=.ext λh=>∃t,h.get? e=some (xExc C t od)
theorem Dy{P:Program}{w:World}{H:Hp}{h:Heap}{e C t:Addr}{od:Option Addr}(q:h.get? e=some (xExc C t od)):mI P w H h e (XObj e C od):=⟨⟨t,q⟩,⟨_,q⟩,λ_ _⟨t,z⟩k=>⟨t,k _ z⟩⟩
def rmv(H:Hp)(e:Addr):Hp:=λb=>if b=e then none else H b
theorem iI{H:Hp}{e b:Addr}(h:b≠e):rmv H e b=H b:=zD h
theorem Dx{H:Hp}{e:Addr}:rmv H e e=none:=zF rfl
theorem Ut{H:Hp}{e:Addr}{o:HO}(h:H e=some o):upd H e o=H:=by
 funext b
 by_cases q:b=e
 ·rw[q,nN,h]
 ·exact nO q
section
variable {X:Cx} {pins:PN} {σ:St} {H:Hp} {s:Shared} {e C:Addr} {b0:Option Addr}
theorem Inv.untrack(I:Inv X pins σ H s)(i:H e=some (XObj e C b0)):Inv X pins σ (rmv H e) s:=by
 have u:=I.base;have t:∀{b o},rmv H e b=some o->b≠e/\H b=some o:=λ{b o}z=>by
  by_cases q:b=e
  ·rw[q,Dx]at z;cases z
  ·rw[iI q]at z;exact⟨q,z⟩
 have ne:∀{b o},H b=some o->o≠XObj e C b0->b≠e:=λ{b o}z d q=>by rw[q,i]at z;exact d (zZ z).symm
 have f:∀b,H b=none->rmv H e b=none:=λb z=>by
  by_cases q:b=e
  ·rw[q,Dx]
  ·rw[iI q];exact z
 refine⟨I.ok,I.os,I.bare,⟨u.keep,u.slot,λb o q n l=>f _ (u.free b o q n l),u.there,λb xs q=>?_,λb o v q=>?_,λb ps q=>?_⟩,I.loc,I.cell,f _ I.free,λx c q=>f _ (I.freeC x c q),λp j=>?_,λa o q=>?_,I.len⟩
 ·have:=u.tups b xs q;rw[iI (ne this (by intro z;cases z))];exact this
 ·have:=u.frzs b o v q;rw[iI (ne this (by intro z;cases z))];exact this
 ·obtain⟨m,e1⟩:=u.tbls b ps q;exact⟨m,by rw[iI (ne e1 (by intro z;cases z))];exact e1⟩
 ·obtain⟨e1,k,r⟩:=I.pin p j;exact⟨e1,f _ k,r⟩
 ·obtain⟨_,g⟩:=t q;exact(I.hok a o g).stay (λ_ _ _ z=>z) (λb z=>by rw[iI (ne z (by intro z;cases z))];exact z) λb xs z=>by rw[iI (ne z (by intro z;cases z))];exact z
end
section
variable {M:Model} {A:Around} {E:VP} {s:Shared}
theorem Us{base:Heap}{env:Env}{outer:List Env}{L e C b:Addr}{a:Option Addr}{Q:Unit->Shared->Prop}(i:A.frames=some (env:: outer))(f:env.frame=some L)(k:base.StaysIn s.heap)(hl:s.heap.FunFrames base (env:: outer))(c:s.heap.get? e=some (xExc C b a))(d:base.get? e=none)
  (p:∀h',Heap.FlyingW base outer e (.ref C) (.ref b) h'->Dc h' e a->s.heap.UpToSlots h'->Q () {s with heap:=h'}):wpAny M A (leaving env (.ref e)) Q E s:=by
 unfold leaving noteFrame;simp only[f];refine zA (zA (xA c rfl (x:=.none) rfl ?_));rw[zD ∅];refine Bi i hl f c k d rfl (by simp) (a0:=.ref b) rfl (od:=a) (λ_ q=>q) ?_;rintro l ⟨v,m,j,g⟩ o;exact bO (s:={s with heap:=l}) ⟨v,d,m,j⟩ o λu⟨k1,k2,⟨_,_,k3⟩,n⟩t r=>p u ⟨k1,k2,k3,n⟩ t (Heap.UpToSlots.trans g r)
end
def Ij(X:Cx)(EX:XE):Prop:=∀(pins:PN)(σ:St)(H:Hp)(s:Shared)(e C t:Addr)(dx:Option Addr),Inv X pins σ H s->H e=none->X.s₀.heap.get? e=none->s.heap.get? e=some (xExc C t dx)->EX σ (.ref C) dx H->X.xe (.ref e) s
section
variable {P:Program} {w:World} {K:Frag} {mg:MT} {base:Heap} {N:List Str} {qual:Str} {scope:Scope} {f:Addr} {cd:Value} {A:Around} {outer:List Env} {s₀:Shared} {H₀:Hp} {E:XK}
theorem Ur:Ij (cxOf (CX1 P w) P w K mg base N qual scope f cd A outer s₀ H₀ E) (λ_ C od H=>E C od H):=by
 intro M O H s e C J G I x y u l;have k:=PySem.W.funFrames_hide (as:=e:: frs (cxOf (CX1 P w) P w K mg base N qual scope f cd A outer s₀ H₀ E).stack) I.stack (λenv d a j=>.tail _ (nD.mpr ⟨env,d,j⟩));refine Us I.ok.frames rfl (λb o q=>qK _ q) k u (rM _ (.head _)) λh' F m D=>?_;obtain⟨g,_,t,i⟩:=F;obtain⟨un,ok,n⟩:=bP I rfl rfl rfl g D λb o q r p=>rW _ q λd=>by
  rcases xL.mp d with z|z
  ·subst z;rcases p with⟨L,c⟩|⟨v,c⟩
   ·rw[y]at c;cases c
   ·rw[x]at c;cases c
  ·exact r z
 exact⟨e,.ref C,G,H,_,_,rfl,I.os,I.bare,un,ok,⟨g,rM _ (.head _),t,i⟩,n,m,l⟩
end
def aX(K:Frag)(C:Addr)(bmB:LW)(newId:String)(f:Addr):Bool:=
 (K.lookup f).any (λo=>o.cls == .type "function") &&
 (K.lookup C).any λob=>match ob with
  |⟨.type "type",_,.cls c1,sl⟩=>(match c1.mro,sl.toList with
   |.ref C1:: bm,[_,_,_,_,some (.builtin nw),_]=>C1 == C && nw == newId && !c1.hasDel && PySem.W.tailIn K bmB bm && PySem.W.nsOkIn K c1.ns && PySem.W.nsIn K c1.ns "__init__" == some (some (.ref f))
   |_,_=>false)
  |_=>false
theorem Uq{K:Frag}{h:Heap}{N:Addr}{x:Str}{v:Value}(X:K.In h)(f:h.Ns N (h.nsMap N))(e:PySem.W.nsIn K N x=some (some v)):h.nsMap N x=some v:=by
 obtain⟨o,es,ep,g,i,_,a⟩:=f;unfold PySem.W.nsIn at e;split at e
 ·rename_i c d j k l q;have:=X _ _ q;rw[g]at this;cases this;cases i;split at e
  ·rename_i b;cases e;rw[←a];unfold nsFind findBy;rw[←Array.find?_toList,b];rfl
  ·split at e <;> cases e
 ·cases e
theorem Ii{K:Frag}{h:Heap}{C f:Addr}{k:LW}{newId:String}(KX:K.In h)(j:aX K C k newId f=true):
  ∃bm N nm c bs e sn sub ab col dd k0 k1 k2 k3 k5 mN b,h.get? C=some (excClassObj nm c C N bs bm e sn sub ab col dd k0 k1 k2 k3 k5 newId)/\h.Ns N mN/\mN "__init__"=some (.ref f)/\OwnTail h k bm/\h.get? f=some b/\b.cls=.type "function" := by
 unfold aX at j;obtain⟨d,a⟩:=Bool.and_eq_true_iff.mp j;obtain⟨b,n,d⟩:=rF d;obtain⟨G,x,a⟩:=rF a;split at a
 ·next dd v g =>
  split at a
  ·next y bm k0 k1 k2 k3 m k5 o es =>
   simp only[Bool.and_eq_true,beq_iff_eq,Bool.not_eq_true']at a;obtain⟨⟨⟨⟨⟨e1,F⟩,p⟩,z⟩,i⟩,r⟩:=a;subst e1 F;cases v with
   | mk nm bs t ns c e sn sub ab col D =>
    have w:t=Value.ref y:: bm:=o;have q:D=false:=p;subst w q;have u:g=#[k0,k1,k2,k3,some (Value.builtin m),k5]:=by
     cases g with
     |mk l=>exact wZ Array.mk es
    subst u;exact⟨bm,ns,nm,c,bs,e,sn,sub,ab,col,dd,k0,k1,k2,k3,k5,_,b,KX _ _ x,pV (qM KX i),Uq KX (pV (qM KX i)) r,PySem.W.tail_of_in KX z,KX _ _ n,oS.mp d⟩
  ·cases a
 ·cases a
section
variable {X:Cx} {CX:CXT} {EX:XE} {k:Nat} {C f:Addr} {fd:FuncData} {ps:List Str} {sp:Sp} {dvs:List V} {ds:LW} {x:Str} {np p cpos pos:Pos} {e e₀:Expr} {es rest:List Expr} {t:TA} {bmB:LW} {B newId initId:String}
def Uo(C:Addr)(sp:Sp)(EX:XE)(t:TA):TS:=λ_ σ H=>t σ H λvs H1=>vs.length<=sizeLine/\∀e,H1 e=none->sp (.ref e:: vs) (upd H1 e (XObj e C none)) (λv H2=>v=.non/\∃od,H2 e=some (XObj e C od)/\EX σ (.ref C) od (rmv H2 e)) E0
theorem Um(a8:X.calm=true)(b6:Ij X EX)(a1:Gl X x)(c1:X.mg x=some (.ref C))(Z:aX X.K C bmB newId f=true)(G:ExcBaseFacts B newId initId bmB)(F:FnOk X.prog X.w X.K X.mg X.base CX k f fd ps sp)
  (hr:Room (k+1) X.A)(a9:lT X.K fd ps [])(a0:eF CX X E0)(a4:PA X (e₀:: rest) t)
  (b0:(x == ("__debug__" :Str))=false:=by decide)(R:starEach (e₀:: rest) X.env=(false,eval e₀ X.env):: starEach rest X.env:=by rfl)(b7:(backTo cpos (starEach rest X.env)).any (·.1)=false:=by rfl):
  PS X (.Raise (some (.Call (.Name x np) (e₀:: rest) [] cpos)) none pos) (Uo C sp EX t):=by
 intro i s j H D I h;obtain⟨bm,N,nm,q,bs,b2,sn,sub,ab,col,dd,k0,k1,k2,k3,k5,mN,c6,M,Y,b1,T,a3,b9⟩:=Ii I.mod.kin Z;have J:(backTo cpos (starEach (e₀:: rest) X.env)).any (·.1)=false:=by
  rw[R];show(false || (backTo cpos (starEach rest X.env)).any (·.1))=false;rw[b7];rfl
 rw[arm_exec_Raise];refine zA (wF (Uu (C:=C) (nm:=nm) (q:=q) (N:=N) (bs:=bs) (bm:=bm) (hdct:=b2) (sn:=sn) (sub:=sub) (ab:=ab) (col:=col) (dd:=dd) (k0:=k0) (k1:=k1) (k2:=k2) (k3:=k3) (k5:=k5) (newId:=newId) (T.hasType G.hasBase) (I.ok.hd a8)
  (zA (yQ (wpAny_Call_ofName (iV I a1 c1 ?_ b0)) (λv c3 b8=>zA (wF (zB b8))) λ_ _ x=>x))))
 unfold callWith;have L:=a4 cpos i s j H _ I h;rw[R]at L J ⊢;refine zA (yN (yQ (vY (Q:=λa c=>∃us,a=⟨us,[]⟩/\AP X i j _ us c) (thn L λus c4 z=>⟨us,rfl,z⟩)) (λa c a7=>zA (wF ?_)) λ_ _ x=>x));obtain⟨us,rfl,vs,a2,d,r,b5,a6⟩:=a7;simp only[J];have y:=d.bk _ _ M;have hl:us.length<=sizeLine:=by rw[←r.length];exact b5
 have P:=a6 (c.heap.objs.size+1) (d.hok.fresh (tW _));have a5:∀b o,c.heap.get? b=some o->(gY c.heap C us).get? b=some o:=λb o e=>zC _ (zC _ e);have b3:(gY c.heap C us).get? (c.heap.objs.size+1)=some (xExc C c.heap.objs.size none):=by
  have:=zQ (c.heap.push (xTup us)) (o:=xExc C c.heap.objs.size none) rfl
  rwa[xP]at this
 have l:Inv X i j (upd a2 (c.heap.objs.size+1) (XObj (c.heap.objs.size+1) C none)) {c with heap:=gY c.heap C us}:=d.laid (t':=c.toks) a5 (tW _) (Dy b3);have r2:Vals (V.ref (c.heap.objs.size+1):: vs) (Value.ref (c.heap.objs.size+1):: us):=.cons rfl r;have W:(Value.ref (c.heap.objs.size+1):: us++[]).length=ps.length:=by rw[wO,←r2.length];exact F.len _ _ _ _ P
 have S:=a9 {c with heap:=gY c.heap C us} (Value.ref (c.heap.objs.size+1):: us) l.kIn W;rw[wO]at S;have run:=F.run _ X.stack _ _ ⟨Value.ref (c.heap.objs.size+1):: us,[]⟩ _ _ _ E0 (hr.make C us []) (l.env0.make C us []) S r2 P;obtain⟨c7,c2,c9,c5,c8⟩:=c;refine zA (wpAny_keeperOf_exc y ?_);refine zA (Uv G (T.keeps d.bk) y (Y.keeps d.bk) b1 (d.bk _ _ a3) b9 hl (uS (tK run λb4 n g=>?_)));cases b4 with
 |error w=>exact a0 i j _ _ w n l g
 | ok fl =>
  cases fl with
  |ret u =>
   obtain⟨v,H',m,U,w,od,K,c0⟩:=l.after g;subst w;refine⟨U,zA (yN (wpAny_point (zB ?_)))⟩;obtain⟨⟨t',O⟩,_⟩:=(show mI X.prog X.w H' n.heap _ (XObj _ C od) from m.hok _ _ K);refine⟨_,t',od,rfl,m.bk _ _ M,O,b6 i j (rmv H' _) n _ C t' od (m.untrack K) Dx (Heap.get?_none_of_le (yC d.sz (tW _))) O c0⟩
  |next=>exact False.elim g
  |brk=>exact False.elim g
  |cont=>exact False.elim g
def Ih(C:Addr)(sp:Sp)(dvs:List V)(EX:XE)(t:TA):TE:=λσ H Q=>t σ H λvs H1=>∀x dx,H1 x=none->H1 dx=none->dx≠x ->
 sp (.ref x:: (vs++dvs)) (upd (upd H1 dx (.own x)) x (.ins C dx [])) (λv H2=>v=.non/\Q (.ref x) H2) λC' od H'=>EX σ C' od H'
theorem Ul{g:PN}{d:St}{H:Hp}{s:Shared}{Q:VK}{us:LW}{vs:List V}(M:Mk X.K C f)(F:FnOk X.prog X.w X.K X.mg X.base (CX1 X.prog X.w) k f fd ps sp)(hr:Room (k+1) X.A)(m:lT X.K fd ps ds)(Z:Vals dvs ds)
  (a4:eP X EX)(U:X.ex=[])(I:Inv X g d H s)(r:Vals vs us)
  (h:∀x i,H x=none->H i=none->i≠x->sp (.ref x:: (vs++dvs)) (upd (upd H i (.own x)) x (.ins C i [])) (λv a3=>v=.non/\Q (.ref x) a3) λj od H'=>EX d j od H'):
  wpAny (model X.prog X.w) X.A (call (.ref C) us) (EP X g d Q) X.xe s:=by
 have G:=h (s.heap.objs.size+1) s.heap.objs.size (I.hok.fresh (tW _)) (I.hok.fresh (zE _)) (zW (uG _));have a:=Inv.made (C:=C) I;have r2:Vals (V.ref (s.heap.objs.size+1):: (vs++dvs)) (Value.ref (s.heap.objs.size+1):: (us++ds)):=.cons rfl (r.append Z);have hl:(Value.ref (s.heap.objs.size+1):: us++ds).length=ps.length:=r2.length.symm.trans (F.len _ _ _ _ G);refine uS (Nf (f:=f) I.kIn M.makes M.init (oS.mp M.fn) (tK (F.run _ X.stack _ _ ⟨Value.ref (s.heap.objs.size+1):: us,[]⟩ (Value.ref (s.heap.objs.size+1):: (us++ds)) _ _ _ (hr.make C us [])
  (a.env0.make C us []) (m _ (Value.ref (s.heap.objs.size+1):: us) a.kIn hl) r2 G) λa1 n c=>?_))
 cases a1 with
 | error J =>
  obtain⟨e,j,od,H',Y,a0,rfl,L,P,un,ok,fl,w,R,q⟩:=c;have D:Inv X g d H' n:=a.call' L un ok P λb z=>absurd z (by simp);refine a4 g d H' n e j od D ⟨⟨Y,a0,fl,λb o e1 m l=>w b o e1 m ?_,λp y=>?_⟩,R⟩ q
  ·rcases l with⟨T,a2⟩|l
   ·obtain⟨O,a5⟩:=a.base.there b T a2 (by rw[U];simp);exact .inl ⟨O,a5⟩
   ·exact .inr l
  ·obtain⟨e1,a7,ne,W,_⟩:=D.pin p y;refine w p.1 p.2 e1 (λa6=>?_) (.inl ⟨_,(a.pin p y).1⟩);rcases xL.mp (a.stkSub p.1 a6) with z|z
   ·exact ne z
   ·exact W z
 | ok fl =>
  cases fl with
  |ret u =>
   obtain⟨v,H',K,N,J,S⟩:=a.after c;subst J;exact⟨N,⟨V.ref (s.heap.objs.size+1),H',K,rfl,S⟩⟩
  |next=>exact False.elim c
  |brk=>exact False.elim c
  |cont=>exact False.elim c
theorem Uk(M:Mk X.K C f)(F:FnOk X.prog X.w X.K X.mg X.base (CX1 X.prog X.w) k f fd ps sp)(hr:Room (k+1) X.A)(n:Gl X x)(v:X.mg x=some (.ref C))(o:lT X.K fd ps ds)(m:Vals dvs ds)(i:eP X EX)
  (b:PA X (e:: es) t)(l:X.ex=[]:=by rfl)(g:(x == ("__debug__" :Str))=false:=by decide)(d:starEach (e:: es) X.env=(false,eval e X.env):: starEach es X.env:=by rfl)(j:(backTo pos (starEach es X.env)).any (·.1)=false:=by rfl):
  PE X (.Call (.Name x p) (e:: es) [] pos) (Ih C sp dvs EX t):=by
 intro c s u H Q I h;refine wE (iV I n v ?_ g);refine sL (h₀:=X.base) I.ok.mod.kin M.kp (thn (b pos c s u H _ I h) λus w⟨vs,y,a,r,q⟩=>⟨a.kIn,?_⟩) d j;exact Ul M F hr o m i l a r q
theorem FunD.okX{P:Program}{w:World}{K:Frag}{b:MT}{base:Heap}{x a:Str}{st:Stmt}{f:Addr}{fd:FuncData}{ds:LW}{N ps:List Str}{k:Nat}{sp:Sp}(F:FunD K x a st f fd ds)(g:nZ N ps (nP st))(len:∀vs H Q E,sp vs H Q E->vs.length=ps.length)
  (d:∀(cdv:Value)(A:Around)(outer:List Env)(s:Shared)(H:Hp)(vs:List V)(Q:VK)(E:XK),Room k (A.deeper (envOfC a (nP st) s.heap.objs.size f cdv))->sp vs H Q E ->
   ∃t,PSs (cxOf (CX1 P w) P w K b base N a (nP st) f cdv A outer s H E) (jF st) t/\t {nx:=λ_ H'=>Q .non H',rt:=Q} (jE N vs) H):FnOk P w K b base (CX1 P w) (k+1) f fd ps sp:=by
 obtain⟨o,od,T,kV,r,n,l,cdv,m,q,rfl,j,i,_⟩:=F.ex;exact Bp j i g len λA outer s H vs Q E hr c=>d cdv A outer s H vs Q E hr c
end
structure XIn(K:Frag)(C C0 f:Addr):Prop where
 cl:aX K C [.type "ValueError",.type "Exception",.type "BaseException",.type "object"] "ValueError.__new__" f=true
 ga:PySem.W.specialIn K (.ref C0) "__getattribute__"=some (some (.builtin "type.__getattribute__"))
 rd:PySem.W.readsIn K C0 (.type "type")=true
 fi:PySem.W.findCls K (.ref C0) (.type "type") "__init__"=some (.val (.builtin "ValueError.__init__"))
def Dw:LW->Bool
 |.ref _:: r=>Dw r
 |l=>l == [.type "ValueError",.type "Exception",.type "BaseException",.type "object"]
theorem Ig(a:Value):∀{l:LW},Dw l=true->refuseLoop a "__setattr__" l=pure ()/\l.contains (.type "object")=true
 |.ref c:: r,e=>by
  obtain⟨b,d⟩:=Ig a (l:=r) e;exact⟨by rw[refuseLoop_ref];exact b,by rw[List.contains_cons,d,Bool.or_true]⟩
 |[],e=>by cases e
 |.type n:: r,e=>by rw[show Value.type n:: r=_ from oS.mp e];exact⟨PySem.F.store_ValueError.passes a,∅⟩
structure XSt(K:Frag)(C:Addr)(x:Str):Prop where
 sa:PySem.W.findIn K (.ref C) "__setattr__"=some (some (.builtin "object.__setattr__"))
 mr:((PySem.W.clsIn K C).any λc1=>Dw c1.mro && c1.hasDict)=true
 tk:PySem.W.takerIn K C x=some none
section
variable {X:Cx} {C C0 f:Addr} {x nm:Str} {np apos cpos pos:Pos} {e o:Expr} {es:List Expr} {te to:TE} {t:TA}
def Ie(C:Addr)(t:TA):TE:=λσ H Q=>t σ H λvs H1=>∃p b r,vs=.ref p:: r/\H1 p=some (XObj p C b)/\r.length<=sizeLine/\Q .non H1
theorem Uj{pl:Sem Bool}(J:Gl X x)(a3:X.mg x=some (.ref C0))(g:XIn X.K C C0 f)(K:PA X (e:: es) t)(U:(x == ("__debug__" :Str))=false:=by decide)
  (S:starEach (e:: es) X.env=(false,eval e X.env):: starEach es X.env:=by rfl)(a1:(backTo cpos (starEach es X.env)).any (·.1)=false:=by rfl)
  (P:eval (.Call (.Attribute (.Name x np) "__init__" apos) (e:: es) [] cpos) X.env=(do
   let D ←eval (.Name x np) X.env
   standAt apos.atName
   let (f,first) ←holding [D] (getMethod D "__init__" pl)
   callWith cpos f first (backTo cpos (starEach (e:: es) X.env)) (backToKw cpos (keywordEach [] X.env))):=by rfl):
  PE X (.Call (.Attribute (.Name x np) "__init__" apos) (e:: es) [] cpos) (Ie C t):=by
 intro R s a2 H Q I h;refine PySem.W.methodCall_KW (pl:=pl) (iV I J a3 ?_ U) P;refine PySem.W.method_cls I.kIn g.ga (PySem.W.cls_value I.kIn g.rd g.fi (by rfl) ?_);have V:=I.tok (s.toks+1);have n:=K cpos R _ a2 H _ V h;show wpAny _ _ (callWith cpos (.builtin "ValueError.__init__") [] (backTo cpos (starEach (e:: es) X.env)) []) _ _ _;rw[S]at n ⊢;refine sZ (by show(false || (backTo cpos (starEach es X.env)).any (·.1))=false;rw[a1];rfl) (vY (thn n ?_));rintro us w ⟨vs,v,l,r,q⟩;obtain⟨p,b,G,rfl,j,a0,Y⟩:=q;obtain⟨u,c,rfl,W,Z⟩:∃u c,us=u:: c/\RelV (.ref p) u/\Vals G c:=by cases r with|cons a b=>exact⟨_,_,rfl,a,b⟩
 obtain rfl:u=Value.ref p:=W;obtain⟨⟨t',k⟩,_⟩:=(show mI X.prog X.w v w.heap _ (XObj _ C b) from l.hok _ _ j);obtain⟨bm,N,nm,q,bs,b0,sn,sub,ab,col,dd,k0,k1,k2,k3,k5,mN,a8,L,a4,a9,T,a5,b3⟩:=Ii l.kIn g.cl;have F:=yR;have hl:c.length<=sizeLine:=by rw[←Z.length];exact a0
 obtain⟨d,a6,b2,O,b1⟩:=w;refine uS (uC F.init.plain F.initEntry (wpAny_check_init_subT F T L k rfl ?_));have a7:p≠d.objs.size:=zW (zK k);have i:(d.push (xTup c)).get? p=some (xExc C t' b):=zC _ k;unfold Builtin.«BaseException.__init__»;refine zA (qD ?_ hl);refine zA (zA (xA i rfl rfl (zA (vL i rfl (by show 0<6;decide) (qG (zB ?_))))));have m:((d.push (xTup c)).update p (Obj.mapFields (·.setIfInBounds 0 (.ref d.objs.size)))).get? p=some (xExc C d.objs.size b):=xB _ i rfl;refine⟨.non,v,?_,rfl,Y⟩;have y:=l.write (h':=(d.push (xTup c)).update p (Obj.mapFields (·.setIfInBounds 0 (.ref d.objs.size)))) (x:=p) (e:=p) (t':=O) (o:=XObj p C b) (by rw[j];exact True.intro) (.inl rfl) (λb u M z=>(xJ _ _ (zT M)).trans (zC _ z)) ⟨_,m⟩ (Dy m);rw[Ut j]at y;exact y
def XDct(a:Addr)(f:Str)(v:V):HO:=.ext λh=>∃mA u,h.Ns1 a mA/\mA f=some u/\RelV v u
theorem Ui{P:Program}{w:World}{H:Hp}{h:Heap}{a:Addr}{f:Str}{v:V}{b:MT}{u:Value}(q:h.Ns1 a b)(e:b f=some u)(r:RelV v u):mI P w H h a (XDct a f v):=
 ⟨⟨b,u,q,e,r⟩,let ⟨_,_,_,z,_⟩:=q;⟨_,z⟩,λ_ _⟨b,u,⟨od,es,ep,z,c⟩,e,r⟩k=>⟨b,u,⟨od,es,ep,k _ z,c⟩,e,r⟩⟩
def XNew(a:Addr):HO:=.ext λh=>∃o,h.get? a=some o
theorem Uh{P:Program}{w:World}{H:Hp}{h:Heap}{a:Addr}{o:Obj}(q:h.get? a=some o):mI P w H h a (XNew a):=⟨⟨o,q⟩,⟨o,q⟩,λ_ _⟨o,z⟩k=>⟨o,k _ z⟩⟩
def Ic(C:Addr)(nm:Str)(te to:TE):TS:=λD σ H=>te σ H λv H1=>to σ H1 λy H2=>∃p,y=.ref p/\H2 p=some (XObj p C none)/\∀dx,H2 dx=none->dx≠p->D.nx σ (upd (upd H2 dx (XDct dx nm v)) p (XObj p C (some dx)))
open Builtin Builtin.ObjectAttr in
theorem Ug(xs:XSt X.K C nm)(M:PE X e te)(Y:PE X o to)(b2:swapsWith e (some (.Attribute o nm apos)) pos.line X.env=pure false:=by rfl):PS X (.Assign [.Attribute o nm apos] e pos) (Ic C nm te to):=by
 intro P s W H D I h;refine plainObj_wpAny_Assign_Attribute (thn (M P s W H _ I h) λu b3⟨v,a3,c1,Z,g⟩=>thn (Y P b3 W a3 _ c1 g) ?_) b2;rintro c7 d ⟨y,k,G,c0,p,b5,S,a5⟩;subst b5;obtain rfl:c7=Value.ref p:=c0;obtain⟨⟨t',F⟩,_⟩:=(show mI X.prog X.w k d.heap _ (XObj _ C none) from G.hok _ _ S);have j:=G.kIn;have ia:PySem.W.InstAt d.heap p (xExc C t' none) C none:=⟨F,rfl,rfl,trivial⟩;refine PySem.W.set_plain j ia xs.sa ?_;have n:=PySem.F.store_object;obtain⟨K,L,a6⟩:=rF xs.mr;obtain⟨N,b9⟩:=Bool.and_eq_true_iff.mp a6;obtain⟨a1,a9⟩:=Ig (.ref p) N;have ne:K.mro.isEmpty=false:=by cases q:K.mro with|nil=>rw[q]at N;cases N|cons _ _=>rfl
 have sub:PySem.W.Looks (model X.prog X.w) d.heap (isInstance (.ref p) (.type "object")) true:=ia.type.andThen (tX j (by unfold PySem.W.mroIn;rw[L,Option.bind_some,zD (by rw[ne];decide),a9]));refine uC n.slot.plain n.entry (@PySem.W.check_slot (model X.prog X.w) _ _ {d with toks:=d.toks+1} "object.__setattr__" "object" "__setattr__" (.ref p) [.str nm d.toks,u] [] _ n.kind n.split sub (n.args (.ref p) (.str nm d.toks) u) ?_);obtain⟨R,a8,hr⟩:=Option.bind_eq_some_iff.mp xs.tk;have b6:PySem.W.Looks (model X.prog X.w) d.heap (mroOf (.ref C)) K.mro:=(rZ j L).andThen .now;have a2:PySem.W.Looks (model X.prog X.w) d.heap (storeTaker? R) none:=by
  cases R with
  |none=>exact .now
  |some a =>
   obtain⟨b,l,c9⟩:=Option.map_eq_some_iff.mp hr;refine(PySem.W.looks_takesIn j l).andThen ?_;cases b
   ·exact .now
   ·cases c9
 have up:∀{O:Type}{m:Sem O}{a:O},PySem.W.Looks (model X.prog X.w) d.heap m a->PySem.W.Looks (model X.prog X.w) {d with toks:=d.toks+1}.heap m a:=λz=>z;rw[PySem.W.osa_eq,refuse_eq];refine zA (zA (wW (up ia.type) (zA (wW (up b6) ?_))));rw[a1];refine zB (zA (wW (up ia.type) (zA (wW (up (wK j a8)) (zA (wW (up a2) ?_))))));obtain⟨c,b0,c8,w,c5⟩:=d;have b4:c.get? p=some ⟨.ref C,none,.fields #[.ref t',.none,.none,.none,.bool false,.none],#[]⟩:=F;refine zA (zB (zA (zA (qC b4 (zA (wW (s:=⟨c,b0,c8,w+1,c5⟩) (rZ j L) ?_))))));rw[b9];have i:p≠c.objs.size:=zW (zK F);have r:(c.push {cls:=.type "dict",data:=.dict #[]}).get? p=some (xExc C t' none):=zC _ F;refine zA (wpAny_alloc' (zA (wpAny_update' r (zB ?_))));have c4:((c.push {cls:=.type "dict",data:=.dict #[]}).update p λo=>{cls:=o.cls,dict:=some c.objs.size,data:=o.data,slots:=o.slots}).get? c.objs.size=some {cls:=.type "dict",data:=.dict #[]}:=
  (rY _ _ _ _ i.symm).trans (Heap.get?_push_at rfl rfl)
 have c6:((c.push {cls:=.type "dict",data:=.dict #[]}).update p λo=>{cls:=o.cls,dict:=some c.objs.size,data:=o.data,slots:=o.slots}).Ns c.objs.size (λ_=>none):=
  ⟨_,#[],_,c4,rfl,λe M=>absurd M (by simp),λ_=>rfl⟩
 show wpAny _ _ (storeInDict c.objs.size (.str nm w) nm u) _ _ _;unfold storeInDict newKeyGuard;refine zA (zB (zA (wpAny_nsSet1 (Heap.Ns1.of_empty c6) λh' T V=>?_)));obtain⟨d3,d1,d0,U,a4,b8⟩:=T.count (Within.cons nm u Within.nil);refine zA (wpAny_lookBehind U (by rw[a4];exact pastItsLine_dict (yC b8 (by rw[zR,List.length_nil,sizeLine_eq];omega))) (zB ?_));have d2:h'.get? p=some (xExc C t' (some c.objs.size)):=(V.2 p i).trans (xB _ r rfl);have a7:k c.objs.size=none:=G.hok.fresh (zE _);refine⟨_,_,?_,a5 c.objs.size a7 i.symm⟩;have b1:=G.laid (h':=c.push {cls:=.type "dict",data:=.dict #[]}) (t':=w) (a:=c.objs.size) (o:=XNew c.objs.size) (λb u z=>zC _ z) (zE _) (Uh (Heap.get?_push_at rfl rfl));have b7:(upd k c.objs.size (XNew c.objs.size)) p=some (XObj p C none):=by rw[nO i];exact S
 have a0:=b1.write (h':=(c.push {cls:=.type "dict",data:=.dict #[]}).update p λo=>{cls:=o.cls,dict:=some c.objs.size,data:=o.data,slots:=o.slots}) (x:=p) (e:=p) (t':=w) (o:=XObj p C (some c.objs.size)) (by rw[b7];exact True.intro) (.inl rfl)
  (λb q l z=>(rY _ _ _ _ l).trans z) ⟨_,xB _ r rfl⟩ (Dy (xB _ r rfl))
 have c2:(upd (upd k c.objs.size (XNew c.objs.size)) p (XObj p C (some c.objs.size))) c.objs.size=some (XNew c.objs.size):=by rw[nO i.symm,nN]
 have c3:upd (upd (upd k c.objs.size (XNew c.objs.size)) p (XObj p C (some c.objs.size))) c.objs.size (XDct c.objs.size nm v)=upd (upd k c.objs.size (XDct c.objs.size nm v)) p (XObj p C (some c.objs.size)):=by
  funext b
  by_cases g:b=c.objs.size
  ·subst g;rw[nN,nO i.symm,nN]
  ·by_cases J:b=p
   ·subst J;rw[nO g,nN,nN]
   ·rw[nO g,nO J,nO g,nO J,nO g]
 rw[←c3];exact a0.write (h':=h') (x:=c.objs.size) (e:=c.objs.size) (o:=XDct c.objs.size nm v) (by rw[c2];exact True.intro) (.inl rfl) (λb q l z=>(V.2 b l).trans z) ⟨_,U⟩ (Ui (u:=u) T (by simp) Z)
end
theorem Uf{prog:Program}{w:World}{A:Around}{E:VP}{s:Shared}{K:Frag}{x C:Addr}{f od:Obj}{nm:Str}{v:Value}{c:Bool}{Q:VP}(F:cF K C)(k:PySem.W.findIn K (.ref C) nm=some none)(l:PySem.W.hasDictIn K C=true)(KX:K.In s.heap)
  (b:PySem.W.InstAt s.heap x f C (some od))(hl:PySem.W.lookIn nm od=some (some v))(a:PySem.W.handedIn v=true)(h:Q v {s with toks:=s.toks+1}):wpAny (model prog w) A (getAttr (.ref x) nm c) Q E s:=by
 obtain⟨hh,g,d,j,D⟩:=s;have e:PySem.W.Looks (model prog w) hh (typeOf (.ref x)) (.ref C):=b.type;have u:=wK (M:=model prog w) KX F.ga;have p:=wK (M:=model prog w) KX F.gt;have o:=tX (M:=model prog w) KX F.bx;have t:=PySem.W.looks_find (M:=model prog w) KX b (PySem.W.findObj_own l k rfl hl);unfold getAttr getAttrBy;refine zA (oO (yN (zA (e.at (zA (u.at ?_))))));show wpAny _ _ (getAttrByItsOwn _ _ _ _ _ _) _ _ _;unfold getAttrByItsOwn;refine zA (show wpAny _ _ (hookBefore (.ref C)) _ _ _ from p.at ?_);refine zA (vF (yN ?_));unfold callGetattribute;rw[zD (show¬ (c && onTheHeap (Value.builtin "BaseException.__getattribute__"))=true by cases c <;> decide)];unfold boundAndCalled;rw[PySem.F.attr_ValueError.ga.bind (.ref x)];refine zA (zB (uS ?_));refine uC PySem.F.attr_ValueError.ga.plain PySem.F.entry_bexc_ga ?_;have n:builtinKind "BaseException.__getattribute__"=some .slot:=nofun
 have m:splitId "BaseException.__getattribute__"=some ("BaseException","__getattribute__"):=nofun
 have G:=PySem.F.args_bexc_ga (.ref x) (.str nm j);have r:PySem.W.Looks (model prog w) hh (isInstance (.ref x) (.type "BaseException")) true:=e.andThen o;show wpAny _ _ (checkBuiltinCall "BaseException.__getattribute__" ⟨[.ref x,.str nm j],[]⟩) _ _ _;simp only[checkBuiltinCall,n,m];refine zA (r.at ?_)
 repeat wp_step
 refine qC b.at_ ?_;show wpAny _ _ (pure f.cls) _ _ _;rw[b.cls];refine zB (zA (t.at ?_))
 repeat wp_step
 cases v <;> first|exact zB h|skip;rename_i i;dsimp only;rw[zD]
 ·exact zB h
 ·replace a:(withoutEnding? i "#data").isNone=true:=a;intro q;cases z:withoutEnding? i "#data" with
  |none=>rw[z]at q;cases q
  |some y=>rw[z]at a;cases a
structure XGt(K:Frag)(C:Addr)(f:Str):Prop where
 F:cF K C
 na:PySem.W.findIn K (.ref C) f=some none
 hd:PySem.W.hasDictIn K C=true
theorem Ib{a b:Type}(f:a->b):∀(l:List a)(j:Nat),(l.map f).eraseIdx j=(l.eraseIdx j).map f
 |[],_=>rfl
 |_:: _,0=>rfl
 |x:: l,j+1=>by show f x:: (l.map f).eraseIdx j=_;rw[Ib f l j];rfl
def Ue:List V->Hp->VK->Prop:=λvs H Q=>∃x p b,vs=[x,.ref p]/\H p=some (.tup [.ty "list",.ty "tuple"])/\((∃i,x=.int i/\b=false)\/∃a xs,x=.ref a/\H a=some (.lst xs)/\b=true)/\Q (.bl b) H
theorem Ia{X:Cx}(r:PySem.W.kitOne X.K (.type "int") (.type "list")=some false)(w:PySem.W.kitOne X.K (.type "int") (.type "tuple")=some false):kD X (.builtin "isinstance") Ue:=by
 intro o s C H xs us Q I f h;obtain⟨x,p,b,rfl,t,y,q⟩:=h;obtain⟨u,v,rfl,r1,r2⟩:=f.two;cases r2;have d:∀tk,EP X o C Q (.bool b) {s with toks:=tk}:=λtk=>⟨.bl b,H,I.tok tk,rfl,q⟩;obtain⟨_,its,k,⟨⟨K,od,F,L⟩,e1,e,n,c⟩⟩:=(show mI X.prog X.w H s.heap p (.tup _) from I.hok p _ t);obtain⟨D,J,rfl,m,j⟩:=k.two;cases m;cases j;dsimp only at e c;subst e c;rcases y with⟨i,rfl,rfl⟩|⟨a,ys,rfl,g,rfl⟩
 ·obtain⟨G,rfl⟩:=r1;exact PySem.W.kia_tup PySem.W.kitx_int I.kIn True.intro e1 (by unfold PySem.W.kitAny;rw[r];show PySem.W.kitAny _ _ _=_;unfold PySem.W.kitAny;rw[w];rfl) (λz=>nomatch z) d
 ·cases r1;obtain⟨_,_,n,_,l⟩:=(show mI X.prog X.w H s.heap a (.lst ys) from I.hok a _ g);exact PySem.W.kia_tup pF I.kIn ⟨_,l,rfl⟩ e1 (by rfl) (λz=>nomatch z) d
def KB(K:Frag)(fd:FuncData)(ps:List Str)(nm:Str):Prop:=
 ∀(s:Shared)(us:LW)(u:Value),K.In s.heap->us.length+1=ps.length->BindsTo s fd ⟨us,[(nm,u)]⟩ (ps.zip (us++[u]))
def vI(kvs:List (Key×V))(i:Int):Option V:=(kvs.find? λkv=>decide (kv.1=Sum.inl i)).map (·.2)
theorem Jz{kvs:List (Key×V)}{vs:List (Key×Value)}(r:KV kvs vs)(i:Int):RelO (vI kvs i) (valueAt vs (Sum.inl i)):=by
 induction r with
 |nil=>exact True.intro
 |@cons p q _ _ h _ a =>
  obtain⟨b,c⟩:=h;unfold vI valueAt at a ⊢;rw[uO,uO,←b]
  by_cases z:p.1=Sum.inl i
  ·rw[zM z];exact c
  ·rw[zJ z];exact a
theorem Ud{kvs:List (Key×V)}{vs:List (Key×Value)}(r:KV kvs vs){k:Key}{v:V}{u:Value}(h:RelV v u):KV (kvs++[(k,v)]) (vs++[(k,u)]):=by
 induction r with
 |nil=>exact .cons ⟨rfl,h⟩ .nil
 |cons a _ b=>exact .cons a b
theorem Uc{kvs:List (Key×V)}{vs:List (Key×Value)}(r:KV kvs vs):kvs.length=vs.length:=by
 induction r with
 |nil=>rfl
 |cons _ _ a=>rw[zR,zR,a]
theorem Dv{kvs:List (Key×V)}{i j:Int}{v:V}(h:vI kvs i=none):vI (kvs++[(Sum.inl i,v)]) j=if j=i then some v else vI kvs j:=by
 unfold vI at h ⊢;rw[List.find?_append]
 by_cases e:j=i
 ·subst e;rw[zF rfl];cases z:kvs.find? λa=>decide (a.1=Sum.inl j) with
  |none=>simp
  |some p=>rw[z]at h;cases h
 ·rw[zD e];cases z:kvs.find? λa=>decide (a.1=Sum.inl j) with
  |none =>
   have:¬ (Sum.inl i:Key)=Sum.inl j:=λq=>e (Sum.inl.inj q).symm;simp[this]
  |some p=>rfl
def Jy:TE:=λ_ H Q=>∀p,H p=none->Q (.ref p) (upd H p (.dK []))
def Jx:R2:=λx y H Q=>∃a kvs i v,x=.ref a/\y=.int i/\H a=some (.dK kvs)/\vI kvs i=some v/\Q v H
def Ub:TSet:=λx y v H Q=>∃a kvs i,x=.ref a/\y=.int i/\H a=some (.dK kvs)/\vI kvs i=none/\kvs.length<sizeLine/\Q (upd H a (.dK (kvs++[(Sum.inl i,v)])))
section
variable {X:Cx} {pos:Pos}
theorem Ua:PE X (.Dict [] [] pos) Jy:=λa s b H Q I h =>
 wpAny_Dict_empty ⟨.ref s.heap.objs.size,_,I.laid (a:=s.heap.objs.size) (o:=.dK []) (t':=s.toks) (λ_ _ q=>zC _ q) (zE _)
  ⟨zY _,oV.mpr (zT (zW (aK I))),[],.nil,Heap.DictOf.new s.heap⟩,rfl,h _ (I.hok.fresh (zE _))⟩
theorem ix_I:IxR X Jx:=by
 intro t p n s w H x y v u Q I d l h m;obtain⟨a,kvs,i,z,rfl,rfl,e,c,q⟩:=h;cases d;obtain⟨b,rfl⟩:=(show∃b,u=Value.int i b from l);obtain⟨_,_,vs,r,dd⟩:=(show mI X.prog X.w H s.heap a (.dK kvs) from I.hok _ _ e);obtain⟨w',j,g⟩:=RelO.some_of (v:=z) (o:=valueAt vs (Sum.inl i)) (by rw[←c];exact Jz r i);have ty:s.TypeIs (.ref a) "dict" := let ⟨o,_,_,f,k,_⟩:=dd;⟨o,f,k.1⟩
 refine uV (x:=w') ty PySem.F.slot_dict_getitem.lookup ?_ m;exact wpAny_getItem_of (Fw X.prog X.w i b) dd.mapOf j ⟨rfl,z,H,I.tok _,g,q⟩
theorem Vz:PSet X Ub:=by
 intro F s J H o i v G k u Q I D p g h;obtain⟨a,kvs,j,rfl,rfl,e,n,hl,q⟩:=h;cases D;obtain⟨b,rfl⟩:=(show∃b,k=Value.int j b from p);obtain⟨_,x,vs,r,dd⟩:=(show mI X.prog X.w H s.heap a (.dK kvs) from I.hok _ _ e);have l:vs.length<=sizeLine:=by rw[←Uc r];omega
 have C:valueAt vs (Sum.inl j:Key)=none:=by
  have:=Jz r j;rw[n]at this;cases z:valueAt vs (Sum.inl j:Key) with
  |none=>rfl
  |some w=>rw[z]at this;exact this.elim
 refine wpAny_setItem_pairs (Fw X.prog X.w j b) dd (λh' f y=>?_) l;rw[stored_absent C]at f;obtain⟨d,m⟩:∃d,h'.get? a=some d:=let ⟨o,_,_,z,_⟩:=f;⟨o,z⟩
 exact⟨_,I.write (x:=a) (e:=a) (o:=.dK (kvs++[(Sum.inl j,v)])) (by rw[e];exact True.intro) (.inl rfl) (λc o t z=>(y.2 c t).trans z) ⟨d,m⟩ ⟨by rw[yA];exact hl,x,_,Ud r g,f⟩,q⟩
end
section
variable {prog:Program} {w:World} {A:Around} {s:Shared}
theorem katP(o:A.units+16<cLine){Q:Bool->Shared->Prop}:∀(c a:List PyData)(j g:LW)(k m:LA)(i:Nat),ReadsAll s.heap j c k->ReadsAll s.heap g a m->c.all (tT 3)=true->a.all (tT 3)=true->smA c a=true->Q (lx (flA c) (flA a)) s->PySem.W.KatLex prog w A true false Q (j.zip g) (i+1) s
 | [],a,j,g,k,m,i,l,n,_,_,b,h=>by
  cases l;cases a with
  |cons _ _=>simp[smA]at b
  |nil =>
   cases n;refine PySem.W.kat_nil ?_;simpa [flA,lx]using h
 | d :: c,a,j,g,k,m,i,l,n,f,tb,b,h=>by
  cases a with
  |nil=>simp[smA]at b
  | cons e a =>
   cases l with
   | cons r1 p =>
    cases n with
    |cons r2 r =>
     rw[yV,zN]at f tb;simp only[smA,Bool.and_eq_true]at b;rw[vO];refine pJ (eqT (n:=3) ⋯ f.1 tb.1 r1 r2 ⋯ ?_);simp only[flA]at h
     by_cases z:d=e
     ·subst z;rw[zM rfl];rw[dH]at h;exact pR (katP o c a _ _ _ _ (i+1) p r f.2 tb.2 b.2 h)
     ·rw[zJ z];rw[dI _ _ _ _ (fS _ _ b.1) λq=>z (fT _ _ b.1 q)]at h;refine oE ?_;show wpAny (model prog w) A (oneLt' false _ _) Q _ s;exact PySem.W.kat_one _ _ (ltT 3 ⋯ f.1 tb.1 b.1 r1 r2 ⋯ h)
theorem Vy(p:A.units+16<cLine){Q:Bool->Shared->Prop}{k0:Int}{l a b:List PyData}{n m:LW}{o u:LA}(c:smA (.int k0:: l) a=true)(f:smA (.int k0:: l) b=true)(t:ReadsAll s.heap n a o)(x:ReadsAll s.heap m b u)(k:a.all (tT 3)=true)(tb:b.all (tT 3)=true)(g:smA a b=true)(h:Q (lx (flA a) (flA b)) s):PySem.W.KatLex prog w A true false Q (n.zip m) 0 s:=by
 cases a with
 |nil=>simp[smA]at c
 | cons d a =>
  cases b with
  |nil=>simp[smA]at f
  | cons e b =>
   simp only[smA,Bool.and_eq_true]at c f;cases t with
   | cons r1 r =>
    cases x with
    | cons r2 v =>
     rw[yV,zN]at k tb;simp only[smA,Bool.and_eq_true]at g;rw[vO];refine pJ (eqT (n:=3) ⋯ k.1 tb.1 r1 r2 ⋯ ?_);simp only[flA]at h
     by_cases z:d=e
     ·subst z;rw[zM rfl];rw[dH]at h;exact pR (katP p a b _ _ _ _ 0 r v k.2 tb.2 g.2 h)
     ·rw[zJ z];rw[dI _ _ _ _ (fS _ _ g.1) λq=>z (fT _ _ g.1 q)]at h;refine oE ?_;show wpAny (model prog w) A (oneLt' true _ _) Q _ s;have c:=c.1;have f:=f.1;cases r1 <;> simp only[sm,Bool.false_eq_true]at c;cases r2 <;> simp only[sm,Bool.false_eq_true]at f;refine oneLt_int ?_;have q:∀i j:Int,lx [i] [j]=decide (i<j):=λi j=>by
       unfold lx;rw[decide_eq_decide,wA];simp
      simp only[fl,q]at h;exact h
theorem cmpP(q:A.units+16<cLine){d0:PyData}(f:∃k l,d0=.tuple (.int k:: l)):Cmp prog w A s (iA s.heap d0) (tuples' true):=by
 intro E x y a b Q v t h;obtain⟨k0,l,rfl⟩:=f;obtain⟨d,as,p,c,r1,rfl⟩:=aU v;obtain⟨e,bs,j,g,r2,rfl⟩:=aU t;have z:=Ca _ _ _ c g;cases r1 <;> simp only[sm,Bool.false_eq_true]at c
 case tuple a o vs m xs hg hc f hr =>
  cases r2 <;> simp only[sm,Bool.false_eq_true]at g;rename_i b I us G ys u F D n;simp only[tT]at p j;simp only[sm]at z;have hl:vs.size=us.size:=by
   have e1:∀{h:Heap}{vs:LW}{xs:List PyData}{as:LA},ReadsAll h vs xs as->vs.length=xs.length:=by
    intro h vs xs as r
    induction xs generalizing vs as with
    |nil=>cases r;rfl
    |cons x xs i=>cases r with|cons r1 r2=>simp[i r2]
   have C:∀{xs ys:List PyData},smA xs ys=true->xs.length=ys.length:=by
    intro xs
    induction xs with
    |nil=>intro ys h;cases ys <;> simp[smA]at h;rfl
    |cons x xs i=>intro ys h;cases ys <;> simp[smA]at h;simp[i h.2]
   have:=e1 hr;have:=e1 n;have:=C z;simp only[Array.length_toList]at*
   omega
  refine PySem.W.kat_lt hg f u D ?_;rw[zJ ⋯];exact Vy q c g hr n p j z h
end
section
variable {X:Cx} {pins:PN} {σ:St} {H:Hp} {s:Shared} {a:Addr} {A:Around} {E:VP} {vs:LW} {ps:List (V×PyData)} {n0:Nat} {R:VP} {d0:PyData} {l0:List PyData} {k0:Int}
theorem Vx(b9:gX X.prog X.w vs.length)(b4:A.units+16<cLine)(I:Inv X pins σ H s)(c7:FpOk X pins H a)(F:s.heap.get? a=some (seqObj "list" vs.toArray n0))(W:vs.length<=sizeLine)(a2:d0=.tuple (.int k0:: l0))(D:Paired (TV X.K H d0) ps vs)
  (h:∀(j:List (V×PyData)) H' G,Inv X pins σ H' G->Same H H'->H' a=some (.lst (j.map (·.1)))->j.Perm ps->j.Pairwise (λp q=>lx (fl q.2) (fl p.2)=false)->R .none G):
  wpAny (model X.prog X.w) A (Builtin.«list.sort» ⟨[.ref a],[]⟩) (λO G=>∃v,O=.done (.ret v)/\R v G) E s:=by
 obtain⟨P,T,c9,a0,a1,a4⟩:=c7;rw[list_sort_plain];have d1:a<s.heap.objs.size:=zK F;refine zA (listItems_at F rfl ?_);refine zA (tR F rfl ?_ (by rw[zV];exact W) (zY _));obtain⟨e1,a3⟩:∃e1,(s.heap.update a (Obj.mapSeq λ_=>(#[]:Array Value))).get? a=some (seqObj "list" #[] e1):=⟨_,rT F (λ_=>#[])⟩;have c1:=xY s.heap a (Obj.mapSeq λ_=>(#[]:Array Value));have c3:Inv X pins σ H {s with heap:=s.heap.update a (Obj.mapSeq λ_=>(#[]:Array Value)),toks:=s.toks}:=I.turned (λb o t q=>(c1.2 b t).trans q) P T a0 a1 a4;refine zA (rC a3 rfl ?_);refine zA (qD ?_ W);refine zA (qQ ?_ (zY _));refine yN ?_;have K:(((s.heap.update a (Obj.mapSeq λ_=>(#[]:Array Value))).push (seqObj "tuple" vs.toArray 0)).push (seqObj "list" #[] 0)).get? a=some (seqObj "list" #[] e1):=zC _ (zC _ a3);have y:Inv X pins σ H {s with heap:=((s.heap.update a (Obj.mapSeq λ_=>(#[]:Array Value))).push (seqObj "tuple" vs.toArray 0)).push (seqObj "list" #[] 0),toks:=s.toks}:=c3.kept λb o q=>zC _ (zC _ q);show wpAny (model X.prog X.w) A _ _ E {s with heap:=((s.heap.update a (Obj.mapSeq λ_=>(#[]:Array Value))).push (seqObj "tuple" vs.toArray 0)).push (seqObj "list" #[] 0),toks:=s.toks};generalize ((s.heap.update a (Obj.mapSeq λ_=>(#[]:Array Value))).push (seqObj "tuple" vs.toArray 0)).push (seqObj "list" #[] 0)=f at*
 dsimp only;have O:∀d:SortSt,(arrOf d).Perm (pairsOf vs)->Srt (iA f d0) (arrOf d).toList->R .none {s with heap:=f.update a (Obj.mapSeq λ_=>(arrOf d).map (·.2))}:=by
  intro d L b1;have pl:(arrOf d).toList.Perm (vs.zip vs):=by rw[←tI];exact Array.perm_iff_toList_perm.mp L
  have U:∀e∈(arrOf d).toList,e.1=e.2:=λe U=>cT (pl.mem_iff.mp U);have c6:vs.Perm ((arrOf d).toList.map (·.2)):=by
   have:=(pl.map (·.2)).symm;rw[List.map_snd_zip (zE _)]at this;exact this
  obtain⟨j,a5,a6⟩:=Paired.perm c6 D;have b6:∀p v,TV X.K H d0 p v->(iA f d0).keyOf v=some (fl p.2):=λp v g=>by
   obtain⟨as,r⟩:=g.d.reads y g.r;exact aT g.t g.z r
  have c8:=ord_of (κ:=iA f d0) (k:=λp:V×PyData=>fl p.2) b6 _ j U b1 a6;have b3:((arrOf d).map (·.2)).toList=(arrOf d).toList.map (·.2):=Array.toList_map ..;generalize (arrOf d).map (·.2)=out at*
  have M:=xY f a (Obj.mapSeq λ_=>out);obtain⟨S,a7⟩:∃S,(f.update a (Obj.mapSeq λ_=>out)).get? a=some (seqObj "list" (out) S):=⟨_,rT K λ_=>out⟩;generalize f.update a (Obj.mapSeq λ_=>out)=c5 at*
  refine h j (upd H a (.lst (j.map (·.1)))) _ ?_ ?_ nN a5 c8
  ·have C:∀b u,H b=some u->b≠a:=λb u e z=>by rw[z,P]at e;cases e
   refine Inv.step (s:={s with heap:=f,toks:=s.toks}) (h':=c5) (H':=upd H a (.lst (j.map (·.1)))) (I:=y) (g':=s.gens) (d':=s.drawn) (t':=s.toks) (ch:=[a]) (λb t=>?_) (λb o _ _ i e _=>(M.2 b (λz=>i (by simp[z]))).trans e) (λb o _ _ i e _=>⟨o.slots,(M.2 b (λz=>i (by simp[z]))).trans e⟩)
    (λb o i e q=>by rw[nO (λz=>i (by simp[z]))];exact q) (λb o i e=>⟨o,(M.2 b (λz=>i (by simp[z]))).trans e⟩) (λb xs e=>by rw[nO (C _ _ e)];exact e) (λb o u e=>by rw[nO (C _ _ e)];exact e)
    (λb ps e=>⟨#[],by rw[nO (C _ _ e),e];simp⟩) (λm Z=>?_) (λb u e=>?_) y.bare
   ·have e:b=a:=by simpa using t
    subst e;exact⟨a0,T,a1,a4⟩
   ·obtain⟨o,es,ep,F,r⟩:=Z;exact⟨o,es,ep,(M.2 _ (zT T)).trans F,r⟩
   ·by_cases t:b=a
    ·subst t;rw[nN]at e;cases e;refine⟨?_,(arrOf d).toList.map (·.2),S,TV.vals a6,by rw[a7,←b3]⟩;rw[yM,a5.length_eq,mU D];exact W
    ·rw[nO t]at e;refine(y.hok b u e).stay (λc v i q=>(M.2 c ?_).trans q) (λc q=>by rw[nO (C _ _ q)];exact q) λc xs q=>by rw[nO (C _ _ q)];exact q
     rcases i with z|z
     ·rw[z];exact t
     ·exact C c _ z
  ·intro b u q;rw[nO (λz=>by rw[z,P]at q;cases q)];exact q
 have hsz:vs.toArray.size=vs.length:=by simp
 by_cases w:vs.toArray.size<2
 ·rw[zF w,zF w];refine zA (zB ?_);rw[StateT.run_pure];refine zA (zB ?_);dsimp only;refine zA (rC K rfl ?_);refine zA (tR K rfl ?_ (zY _) (by rw[qF];show(pairsOf vs).size<=_;rw[sN];omega));simp only[bne_self_eq_false,Bool.false_eq_true,if_false];refine zB ⟨_,rfl,O (SortSt.mk' general' (vs.toArray.zip vs.toArray) #[] 7 none) (oA _) ?_⟩;show Srt _ (pairsOf vs).toList;rw[tI]
  match vs,hsz,w with
  |[],_,_=>exact .nil
  |[_],_,_=>exact .cons (λ_ h=>nomatch h) .nil
  |_:: _:: _,_,w=>simp at w;omega
 ·rw [zD w,zD w];have b5:∀{ps:List (V×PyData)}{vs:LW},Paired (TV X.K H d0) ps vs->∃fs,PySem.W.KatTups f vs fs/\fs.length=vs.length/\∀v∈fs,∃n N,v=Value.int n N:=by
   intro ps vs D
   induction D with
   |nil=>exact⟨[],PySem.W.KatTups.nil,rfl,λ_ h=>nomatch h⟩
   | @cons p v ps vs g _ b7 =>
    obtain⟨fs,k,l,N⟩:=b7;obtain⟨as,r⟩:=g.d.reads y g.r;have z:=g.z;rw[a2]at z;generalize p.2=dd at*
    cases r <;> simp only[sm,Bool.false_eq_true]at z
    case tuple b o us m xs hg i hd hr =>
     cases xs with
     |nil=>simp[smA]at z
     | cons x xs =>
      simp only[smA,Bool.and_eq_true]at z;cases hr0:us.toList with
      |nil=>rw[hr0]at hr;cases hr
      | cons u d2 =>
       rw[hr0]at hr;cases hr with
       | cons r1 r2 =>
        have b0:=z.1;cases r1 <;> simp only[sm,Bool.false_eq_true]at b0
        case int n2 t2 =>
         refine⟨Value.int n2 t2:: fs,PySem.W.KatTups.cons hg i hd ?_ k,by simp[l],λv J=>?_⟩
         ·rw[←yI,hr0];rfl
         ·rcases xL.mp J with e|J
          ·exact⟨_,_,e⟩
          ·exact N v J
  obtain⟨fs,c2,d3,c4⟩:=b5 D;refine zA (PySem.W.kat_kind (s:={s with heap:=f,toks:=s.toks}) (T:=.type "int") c2 ⋯ (λv J=>?_) rfl ?_)
  ·obtain⟨n,N,rfl⟩:=c4 v J;exactλA Q E s k q=>uH (T:= "int") rfl q
  have c0:(Value.type "int" != Value.type "tuple")=true:=∅
  rw[c0];refine zA (yQ (b9 (κ:=iA f d0) (kd:=tuples' true) (a₀:=pairsOf vs) (st:=SortSt.mk' (tuples' true) (vs.toArray.zip vs.toArray) #[] 7 none)
   (Q:=λ_ d=>(arrOf d).Perm (pairsOf vs)/\failedOf d=none/\Up (iA f d0) (arrOf d) 0 (pairsOf vs).size) (sN _) ⋯ (cmpP (s:={s with heap:=f,toks:=s.toks}) b4 ⟨_,_,a2⟩) (λx Y=>?_) rfl rfl rfl rfl λd _ a8 a9 b8=>⟨a9,a8,b8⟩) ?_ λ_ _ e=>e)
  ·rw[tI]at Y;have e:=cT Y;have Z:x.2∈vs:=(uT (a:=x.1) (b:=x.2) Y).2;obtain⟨p,_,g⟩:=aV D x.2 Z;obtain⟨as,r⟩:=g.d.reads y g.r;exact⟨fl p.2,by rw[e];exact aT g.t g.z r⟩
  rintro⟨⟨⟩,d⟩ G ⟨rfl,L,b2,up⟩;dsimp only;refine zA (rC K rfl ?_);refine zA (tR K rfl ?_ (zY _) (by refine yC (sI ((qF ..).trans (L.size_eq.trans (sN _)))) ?_;omega));rw[b2];simp only[bne_self_eq_false,Bool.false_eq_true,if_false];refine zB ⟨_,rfl,O d L ?_⟩;have:=aS up
  rwa[Im (by rw[zL];exact L.size_eq)]at this
end
def Vw(K:Frag)(N:Nat):List V->Hp->VK->Prop:=λxs H Q=>∃(p:Addr)(ps:List (V×PyData))(k0:Int)(l0:List PyData),xs=[.ref p]/\ps.length<=N/\SqL K H p (ps.map (·.1))/\(∀q∈ps,tT 4 q.2=true/\sm (.tuple (.int k0:: l0)) q.2=true/\Dt K H q.1 q.2) /\
 ∀q(ps':List (V×PyData)) H',Same H H'->H q=none->H' q=some (.lst (ps'.map (·.1)))->ps'.Perm ps->Asc ps'->Q (.ref q) H'
section
variable {X:Cx} {pins:PN} {σ:St} {H:Hp} {s:Shared} {d0:PyData} {l0:List PyData} {k0:Int}
theorem Vv{N:Nat}(j:∀n,n<=N->gX X.prog X.w n)(y:X.A.units+64<cLine){ps:List (V×PyData)}{its:LW}{v:Value}{Q:VK}(g:its.length<=sizeLine)(l:its.length<=N)(r:d0=.tuple (.int k0:: l0))(t:Paired (TV X.K H d0) ps its)
  (u:∀(i:LW->Shared->Prop)(x:VP),(∀a,Inv X pins σ H a->i its a)->wpAny (model X.prog X.w) X.A.in1 (collect v) i x s)
  (h:∀q(c:List (V×PyData)) H',Same H H'->H q=none->H' q=some (.lst (c.map (·.1)))->c.Perm ps->Asc c->Q (.ref q) H'):
  wpAny (model X.prog X.w) X.A (call (.builtin "sorted") [v]) (EP X pins σ Q) X.xe s:=by
 refine tZ kind_sorted plain_sorted entry_sorted (args_sorted1 _) ?_;unfold Builtin.«sorted»;refine zA (m:=checkCount "sorted" 1 1 _) (zB ?_);refine zA (u _ _ λa I=>?_);refine zA (qQ ?_ g);have d:(a.heap.push (seqObj "list" its.toArray 0)).get? a.heap.objs.size=some (seqObj "list" its.toArray 0):=zQ _ rfl;have f:H a.heap.objs.size=none:=I.hok.fresh (zE _);have m:=I.fpOk (zE _) f;have k:Inv X pins σ H {a with heap:=a.heap.push (seqObj "list" its.toArray 0),toks:=a.toks}:=I.kept λb o q=>zC _ q;refine zA (yN (xE slot_list_sort ⟨_,d,rfl⟩ entry_list_sort ?body (args_list_sort _)));show wpAny (model X.prog X.w) X.A.in1.in1 (Builtin.«list.sort» ⟨[.ref a.heap.objs.size],[]⟩) _ _ {a with heap:=a.heap.push (seqObj "list" its.toArray 0),toks:=a.toks};refine Vx (j _ l) (A:=X.A.in1.in1) (by show X.A.units+1+1+16<cLine;omega) k m d g r t λc H' z w sm e p o=>?_;exact zB ⟨_,rfl,.ref a.heap.objs.size,H',w,rfl,h _ c H' sm f e p o⟩
theorem Vu{N:Nat}(g:∀n,n<=N->gX X.prog X.w n)(k:X.A.units+64<cLine):kD X (.builtin "sorted") (Vw X.K N):=by
 intro pins s σ H xs us Q I r h;obtain⟨p,ps,k0,l0,rfl,t,l,j,q⟩:=h;obtain⟨u,rfl,m⟩:=jM r;cases m;obtain⟨its,i,pl,v⟩:=I.list l;obtain⟨o,n0,e,c,_,dd⟩:=id pl;have x:s.heap.IsList p its.toArray:=⟨o,e,c,n0,dd⟩;have a:=Io (d0:=.tuple (.int k0:: l0)) i j;have d:its.length<=sizeLine:=by rw[←mU a];simpa using v
 refine Vv g k d (by rw[←mU a];exact t) rfl a (λy z w=>collect_list x (w _ ?_) d) q;refine I.kept (h':=(s.heap.push (seqObj "list" #[] 0)).update s.heap.objs.size (Obj.mapSeq (·++its.toArray))) (t':=s.toks) λb o q=>?_;have f:b<s.heap.objs.size:=zK q;rw[rY _ _ _ _ (zW f),Heap.get?_push_ne _ _ _ (zW f)];exact q
end
theorem Vt{prog:Program}{w:World}(d:Addr)(c:(d == sysModules)=false):
  MeetsIn prog w (Builtin.«dict.__len__» ⟨[.ref d],[]⟩) (λ_ R s=>∃es ep,RawD s.heap d es ep/\R (.ok (.ret (.int es.size s.toks))) {s with toks:=s.toks+1}):=
 .of_wp λA R s⟨es,ep,e,h⟩=>by
  obtain⟨o,a,f,b⟩:=e;show wpAny _ _ (dictSize d >>= _) _ _ s;unfold dictSize;refine zA (zA (sU a b (zB ?_)));show wpAny _ _ (Builtin.Dict.pendingCount d >>= _) _ _ s;refine zA (wpAny_pendingCount_other c ?_);refine wpAny_ret_mkInt ?_;rw[tE];exact h
theorem Vs{prog:Program}{w:World}{A:Around}{E:VP}{s:Shared}{d:Addr}{es:Array DictEntry}{ep:Nat}{Q:VP}(c:(d == sysModules)=false)(b:RawD s.heap d es ep)(e:(es.size:Int)<2^63)
  (h:Q (.int es.size (s.toks+1)) {s with toks:=s.toks+1+1}):wpAny (model prog w) A (call (.builtin "len") [.ref d]) Q E s:=by
 have a:=b.typeIs;refine tZ kind_len plain_len entry_len (args_len1 _) ?_;unfold Builtin.«len»;refine zA (m:=oneArg "len" _) (zB ?_);refine zA (m:=callSpecial? (.ref d) (Str.ofString "__len__")) (xO (name:=Str.ofString "__len__") a PySem.F.slot_dict_len
  (call_meetsIn PySem.F.slot_dict_len a PySem.F.entry_dict_len (PySem.F.args_dict_len_1 _) (Vt d c) ⟨es,ep,b,?_⟩))
 show wpAny _ _ _ _ _ {s with toks:=s.toks+1};refine zA (yN (zB ?_));refine zA (qG ?_);show wpAny _ _ (if((es.size:Nat):Int)<0 then _ else _) _ _ _;rw[zD ⋯];show wpAny _ _ (if((es.size:Nat):Int)≥2^63 then _ else _) _ _ _;rw[zD ⋯];exact zA (wpAny_mkInt (zB ⟨_,rfl,h⟩))
def Vr(K:Frag):List V->Hp->VK->Prop:=λxs H Q=>∃a kvs,xs=[.ref a]/\DTr K H a kvs/\Q (.int kvs.length) H
theorem Vq{X:Cx}:kD X (.builtin "len") (Vr X.K):=by
 intro l s p H xs us Q I r h;obtain⟨a,kvs,rfl,g,q⟩:=h;obtain⟨u,rfl,c⟩:=jM r;cases c;have n:=dX;obtain⟨xs,e,f,dd⟩:=gG I g;obtain⟨o,es,ep,d,j,i,b,_⟩:=id dd;have m:=g.len;have k:RawD s.heap a es ep:=⟨o,d,j,i⟩;have l1:es.size=kvs.length:=by
  rw[mU f,←zL,b,yM]
 exact Vs g.sys k ⋯ ⟨.int kvs.length,H,I.tok _,⟨s.toks+1,by rw[l1]⟩,q⟩
end L2
namespace Cw
open PySem L2
abbrev pa':List Str:=["_law_members","_law_words","_law_makers_here","_law_d","_law_most"]
abbrev pb':List Str:=["_law_script","_law_at","_law_d","_law_spot_here","_law_sort"]
abbrev pc':List Str:=["_law_words","_law_makers_here","_law_many","_law_most"]
abbrev pd':List Str:=["_law_words","_law_makers_here","_law_d","_law_most"]
abbrev pe':List Str:=["_law_word","_law_makers_here","_law_most"]
abbrev pf':List Str:=["_law_rows_here","_law_tops","_law_under"]
abbrev pg':List Str:=["_law_words","_law_makers_here","_law_d"]
abbrev ph':List Str:=["_law_word","_law_makers_here","_law_d"]
abbrev pi':List Str:=["_law_sort","_law_box_here","_law_d"]
abbrev pj':List Str:=["_law_members","_law_d","_law_most"]
abbrev pk':List Str:=["_law_rows_here","_law_box_here"]
abbrev pl':List Str:=["_law_box_here","_law_many"]
abbrev pm':List Str:=["self","d","makers","most"]
abbrev pn':List Str:=["_law_box_here","_law_d"]
abbrev po':List Str:=["_law_one","_law_other"]
abbrev pp':List Str:=["_law_script","_law_k"]
abbrev pq':List Str:=["_law_script","_law_d"]
abbrev pr':List Str:=["rows","tops","under"]
abbrev pt':List Str:=["d","makers","most"]
abbrev pu':List Str:=["_law_one","_law_d"]
abbrev pv':List Str:=["self","apart"]
abbrev pw':List Str:=["rows","i","k"]
abbrev px':List Str:=["one","other"]
abbrev py':List Str:=["rows","spot"]
abbrev pz':List Str:=["_law_script"]
abbrev pA':List Str:=["_law_found"]
abbrev pB':List Str:=["rows"]
abbrev pC':List Str:=["self"]
open PySem.W (nsIn keepIn codeIn findIn fnOf mg_of kitOne)
open PyProof.Rows (mulOk_of_bits)
theorem zqe{a b:Type}{l:List a}{f:a->b}:(l.map f).length=l.length:=yM ..
theorem zqa{b:Type}{l:List b}{i:Nat}{a:b}(h:l[i]?=some a):∃h:i<l.length,l[i]=a:=nA.mp h
theorem zqb{b:Type}{l:List b}{i:Nat}{a:b}(h:l[i]?=some a):a∈l:=yF h
theorem zqc{b:Type}{l:List b}{i:Nat}{a:b}:l.getD i a=l[i]?.getD a:=tU
theorem zqd{a:Type}{l:List a}{i:Nat}(h:i<l.length):l[i]?=some l[i]:=xN h
open PySem.W (Frag)
abbrev LM:=List (LI')
def top(i:Nat):Stmt:=PySem.Challenge.pw_crystalwords_k41_whole_closed.main.body.getD i (.Pass ⟨0,0,0,0⟩)
abbrev s_17:Stmt:=top 2
abbrev N_17:List Str:=["thing"]
abbrev s_3:Stmt:=eO (top 8) 0
abbrev N_3:List Str:=pv'
abbrev s_14:Stmt:=top 10
abbrev N_14:List Str:=["one","other","greater","lesser","remainder"]
abbrev s_18:Stmt:=top 12
abbrev N_18:List Str:=["tops","under","common","top"]
abbrev aY:Stmt:=top 13
abbrev N_q:List Str:=["one","under"]
abbrev aZ:Stmt:=top 15
abbrev N_s:List Str:=["size"]
abbrev s_1k:Stmt:=top 16
abbrev N_1k:List Str:=px'
abbrev s_1b:Stmt:=top 17
abbrev N_1b:List Str:=pB'
abbrev s_16:Stmt:=top 18
abbrev N_16:List Str:=pw'
abbrev s_4:Stmt:=top 19
abbrev N_4:List Str:=["rows","total","sign","k","number"]
abbrev s_15:Stmt:=top 21
abbrev N_15:List Str:=py'
abbrev s_1g:Stmt:=top 22
abbrev N_1g:List Str:=["rows","tops","under","axes"]
abbrev s_1e:Stmt:=top 23
abbrev N_1e:List Str:=["d"]
abbrev s_1c:Stmt:=top 24
abbrev N_1c:List Str:=["one","spot","tops"]
abbrev s_19:Stmt:=top 25
abbrev N_19:List Str:=["one","other","columns","rows"]
abbrev s_1i:Stmt:=top 26
abbrev N_1i:List Str:=["one"]
abbrev Du:Stmt:=top 29
abbrev N_t:List Str:=["most"]
abbrev Dr:Stmt:=top 30
abbrev N_r:List Str:=["d","makers","maker"]
abbrev s_12:Stmt:=top 31
abbrev N_12:List Str:=["d","makers","most","steps","found","words","at","number","step","reached"]
abbrev s_0:Stmt:=eO (top 32) 0
abbrev N_0:List Str:=["self","d","makers","most","words"]
abbrev Dq:Stmt:=eO (top 32) 1
abbrev N_a:List Str:=pC'
abbrev s_8:Stmt:=eO (top 32) 2
abbrev N_8:List Str:=pC'
abbrev s_5:Stmt:=eO (top 32) 3
abbrev N_5:List Str:=pC'
abbrev s_9:Stmt:=eO (top 32) 4
abbrev N_9:List Str:=pC'
abbrev Dp:Stmt:=top 34
abbrev N_w:List Str:=["_law_script","_law_k","_law_cells"]
abbrev s_1:Stmt:=top 35
abbrev N_1:List Str:=["_law_box_here","_law_many","_law_digit","_law_number"]
abbrev Do:Stmt:=top 36
abbrev N_h:List Str:=pA'
abbrev Dm:Stmt:=top 37
abbrev N_f:List Str:=po'
abbrev Az:Stmt:=top 38
abbrev N_l:List Str:=["_law_d"]
abbrev Ay:Stmt:=top 39
abbrev N_j:List Str:=["_law_one","_law_other","_law_d","_law_found","_law_i"]
abbrev Dl:Stmt:=top 40
abbrev N_v:List Str:=["_law_box_here","_law_d","_law_rows_here","_law_k"]
abbrev Ax:Stmt:=top 41
abbrev N_g:List Str:=["_law_box_here","_law_d","_law_left","_law_rows_here","_law_i","_law_at","_law_sign"]
abbrev Aw:Stmt:=top 42
abbrev N_x:List Str:=["_law_box_here","_law_d","_law_rows_here","_law_k","_law_i","_law_j","_law_by"]
abbrev s_13:Stmt:=top 43
abbrev N_13:List Str:=pi'
abbrev Av:Stmt:=top 44
abbrev N_p:List Str:=["_law_rows_here","_law_box_here","_law_d","_law_k","_law_i","_law_j","_law_by","_law_row"]
abbrev cU:Stmt:=top 45
abbrev N_m:List Str:=["_law_rows_here","_law_tops","_law_under","_law_by","_law_top"]
abbrev s_11:Stmt:=top 46
abbrev N_11:List Str:=["_law_rows_here","_law_tops","_law_under","_law_by","_law_top"]
abbrev Au:Stmt:=top 47
abbrev N_k:List Str:=["_law_script","_law_at","_law_d","_law_spot_here","_law_sort","_law_box_here","_law_rows_here","_law_under","_law_tops","_law_i","_law_far"]
abbrev s_10:Stmt:=top 48
abbrev N_10:List Str:=["_law_script","_law_d","_law_box_here","_law_under"]
abbrev At:Stmt:=top 49
abbrev N_i:List Str:=["_law_script","_law_box_here","_law_d","_law_many","_law_sort","_law_spot_here"]
abbrev s_6:Stmt:=top 50
abbrev N_6:List Str:=["_law_one","_law_other","_law_rows_here","_law_tops","_law_i","_law_far"]
abbrev Dk:Stmt:=top 51
abbrev N_c:List Str:=["_law_word","_law_makers_here","_law_d","_law_done","_law_number"]
abbrev Dj:Stmt:=top 52
abbrev N_o:List Str:=["_law_word","_law_makers_here","_law_most","_law_number"]
abbrev Di:Stmt:=top 53
abbrev N_z:List Str:=["_law_e"]
abbrev s_2:Stmt:=top 54
abbrev N_2:List Str:=["_law_words","_law_makers_here","_law_d","_law_known","_law_made","_law_size","_law_k","_law_word"]
abbrev s_7:Stmt:=top 55
abbrev N_7:List Str:=["_law_words","_law_makers_here","_law_many","_law_most","_law_word"]
abbrev Dh:Stmt:=top 56
abbrev N_y:List Str:=["_law_words","_law_makers_here","_law_d","_law_most","_law_seen","_law_one"]
abbrev As:Stmt:=top 57
abbrev N_e:List Str:=["_law_one","_law_d","_law_row"]
abbrev Dg:Stmt:=top 58
abbrev N_u:List Str:=["_law_members","_law_d","_law_most","_law_k"]
abbrev Df:Stmt:=top 59
abbrev N_n:List Str:=["_law_members","_law_words","_law_makers_here","_law_d","_law_most","_law_lengths","_law_k","_law_one","_law_maker_here","_law_onward"]
abbrev s_1j:Stmt:=top 60
abbrev N_1j:List Str:=["_law_script","_law_d","_law_makers_here","_law_box_here","_law_most","_law_handed","_law_group","_law_words","_law_only_here","_law_e"]
local macro_rules | `(tactic| walk_at "s")=>`(tactic| exact ⟨rfl,rfl,rfl,by decide +kernel,rfl,by decide +kernel,by decide +kernel⟩)
local macro_rules | `(tactic| walk_at "v")=>`(tactic| (intro _ _ _ _ h; first | (obtain ⟨_,hh,_⟩:=h; subst hh; rfl) | (obtain ⟨_,_,hh,_⟩:=h; subst hh; rfl) | (obtain ⟨_,_,_,hh,_⟩:=h; subst hh; rfl) | (obtain ⟨_,_,_,_,hh,_⟩:=h; subst hh; rfl) | (obtain ⟨_,_,_,_,_,hh,_⟩:=h; subst hh; rfl) | (obtain ⟨_,_,_,_,_,_,hh,_⟩:=h; subst hh; rfl) | (obtain ⟨_,_,_,_,_,_,_,hh,_⟩:=h; subst hh; rfl) | (obtain ⟨_,_,_,_,_,_,_,_,hh,_⟩:=h; subst hh; rfl) | (obtain ⟨_,_,_,_,_,_,_,_,_,hh,_⟩:=h; subst hh; rfl)))
theorem sc_17:nZ N_17 ["thing"] (nP s_17):=by walk_at "s"
theorem sc_3:nZ N_3 pv' (nP s_3):=by walk_at "s"
theorem sc_14:nZ N_14 px' (nP s_14):=by walk_at "s"
theorem sc_18:nZ N_18 ["tops","under"] (nP s_18):=by walk_at "s"
theorem sc_q:nZ N_q ["one"] (nP aY):=by walk_at "s"
theorem sc_s:nZ N_s ["size"] (nP aZ):=by walk_at "s"
theorem sc_1k:nZ N_1k px' (nP s_1k):=by walk_at "s"
theorem sc_1b:nZ N_1b pB' (nP s_1b):=by walk_at "s"
theorem sc_16:nZ N_16 pw' (nP s_16):=by walk_at "s"
theorem sc_4:nZ N_4 pB' (nP s_4):=by walk_at "s"
theorem sc_15:nZ N_15 py' (nP s_15):=by walk_at "s"
theorem sc_1g:nZ N_1g pr' (nP s_1g):=by walk_at "s"
theorem sc_1e:nZ N_1e ["d"] (nP s_1e):=by walk_at "s"
theorem sc_1c:nZ N_1c ["one","spot"] (nP s_1c):=by walk_at "s"
theorem sc_19:nZ N_19 px' (nP s_19):=by walk_at "s"
theorem sc_1i:nZ N_1i ["one"] (nP s_1i):=by walk_at "s"
theorem sc_t:nZ N_t ["most"] (nP Du):=by walk_at "s"
theorem sc_r:nZ N_r ["d","makers"] (nP Dr):=by walk_at "s"
theorem sc_12:nZ N_12 pt' (nP s_12):=by walk_at "s"
theorem sc_0:nZ N_0 pm' (nP s_0):=by walk_at "s"
theorem sc_a:nZ N_a pC' (nP Dq):=by walk_at "s"
theorem sc_8:nZ N_8 pC' (nP s_8):=by walk_at "s"
theorem sc_5:nZ N_5 pC' (nP s_5):=by walk_at "s"
theorem sc_9:nZ N_9 pC' (nP s_9):=by walk_at "s"
theorem sc_w:nZ N_w pp' (nP Dp):=by walk_at "s"
theorem sc_1:nZ N_1 pl' (nP s_1):=by walk_at "s"
theorem sc_h:nZ N_h pA' (nP Do):=by walk_at "s"
theorem sc_f:nZ N_f po' (nP Dm):=by walk_at "s"
theorem sc_l:nZ N_l ["_law_d"] (nP Az):=by walk_at "s"
theorem sc_j:nZ N_j po' (nP Ay):=by walk_at "s"
theorem sc_v:nZ N_v pn' (nP Dl):=by walk_at "s"
theorem sc_g:nZ N_g pn' (nP Ax):=by walk_at "s"
theorem sc_x:nZ N_x pn' (nP Aw):=by walk_at "s"
theorem sc_13:nZ N_13 pi' (nP s_13):=by walk_at "s"
theorem sc_p:nZ N_p pk' (nP Av):=by walk_at "s"
theorem sc_m:nZ N_m pf' (nP cU):=by walk_at "s"
theorem sc_11:nZ N_11 pf' (nP s_11):=by walk_at "s"
theorem sc_k:nZ N_k pb' (nP Au):=by walk_at "s"
theorem sc_10:nZ N_10 pq' (nP s_10):=by walk_at "s"
theorem sc_i:nZ N_i pz' (nP At):=by walk_at "s"
theorem sc_6:nZ N_6 po' (nP s_6):=by walk_at "s"
theorem sc_c:nZ N_c ph' (nP Dk):=by walk_at "s"
theorem sc_o:nZ N_o pe' (nP Dj):=by walk_at "s"
theorem sc_z:nZ N_z ["_law_e"] (nP Di):=by walk_at "s"
theorem sc_2:nZ N_2 pg' (nP s_2):=by walk_at "s"
theorem sc_7:nZ N_7 pc' (nP s_7):=by walk_at "s"
theorem sc_y:nZ N_y pd' (nP Dh):=by walk_at "s"
theorem sc_e:nZ N_e pu' (nP As):=by walk_at "s"
theorem sc_u:nZ N_u pj' (nP Dg):=by walk_at "s"
theorem sc_n:nZ N_n pa' (nP Df):=by walk_at "s"
theorem sc_1j:nZ N_1j pz' (nP s_1j):=by walk_at "s"
set_option genInjectivity false in
structure Adr where
 (a_17 a_3 a_14 a_18 a_q a_s a_1k a_1b a_16 a_4 a_15 a_1g a_1e a_1c a_19 a_1i a_t a_r a_12 a_0 a_a a_8 a_5 a_9 a_w a_1 a_h a_f a_l a_j a_v a_g a_x a_13 a_p a_m a_11 a_k a_10 a_i a_6 a_c a_o a_z a_2 a_7 a_y a_e a_u a_n a_1j:Addr)
 (d_17 d_3 d_14 d_18 d_q d_s d_1k d_1b d_16 d_4 d_15 d_1g d_1e d_1c d_19 d_1i d_t d_r d_12 d_0 d_a d_8 d_5 d_9 d_w d_1 d_h d_f d_l d_j d_v d_g d_x d_13 d_p d_m d_11 d_k d_10 d_i d_6 d_c d_o d_z d_2 d_7 d_y d_e d_u d_n d_1j:FuncData)
 a_1a:Addr
 a_1h:Addr
 a_1d:Addr
 a_1f:Addr
 a_1l:Addr
 a_d:Addr
 a_b:Addr
 k_0:Tok
structure Txt(K:Frag)(mg:MT)(t:Adr):Prop where
 F_17:FunT K mg "copied" s_17 t.a_17 t.d_17 ["thing"]
 F_3:Fun K "__init__" "TooMany.__init__" s_3 t.a_3 t.d_3
 b_3:lT K t.d_3 pv' []
 F_14:FunT K mg "divisor" s_14 t.a_14 t.d_14 px'
 F_18:FunT K mg "place" s_18 t.a_18 t.d_18 ["tops","under"]
 F_q:FunT K mg "rest_place" aY t.a_q t.d_q ["one"]
 F_s:FunT K mg "still_rows" aZ t.a_s t.d_s ["size"]
 F_1k:FunT K mg "dot" s_1k t.a_1k t.d_1k px'
 F_1b:FunT K mg "turned" s_1b t.a_1b t.d_1b pB'
 F_16:FunT K mg "without" s_16 t.a_16 t.d_16 pw'
 F_4:FunT K mg "determinant" s_4 t.a_4 t.d_4 pB'
 F_15:FunT K mg "joined" s_15 t.a_15 t.d_15 py'
 F_1g:FunT K mg "deed" s_1g t.a_1g t.d_1g pr'
 F_1e:FunT K mg "still" s_1e t.a_1e t.d_1e ["d"]
 F_1c:FunT K mg "moved" s_1c t.a_1c t.d_1c ["one","spot"]
 F_19:FunT K mg "behind" s_19 t.a_19 t.d_19 px'
 F_1i:FunT K mg "rest" s_1i t.a_1i t.d_1i ["one"]
 F_t:FunT K mg "check_most" Du t.a_t t.d_t ["most"]
 F_r:FunT K mg "check_axes" Dr t.a_r t.d_r ["d","makers"]
 F_12:FunT K mg "closed" s_12 t.a_12 t.d_12 pt'
 F_0:FunD K "__init__" "Group.__init__" s_0 t.a_0 t.d_0 [.int 200 t.k_0]
 bd_Group___init__:lT K t.d_0 pm' [.int 200 t.k_0]
 b_0:lT K t.d_0 pm' []
 F_a:Fun K "axes" "Group.axes" Dq t.a_a t.d_a
 b_a:lT K t.d_a pC' []
 F_8:Fun K "makers" "Group.makers" s_8 t.a_8 t.d_8
 b_8:lT K t.d_8 pC' []
 F_5:Fun K "members" "Group.members" s_5 t.a_5 t.d_5
 b_5:lT K t.d_5 pC' []
 F_9:Fun K "words" "Group.words" s_9 t.a_9 t.d_9
 b_9:lT K t.d_9 pC' []
 F_w:FunT K mg "_law_box" Dp t.a_w t.d_w pp'
 F_1:FunT K mg "_law_take" s_1 t.a_1 t.d_1 pl'
 F_h:FunT K mg "_law_whole" Do t.a_h t.d_h pA'
 F_f:FunT K mg "_law_common" Dm t.a_f t.d_f po'
 F_l:FunT K mg "_law_still" Az t.a_l t.d_l ["_law_d"]
 F_j:FunT K mg "_law_times" Ay t.a_j t.d_j po'
 F_v:FunT K mg "_law_sixty" Dl t.a_v t.d_v pn'
 F_g:FunT K mg "_law_signed" Ax t.a_g t.d_g pn'
 F_x:FunT K mg "_law_free" Aw t.a_x t.d_x pn'
 F_13:FunT K mg "_law_rows" s_13 t.a_13 t.d_13 pi'
 F_p:FunT K mg "_law_based" Av t.a_p t.d_p pk'
 F_m:FunT K mg "_law_rest" cU t.a_m t.d_m pf'
 F_11:FunT K mg "_law_low" s_11 t.a_11 t.d_11 pf'
 F_k:FunT K mg "_law_maker" Au t.a_k t.d_k pb'
 F_10:FunT K mg "_law_spot" s_10 t.a_10 t.d_10 pq'
 F_i:FunT K mg "_law_makers" At t.a_i t.d_i pz'
 F_6:FunT K mg "_law_product" s_6 t.a_6 t.d_6 po'
 F_c:FunT K mg "_law_walked" Dk t.a_c t.d_c ph'
 F_o:FunT K mg "_law_is_word" Dj t.a_o t.d_o pe'
 F_z:FunT K mg "_law_only" Di t.a_z t.d_z ["_law_e"]
 F_2:FunT K mg "_law_all_walked" s_2 t.a_2 t.d_2 pg'
 F_7:FunT K mg "_law_are_words" s_7 t.a_7 t.d_7 pc'
 F_y:FunT K mg "_law_apart" Dh t.a_y t.d_y pd'
 F_e:FunT K mg "_law_is_deed" As t.a_e t.d_e pu'
 F_u:FunT K mg "_law_rising" Dg t.a_u t.d_u pj'
 F_n:FunT K mg "_law_closed" Df t.a_n t.d_n pa'
 F_1j:FunT K mg "law" s_1j t.a_1j t.d_1j pz'
 z_any:mg "any"=none
 z_sum:mg "sum"=none
 z_zip:mg "zip"=none
 z_enumerate:mg "enumerate"=none
 z_range:mg "range"=none
 z_len:mg "len"=none
 z_abs:mg "abs"=none
 z_isinstance:mg "isinstance"=none
 z_int:mg "int"=none
 z_bool:mg "bool"=none
 z_list:mg "list"=none
 z_tuple:mg "tuple"=none
 z_sorted:mg "sorted"=none
 z_dict:mg "dict"=none
 z_ValueError:mg "ValueError"=none
 m_1a:mg "CrystalError"=some (.ref t.a_1a)
 m_1h:mg "NoPlace"=some (.ref t.a_1h)
 m_1d:mg "NoDeed"=some (.ref t.a_1d)
 m_1f:mg "NoNumber"=some (.ref t.a_1f)
 m_1l:mg "NoText"=some (.ref t.a_1l)
 m_d:mg "TooMany"=some (.ref t.a_d)
 m_b:mg "Group"=some (.ref t.a_b)
 g_MOST_MEMBERS:∃u,mg "MOST_MEMBERS"=some u/\RelV (.int 200) u
 h_q:kitOne K (.type "list") (.type "list")=some true
 x_1h:PySem.W.excIn K t.a_1h [.type "ValueError",.type "Exception",.type "BaseException",.type "object"] "ValueError.__new__"=true
 x_1d:PySem.W.excIn K t.a_1d [.type "ValueError",.type "Exception",.type "BaseException",.type "object"] "ValueError.__new__"=true
 cl_b:L2.Cls K t.a_b
 mk_b:L2.Mk K t.a_b t.a_0
 me_5:L2.Meth K t.a_b "members" t.a_5
 h_5:findIn K (.ref t.a_b) "dimension"=some none
 h_l:findIn K (.ref t.a_b) "given"=some none
 h_7:findIn K (.ref t.a_b) "ordered"=some none
 h_6:findIn K (.ref t.a_b) "shortest"=some none
 h_8:findIn K (.ref t.a_b) "numbers"=some none
 me_8:L2.Meth K t.a_b "makers" t.a_8
 h_r:kitOne K (.type "int") (.type "list")=some false
 h_s:kitOne K (.type "int") (.type "tuple")=some false
 h_9:L2.XIn K t.a_d t.a_1a t.a_3
 h_a:L2.XSt K t.a_d "apart"
 h_f:PySem.W.exmOne K (.ref t.a_d) (.ref t.a_d)=some true
 x_1f:PySem.W.excIn K t.a_1f [.type "ValueError",.type "Exception",.type "BaseException",.type "object"] "ValueError.__new__"=true
 ym:PySem.W.exmOne K (.ref t.a_d) (.ref t.a_1a)=some true
 h_t:findIn K (.ref t.a_d) "__getattribute__"=some (some (.builtin "BaseException.__getattribute__"))
 h_u:findIn K (.ref t.a_d) "__getattr__"=some none
 h_v:findIn K (.ref t.a_d) "__class__"=some (some (.builtin "object.__class__"))
 h_w:PySem.W.mroIn K t.a_d (.type "object")=some true
 h_x:PySem.W.mroIn K t.a_d (.type "BaseException")=some true
 h_y:kitOne K (.ref t.a_d) (.type "ValueError")=some true
 y_1f:kitOne K (.ref t.a_d) (.ref t.a_1f)=some false
 y_1d:kitOne K (.ref t.a_d) (.ref t.a_1d)=some false
 y_d:kitOne K (.ref t.a_d) (.ref t.a_d)=some true
 y_1h:kitOne K (.ref t.a_d) (.ref t.a_1h)=some false
 y_1l:kitOne K (.ref t.a_d) (.ref t.a_1l)=some false
 h_z:PySem.W.specialIn K (.builtin "object.__class__") "__get__"=some (some (.builtin "getset_descriptor.__get__"))
 e_tk:PySem.W.takesIn K (.builtin "object.__class__")=some true
 h_o:findIn K (.ref t.a_d) "apart"=some none
 h_d:PySem.W.hasDictIn K t.a_d=true
 me_9:L2.Meth K t.a_b "words" t.a_9
 me_a:L2.Meth K t.a_b "axes" t.a_a
 y_1a:kitOne K (.ref t.a_d) (.ref t.a_1a)=some true
 k_tt:kitOne K (.type "tuple") (.type "tuple")=some true
 h_p:kitOne K (.type "int") (.type "int")=some true
 k_ib:kitOne K (.type "int") (.type "bool")=some false
 bl:∀(s:Shared)(u:Value),BindsTo s t.d_1j ⟨[u],[]⟩ [("_law_script",u)]
local macro_rules | `(tactic| walk_at "r")=>`(tactic| simp only [tSeq,tAsg,nX,tVar,qVar,tC,tOp,t_l,t_V,t_W,tUn,bJ,tB,tIfS,tIf,tAnd,tOr,tNot,Mb,tOrV,Ma,tRet,t_U,Nx,Fs,kJ,Pm,mH,tNil,tCB,tTup,tLst,tPar,Gm,tBM,tBM0,tSl,Bn,Bo,List.getElem?_cons_zero,List.getElem?_cons_succ,Option.some.injEq,exists_eq_left',exists_eq_left,List.set_cons_zero,List.set_cons_succ,List.cons.injEq,V.int.injEq,V.bl.injEq,V.ref.injEq,and_true,true_and,List.append_nil,ne_eq,exists_and_left,and_assoc,↓reduceIte,Bool.not_true,Bool.not_false,Bool.false_eq_true])
set_option hygiene false in
local macro_rules | `(tactic|apply $e:term)=>`(tactic|refine $e (by walk_at "v") (λcdv A outer s H vs Q E hr h=>?_))
set_option hygiene false in
local macro_rules | `(tactic|left)=>`(tactic|(subst e1;refine st λN1 e1=>?_;ext))
set_option hygiene false in
local macro_rules | `(tactic|right)=>`(tactic|(refine st λN1 e1=>?_;ext))
set_option hygiene false in
local macro_rules | `(tactic|symm)=>`(tactic|(subst e1;ext))
set_option hygiene false in
local macro_rules | `(tactic|exfalso)=>`(tactic|(refine mK λB eB=>?_;simp only[iSeq];ext))
def gcdI(a b:Int):Int:=(Int.gcd a b:Int)
def absI(u:Int):Int:=if u<0 then -u else u
def gl(u:Int)(ns:LI'):Int:=ns.foldl gcdI (absI u)
theorem Vp(u:Int):0<=absI u:=by unfold absI;split <;> omega
theorem Vo{d u:Int}:d∣absI u↔d∣u:=by
 unfold absI;split
 ·exact Int.dvd_neg
 ·exact Iff.rfl
theorem Jw{d:Int}:∀(ns:LI')(c:Int),d∣ns.foldl gcdI c↔d∣c/\∀g∈ns,d∣g
 |[],c=>by simp
 | g:: r,c=>by
  rw[vA,Jw r];unfold gcdI;rw[Int.dvd_coe_gcd_iff];constructor
  ·rintro⟨⟨b,a⟩,i⟩;refine⟨b,λx f=>?_⟩;rcases xL.mp f with e|e
   ·rw[e];exact a
   ·exact i x e
  ·rintro⟨b,a⟩;exact⟨⟨b,a g yE⟩,λx f=>a x (zU _ f)⟩
theorem dJ{d u:Int}{ns:LI'}:d∣gl u ns↔d∣u/\∀t∈ns,d∣t:=by
 unfold gl;rw[Jw,Vo]
theorem Jv:∀(ns:LI')(c:Int),0<=c->0<=ns.foldl gcdI c
 |[],_,h=>h
 |t:: r,c,_=>Jv r _ (Int.natCast_nonneg _)
theorem Ar(u:Int)(ns:LI'):0<=gl u ns:=Jv ns _ (Vp u)
theorem gl_u(u:Int)(ns:LI'):gl u ns∣u:=(dJ.mp (pO _)).1
theorem Aq{u t:Int}{ns:LI'}(h:t∈ns):gl u ns∣t:=(dJ.mp (pO _)).2 t h
theorem De{u:Int}(ns:LI')(h:u≠0):0<gl u ns:=by
 have:=Ar u ns;rcases Int.lt_or_eq_of_le this with q|q
 ·exact q
 ·obtain⟨k,e⟩:=gl_u u ns;rw[←q,uJ]at e;exact absurd e h
theorem Vn{u v:Int}{ns ms:LI'}(h:∀d:Int,(d∣u/\∀t∈ns,d∣t)↔(d∣v/\∀t∈ms,d∣t)):gl u ns=gl v ms:=
 Int.dvd_antisymm (Ar _ _) (Ar _ _) (dJ.mpr ((h _).mp (dJ.mp (pO _)))) (dJ.mpr ((h _).mpr (dJ.mp (pO _))))
theorem Vm(u:Int)(ns:LI')(t:Int):gl u (ns++[t])=gcdI (gl u ns) t:=by unfold gl;rw[vX];rfl
def cs(u:Int)(ns:LI'):Int:=if u<0 then -(gl u ns) else gl u ns
theorem dL{u:Int}(ns:LI')(h:u≠0):cs u ns≠0:=by
 have:=De ns h;unfold cs;split <;> omega
theorem iR{u x:Int}{ns:LI'}(h:gl u ns∣x):cs u ns∣x:=by
 unfold cs;split
 ·exact Int.neg_dvd.mpr h
 ·exact h
theorem gZ{c x:Int}(a:c≠0)(h:c∣x):x.fdiv c*c=x:=by
 obtain⟨k,e⟩:=h;subst e;rw[vD c k,Int.mul_fdiv_cancel _ a]
theorem Ap{u:Int}(ns:LI')(h:u≠0):0<u.fdiv (cs u ns):=by
 have e:=gZ (dL ns h) (iR (gl_u u ns));have g:=De ns h;rcases Int.lt_trichotomy (u.fdiv (cs u ns)) 0 with q|q|q
 ·refine False.elim ?_;unfold cs at e q;split at e
  ·rename_i a;rw[zF a]at q;have:=Int.mul_nonneg_of_nonpos_of_nonpos (uK q) (show -(gl u ns)<=0 by omega);omega
  ·rename_i a;rw[zD a]at q;have:=Int.mul_neg_of_neg_of_pos q g;omega
 ·rw[q,uJ]at e;exact absurd e.symm h
 ·exact q
theorem Vl{u:Int}{ns:LI'}(h:0<u)(g:gl u ns=1):cs u ns=1:=by
 unfold cs;rw[zD ⋯,g]
theorem Vk{u:Int}{ns:LI'}(h:0<u)(g:gl u ns=1):(ns.map λt=>t.fdiv (cs u ns))=ns/\u.fdiv (cs u ns)=u:=by
 rw[Vl h g];refine⟨?_,Int.fdiv_one u⟩;rw[show(λt:Int=>t.fdiv 1)=id from funext λt=>Int.fdiv_one t,List.map_id]
theorem Vj{u:Int}(b:0<u)(a:Int):(a.fmod u-a).fmod u=0:=by
 rw[xX a (uK b),xX _ (uK b)];exact Int.emod_eq_zero_of_dvd (by
  have:=Int.emod_add_mul_ediv a u;exact⟨-(a/u),by rw[Int.mul_neg];omega⟩)
theorem Ju(g l:Int):Int.gcd l (Int.fmod g l)=Int.gcd g l:=by
 rw[Int.fmod_def,Int.gcd_sub_mul_left_right,Int.gcd_comm]
theorem Jt(a b:Int):Int.gcd (if a<0 then -a else a) (if b<0 then -b else b)=Int.gcd a b:=by
 split <;> split <;> simp
theorem Ao(a:Int):0<=(if a<0 then -a else a):=by split <;> omega
theorem Js{g l a b:Int}(h:Int.gcd g l=Int.gcd a b)(c:0<=g)(z:l=0):g=gcdI a b:=by
 rw[z,Int.gcd_zero_right]at h;unfold gcdI;rw[←h];omega
def Db:Sp:=λvs H Q _=>∃a b,vs=[.int a,.int b]/\Q (.int (gcdI a b)) H
abbrev sp_14:Sp:=Db
abbrev sp_f:Sp:=Db
def gI(H:Hp)(p:Addr)(ns:LI')(u:Int):Prop:=∃q,H p=some (.tup [.ref q,.int u])/\H q=some (.tup (ns.map V.int))
theorem gI.up{H H':Hp}{p:Addr}{ns:LI'}{u:Int}(h:gI H p ns u)(s:Same H H'):gI H' p ns u:=let ⟨q,a,b⟩:=h;⟨q,s _ _ a,s _ _ b⟩
def jK(n:Int):Prop:=n.natAbs<2^8990
theorem Jr{c:Int}(h:jK c)(z:c≠0):c.natAbs.log2<9000:=zP ((Nat.log2_lt ⋯).mpr h) ∅
theorem Jq{c u:Int}(h:jK u)(z:u≠0)(d:c∣u):jK c:=by
 have:=Int.natAbs_dvd_natAbs.mpr d;have:=Nat.le_of_dvd ⋯ this;unfold jK at*
 omega
def redT(u:Int)(ns:LI'):LI':=ns.map λt=>t.fdiv (cs u ns)
def redU(u:Int)(ns:LI'):Int:=u.fdiv (cs u ns)
def lR(u:Int)(ns:LI'):LI':=ns.map λt=>t.fmod u
def sp_18(K:Frag)(C:Addr):Sp:=λvs H Q E=>E4 λ(b:Bool)(a:Addr)(ns:LI')(u:Int)=>A6 (vs=[.ref a,.int u]) (SqB b K H a (ns.map V.int)) (ns.length<=100) (jK u) (((u=0\/ns=[])->E (.ref C) none H)) ((u≠0->ns≠[]->∀p H',Same H H'->gI H' p (redT u ns) (redU u ns)->Q (.ref p) H'))
theorem Vi{a:Type}{ns:List a}{i:Nat}{n:a}(h:ns[i]?=some n):ns.take (i+1)=ns.take i++[n]:=by
 rw[yY,h];rfl
def sp_1k(K:Frag):Sp:=λvs H Q _=>E6 λ(b1 b2:Bool)(p q:Addr)(ms ns:LI')=>A7 (vs=[.ref p,.ref q]) (SqB b1 K H p (ms.map V.int)) (SqB b2 K H q (ns.map V.int)) (ms.length=ns.length) (ms.length<=1000) ((∀(i:Nat) m n,ms[i]?=some m->ns[i]?=some n->IntMulOk m n)) (∀H',Same H H'->Q (.int (dotI ms ns)) H')
def sp_1b(K:Frag):Sp:=λvs H Q _=>E5 λ(b1 b2:Bool)(a:Addr)(rows:LM)(w:Nat)=>A7 (vs=[.ref a]) (MatB b1 b2 K H a rows) (rows≠[]) ((∀r∈rows,r.length=w)) (w<=1000) (rows.length<=1000) (∀r H',H r=none->Same H H'->MatL H' r (aG w rows)->Q (.ref r) H')
def iS(i k:Nat)(rows:LM):LM:=(rows.eraseIdx i).map λr=>r.eraseIdx k
def sg(k:Nat):Int:=if k%2=0 then 1 else -1
def altS(f:Nat->Int):Nat->Int
 |0=>0
 |k+1=>altS f k+sg k*f k
def detM:Nat->LM->Int
 |0,_=>1
 |1,rows=>(rows.getD 0 []).getD 0 0
 |n+2,rows=>altS (λk=>(rows.getD 0 []).getD k 0*detM (n+1) (iS 0 k rows)) (n+2)
def Sq(n:Nat)(rows:LM):Prop:=rows.length=n/\∀r∈rows,r.length=n
def mV(B:Nat)(rows:LM):Prop:=∀r∈rows,∀x∈r,x.natAbs<2^B
theorem Vh(k:Nat):-sg k=sg (k+1):=by
 unfold sg
 by_cases h:k%2=0
 ·rw[zF h,zD ⋯]
 ·rw[zD h,zF ⋯];rfl
theorem Jp(k:Nat):(sg k).natAbs=1:=by unfold sg;split <;> rfl
theorem Sq.minor{n i k:Nat}{a:LM}(h:Sq (n+1) a)(hi:i<n+1)(b:k<n+1):Sq n (iS i k a):=by
 refine⟨?_,λr hr=>?_⟩
 ·unfold iS;rw[zqe,rV,h.1,zF hi];rfl
 ·obtain⟨z,c,rfl⟩:=oZ.mp hr;have hl:=h.2 z (sH c);rw[rV,hl,zF b];rfl
theorem mV.minor{B i k:Nat}{a:LM}(h:mV B a):mV B (iS i k a):=λr hr x b=>by
 obtain⟨z,c,rfl⟩:=oZ.mp hr;exact h z (sH c) x (sH b)
theorem Jo{f:Nat->Int}{M:Nat}:∀n:Nat,(∀k<n,(f k).natAbs<=M)->(altS f n).natAbs<=n*M
 |0,_=>by simp[altS]
 |n+1,h=>by
  have b:=Jo n λk c=>h k ⋯;have d:=h n ⋯;show(altS f n+sg n*f n).natAbs<=_;have a:=vW (altS f n) (sg n*f n);rw[xK,Jp,Nat.one_mul]at a;rw[pK];omega
theorem row0{n:Nat}{a:LM}(h:Sq (n+1) a):a[0]?=some (a.getD 0 [])/\a.getD 0 []∈a:=by
 have hl:0<a.length:=by have:=h.1;omega
 have e:a.getD 0 []=a[0]:=by simp[hl]
 rw[e];exact⟨by simp[hl],vK hl⟩
theorem Jn{B:Nat}:∀(n:Nat)(a:LM),1<=n->n<=4->Sq n a->mV B a->(detM n a).natAbs<=2^(n*(B+2))
 |0,_,h,_,_,_=>⋯
 |1,a,_,_,b,c=>by
  have hr:=row0 b;have hl:0<(a.getD 0 []).length:=by rw[b.2 _ hr.2];decide
  have:=c _ hr.2 _ (L2.getD_mem hl);show((a.getD 0 []).getD 0 0).natAbs<=_;have:2^B<=2^(1*(B+2)):=yS ∅ ⋯;omega
 | n+2,a,_,j,b,c=>by
  have hr:=row0 b;have g:∀k<n+2,((a.getD 0 []).getD k 0*detM (n+1) (iS 0 k a)).natAbs<=2^B*2^((n+1)*(B+2)):=λk d=>by
   have hl:k<(a.getD 0 []).length:=by rw[b.2 _ hr.2];exact d
   have f:=c _ hr.2 _ (L2.getD_mem hl);have i:=Jn (n+1) (iS 0 k a) ⋯ ⋯ (b.minor ⋯ d) c.minor;rw[xK];exact wY (tF f) i
  have:=Jo (n+2) g;have e:2^((n+2)*(B+2))=4*(2^B*2^((n+1)*(B+2))):=by
   rw[←tV,show(4:Nat)=2^2 from rfl,←tV];congr 1;rw[Nat.add_mul,Nat.add_mul];omega
  show(altS _ (n+2)).natAbs<=_;rw[e];refine yC this (wH _ ⋯)
theorem mW{x:Int}{B:Nat}(h:x.natAbs<2^B):Builtin.Int.intBits x<=B:=intBits_le_iff.mpr h
def sp_16(K:Frag):Sp:=λvs H Q _=>E7 λ(b1 b2:Bool)(a:Addr)(rows:LM)(i k w:Nat)=>A7 (vs=[.ref a,.int i,.int k]) (MatB b1 b2 K H a rows) ((∀r∈rows,r.length=w)) (k<w) (w<=1000) (rows.length<=1000) (∀r H',H r=none->Same H H'->MatL H' r (iS i k rows)->Q (.ref r) H')
def sp_4(K:Frag):Nat->Sp
 |0=>λ_ _ _ _=>False
 |n+1=>λvs H Q _=>∃(b1 b2:Bool)(a:Addr)(rows:LM)(B:Nat),vs=[.ref a]/\MatB b1 b2 K H a rows/\Sq (n+1) rows/\n<=3/\mV B rows/\B<=1000000/\∀H',Same H H'->Q (.int (detM (n+1) rows)) H'
section
variable {g:TG} {tt:TOx} {fr:List (Str×Nat)} {σ:St} {a:Addr} {H:Hp} {Q:VK} {K:Frag}
theorem Vg{b:Bool}{l:Addr}{xs:List V}(P:Nat->List V->Hp->Prop)(n:H a=none)(f:SqB b K H l xs)(G:xs.length<=1000)(J:P 0 [] (upd H a (.lst [])))
  (hl:∀i zs c,P i zs c->zs.length<=i)(mono:∀i zs c d,P i zs c->jO a c d->P i zs d)
  (F:∀i x c zs,xs[i]?=some x->Same H c->c a=some (.lst zs)->P i zs c->∀C:Option V->Hp->Prop,
   (∀y d,Same c d->P (i+1) (zs++[y]) d->C (some y) d)->(∀d,Same c d->P (i+1) zs d->C none d)->tt (some (.int i):: some x:: lV fr σ) c C)
  (D:∀c ys,Same H c->c a=some (.lst ys)->P xs.length ys c->Q (.ref a) c):
  kL (Ite K b l) (gTup K 2 (kC (nX 0) (kC (nX 1) gNil))) tt 2 fr σ a H Q:=by
 refine aB xs.length P n G J hl mono (λi c hi s=>⟨xs,xs[i],f.up s,by simp[hi]⟩) (λc s=>⟨xs,f.up s,rfl⟩) ?_ D;intro i c zs hi j t p k x L u v C z m;obtain⟨q,x,rfl,w,rfl,I⟩:=v;refine⟨q,[.int i,x],rfl,SqT.of nN,rfl,_,[x],rfl,x,[],rfl,rfl,?_⟩;have sn:Same c (upd c q (.tup [.int i,x])):=Same.new w
 match k,u with
 |[o,M],_ =>
  exact⟨⟨[some (.int i),some x],rfl,rfl⟩,F i x _ zs (I xs (f.up j)) (j.trans sn) (sn _ _ t) (mono _ _ _ _ p sn.x) C (λy d e r=>z y d (sn.trans e) r) λd e r=>m d (sn.trans e) r⟩
end
theorem SqB.cut{b:Bool}{K:Frag}{H:Hp}{p:Addr}{xs:List V}:SqB b K (upd H p (seqO b xs)) p xs:=by
 cases b
 ·exact SqB.lst nN
 ·exact SqB.tup nN
theorem Vf{d:Type}{b:List d}{c a:Nat}{r:d}(e:b[a]?=some r):(b.take (a+1)).eraseIdx c=if a=c then(b.take a).eraseIdx c else(b.take a).eraseIdx c++[r]:=by
 have f:a<b.length:=(zqa e).1;have hl:(b.take a).length=a:=by rw[yG];omega
 rw[yY,e];show(b.take a++[r]).eraseIdx c=_
 by_cases h:a=c
 ·rw[zF h,uD ⋯,hl,h,vN,tS (l:=b.take c) (by rw[yG];omega)];simp
 ·rw[zD h]
  by_cases g:c<a
  ·rw[List.eraseIdx_append_of_lt_length ⋯]
  ·rw[uD ⋯,hl,tS (l:=b.take a) ⋯];congr 1;rw[tS];simp;omega
theorem An{B C:Nat}:∀(ms ns:LI'),(∀x∈ms,x.natAbs<2^B)->(∀y∈ns,y.natAbs<2^C)->(dotI ms ns).natAbs<=ms.length*2^(B+C)
 |[],ns,_,_=>by simp[dotI]
 |m:: ms,[],_,_=>by simp[dotI]
 | m:: ms,n:: ns,a,b=>by
  have k:=An ms ns (λx d=>a x (zU _ d)) (λy c=>b y (zU _ c));have e:dotI (m:: ms) (n:: ns)=m*n+dotI ms ns:=by simp[dotI]
  have g:=a m yE;have f:=b n yE;have j:(m*n).natAbs<=2^(B+C):=by
   rw[xK,tV];exact wY (tF g) (tF f)
  have i:=vW (m*n) (dotI ms ns);rw[e,zR,pK];omega
def idM(d:Nat):LM:=(List.range d).map λi=>(List.range d).map λk=>if i=k then(1:Int) else 0
def sp_s:Sp:=λvs H Q _=>E1 λ(n:Nat)=>A3 (vs=[.int n]) (n<=1000) (∀r H',H r=none->Same H H'->MatL H' r (idM n)->Q (.ref r) H')
def kM(K:Frag)(H:Hp)(p:Addr)(M:LM)(ts:LI')(u:Int):Prop:=∃pr pt,H p=some (.tup [.ref pr,.ref pt,.int u])/\MatB true true K H pr M/\H pt=some (.tup (ts.map V.int))
theorem kM.up{K:Frag}{H H':Hp}{p:Addr}{M:LM}{ts:LI'}{u:Int}(h:kM K H p M ts u)(s:Same H H'):kM K H' p M ts u:=let ⟨pr,pt,a,c,b⟩:=h;⟨pr,pt,s _ _ a,c.up s,s _ _ b⟩
def sp_15(K:Frag):Sp:=λvs H Q _=>E7 λ(b1 b2:Bool)(a p:Addr)(M:LM)(ts:LI')(u:Int)=>A5 (vs=[.ref a,.ref p]) (MatB b1 b2 K H a M) (gI H p ts u) (M.length<=100) (∀q H',Same H H'->kM K H' q M ts u->Q (.ref q) H')
def PlS(K:Frag)(H:Hp)(p:Addr)(ns:LI')(u:Int):Prop:=∃q,SqT K H p [.ref q,.int u]/\SqT K H q (ns.map V.int)
theorem PlS.up{K:Frag}{H H':Hp}{p:Addr}{ns:LI'}{u:Int}(h:PlS K H p ns u)(s:Same H H'):PlS K H' p ns u:=let ⟨q,a,b⟩:=h;⟨q,lY s _ _ a,lY s _ _ b⟩
theorem Jm{K:Frag}{H:Hp}{p:Addr}{ns:LI'}{u:Int}{Q:VK}(h:PlS K H p ns u)(k:∀q,SqT K H q (ns.map V.int)->Q (.ref q) H):rIxB K (.ref p) (.int 0) H Q:=let ⟨q,a,b⟩:=h;⟨true,p,_,_,_,rfl,rfl,(a:SqB true K H p _),rfl,k q b⟩
theorem Da{K:Frag}{H:Hp}{p:Addr}{ns:LI'}{u:Int}{Q:VK}(h:PlS K H p ns u)(k:Q (.int u) H):rIxB K (.ref p) (.int 1) H Q:=let ⟨q,a,b⟩:=h;⟨true,p,_,_,_,rfl,rfl,(a:SqB true K H p _),rfl,k⟩
def sp_q(K:Frag):Sp:=λvs H Q _=>E3 λ(p:Addr)(ns:LI')(u:Int)=>A5 (vs=[.ref p]) (PlS K H p ns u) (ns.length<=100) (0<u) (∀p' H',Same H H'->gI H' p' (lR u ns) u->Q (.ref p') H')
def jR(K:Frag)(H:Hp)(p:Addr)(M:LM)(ts:LI')(u:Int):Prop:=∃v0 v1,SqT K H p [.ref v0,.ref v1,.int u]/\MatB true true K H v0 M/\SqT K H v1 (ts.map V.int)
theorem jR.up{K:Frag}{H H':Hp}{p:Addr}{M:LM}{ts:LI'}{u:Int}(h:jR K H p M ts u)(s:Same H H'):jR K H' p M ts u:=let ⟨d,a,b,e,c⟩:=h;⟨d,a,lY s _ _ b,e.up s,lY s _ _ c⟩
theorem kM.s{K:Frag}{H:Hp}{p:Addr}{M:LM}{ts:LI'}{u:Int}(h:kM K H p M ts u):jR K H p M ts u:=let ⟨d,a,b,e,c⟩:=h;⟨d,a,SqT.of b,e,SqT.of c⟩
theorem fA{K:Frag}{H:Hp}{p:Addr}{M:LM}{ts:LI'}{u:Int}{Q:VK}(h:jR K H p M ts u)(q:∀x,MatB true true K H x M->Q (.ref x) H):rIxB K (.ref p) (.int 0) H Q:=let ⟨x,y,a,b,c⟩:=h;⟨true,p,_,_,_,rfl,rfl,(a:SqB true K H p _),rfl,q x b⟩
theorem cV{K:Frag}{H:Hp}{p:Addr}{M:LM}{ts:LI'}{u:Int}{Q:VK}(h:jR K H p M ts u)(q:∀x,SqT K H x (ts.map V.int)->Q (.ref x) H):rIxB K (.ref p) (.int 1) H Q:=let ⟨x,y,a,c,b⟩:=h;⟨true,p,_,_,_,rfl,rfl,(a:SqB true K H p _),rfl,q y b⟩
theorem fB{K:Frag}{H:Hp}{p:Addr}{M:LM}{ts:LI'}{u:Int}{Q:VK}(h:jR K H p M ts u)(q:Q (.int u) H):rIxB K (.ref p) (.int 2) H Q:=let ⟨x,y,a,c,b⟩:=h;⟨true,p,_,_,_,rfl,rfl,(a:SqB true K H p _),rfl,q⟩
def movT(M:LM)(ts:LI')(u:Int)(ns:LI')(v:Int):LI':=List.zipWith (λr t=>dotI r ns*u+t*v) M ts
def jA(B:Nat)(ns:LI'):Prop:=∀x∈ns,x.natAbs<2^B
structure Fine(d:Nat)(M:LM)(ts:LI')(u:Int):Prop where
 sq:Sq d M
 len:ts.length=d
 pos:0<u
 bm:mV 200000 M
 bt:jA 200000 ts
 bu:u<2^1500
def sp_1c(K:Frag):Sp:=λvs H Q _=>E8 λ(p q:Addr)(M:LM)(ts ns:LI')(u v:Int)(d:Nat)=>A11 (vs=[.ref p,.ref q]) (jR K H p M ts u) (PlS K H q ns v) (Fine d M ts u) (1<=d) (d<=4) (ns.length=d) (jA 200000 ns) (0<v) (v<2^1500) (∀r H',Same H H'->gI H' r (redT (u*v) (movT M ts u ns v)) (redU (u*v) (movT M ts u ns v))->Q (.ref r) H')
def sp_19(K:Frag):Sp:=λvs H Q _=>E9 λ(p q:Addr)(M N:LM)(ts ns:LI')(u v:Int)(d:Nat)=>A8 (vs=[.ref p,.ref q]) (jR K H p M ts u) (jR K H q N ns v) (Fine d M ts u) (Fine d N ns v) (1<=d) (d<=4) (∀r H',Same H H'->kM K H' r (mulM d N M) (redT (v*u) (movT N ns v ts u)) (redU (v*u) (movT N ns v ts u))->Q (.ref r) H')
def sp_1i(K:Frag):Sp:=λvs H Q _=>E4 λ(p:Addr)(M:LM)(ts:LI')(u:Int)=>A6 (vs=[.ref p]) (jR K H p M ts u) (M.length<=100) (ts.length<=100) (0<u) (∀r H',Same H H'->kM K H' r M (lR u ts) u->Q (.ref r) H')
theorem dM{u:Int}(a:0<u)(b:u<2^1500):u.natAbs<2^1500:=by
 have e:((2^1500:Nat):Int)=(2:Int)^1500:=nofun
 omega
theorem Am{u:Int}{B:Nat}(h:u.natAbs<2^B)(a:B<=8990):jK u:=zP h (yS ∅ a)
theorem Ve{u v:Int}(a:0<u)(d:u<2^1500)(b:0<v)(c:v<2^1500):jK (u*v)/\0<u*v:=by
 refine⟨Am (B:=1500+1500) ?_ ∅,wR a b⟩;rw[xK,tV];exact pN (dM a d) (dM b c)
theorem mV.le{B C:Nat}{M:LM}(h:mV B M)(b:B<=C):mV C M:=λr hr x a=>zP (h r hr x a) (yS ∅ b)
section
variable {P:Program} {w:World} {K:Frag} {mg:MT} {base:Heap} {t:Adr}
def sp_h:Sp:=λvs H Q _=>∃i,vs=[.int i]/\Q (.bl true) H
theorem ok_h(T:Txt K mg t):FnOk P w K mg base CX0 1 t.a_h t.d_h pA' sp_h:=by
 apply T.F_h.ok sc_h
 ·obtain⟨i,rfl,q⟩:=h;refine⟨_,(nM (nV (Bv (mS kU rfl T.z_isinstance (nofun) (nH (pq 0) (nH (jD (v:=.ty "int") rfl T.z_int (nofun) rfl) nI))) (Bw (Nz (mS kU rfl T.z_isinstance (nofun) (nH (pq 0) (nH (jD (v:=.ty "bool") rfl T.z_bool (nofun) rfl) nI)))))))),?_⟩;show tRet _ _ [some (.int i)] H;ext;refine⟨_,_,_,_,rfl,.ty (.int i),rfl,T.h_p,?_⟩;ext;refine⟨_,_,_,_,rfl,.ty (.int i),rfl,T.k_ib,?_⟩;ext;exact q
theorem Vd{a b:Int}{H:Hp}{Q:VK}{E:XK}:Db [.int a,.int b] H Q E=Q (.int (gcdI a b)) H:=propext ⟨λ⟨_,_,e,q⟩=>by cases e;exact q,λq=>⟨_,_,rfl,q⟩⟩
theorem ok_14(T:Txt K mg t):FnOk P w K mg base CX0 1 t.a_14 t.d_14 px' sp_14:=by
 apply T.F_14.ok sc_14
 ·obtain⟨a,b,rfl,k⟩:=h;refine⟨_,(nJ (nU (i:=2) sc_14.nd rfl (Or.inl rfl) (mS dY rfl T.z_abs (nofun) (nH (pq 0) nI)))
   (nJ (nU (i:=3) sc_14.nd rfl (Or.inl rfl) (mS dY rfl T.z_abs (nofun) (nH (pq 1) nI)))
   (nJ (Bu yD (mB jU (pq 3) nK (mD _))
   (nJ (nU (i:=4) sc_14.nd rfl (Or.inl rfl) (nR jT (pq 2) (pq 3)))
   (nJ (nU (i:=2) sc_14.nd rfl (Or.inl rfl) (pq 3))
   (nM (nU (i:=3) sc_14.nd rfl (Or.inl rfl) (pq 4))))))
   (nM (nV (pq 2)))))),?_⟩
  show tSeq _ _ _ [some (.int a),some (.int b),none,none,none] H;ext;refine⟨λm d c=>∃g l r,d=[some (.int a),some (.int b),some (.int g),some (.int l),r]/\c=H/\0<=g/\0<=l/\Int.gcd g l=Int.gcd a b/\m=l.toNat,
   ⟨_,_,_,_,rfl,rfl,Ao a,Ao b,Jt a b,rfl⟩,?_⟩
  rintro m d c ⟨g,l,r,rfl,rfl,i,hl,e,rfl⟩;ext
  by_cases z:l=0
  ·rw[zM z];refine iteF ?_;rw[Js e i z];exact k
  ·rw[zJ z];refine iteT ⟨λf H'=>f=[some (.int a),some (.int b),some (.int l),some (.int (g.fmod l)),some (.int (g.fmod l))]/\H'=c,?_,z,rfl,rfl⟩;rintro f H' ⟨rfl,rfl⟩;have l1:=sG g (show 0<l by omega);have l2:=uU g (show 0<l by omega);exact⟨(g.fmod l).toNat,⋯,_,_,_,rfl,rfl,hl,l2,by rw[Ju];exact e,rfl⟩
theorem ok_18(T:Txt K mg t):FnOk P w K mg base (CX1 P w) 2 t.a_18 t.d_18 ["tops","under"] (sp_18 K t.a_1h):=by
 have N:=@ok_14 P w K mg base t T;refine T.F_18.okX sc_18 (λvs H Q E h=>?_) (λcdv A outer s H vs Q E hr h=>?_)
 ·obtain⟨b,a,ns,u,rfl,_⟩:=h;rfl
 ·obtain⟨b,a,ns,u,rfl,f,hl,J,v,W⟩:=h;refine⟨_,(nJ (mF (mB kK (pq 1) nK (mD _))
   (nM (iZ rfl iX rfl T.m_1h T.x_1h yR (nH iJ nI)))
   mE)
   (nJ (mF (mB kK (lC T.z_len (pq 0)) nK (mD _))
   (nM (iZ rfl iX rfl T.m_1h T.x_1h yR (nH iJ nI)))
   mE)
   (nJ (nU (i:=2) sc_18.nd rfl (Or.inr rfl) (mS dY rfl T.z_abs (nofun) (nH (pq 1) nI)))
   (nJ (PS.nox (lJ yD rfl (mT (pq 0)) (mP (i:=3) sc_18.nd rfl (Or.inl rfl))
   (nM (nU (i:=2) sc_18.nd rfl (Or.inr rfl) (nS N hr.mo T.F_14 (nH (pq 2) (nH (pq 3) nI)))))))
   (nJ (mF (mB fZ (pq 1) nK (mD _))
   (nM (nU (i:=2) sc_18.nd rfl (Or.inr rfl) (fF fG (pq 2))))
   mE)
   (nM (nV (kQ (nH (lK jX rfl T.z_tuple (nofun) (nH (lE (sc:=nP s_18) (N:=N_18) (fr:=[("common",2)]) (te:=(tOp (rI fL λi j=>.int (i.fdiv j)) (tVar 0) (tVar 1))) rfl rfl (nofun) rfl (nofun) (mT (pq 0)) (λ_ _ _ a2=>(nR gQ (pv 0) (pv 1)))) nI)) (nH (nR gQ (pq 1) (pq 2)) nI)))))))))),?_⟩
  show tSeq _ _ _ [some (.ref a),some (.int u),none,none] H;refine st λN1 e1=>?_;simp only[iY];ext;refine ite2 (λz=>⟨∅,v (.inl (xT z))⟩) (λz=>?_);have g:u≠0:=λq=>z (zM q);subst e1;refine st λN1 e1=>?_;simp only[iY];ext;refine Cu f ?_;ext;refine ite2 (λz=>⟨∅,v (.inr ?_)⟩) (λz=>?_)
  ·have:=xT z;exact vG ⋯
  have R:ns≠[]:=λq=>z (zM (by rw[q];rfl));left;subst e1;refine st λN1 e1=>lN λB eB=>?_;simp only[iSeq];ext;refine⟨b,⟨_,f⟩,?_⟩;refine jP (g:=nX 3) (tb:=B) (λi k c=>∃v3,k=[some (.ref a),some (.int u),some (.int (gl u (ns.take i))),v3]/\c=H) ⟨_,rfl,rfl⟩ (λi k c _⟨_,_,e⟩=>e ▸ f) ?_ ?_
  ·rintro i x k c hi ⟨v3,rfl,rfl⟩;obtain⟨n,o,rfl⟩:=jY hi;subst eB;ext;simp only[Vd];rw[Vi o,Vm]
   first|trivial|exact⟨_,rfl,rfl⟩
  ·rintro k c ⟨v3,rfl,rfl⟩;rw[zqe,rG];subst e1;refine st λG a0=>?_;have d:G [some (.ref a),some (.int u),some (.int (cs u ns)),v3] c:=by
    subst a0;have X:jK (cs u ns):=Jq J g (iR (gl_u u ns));have D:∀x,fL x (cs u ns):=λx=>⟨dL ns g,Jr X (dL ns g)⟩;ext;exfalso;refine⟨b,⟨_,f⟩,λI L=>kX (λj y _=>∃n,ns[j]?=some n/\y=.int (n.fdiv (cs u ns))) L f (by rw[zqe];omega) (λ_ _ _ _ r _=>r) ?_ ?_⟩
    ·intro i x m zs Z _ _ M O;obtain⟨n,o,rfl⟩:=jY Z;subst eB;show tOp _ _ _ [some (.int n),some (.int (cs u ns))] m M;ext;exact⟨D n,O _ m (Same.refl _) ⟨n,o,rfl⟩⟩
    ·intro m ys S e1 F Y;have U:ys=(redT u ns).map V.int:=by
      unfold redT;rw[yW];exact kE (by simpa using F) Y
     subst U;refine⟨I,_,rfl,.inl ⟨SqL.of e1,λl a1=>?_⟩⟩;ext;refine⟨D u,(by show 2<=sizeLine;decide),λp C=>W g R p _ ((S.trans (Same.new a1)).trans (Same.new C)) ⟨l,nN,?_⟩⟩;rw[nO (lI nN C)];exact nN
   ext;unfold cs at d;refine ite2 (λz=>?_) (λz=>?_)
   ·rw[zF (xT z)]at d;exact d
   ·rw[zD (λq=>z (zM q))]at d;exact d
theorem Vc{H:Hp}{p:Addr}{ns:LI'}{u:Int}{Q:VK}(h:gI H p ns u)(q:∀x,H x=some (.tup (ns.map V.int))->Q (.ref x) H):rIxB K (.ref p) (.int 0) H Q:=let ⟨x,a,b⟩:=h;⟨true,p,_,_,_,rfl,rfl,SqB.tup a,rfl,q x b⟩
theorem Vb{H:Hp}{p:Addr}{ns:LI'}{u:Int}{Q:VK}(h:gI H p ns u)(q:Q (.int u) H):rIxB K (.ref p) (.int 1) H Q:=let ⟨x,a,b⟩:=h;⟨true,p,_,_,_,rfl,rfl,SqB.tup a,rfl,q⟩
theorem ok_q(T:Txt K mg t):FnOk P w K mg base CX0 1 t.a_q t.d_q ["one"] (sp_q K):=by
 apply T.F_q.ok sc_q
 ·obtain⟨p,ns,u,rfl,c,hl,G,z⟩:=h;refine⟨_,(nJ (nU (i:=1) sc_q.nd rfl (Or.inr rfl) (nY (pq 0)))
   (nM (nV (kQ (nH (lK jX rfl T.z_tuple (nofun) (nH (lE (sc:=nP aY) (N:=N_q) (fr:=[("under",1)]) (te:=(tOp (rI (λ_ j=>j≠0) λi j=>.int (i.fmod j)) (tVar 0) (tVar 1))) rfl rfl (nofun) rfl (nofun) (mT (nY (pq 0))) (λ_ _ _ I=>(nR jT (pv 0) (pv 1)))) nI)) (nH (pq 1) nI)))))),?_⟩
  show tSeq _ _ _ [some (.ref p),none] H;right;refine Da c ?_;symm;exfalso;refine Jm c λx a=>⟨true,x,rfl,⟨_,(show SqB true K H x _ from a)⟩,λC e=>kX (λj y _=>∃n,ns[j]?=some n/\y=.int (n.fmod u)) e ((show SqB true K H x _ from a)) (by rw[zqe];omega) (λ_ _ _ _ r _=>r) ?_ ?_⟩
  ·intro i x b zs a _ _ m F;obtain⟨n,q,rfl⟩:=jY a;subst eB;show tOp _ _ _ [some (.int n),some (.int u)] b m;ext;exact⟨⋯,F _ b (Same.refl _) ⟨n,q,rfl⟩⟩
  ·intro b ys g e1 k f;have o:ys=(lR u ns).map V.int:=by
    unfold lR;rw[yW];exact kE (by simpa using k) f
   subst o;refine⟨C,_,rfl,.inl ⟨SqL.of e1,λl D=>?_⟩⟩;refine⟨(by show 2<=sizeLine;decide),λv d=>z v _ ((g.trans (Same.new D)).trans (Same.new d)) ⟨l,nN,?_⟩⟩;rw[nO (lI nN d)];exact nN
theorem ok_1k(T:Txt K mg t):FnOk P w K mg base CX0 1 t.a_1k t.d_1k px' (sp_1k K):=by
 apply T.F_1k.ok sc_1k
 ·obtain⟨b1,b2,p,q,ms,ns,rfl,o,u,hl,v,L,F⟩:=h;refine⟨_,(nM (nV (mS (bZ rfl) rfl T.z_sum (nofun) (nH (hX (xs:=["left","right"]) (fr:=[]) (g:=(gTup K 2 (kC (nX 0) (kC (nX 1) gNil)))) (tt:=(tEl (tOp (rI (λi j=>IntMulOk i j) λi j=>.int (i*j)) (tVar 0) (tVar 1)))) (jW (sc:=nP s_1k) (N:=N_1k) rfl rfl (nofun)) rfl (Hw rfl T.z_zip (nH (pq 0) (nH (pq 1) nI))) (λ_ _ _ f=>(gO rfl (kP (iH (N:=["left","right"]) (i:=0) f rfl (nofun)) (kP (iH (N:=["left","right"]) (i:=1) f rfl (nofun)) gN)))) (λ_ _ _ f=>(iM (nR mZ (pv 0) (pv 1))))) nI)))),?_⟩;show tRet _ _ [some (.ref p),some (.ref q)] H;ext;refine mK λB eB=>?_;simp only[iZip];ext;refine⟨b1,⟨_,o⟩,b2,⟨_,u⟩,λa I=>?_⟩;refine Hu (λj y _=>∃m n,ms[j]?=some m/\ns[j]?=some n/\y=.int (m*n)) I o u (by simpa using hl) (by simpa using v) (λ_ _ _ _ r _=>r) ?_ ?_
  ·intro i x y g zs G d l k z J;obtain⟨m,b,rfl⟩:=jY G;obtain⟨n,c,rfl⟩:=jY d;subst eB;show tOp _ _ _ [some (.int m),some (.int n)] g z;ext;exact⟨L i m n b c,J _ _ (Same.refl _) ⟨m,n,b,c,rfl⟩⟩
  ·intro g zs l k C D;have d:zs=(List.zipWith (·*·) ms ns).map V.int:=by
    refine kE (by simp at C ⊢;omega) λj y e=>?_;obtain⟨m,n,b,c,rfl⟩:=D j y e;exact⟨m*n,by rw[wB,b,c],rfl⟩
   subst d;exact⟨_,rfl,_,SqL.of k,F g l⟩
theorem ok_1b(T:Txt K mg t):FnOk P w K mg base CX0 1 t.a_1b t.d_1b pB' (sp_1b K):=by
 apply T.F_1b.ok sc_1b
 ·obtain⟨b1,b2,a,b,w,rfl,o,U,z,J,a9,Z⟩:=h;refine⟨_,(nM (nV (hX (xs:=["k"]) (fr:=[("rows",0)]) (g:=(nX 0)) (tt:=(tEl (kW (iSeq K (tVar 1)) (nX 0) (tEl (tOp (rIxB K) (tVar 0) (tVar 1))) 1 [("k",0)]))) (jW (sc:=nP s_1b) (N:=N_1b) rfl rfl (nofun)) rfl (lG rfl T.z_range (nH (lC T.z_len (nY (pq 0))) nI)) (λ_ _ _ n=>(cJ (N:=["k","rows"]) (i:=0) n rfl (nofun) rfl)) (λ_ _ _ n=>(iM (lE (N:=["k","rows"]) (fr:=[("k",0)]) (te:=(tOp (rIxB K) (tVar 0) (tVar 1))) n rfl (nofun) rfl (nofun) (mT (pv 1)) (λ_ _ _ a7=>(mG ix_B (pv 0) (pv 1) (λ_ _=>rfl))))))))),?_⟩;show tRet _ _ [some (.ref a)] H;ext;refine mK λB eB=>?_;simp only[mY];ext;obtain⟨c,v⟩:∃c,b[0]?=some c:=by cases b with|nil=>exact absurd rfl U|cons r _=>exact⟨r,rfl⟩
  have L:c.length=w:=z c (zqb v);obtain⟨ps,p,k1,k2,k3,G⟩:=o.row v;refine⟨b1,a,_,0,_,rfl,rfl,k1,jH k2 rfl,b2,p,_,rfl,G,?_⟩;rw[zqe,L];refine⟨_,rfl,⋯,⋯,λg u=>?_⟩;rw[zS];refine jG (RowR g λk=>colI k b) u J (RowR.mono (a:=g)) ?_ ?_
  ·intro i f zs hi m S M R;subst eB;show kW _ _ _ _ _ [some (.int (0+(i:Int))),some (.ref a)] f M;exfalso;obtain⟨xs,D,a6,W⟩:=(o.up m).walk;refine⟨b1,⟨_,D⟩,λI C=>?_⟩;refine kX (λj y _=>∃r,b[j]?=some r/\y=.int (r.getD i 0)) C D ⋯ (λ_ _ _ _ r _=>r) ?_ ?_
   ·intro j x F a5 a3 l a8 a0 N;obtain⟨p,r,rfl,d,X⟩:=W j x a3;subst eB;show tOp _ _ _ [some (.ref p),some (.int (0+(i:Int)))] F a0;ext;have O:i<r.length:=by rw[z r (zqb d)];exact hi
    exact⟨b2,p,_,_,_,rfl,rfl,X.up l,jH (gR (getD_at O)) ⋯,N _ _ (Same.refl _) ⟨r,d,rfl⟩⟩
   ·intro F ys l a4 q a2;have Y:ys=(colI i b).map V.int:=by
     refine kE (by simp[colI];omega) λj y e=>?_;obtain⟨r,d,rfl⟩:=a2 j y e;exact⟨r.getD i 0,by unfold colI;rw[zH,d];rfl,rfl⟩
    subst Y;exact R _ _ l ⟨I,rfl,zT (lI S C),a4⟩
  ·intro f ys m e1 q a1;have:=MatL.of e1 a1;rw[q]at this;exact Z g f u m this
theorem ok_16(T:Txt K mg t):FnOk P w K mg base CX0 1 t.a_16 t.d_16 pw' (sp_16 K):=by
 apply T.F_16.ok sc_16
 ·obtain⟨b1,b2,a,X,d,k,w,rfl,a1,a5,b8,b5,c0,b0⟩:=h;refine⟨_,(nM (nV (hX (xs:=["at","row"]) (fr:=[("i",1),("k",2)]) (g:=(gTup K 2 (kC (nX 0) (kC (nX 1) gNil)))) (tt:=(hJ (bJ (tOp (rI0 λi j=>.bl (!decide (i=j))) (tVar 0) (tVar 2))) (tOp rCat (tCB (aA K) (mH (tSl (rSlB K) (tVar 1) Bo (Bn (tVar 3))) tNil)) (tCB (aA K) (mH (tSl (rSlB K) (tVar 1) (Bn (tOp (rI0 λi j=>.int (i+j)) (tVar 3) (tC (.int 1)))) Bo) tNil))))) (jW (sc:=nP s_16) (N:=N_16) rfl rfl (nofun)) rfl (bY rfl T.z_enumerate (nH (pq 0) nI)) (λ_ _ _ L=>(gO rfl (kP (iH (N:=["at","row","i","k"]) (i:=0) L rfl (nofun)) (kP (iH (N:=["at","row","i","k"]) (i:=1) L rfl (nofun)) gN)))) (λ_ _ _ L=>(Gc (mB jU (pv 0) (pv 2) (mD _)) (nR eN (lK hZ rfl T.z_list (nofun) (nH (cD sl_B (pv 1) bN (eG (pv 3))) nI)) (lK hZ rfl T.z_list (nofun) (nH (cD sl_B (pv 1) (eG (nR lH (pv 3) nK)) bN) nI)))))))),?_⟩;show tRet _ _ [some (.ref a),some (.int d),some (.int k)] H;ext;refine Hq λb7 b9 a4 eB=>?_;simp only[cK];ext;obtain⟨xs,S,a0,a9⟩:=a1.walk;refine⟨b1,⟨_,S⟩,λN O=>?_⟩;refine Vg (λt zs b=>kY N b zs (((X.take t).eraseIdx d).map λ(r:LI')=>r.eraseIdx k)) O S ⋯ kY.nil ?_ (λ_ _ _ _ r s=>r.mono s) ?_ ?_
  ·intro i zs b p;rw[p.len,zqe,rV];have:=List.length_take_le i X;split <;> omega
  ·intro i x b zs b4 G a8 p C I F;obtain⟨J,r,rfl,Y,v⟩:=a9 i x b4;have b6:r.length=w:=a5 r (zqb Y);replace v:=v.up G;rw[Vf Y]at I F;subst a4 eB;show hJ _ _ [some (.int i),some (.ref J),some (.int d),some (.int k)] b C;simp only[hJ];ext
   by_cases z:i=d
   ·subst z;rw[zF rfl]at F;rw[zM rfl];exact F b (Same.refl _) p
   ·rw[zD z]at I;rw[zJ (show¬ (i:Int)=d by omega)];refine iteT ?_;refine⟨b2,J,_,rfl,v,λ_=>by rw[zqe,HT.sIx_none,HT.sIx_nat];omega,λg b3=>?_⟩;have sq1:SqB b2 K (upd b g (seqO b2 (cutV (r.map V.int) none (some (k:Int))))) g (cutV (r.map V.int) none (some (k:Int))):=SqB.cut;have u:Same b (upd b g (seqO b2 (cutV (r.map V.int) none (some (k:Int))))):=Same.new b3;generalize upd b g _=y at sq1 u;rw[Qb ⋯]at sq1;refine⟨b2,g,_,rfl,sq1,λc a3=>?_⟩;have W:(upd y c (.lst ((r.take k).map V.int))) c=some (.lst ((r.take k).map V.int)):=nN;have n:Same y (upd y c (.lst ((r.take k).map V.int))):=Same.new a3;generalize upd y c _=q at W n;refine⟨b2,J,_,rfl,(v.up u).up n,λ_=>by rw[zqe,HT.sIx_none,show(k:Int)+1=((k+1:Nat):Int) by omega,HT.sIx_nat];omega,λf Z=>?_⟩;have sq3:SqB b2 K (upd q f (seqO b2 (cutV (r.map V.int) (some ((k:Int)+1)) none))) f (cutV (r.map V.int) (some ((k:Int)+1)) none):=SqB.cut;have o:Same q (upd q f (seqO b2 (cutV (r.map V.int) (some ((k:Int)+1)) none))):=Same.new Z;generalize upd q f _=m at sq3 o;rw[show(k:Int)+1=((k+1:Nat):Int) by omega,Qa ⋯]at sq3;refine⟨b2,f,_,rfl,sq3,λl a6=>?_⟩;have D:Same m (upd m l (.lst ((r.drop (k+1)).map V.int))):=Same.new a6;have U:(upd m l (.lst ((r.drop (k+1)).map V.int))) l=some (.lst ((r.drop (k+1)).map V.int)):=nN;generalize upd m l _=a7 at U D;refine⟨c,l,_,_,rfl,rfl,D _ _ (o _ _ W),U,by rw[zqe,zqe,yG,tM];exact tF (fK ⋯),λa2 M=>?_⟩;have R:Same b (upd a7 a2 (.lst ((r.take k).map V.int++(r.drop (k+1)).map V.int))):=(((u.trans n).trans o).trans D).trans (Same.new M);refine I _ _ R ?_;rw[yX];refine(p.mono R.x).snoc (λe=>?_) ?_
    ·subst e;rw[D _ _ (o _ _ (n _ _ (u _ _ a8)))]at M;cases M
    ·rw[nN];dsimp only;rw[List.eraseIdx_eq_take_drop_succ,yX]
  ·intro b ys G e1 p;rw[a0,rG]at p;exact b0 N b O G (kY.mat e1 p)
theorem ok_4(T:Txt K mg t):∀n:Nat,FnOk P w K mg base CX0 (n+1) t.a_4 t.d_4 pB' (sp_4 K n)
 |0=>⟨λ_ _ _ _ h=>h.elim,λ_ _ _ _ _ _ _ _ _ _ _ _ _ h=>h.elim⟩
 | n+1=>by
  have a0:FnOk P w K mg base CX0 (n+1) t.a_4 t.d_4 pB' (sp_4 K n):=ok_4 T n;have a1:=@ok_16 P w K mg base t T;apply T.F_4.ok sc_4
  ·obtain⟨b1,b2,a,c,B,rfl,g,d,a9,J,V,N⟩:=h;refine⟨_,(nJ (mF (mB kK (lC T.z_len (pq 0)) nK (mD _))
   (nM (nV (nY (nY (pq 0)))))
   mE)
   (nJ (nU (i:=1) sc_4.nd rfl (Or.inl rfl) nK)
   (nJ (nU (i:=2) sc_4.nd rfl (Or.inl rfl) nK)
   (nJ (lJ yD rfl (bY rfl T.z_enumerate (nH (nY (pq 0)) nI)) (gO rfl (kP (mP (i:=3) sc_4.nd rfl (Or.inl rfl)) (kP (mP (i:=4) sc_4.nd rfl (Or.inl rfl)) gN)))
   (nJ (mF (mB jU (pq 4) nK (mD _))
   (nM (Fr (i:=1) sc_4.nd rfl (Or.inl rfl) (nR mZ (nR mZ (pq 2) (pq 4)) (nS a0 hr.mo T.F_4 (nH (nS a1 hr.mo T.F_16 (nH (pq 0) (nH nK (nH (pq 3) nI)))) nI))) Fq))
   mE)
   (nM (nU (i:=2) sc_4.nd rfl (Or.inl rfl) (fF fG (pq 2))))))
   (nM (nV (pq 1))))))),?_⟩
   show tSeq _ _ _ [some (.ref a),none,none,none,none] H;obtain⟨D,L⟩:=row0 d;have Z:(c.getD 0 []).length=n+1:=d.2 _ L;right;refine fM g ?_;ext;rw[d.1]
   by_cases z:n=0
   ·subst z;rw[zM (by rfl)];exact iteT (gE g D (getD_at (k:=0) ⋯) rfl rfl (N H (Same.refl _)))
   ·rw[zJ (show¬ ((n+1:Nat):Int)=1 by omega)];refine iteF ?_;obtain⟨n,rfl⟩:∃m,n=m+1:=⟨n-1,⋯⟩;left;left;subst e1;refine st λN1 e1=>lN λa7 eB=>?_;simp only[cK];ext;refine Qd g D rfl λp M=>⟨b2,_,rfl,⟨_,M⟩,?_⟩;generalize hf:(λk=>(c.getD 0 []).getD k 0*detM (n+1) (iS 0 k c))=f;refine Ho (nx:=N1) (rt:=Q) (λk v e=>∃v3 l,v=[some (.ref a),some (.int (altS f k)),some (.int (sg k)),v3,l]/\Same H e) ⟨_,_,rfl,Same.refl _⟩ (λ_ _ _ _⟨_,_,_,b⟩=>M.up b) ?_ ?_
    ·rintro k x q v e a3 ⟨v3,l,rfl,b⟩ a2;obtain⟨x,I,rfl⟩:=jY a3;have G:k<n+2:=by have:=(zqa I).1;omega
     refine⟨q,[.int k,.int x],rfl,SqT.of nN,rfl,_,_,rfl,_,_,rfl,rfl,?_⟩;replace b:=b.trans (Same.new (o:=.tup [.int k,.int x]) a2);generalize upd e q (.tup [.int k,.int x])=S at b;subst eB;show tSeq _ _ _ [some (.ref a),some (.int (altS f k)),some (.int (sg k)),some (.int k),some (.int x)] S;refine st λW a4=>?_;have F:∀i(o:Int),Same H i->o=altS f (k+1)->W [some (.ref a),some (.int o),some (.int (sg k)),some (.int k),some (.int x)] i:=by
      intro i o j X;subst a4 X;ext;rw[Vh];exact⟨rfl,j⟩
     ext;have O:(c.getD 0 []).getD k 0=x:=Qf I;have R:f k=x*detM (n+1) (iS 0 k c):=by rw[←hf];dsimp only;rw[O]
     have C:=d.minor (i:=0) (k:=k) ⋯ G;have y:mV B (iS 0 k c):=J.minor
     by_cases u:x=0
     ·rw[zM u];refine iteF (F S _ b ?_);show _=altS f k+sg k*f k;rw[R,u];simp
     ·rw[zJ u];refine iteT ?_;simp only[tAug,ipI];ext;refine⟨tQ (by unfold sg;split <;> decide),b1,b2,a,c,0,k,_,rfl,g.up b,d.2,G,⋯,by rw[d.1];omega,λr i _ j a5=>?_⟩;refine⟨false,false,r,_,B,rfl,a5.b,C,⋯,y,V,λU Y=>?_⟩;ext;have a6:=J _ L x (by rw[←O];exact L2.getD_mem ⋯);have a8:=Jn (n+1) _ ⋯ ⋯ C y;refine⟨xF (m:=B+1) (n:=(n+1)*(B+2)+1) (mW ?_) (mW ?_) ?_,?_⟩
      ·rw[xK,Jp,Nat.one_mul,sK];omega
      ·rw[sK];have:=pW ((n+1)*(B+2));omega
      ·have:(n+1)*(B+2)<=4*1000002:=wY ⋯ ⋯;omega
      ·refine F U _ ((b.trans j).trans Y) ?_;show _=altS f k+sg k*f k;rw[R,Int.mul_assoc]
    ·rintro v e ⟨v3,l,rfl,b⟩;symm;rw[zqe,Z];have:altS f (n+2)=detM (n+2) c:=by rw[←hf];rfl
     rw[this];exact N e b
theorem ok_s(T:Txt K mg t):FnOk P w K mg base CX0 1 t.a_s t.d_s ["size"] sp_s:=by
 apply T.F_s.ok sc_s
 ·obtain⟨n,rfl,v,L⟩:=h;refine⟨_,(nM (nV (hX (xs:=["i"]) (fr:=[("size",0)]) (g:=(nX 0)) (tt:=(tEl (kW (mY (mH (tVar 1) tNil)) (nX 0) (tEl (tIf (bJ (tOp (rI0 λi j=>.bl (decide (i=j))) (tVar 1) (tVar 0))) (tC (.int 1)) (tC (.int 0)))) 1 [("i",0)]))) (jW (sc:=nP aZ) (N:=N_s) rfl rfl (nofun)) rfl (lG rfl T.z_range (nH (pq 0) nI)) (λ_ _ _ c=>(cJ (N:=["i","size"]) (i:=0) c rfl (nofun) rfl)) (λ_ _ _ c=>(iM (lE (N:=["i","size"]) (fr:=[("i",0)]) (te:=(tIf (bJ (tOp (rI0 λi j=>.bl (decide (i=j))) (tVar 1) (tVar 0))) (tC (.int 1)) (tC (.int 0)))) c rfl (nofun) rfl (nofun) (lG rfl T.z_range (nH (pv 1) nI)) (λ_ _ _ S=>(Ny (mB kK (pv 1) (pv 0) (mD _)) nK nK)))))))),?_⟩;show tRet _ _ [some (.int n)] H;ext;refine mK λB eB=>?_;simp only[mY];ext;refine⟨⋯,⋯,λb f=>?_⟩;rw[zS];refine jG (RowR b λi=>(List.range n).map λk=>if i=k then(1:Int) else 0) f v (RowR.mono (a:=b)) ?_ ?_
  ·intro i d zs hi q I D G;subst eB;show kW _ _ _ _ _ [some (.int (0+(i:Int))),some (.int n)] d D;refine mK λB eB=>?_;simp only[mY];ext;refine⟨⋯,⋯,λx p=>?_⟩;rw[zS];refine jG (λk y _=>k<n/\y=.int (if i=k then 1 else 0)) p v (λ_ _ _ _ r _=>r) ?_ ?_
   ·intro k m W o g U M l;subst eB;show tIf _ _ _ [some (.int (0+(k:Int))),some (.int (0+(i:Int)))] m M;ext
    by_cases z:i=k
    ·rw[zM ⋯];exact iteT (l _ _ (Same.refl _) ⟨o,by rw[zF z]⟩)
    ·rw[zJ ⋯];exact iteF (l _ _ (Same.refl _) ⟨o,by rw[zD z]⟩)
   ·intro m ys g C a R;have J:ys=((List.range n).map λk=>if i=k then(1:Int) else 0).map V.int:=by
     refine kE (by simpa using a) λj y e=>?_;obtain⟨F,rfl⟩:=R j y e;exact⟨_,by rw[zH,xC F];rfl,rfl⟩
    subst J;exact G _ _ g ⟨x,rfl,zT (lI I p),C⟩
  ·intro d ys q O a N;have u:=MatL.of O N;rw[a]at u;exact L b d f q u
theorem Ez{H:Hp}{a f:Addr}{M:LM}{Y:St}{Q:VK}{b1 b2:Bool}(n:MatB b1 b2 K H a M)(hl:M.length<=1000)(o:H f=none)
  (F:∀b zs,Same H b->b f=some (.lst zs)->(∀l,b l=none->MatB true true K (upd b l (.tup zs)) l M)->Q (.ref f) b):kL (Its K b1 a) (nX 0) (tEl (tCB (eX K) (mH (tVar 0) tNil))) 1 [] Y f H Q:=by
 cases b2 with
 |false =>
  refine Rz n hl o λb c u=>?_;obtain⟨zs,d,_⟩:=id u;refine F b _ c d λl k=>?_;obtain⟨a3,D,J⟩:=u.tuple (K:=K) k;rw[d]at D;cases D;exact J
 | true =>
  obtain⟨xs,T,Z,S⟩:=n.walk;refine kX (λj y _=>∃p r,y=.ref p/\M[j]?=some r/\SqB true K H p (r.map V.int)) o T ⋯ (λ_ _ _ _ r _=>r) ?_ ?_
  ·intro i x b zs W c a2 a0 R;obtain⟨p,r,rfl,X,v⟩:=S i x W;exact⟨_,rfl,p,_,rfl,.inr ⟨v.up c,R _ _ (Same.refl _) ⟨p,r,rfl,X,v⟩⟩⟩
  ·intro b ys c e1 m G;have I:∃ps:LA,ys=ps.map V.ref:=by
    clear e1 m;have:∀(zs:List V),(∀(j:Nat) y,zs[j]?=some y->∃p:Addr,y=.ref p)->∃ps:LA,zs=ps.map V.ref:=by
     intro zs
     induction zs with
     |nil=>intro _;exact⟨[],rfl⟩
     |cons z r O =>
      intro d;obtain⟨p,e⟩:=d 0 z rfl;obtain⟨ps,g⟩:=O λj y q=>d (j+1) y (by simpa using q);exact⟨p:: ps,by rw[e,g];rfl⟩
    exact this ys λj y e=>let ⟨p,r,e1,_⟩:=G j y e;⟨p,e1⟩
   obtain⟨ps,rfl⟩:=I;refine F b _ c e1 λl k=>⟨ps,SqB.tup nN,by simp at m;omega,λi p r g L=>?_⟩;obtain⟨a1,a4,U,C,N⟩:=G i (.ref p) (by simp[g]);cases U;rw[L]at C;cases C;exact N.up (c.trans (Same.new k))
theorem ok_15(T:Txt K mg t):FnOk P w K mg base CX0 1 t.a_15 t.d_15 py' (sp_15 K):=by
 apply T.F_15.ok sc_15
 ·obtain⟨b1,b2,a,p,M,ts,u,rfl,e,f,hl,o⟩:=h;refine⟨_,(nM (nV (kQ (nH (lK jX rfl T.z_tuple (nofun) (nH (lE (sc:=nP s_15) (N:=N_15) (fr:=[]) (te:=(tCB (eX K) (mH (tVar 0) tNil))) rfl rfl (nofun) rfl (nofun) (mT (pq 0)) (λ_ _ _ z=>(lK jX rfl T.z_tuple (nofun) (nH (pv 0) nI)))) nI)) (nH (nY (pq 1)) (nH (nY (pq 1)) nI)))))),?_⟩;show tRet _ _ [some (.ref a),some (.ref p)] H;ext;exfalso;obtain⟨xs,v,_⟩:=e.walk;refine⟨b1,⟨_,v⟩,λr j=>?_⟩;subst eB;refine Ez e ⋯ j λg zs k m b=>?_;refine⟨r,_,rfl,.inl ⟨SqL.of m,λl i=>?_⟩⟩;have c:Same H (upd g l (.tup zs)):=k.trans (Same.new i);replace b:=b l i;generalize upd g l (.tup zs)=y at c b;refine Vc (f.up c) λx n=>Vb (f.up c) ⟨(by show 3<=sizeLine;decide),λq d=>o q _ (c.trans (Same.new d)) ⟨l,x,nN,b.up (Same.new d),Same.new d _ _ n⟩⟩
theorem ok_1i(T:Txt K mg t):FnOk P w K mg base CX0 2 t.a_1i t.d_1i ["one"] (sp_1i K):=by
 have g:=@ok_15 P w K mg base t T;have j:=@ok_q P w K mg base t T;apply T.F_1i.ok sc_1i
 ·obtain⟨p,M,ts,u,rfl,b,hl,r,d,n⟩:=h;refine⟨_,(nM (nV (nS g hr.mo T.F_15 (nH (nY (pq 0)) (nH (nS j hr.mo T.F_q (nH (kQ (nH (nY (pq 0)) (nH (nY (pq 0)) nI))) nI)) nI))))),?_⟩;show tRet _ _ [some (.ref p)] H;ext;refine fA b λx i=>cV b λy e=>fB b ⟨(by show 2<=sizeLine;decide),λl z=>?_⟩;have a:Same H (upd H l (.tup [.ref y,.int u])):=Same.new z;refine⟨l,ts,u,rfl,⟨y,SqT.of nN,lY a _ _ e⟩,r,d,λv C c o=>?_⟩;exact⟨true,true,x,v,M,_,u,rfl,i.up (a.trans c),o,hl,λq k m f=>n q k ((a.trans c).trans m) f⟩
theorem ok_1c(T:Txt K mg t):FnOk P w K mg base CX0 3 t.a_1c t.d_1c ["one","spot"] (sp_1c K):=by
 have a4:=@ok_1k P w K mg base t T;have X:=@ok_18 P w K mg base t T;apply T.F_1c.ok sc_1c
 ·obtain⟨p,q,M,ts,ns,u,v,d,rfl,f,D,a,b8,b7,b9,J,o,I,b0⟩:=h;refine⟨_,(nJ (Ba (i:=2) (xs:=["row","top"]) (fr:=[("one",0),("spot",1)]) (g:=(gTup K 2 (kC (nX 0) (kC (nX 1) gNil)))) (tt:=(tEl (tOp (rI0 λi j=>.int (i+j)) (tOp (rI (λi j=>IntMulOk i j) λi j=>.int (i*j)) (kJ (sp_1k K) [] E0 (mH (tVar 0) (mH (tOp (rIxB K) (tVar 3) (tC (.int 0))) tNil))) (tOp (rIxB K) (tVar 2) (tC (.int 2)))) (tOp (rI (λi j=>IntMulOk i j) λi j=>.int (i*j)) (tVar 1) (tOp (rIxB K) (tVar 3) (tC (.int 1))))))) (jW (sc:=nP s_1c) (N:=N_1c) rfl rfl (nofun)) rfl sc_1c.nd rfl rfl (Hw rfl T.z_zip (nH (nY (pq 0)) (nH (nY (pq 0)) nI))) (λ_ _ _ F=>(gO rfl (kP (iH (N:=["row","top","one","spot"]) (i:=0) F rfl (nofun)) (kP (iH (N:=["row","top","one","spot"]) (i:=1) F rfl (nofun)) gN)))) (λ_ _ _ F=>(iM (nR lH (nR mZ (nS a4 hr.mo T.F_1k (nH (pv 0) (nH (nY (pv 3)) nI))) (nY (pv 2))) (nR mZ (pv 1) (nY (pv 3)))))))
   (nM (nV (bL X hr.mo rfl T.F_18.m T.F_18.kp T.F_18.b .nil Be (nH (pq 2) (nH (nR mZ (nY (pq 0)) (nY (pq 1))) nI)))))),?_⟩
  show tSeq _ _ _ [some (.ref p),some (.ref q),none] H;right;refine mK λB eB=>?_;simp only[iZip];ext;refine fA f λx b3=>cV f λy O=>?_;obtain⟨xs,R,g,a6⟩:=b3.walk;refine⟨true,true,x,rfl,y,rfl,⟨_,R⟩,⟨_,(O:SqB true K H y _)⟩,λY a0=>?_⟩;have b6:∀(i:Nat)(r:LI')(tt:Int),M[i]?=some r->ts[i]?=some tt->(movT M ts u ns v)[i]?=some (dotI r ns*u+tt*v):=λi r tt e1 G=>by
   unfold movT;rw[wB,e1,G]
  refine Hu (λj z _=>∃n,(movT M ts u ns v)[j]?=some n/\z=.int n) a0 R ((O:SqB true K H y _)) (by rw[g,a.sq.1,zqe,a.len]) (by rw[g,a.sq.1];omega) (λ_ _ _ _ r _=>r) ?_ ?_
  ·intro i a1 c3 l zs b5 Z b c4 a3 a5;obtain⟨pr,r,rfl,C,a7⟩:=a6 i a1 b5;obtain⟨tt,N,rfl⟩:=jY Z;have c0:r.length=d:=a.sq.2 r (zqb C);have L:=a.bm r (zqb C);subst eB;show tOp _ _ _ [some (.ref pr),some (.int tt),some (.ref p),some (.ref q)] l a3;ext;refine Jm (D.up b) λz b2=>?_;refine⟨true,true,pr,z,r,ns,rfl,a7.up b,(b2:SqB true K l z _),⋯,⋯,λc2 m n e1 G=>xF (mW (L m (zqb e1))) (mW (J n (zqb G))) ∅,λS c=>?_⟩;refine fB (f.up (b.trans c)) ?_;ext;have c1:=An r ns L J;have a8:(dotI r ns).natAbs<2^400010:=by
    have:r.length*2^(200000+200000)<=4*2^(200000+200000):=wH _ ⋯;have e:(2:Nat)^400010=1024*2^(200000+200000):=by rw[show(400010:Nat)=10+(200000+200000) from rfl,tV]
    have:=pW (200000+200000);omega
   refine⟨xF (mW a8) (mW (dM a.pos a.bu)) ∅,?_⟩;refine Da (D.up (b.trans c)) ?_;ext;refine⟨xF (mW (a.bt tt (zqb N))) (mW (dM o I)) ∅,?_⟩;exact a5 _ _ c ⟨_,b6 i r tt C N,rfl⟩
  ·intro l zs b a2 W b1;have k:(movT M ts u ns v).length=d:=by unfold movT;rw[xZ,a.sq.1,a.len];omega
   have a9:zs=(movT M ts u ns v).map V.int:=kE (by rw[W,g,a.sq.1,k]) b1;subst a9;symm;refine fB (f.up b) ?_;refine Da (D.up b) ?_;ext;have U:=Ve a.pos a.bu o I;refine⟨xF (mW (dM a.pos a.bu)) (mW (dM o I)) ∅,?_⟩;refine⟨false,Y,_,_,rfl,SqB.lst a2,⋯,U.1,λz=>?_,λ_ _ r S c b4=>b0 r S (b.trans c) b4⟩;rcases z with z|z
   ·omega
   ·rw[z]at k;simp at k;omega
theorem ok_19(T:Txt K mg t):FnOk P w K mg base CX0 4 t.a_19 t.d_19 px' (sp_19 K):=by
 have c5:=@ok_1k P w K mg base t T;have c6:=@ok_1b P w K mg base t T;have b5:=@ok_1c P w K mg base t T;have d4:=@ok_15 P w K mg base t T;apply T.F_19.ok sc_19
 ·obtain⟨p,q,M,N,ts,ns,u,v,d,rfl,L,a1,a,g,b3,b0,d5⟩:=h;refine⟨_,(nJ (nU (i:=2) sc_19.nd rfl (Or.inr rfl) (nS c6 hr.mo T.F_1b (nH (nY (pq 0)) nI)))
   (nJ (Ba (i:=3) (xs:=["row"]) (fr:=[("columns",2)]) (g:=(nX 0)) (tt:=(tEl (kW (iSeq K (tVar 1)) (nX 0) (tEl (kJ (sp_1k K) [] E0 (mH (tVar 1) (mH (tVar 0) tNil)))) 1 [("row",0)]))) (jW (sc:=nP s_19) (N:=N_19) rfl rfl (nofun)) rfl sc_19.nd rfl rfl (mT (nY (pq 1))) (λ_ _ _ R=>(cJ (N:=["row","columns"]) (i:=0) R rfl (nofun) rfl)) (λ_ _ _ R=>(iM (lE (N:=["row","columns"]) (fr:=[("row",0)]) (te:=(kJ (sp_1k K) [] E0 (mH (tVar 1) (mH (tVar 0) tNil)))) R rfl (nofun) rfl (nofun) (mT (pv 1)) (λ_ _ _ f0=>(nS c5 hr.mo T.F_1k (nH (pv 1) (nH (pv 0) nI))))))))
   (nM (nV (nS d4 hr.mo T.F_15 (nH (pq 3) (nH (nS b5 hr.mo T.F_1c (nH (pq 1) (nH (kQ (nH (nY (pq 0)) (nH (nY (pq 0)) nI))) nI))) nI))))))),?_⟩
  show tSeq _ _ _ [some (.ref p),some (.ref q),none,none] H;right;have d0:M≠[]:=λz=>by have:=a.sq.1;rw[z]at this;simp at this;omega
  refine fA L λx e3=>⟨true,true,x,M,d,rfl,e3,d0,a.sq.2,⋯,by rw[a.sq.1];omega,λc f1 f2 a5 b4=>?_⟩;left;exfalso;refine fA (a1.up a5) λy d1=>?_;obtain⟨xs,a7,Y,d2⟩:=d1.walk;refine⟨true,y,rfl,⟨_,a7⟩,λJ b8=>?_⟩;refine kX (RowR J λj=>(List.range d).map λk=>dotI (N.getD j []) (colI k M)) b8 a7 (by rw[Y,g.sq.1];omega) (RowR.mono (a:=J)) ?_ ?_
  ·intro i x I zs e4 F c9 c0 c8;obtain⟨pr,r,rfl,W,d3⟩:=d2 i x e4;have c2:N.getD i []=r:=by rw[zqc,W];rfl
   have c1:r.length=d:=g.sq.2 r (zqb W);have b6:=g.bm r (zqb W);subst eB;show kW _ _ _ _ _ [some (.ref pr),some (.ref c)] I c0;exfalso;obtain⟨e9,Z,f5,b1⟩:=((b4.up F).b (K:=K)).walk;refine⟨false,⟨_,Z⟩,λb2 a4=>?_⟩;have e8:(aG d M).length=d:=by simp[aG]
   refine kX (λj y _=>y=.int (dotI r (colI j M))/\j<d) a4 Z ⋯ (λ_ _ _ _ r _=>r) ?_ ?_
   ·intro j y a2 f6 O b f3 d6 c3;obtain⟨a0,col,rfl,G,U⟩:=b1 j y O;have o:j<d:=by have:=(zqa G).1;omega
    have d8:col=colI j M:=by
     unfold aG at G;rw[zH,xC o]at G;exact(zZ G).symm
    subst eB d8;show kJ _ _ _ _ [some (.ref a0),some (.ref pr)] a2 d6;ext;refine⟨true,false,pr,a0,r,colI j M,rfl,(d3.up F).up b,U.up b,by simp[colI,c1,a.sq.1],⋯,λc4 m n e1 f=>?_,λa9 D=>c3 _ _ D ⟨rfl,o⟩⟩;unfold colI at f;rw[zH]at f;cases eb:M[c4]? with
    |none=>rw[eb]at f;cases f
    |some S =>
     rw[eb]at f;have e0:S.getD j 0=n:=zZ f;subst e0;have a3:=zqb eb;exact xF (mW (b6 m (zqb e1))) (mW (a.bm S a3 _ (L2.getD_mem (by rw[a.sq.2 S a3];exact o)))) ∅
   ·intro a2 ys b b9 X e7;have O:ys=((List.range d).map λk=>dotI r (colI k M)).map V.int:=by
     refine kE (by simp;omega) λj y e=>?_;obtain⟨rfl,o⟩:=e7 j y e;exact⟨_,by rw[zH,xC o];rfl,rfl⟩
    subst O;exact c8 _ _ b ⟨b2,rfl,zT (lI c9 a4),by dsimp only;rw[c2];exact b9⟩
  ·intro I ys F f X d9;have a8:=MatL.of f d9;have e:(List.range ys.length).map (λj=>(List.range d).map λk=>dotI (N.getD j []) (colI k M))=mulM d N M:=by
    rw[X,Y];unfold mulM;refine tO (by simp) λi a6 f4=>?_;simp at a6;simp[a6]
   rw[e]at a8;have C:=a5.trans F;symm;refine cV (L.up C) λz e2=>fB (L.up C) ⟨(by show 2<=sizeLine;decide),λl b7=>?_⟩;have b:Same I (upd I l (.tup [.ref z,.int u])):=Same.new b7;refine⟨q,l,N,ns,ts,v,u,d,rfl,(a1.up C).up b,⟨z,SqT.of nN,lY b _ _ e2⟩,g,b3,b0,a.len,a.bt,a.pos,a.bu,λr a9 D e5=>?_⟩;exact⟨false,false,J,r,_,_,_,rfl,((a8.up b).up D).b,e5,by simp[mulM,g.sq.1];omega,λd7 c7 e6 U=>d5 d7 c7 (((C.trans b).trans D).trans e6) U⟩
def Ey(rows:LM)(tops:LI')(u:Int):Prop:=(rows.length=2\/rows.length=3)/\(∀r∈rows,r.length=rows.length)/\tops.length=rows.length/\u≠0/\(detM rows.length rows=1\/detM rows.length rows=-1)
def sp_1g(K:Frag)(C:Addr):Sp:=λvs H Q E=>E9 λ(b1 b2 b3:Bool)(a p:Addr)(rows:LM)(tops:LI')(u:Int)(B:Nat)=>A10 (vs=[.ref a,.ref p,.int u]) (MatB b1 b2 K H a rows) (SqB b3 K H p (tops.map V.int)) (rows.length<=100) (tops.length<=100) (mV B rows) (B<=1000000) (jK u) ((¬ Ey rows tops u->∀H',Same H H'->E (.ref C) none H')) ((Ey rows tops u->∀q H',Same H H'->kM K H' q rows (redT u tops) (redU u tops)->Q (.ref q) H'))
theorem inV2(L x y:Int):inV (.int L) [.int x,.int y]=decide (L=x\/L=y):=by
 have e:inV (.int L) [.int x,.int y]=(eqV (.int x) (.int L) || (eqV (.int y) (.int L) || false)):=rfl;have f:∀a b:Int,eqV (.int a) (.int b)=decide (a=b):=λa b=>by
  first|rfl|(unfold eqV;rfl)|(simp only[eqV];by_cases h:a=b <;> simp[h])
 rw[e,f,f,Bool.or_false]
 by_cases c:x=L
 ·rw[zM c,zM (p:=L=x\/L=y) (Or.inl c.symm)];rfl
 ·rw[zJ c]
  by_cases d:y=L
  ·rw[zM d,zM (p:=L=x\/L=y) (Or.inr d.symm)];rfl
  ·rw[zJ d,zJ (p:=L=x\/L=y) ⋯];rfl
theorem Va{H:Hp}{Q:VK}{E:XK}{b1 b2:Bool}{a:Addr}{b:LM}{n B:Nat}(e:1<=n)(d:n<=4)(f:MatB b1 b2 K H a b)(c:Sq n b)(i:mV B b)(g:B<=1000000)(q:∀H',Same H H'->Q (.int (detM n b)) H'):sp_4 K n [.ref a] H Q E:=by
 match n,e,d,c,q with
 |m+1,_,d,c,q=>exact⟨b1,b2,a,b,B,rfl,f,c,⋯,i,g,q⟩
theorem ok_1g(T:Txt K mg t):FnOk P w K mg base (CX1 P w) 6 t.a_1g t.d_1g pr' (sp_1g K t.a_1d):=by
 have a3:=@ok_18 P w K mg base t T;have b6:=@ok_15 P w K mg base t T;refine T.F_1g.okX sc_1g (λvs H Q E h=>?_) (λcdv A outer s H vs Q E hr h=>?_)
 ·obtain⟨b1,b2,a0,a,p,c,D,u,B,rfl,_⟩:=h;rfl
 ·obtain⟨b1,b2,a0,a,p,c,D,u,B,rfl,k,U,d2,a9,a2,c7,a5,f,c2⟩:=h;obtain⟨n,e0,O⟩:∃n:Nat,n<=3/\((c.length=2\/c.length=3)->n=c.length):=by
   by_cases z:c.length=2\/c.length=3
   ·exact⟨c.length,⋯,λ_=>rfl⟩
   ·exact⟨0,⋯,λh=>absurd h z⟩
  have c3:FnOk P w K mg base CX0 (n+1) t.a_4 t.d_4 pB' (sp_4 K n):=ok_4 T n;refine⟨_,(nJ (nU (i:=3) sc_1g.nd rfl (Or.inr rfl) (lC T.z_len (pq 0)))
   (nJ (mF (mB Bk (pq 3) (kQ (nH nK (nH nK nI))) rfl)
   (nM (iZ rfl iX rfl T.m_1d T.x_1d yR (nH iJ nI)))
   mE)
   (nJ (mF (PW.pt (lU (lP (mS (Rx rfl) rfl T.z_any (nofun) (nH (lE (sc:=nP s_1g) (N:=N_1g) (fr:=[("axes",3)]) (te:=(tOp (rI0 λi j=>.bl (!decide (i=j))) (tCB (eT K) (mH (tVar 0) tNil)) (tVar 1))) rfl rfl (nofun) rfl (nofun) (mT (pq 0)) (λ_ _ _ d9=>(dW jU (lC T.z_len (pv 0)) (pv 1) (mD _)))) nI))) (kN (mB jU (lC T.z_len (pq 1)) (pq 3) (mD _)))))
   (nM (iZ rfl iX rfl T.m_1d T.x_1d yR (nH iJ nI)))
   mE)
   (nJ (mF (mB kK (pq 2) nK (mD _))
   (nM (iZ rfl iX rfl T.m_1d T.x_1d yR (nH iJ nI)))
   mE)
   (nJ (mF (mB Bk (nS c3 hr.mo T.F_4 (nH (pq 0) nI)) (kQ (nH nK (nH (fF fG nK) nI))) rfl)
   (nM (iZ rfl iX rfl T.m_1d T.x_1d yR (nH iJ nI)))
   mE)
   (nM (nV (nS b6 hr.mo T.F_15 (nH (pq 0) (nH (bL a3 hr.mo rfl T.F_18.m T.F_18.kp T.F_18.b .nil Be (nH (pq 1) (nH (pq 2) nI))) nI)))))))))),?_⟩
  show tSeq _ _ _ [some (.ref a),some (.ref p),some (.int u),none] H;right;refine fM k ?_;subst e1;refine st λN1 e1=>?_;simp only[iY];ext;refine⟨by show 2<=sizeLine;decide,λN c0=>?_⟩;have m:Same H (upd H N (.tup [.int 2,.int 3])):=Same.new c0;refine⟨N,_,rfl,.inr (SqT.of nN),rfl,rfl,_,rfl,?_⟩;generalize upd H N (.tup [.int 2,.int 3])=d6 at m;rw[inV2]
  by_cases L:c.length=2\/c.length=3
  case neg =>
   rw[zJ ⋯];refine iteT ?_;simp only[iY];ext;exact⟨∅,f (λg=>L g.1) _ m⟩
  rw[zM ⋯];refine iteF ?_;replace O:=O L;subst O;left;refine mK λC a8=>?_;simp only[iSeq];ext;obtain⟨xs,W,d5,b5⟩:=(k.up m).walk;refine⟨b1,⟨_,W⟩,λa4 a6=>?_⟩;refine kX (λj y _=>∃r,c[j]?=some r/\y=.bl (!decide (r.length=c.length))) a6 W ⋯ (λ_ _ _ _ r _=>r) ?_ ?_
  ·intro i x Y zs c8 J d8 a7 b3;obtain⟨pr,X,rfl,d1,b7⟩:=b5 i x c8;subst a8;show tOp _ _ _ [some (.ref pr),some (.int c.length)] Y a7;ext;refine Cu (b7.up J) ?_
   try ext
   refine b3 _ _ (Same.refl _) ⟨X,d1,?_⟩
   by_cases z:X.length=c.length
   ·rw[zM z,zM ⋯]
   ·rw[zJ z,zJ ⋯]
  ·intro Y ys J c9 d4 M;have b8:ys=(c.map λr=>!decide (r.length=c.length)).map V.bl:=by
    rw[yW];exact kE ⋯ M
   subst b8;refine⟨a4,rfl,_,SqL.of c9,?_⟩
   try ext
   have d:=m.trans J
   by_cases e:∀r∈c,r.length=c.length
   case neg =>
    have I:(c.map λr=>!decide (r.length=c.length)).any id=true:=by
     rw[List.any_eq_true];obtain⟨r,hr⟩:=Classical.not_forall.mp e;obtain⟨c4,M⟩:=Classical.not_imp.mp hr;exact⟨true,oZ.mpr ⟨r,c4,by rw[zJ M];rfl⟩,rfl⟩
    rw[I];refine iteT ?_;simp only[iY];ext;exact⟨∅,f (λg=>e g.2.1) _ d⟩
   have I:(c.map λr=>!decide (r.length=c.length)).any id=false:=by
    rw[List.any_eq_false];intro b b0;obtain⟨r,hr,rfl⟩:=oZ.mp b0;rw[zM (e r hr)]
    decide
   rw[I];refine iteF ?_;refine Cu (U.up d) ?_
   try ext
   by_cases o:D.length=c.length
   case neg =>
    rw[zJ ⋯];refine iteT ?_;simp only[iY];ext;exact⟨∅,f (λg=>o g.2.2.1) _ d⟩
   rw[zM ⋯];refine iteF ?_;subst e1;refine st λN1 e1=>?_;simp only[iY];ext;refine ite2 (λz=>⟨∅,f (λg=>g.2.2.2.1 (xT z)) _ d⟩) (λz=>?_);have R:u≠0:=λq=>z (zM q);left;refine Va ⋯ ⋯ (k.up d) ⟨rfl,e⟩ a2 c7 λG a1=>?_
   try ext
   refine⟨by show 2<=sizeLine;decide,λF b9=>?_⟩;have S:Same G (upd G F (.tup [.int 1,.int (-1)])):=Same.new b9;refine⟨F,_,rfl,.inr (SqT.of nN),rfl,rfl,_,rfl,?_⟩;generalize upd G F (.tup [.int 1,.int (-1)])=d3 at S;have v:=(d.trans a1).trans S;rw[inV2]
   by_cases l:detM c.length c=1\/detM c.length c=-1
   case neg =>
    rw[zJ l];refine iteT ?_;simp only[iY];ext;exact⟨∅,f (λg=>l g.2.2.2.2) _ v⟩
   rw[zM l];refine iteF ?_;symm;refine⟨a0,p,D,u,rfl,U.up v,a9,a5,λz=>?_,λ_ _ c1 d7 Z d0=>⟨b1,b2,a,c1,c,_,_,rfl,k.up (v.trans Z),d0,d2,λq b4 c5 c6=>c2 ⟨L,e,o,R,l⟩ q b4 ((v.trans Z).trans c5) c6⟩⟩;rcases z with z|z
   ·exact absurd z R
   ·rw[z]at o;simp at o;omega
def sp_1e(K:Frag):Sp:=λvs H Q _=>E1 λ(d:Nat)=>A3 (vs=[.int d]) ((d=2\/d=3)) (∀q H',Same H H'->kM K H' q (idM d) (List.replicate d 0) 1->Q (.ref q) H')
theorem Wz(ns:LI'):gl 1 ns=1:=Int.eq_one_of_dvd_one (Ar 1 ns) (gl_u 1 ns)
theorem Wy{d:Nat}(b:d=2\/d=3):Ey (idM d) (List.replicate d 0) 1/\mV 1 (idM d):=by
 rcases b with rfl|rfl
 ·exact⟨⟨.inl rfl,∅,∅,∅,.inl ∅⟩,by intro r hr x a;revert r x;decide⟩
 ·exact⟨⟨.inr rfl,∅,∅,∅,.inl ∅⟩,by intro r hr x a;revert r x;decide⟩
theorem Wx:jK 1:=Am (B:=1) ∅ ∅
theorem ok_1e(T:Txt K mg t):FnOk P w K mg base CX0 8 t.a_1e t.d_1e ["d"] (sp_1e K):=by
 have x:=@ok_1g P w K mg base t T;have z:=@ok_s P w K mg base t T;apply T.F_1e.ok sc_1e
 ·obtain⟨d,rfl,j,C⟩:=h;refine⟨_,(nM (nV (bL x hr.mo rfl T.F_1g.m T.F_1g.kp T.F_1g.b .nil Be (nH (nS z hr.mo T.F_s (nH (pq 0) nI)) (nH (nR Gr (mQ (nH nK nI)) (pq 0)) (nH nK nI)))))),?_⟩;show tRet _ _ [some (.int d)] H;ext;refine⟨d,rfl,⋯,λr a _ y D=>?_⟩
  try ext
  refine⟨by show 1<=sizeLine;decide,λl hl=>?_⟩;have e:Same a (upd a l (.lst [.int 0])):=Same.new hl;have i:(upd a l (.lst [.int 0])) l=some (.lst [.int 0]):=nN;generalize upd a l (.lst [.int 0])=b at e i;refine⟨l,d,_,rfl,rfl,i,⋯,⋯,?_,λl2 v=>?_⟩
  ·rw[zS];show 1*d<=sizeLine;have:3<=sizeLine:=∅
   omega
  have c:Same b (upd b l2 (.lst (List.replicate (d:Int).toNat [V.int 0]).flatten)):=Same.new v;have f:(upd b l2 (.lst (List.replicate (d:Int).toNat [V.int 0]).flatten)) l2=some (.lst ((List.replicate d (0:Int)).map V.int)):=by
   rw[nN,zS];rcases j with rfl|rfl <;> rfl
  generalize upd b l2 (.lst (List.replicate (d:Int).toNat [V.int 0]).flatten)=G at c f;obtain⟨g,o⟩:=Wy j;have m:=Vk (u:=1) ∅ (Wz (List.replicate d 0));have e1:redT 1 (List.replicate d 0)=List.replicate d 0:=m.1;have F:redU 1 (List.replicate d 0)=1:=m.2;refine⟨false,false,false,r,l2,idM d,List.replicate d 0,1,1,rfl,((D.up e).up c).b,SqB.lst f,by simp[idM];omega,by simp;omega,o,∅,Wx,λn=>absurd g n,λ_ q p u k=>?_⟩;rw[e1,F]at k;exact C q p ((y.trans (e.trans c)).trans u) k
def cW(M:LM)(ts:LI')(u:Int):PyData:=.tuple [matD true true M,eY true ts,.int u]
theorem Ww{M N:LM}{ts ns:LI'}{u v:Int}:cW M ts u=cW N ns v↔(M=N/\ts=ns/\u=v):=by
 unfold cW;simp only[PyData.tuple.injEq,List.cons.injEq,PyData.int.injEq,and_true,Qg,Hr]
theorem Dt.deed{K:Frag}{H:Hp}{p:Addr}{M:LM}{ts:LI'}{u:Int}(h:kM K H p M ts u):Dt K H (.ref p) (cW M ts u):=by
 obtain⟨pr,pt,a,c,b⟩:=h;exact .tup (SqT.of a) (.cons (Dt.matB c) (.cons (Dt.intsB (SqB.tup b)) (.cons (.int u) .nil)))
abbrev Dd:=LM×List Int×Int
def dat(x:Dd):PyData:=cW x.1 x.2.1 x.2.2
theorem fU{x y:Dd}:dat x=dat y↔x=y:=by
 obtain⟨M,ts,u⟩:=x;obtain⟨N,ns,v⟩:=y;unfold dat;rw[Ww];simp
theorem Al{n:Nat}{ds:List PyData}:tT (n+1) (.tuple ds)=ds.all (tT n):=rfl
theorem kH(x:Dd):tT 4 (dat x)=true:=by
 obtain⟨M,ts,u⟩:=x;have hi:∀(n:Nat)(l:LI'),(l.map PyData.int).all (tT n)=true:=λn l=>by
  rw[uI];intro d a;obtain⟨i,_,rfl⟩:=oZ.mp a;cases n <;> rfl
 show tT 4 (.tuple [.tuple (M.map λr=>.tuple (r.map PyData.int)),.tuple (ts.map PyData.int),.int u])=true;rw[Al,yV,yV,yV,Al,Al,hi];have:(M.map λr=>PyData.tuple (r.map PyData.int)).all (tT 2)=true:=by
  rw[uI];intro d a;obtain⟨r,_,rfl⟩:=oZ.mp a;rw[Al];exact hi 1 r
 rw[this];rfl
def DdAt(K:Frag)(H:Hp)(p:Addr)(x:Dd):Prop:=kM K H p x.1 x.2.1 x.2.2
theorem DdAt.up{K:Frag}{H H':Hp}{p:Addr}{x:Dd}(h:DdAt K H p x)(s:Same H H'):DdAt K H' p x:=kM.up h s
theorem DdAt.dt{K:Frag}{H:Hp}{p:Addr}{x:Dd}(h:DdAt K H p x):Dt K H (.ref p) (dat x):=Dt.deed h
abbrev DdS(K:Frag)(H:Hp)(p:Addr)(x:Dd):Prop:=jR K H p x.1 x.2.1 x.2.2
theorem DdS.up{K:Frag}{H H':Hp}{p:Addr}{x:Dd}(h:DdS K H p x)(s:Same H H'):DdS K H' p x:=jR.up h s
theorem DdAt.s{K:Frag}{H:Hp}{p:Addr}{x:Dd}(h:DdAt K H p x):DdS K H p x:=kM.s h
def nQ(x:Dd):Dd:=(x.1,lR x.2.2 x.2.1,x.2.2)
def behD(d:Nat)(x s:Dd):Dd:=(mulM d s.1 x.1,redT (s.2.2*x.2.2) (movT s.1 s.2.1 s.2.2 x.2.1 x.2.2),redU (s.2.2*x.2.2) (movT s.1 s.2.1 s.2.2 x.2.1 x.2.2))
def mJ(d:Nat)(x s:Dd):Dd:=nQ (behD d x s)
def mO(d:Nat):Dd:=(idM d,List.replicate d 0,1)
abbrev Tb:=List (Dd×List Nat)
def nxt(d:Nat)(x:Dd)(w:List Nat)(tb:Tb)(ks:Dd×Nat):Tb:=if mJ d x ks.1∈tb.map (·.1) then tb else tb++[(mJ d x ks.1,w++[ks.2])]
def jB(d:Nat)(ss:List Dd)(tb:Tb)(i:Nat):Tb:=match tb[i]? with
 |none=>tb
 |some xw=>ss.zipIdx.foldl (nxt d xw.1 xw.2) tb
def mL(d:Nat)(ss:List Dd):Nat->Nat->Tb->Tb
 |0,_,tb=>tb
 |n+1,i,tb=>if i<tb.length then mL d ss n (i+1) (jB d ss tb i) else tb
theorem Wv(d:Nat)(x:Dd)(w:List Nat)(tb:Tb)(ks:Dd×Nat):∃r,nxt d x w tb ks=tb++r:=by
 unfold nxt;split
 ·exact⟨[],by simp⟩
 ·exact⟨_,rfl⟩
theorem cX(d:Nat)(x:Dd)(w:List Nat):∀(l:List (Dd×Nat))(tb:Tb),∃r,l.foldl (nxt d x w) tb=tb++r
 |[],tb=>⟨[],by simp⟩
 |k:: l,tb=>by
  obtain⟨r1,e1⟩:=Wv d x w tb k;obtain⟨r2,a⟩:=cX d x w l (nxt d x w tb k);exact⟨r1++r2,by rw[vA,a,e1,yK]⟩
theorem Jl(d:Nat)(ss:List Dd)(tb:Tb)(i:Nat):∃r,jB d ss tb i=tb++r:=by
 unfold jB;split
 ·exact⟨[],by simp⟩
 ·exact cX ..
theorem Ex(d:Nat)(ss:List Dd):∀(n i:Nat)(tb:Tb),∃r,mL d ss n i tb=tb++r
 |0,i,tb=>⟨[],by simp[mL]⟩
 |n+1,i,tb=>by
  unfold mL;split
  ·obtain⟨r1,e1⟩:=Jl d ss tb i;obtain⟨r2,a⟩:=Ex d ss n (i+1) (jB d ss tb i);exact⟨r1++r2,by rw[a,e1,yK]⟩
  ·exact⟨[],by simp⟩
def kI(d:Nat)(x:Dd):Prop:=Fine d x.1 x.2.1 x.2.2
def TbAt(H:Hp)(tb:Tb)(kvs:List (PyData×V)):Prop:=Paired (λ(x:Dd×List Nat)(kv:PyData×V)=>kv.1=dat x.1/\∃p,kv.2=.ref p/\H p=some (.lst (x.2.map λn=>V.int (n:Nat)))) tb kvs
structure Ak(d:Nat)(ms:List Dd)(G:Nat->Dd->Prop):Prop where
 f1:∀s∈ms,kI d s
 f2:∀s∈ms,kI d (nQ s)
 g:∀n x,n<=201->G n x->kI d x
 g0:G 0 (mO d)
 gs:∀n x s,n<=200->G n x->s∈ms->G (n+1) (mJ d x (nQ s))
def iB(H:Hp)(l:Addr)(W:List (List Nat)):Prop:=∃ws:LA,H l=some (.lst (ws.map V.ref))/\Paired (λp(w:List Nat)=>H p=some (.lst (w.map λn=>V.int (n:Nat)))) ws W
def Apt(H:Hp)(dx:Addr)(W:List (List Nat)):Prop:=∃l,H dx=some (XDct dx "apart" (.ref l))/\iB H l W
def mX(d:Nat)(ss:List Dd)(w:List Nat):Dd:=w.foldl (λx n=>mJ d x (ss.getD n (mO d))) (mO d)
def WdOk(d:Nat)(ss:List Dd)(y:Dd×List Nat):Prop:=y.1=mX d ss y.2/\∀n∈y.2,n<ss.length
def AptE(d:Nat)(ms:List Dd)(most:Nat)(H:Hp)(dx:Addr):Prop:=∃tb:Tb,Apt H dx (tb.map (·.2))/\tb.length=most+1/\(tb.map (·.1)).Nodup/\∀y∈tb,WdOk d (ms.map nQ) y/\y.2.length<=most
def sp_12(K:Frag)(C:Addr):Sp:=λvs H Q E=>E7 λ(b:Bool)(d:Nat)(a:Addr)(ps:LA)(ms:List Dd)(most:Nat)(G:Nat->Dd->Prop)=>A10 (vs=[.int d,.ref a,.int most]) ((d=2\/d=3)) (SqB b K H a (ps.map V.ref)) (Paired (DdS K H) ps ms) (ms.length<=200) (Ak d ms G) (1<=most) (most<=200) (((mL d (ms.map nQ) 201 0 [(mO d,[])]).length<=most->(((mL d (ms.map nQ) 201 0 [(mO d,[])]).map (·.1)).Nodup/\∀y∈mL d (ms.map nQ) 201 0 [(mO d,[])],G y.2.length y.1/\y.2.length<=200)->∀w kvs H',Same H H'->H w=none->DTr K H' w kvs->TbAt H' (mL d (ms.map nQ) 201 0 [(mO d,[])]) kvs->Q (.ref w) H')) ((most<(mL d (ms.map nQ) 201 0 [(mO d,[])]).length->∀dx H',Same H H'->AptE d ms most H' dx->E (.ref C) (some dx) H'))
def sp_t(C:Addr):Sp:=λvs H Q E=>E1 λ(n:Int)=>A3 (vs=[.int n]) (((1<=n/\n<=200)->Q .non H)) ((¬ (1<=n/\n<=200)->∀H',Same H H'->E (.ref C) none H'))
def AxOk(d:Int)(ms:List Dd):Prop:=(d=2\/d=3)/\∀s∈ms,(s.1.length:Int)=d
def sp_r(K:Frag)(C:Addr):Sp:=λvs H Q E=>E5 λ(b:Bool)(d:Int)(a:Addr)(ps:LA)(ms:List Dd)=>A5 (vs=[.int d,.ref a]) (SqB b K H a (ps.map V.ref)) (Paired (DdS K H) ps ms) ((AxOk d ms->∀H',Same H H'->Q .non H')) ((¬ AxOk d ms->∀H',Same H H'->E (.ref C) none H'))
theorem Jk{prog:Program}{w:World}:∀n,n<=201->gX prog w n:=λn _=>Ty n
theorem fV{K:Frag}{H:Hp}{a b:Addr}{kvs:List (PyData×V)}{k:PyData}{v:V}{Q:VK}(g:DTr K H a kvs)(t:tT 4 k=true)(d:Dt K H (.ref b) k)(e:vT kvs k=some v)(q:Q v H):aH K (.ref a) (.ref b) H Q:=⟨a,kvs,b,k,v,rfl,rfl,g,t,d,e,q⟩
theorem cY{K:Frag}{H:Hp}{a b:Addr}{kvs:List (PyData×V)}{k:PyData}{c:Bool}{Q:VK}(g:DTr K H a kvs)(t:tT 4 k=true)(d:Dt K H (.ref b) k)(q:Q (.bl (if c=true then !(vT kvs k).isSome else(vT kvs k).isSome)) H):rInT K c (.ref b) (.ref a) H Q:=⟨a,kvs,b,k,rfl,rfl,g,t,d,q⟩
theorem jL{a b:Type}{f:a->b}{l:List a}{i:Nat}{y:b}(h:(l.map f)[i]?=some y):∃x,l[i]?=some x/\y=f x:=by
 rw[zH]at h;cases hx:l[i]? with
 |none=>rw[hx]at h;cases h
 |some x=>rw[hx]at h;exact⟨x,rfl,(zZ h).symm⟩
def CpOk:Nat->V->Hp->Prop
 |0,x,_=>∃i,x=.int i
 |n+1,x,H=>∃a xs,x=.ref a/\H a=some (.lst xs)/\xs.length<=1000/\∀y∈xs,CpOk n y H
theorem CpOk.up{H H':Hp}(s:Same H H'):∀{n:Nat}{x:V},CpOk n x H->CpOk n x H'
 |0,_,h=>h
 |_+1,_,⟨a,xs,e,h,l,k⟩=>⟨a,xs,e,s _ _ h,l,λy b=>CpOk.up s (k y b)⟩
def CpR:Nat->V->Hp->V->Hp->Prop
 |0,x,_,y,_=>y=x
 |n+1,x,H,y,H'=>∀a xs,x=.ref a->H a=some (.lst xs)->∃l ys,y=.ref l/\H l=none/\H' l=some (.lst ys)/\ys.length=xs.length/\∀(j:Nat) u v,xs[j]?=some u->ys[j]?=some v->CpR n u H v H'
theorem Aj{H H':Hp}{b:Addr}(s:Same H H')(h:H' b=none):H b=none:=by
 cases e:H b with
 |none=>rfl
 |some o=>rw[s _ _ e]at h;cases h
theorem CpR.dn{b H H':Hp}(s:Same b H):∀{n:Nat}{x y:V},CpR n x H y H'->CpR n x b y H'
 |0,_,_,h=>h
 |_+1,_,_,h=>λa xs e m=>let ⟨l,ys,d,i,g,c,k⟩:=h a xs e (s _ _ m);⟨l,ys,d,Aj s i,g,c,λj u v e1 f=>CpR.dn s (k j u v e1 f)⟩
theorem CpR.up{H H' b:Hp}(s:Same H' b):∀{n:Nat}{x y:V},CpR n x H y H'->CpR n x H y b
 |0,_,_,h=>h
 |_+1,_,_,h=>λa xs e m=>let ⟨l,ys,d,i,g,c,k⟩:=h a xs e m;⟨l,ys,d,i,s _ _ g,c,λj u v e1 f=>CpR.up s (k j u v e1 f)⟩
def offH(a:Addr)(H:Hp):Hp:=λb=>if b=a then none else H b
theorem Ew{a:Addr}{H:Hp}:Same (offH a H) H:=λb o e=>by
 unfold offH at e;split at e
 ·cases e
 ·exact e
theorem Ev{a:Addr}{c d:Hp}(s:jO a c d):Same (offH a c) (offH a d):=λb o e=>by
 unfold offH at e ⊢;split at e
 ·cases e
 ·next h=>rw[zD h];exact s b o h e
theorem CpR.off{H H':Hp}{c:Addr}{o:HO}(d:H c=some o):∀{n:Nat}{x y:V},CpR n x H y H'->CpR n x H y (offH c H')
 |0,_,_,h=>h
 |_+1,_,_,h=>λa xs e p=>let ⟨l,ys,g,b,k,f,m⟩:=h a xs e p;⟨l,ys,g,b,by unfold offH;rw[zD (λz=>by rw[z,d]at b;cases b)];exact k,f,λj u v e1 i=>CpR.off d (m j u v e1 i)⟩
def sp_17(n:Nat):Sp:=λvs H Q _=>∃x,vs=[x]/\CpOk n x H/\∀y H',Same H H'->CpR n x H y H'->Q y H'
theorem Jj:∀{w:List Nat}{ys:List V},ys.length=w.length->(∀(j:Nat) u v,(w.map λn=>V.int (n:Nat))[j]?=some u->ys[j]?=some v->v=u)->ys=w.map λn=>V.int (n:Nat)
 |[],[],_,_=>rfl
 |n:: w,y:: ys,hl,h=>by
  rw[zO,←Jj (w:=w) (ys:=ys) (by simpa using hl) λj u v e1 a=>h (j+1) u v (by simpa using e1) (by simpa using a),h 0 _ y rfl rfl]
theorem Ji{H H':Hp}:∀{c:List (List Nat)}{a:LA}{ys:List V},Paired (λp(w:List Nat)=>H p=some (.lst (w.map λn=>V.int (n:Nat)))) a c->ys.length=a.length->(∀(j:Nat) u v,(a.map V.ref)[j]?=some u->ys[j]?=some v->CpR 1 u H v H')->∃vs:LA,ys=vs.map V.ref/\Paired (λp(w:List Nat)=>H p=none/\H' p=some (.lst (w.map λn=>V.int (n:Nat)))) vs c
 |[],[],[],_,_,_=>⟨[],rfl,.nil⟩
 |w:: c,p:: a,y:: ys,.cons g m,hl,h=>by
  obtain⟨vs,rfl,e⟩:=Ji m (by simpa using hl) λj u v e1 b=>h (j+1) u v (by simpa using e1) (by simpa using b);obtain⟨l,zs,e1,b,f,i,k⟩:=h 0 _ y rfl rfl p _ rfl g;have d:=Jj (by simpa using i) k;exact⟨l:: vs,by rw[e1];rfl,.cons ⟨b,by rw[f,d]⟩ e⟩
theorem Jh{a b:Type}{F:a->b->Prop}:∀{xs:List a}{ys:List b},Paired F xs ys->xs.length=ys.length
 |_,_,.nil=>rfl
 |_,_,.cons _ h=>by rw[zR,zR,Jh h]
theorem Jg{b c:Type}{F:b->c->Prop}:∀{xs:List b}{ys:List c},Paired F xs ys->∀x∈xs,∃y∈ys,F x y
 |_,_,.cons h hh,x,a=>by
  rcases xL.mp a with rfl|a
  ·exact⟨_,.head _,h⟩
  ·obtain⟨y,d,f⟩:=Jg hh x a;exact⟨y,.tail _ d,f⟩
theorem iB.cp{H:Hp}{l:Addr}{a:List (List Nat)}(h:iB H l a)(l1:a.length<=1000)(l2:∀w∈a,w.length<=1000):CpOk 2 (.ref l) H:=by
 obtain⟨j,e,b⟩:=h;refine⟨l,_,rfl,e,by rw[zqe];have:=Jh b;omega,λy c=>?_⟩;obtain⟨p,f,rfl⟩:=oZ.mp c;obtain⟨w,g,i⟩:=Jg b p f;refine⟨p,_,rfl,i,by rw[zqe];exact l2 w g,λz d=>?_⟩;obtain⟨n,_,rfl⟩:=oZ.mp d;exact⟨_,rfl⟩
def Wu(C:Addr):Sp:=λvs H Q _=>E3 λ(e a:Addr)(W:List (List Nat))=>A6 (vs=[.ref e,.ref a]) (H e=some (XObj e C none)) (iB H a W) (W.length<=1000) ((∀w∈W,w.length<=1000)) (∀dx H',(∀b o,b≠e->H b=some o->H' b=some o)->H' e=some (XObj e C (some dx))->Apt (rmv H' e) dx W->Q .non H')
def WdR(a:Addr)(srt:Tb)(j:Nat)(y:V)(H:Hp):Prop:=∃p m,y=V.ref p/\p≠a/\srt[j]?=some m/\H p=some (.lst (m.2.map λn=>V.int ((n:Nat):Int)))
theorem Eu{a:Addr}{H:Hp}:∀{srt:Tb}{ys:List V},ys.length=srt.length->(∀(j:Nat) y,ys[j]?=some y->WdR a srt j y H)->∃b:LA,ys=b.map V.ref/\Paired (λp(x:Dd×List Nat)=>H p=some (.lst (x.2.map λn=>V.int (n:Nat)))) b srt
 |[],[],_,_=>⟨[],rfl,.nil⟩
 | m:: srt,y:: ys,hl,h=>by
  obtain⟨p,c,e1,_,l,e⟩:=h 0 y rfl;cases l;obtain⟨b,i,q⟩:=Eu (a:=a) (H:=H) (srt:=srt) (ys:=ys) (by simpa using hl) λj k o=>by
   obtain⟨p,c,r,f,d,g⟩:=h (j+1) k (by simpa using o);exact⟨p,c,r,f,by simpa using d,g⟩
  exact⟨p:: b,by rw[e1,i];rfl,.cons e q⟩
structure TK(K:Frag)(H H':Hp):Prop where
 k:∀b xs,H b=some (.tup xs)->H' b=some (.tup xs)
 t:∀b xs,SqT K H b xs->SqT K H' b xs
theorem TK.trans{K:Frag}{H d f:Hp}(a:TK K H d)(b:TK K d f):TK K H f:=⟨λc xs e=>b.k _ _ (a.k _ _ e),λc xs e=>b.t _ _ (a.t _ _ e)⟩
theorem TK.off{K:Frag}{H H':Hp}{a:Addr}{o:HO}(e:H a=some o)(f:∀xs,o≠.tup xs)(g:∀d u,o≠.frz d u)(h:∀c,c≠a->H' c=H c):TK K H H':=by
 have k:∀b xs,H b=some (.tup xs)->H' b=some (.tup xs):=λb xs q=>by
  rw[h b λz=>f xs (by rw[z,e]at q;exact zZ q)];exact q
 refine⟨k,λb xs q=>?_⟩;rcases q with(q|⟨d,q⟩)|q
 ·exact .inl (.inl (k _ _ q))
 ·exact .inl (.inr ⟨d,by rw[h b λz=>g _ _ (by rw[z,e]at q;exact zZ q)];exact q⟩)
 ·exact .inr q
theorem MatB.tk{K:Frag}{H H':Hp}{a:Addr}{M:LM}(h:MatB true true K H a M)(s:TK K H H'):MatB true true K H' a M:=let ⟨ps,b,e,d⟩:=h;⟨ps,s.t _ _ b,e,λi p r e1 c=>s.t _ _ (d i p r e1 c)⟩
theorem DdAt.tk{K:Frag}{H H':Hp}{p:Addr}{x:Dd}(h:DdAt K H p x)(s:TK K H H'):DdAt K H' p x:=let ⟨pr,pt,a,c,b⟩:=h;⟨pr,pt,s.k _ _ a,MatB.tk c s,s.k _ _ b⟩
theorem DdS.tk{K:Frag}{H H':Hp}{p:Addr}{x:Dd}(h:DdS K H p x)(s:TK K H H'):DdS K H' p x:=let ⟨pr,pt,a,c,b⟩:=h;⟨pr,pt,s.t _ _ a,MatB.tk c s,s.t _ _ b⟩
theorem DTr.tk{K:Frag}{H H':Hp}{a:Addr}{kvs:List (PyData×V)}(h:DTr K H a kvs)(s:TK K H H')(e:H' a=H a):DTr K H' a kvs:=by
 obtain⟨l,y,xs,b,n,r⟩:=h;exact⟨l,y,xs,e.trans b,n,r.keeps s.t⟩
structure CI(K:Frag)(H0:Hp)(qs:LA)(ss:List Dd)(as af aw:Addr)(tb:Tb)(H:Hp):Prop where
 s:∀b o,H0 b=some o->H b=some o
 st:H as=some (.lst (qs.map V.ref))/\Paired (DdAt K H) qs ss
 fo:∃fs,H af=some (.lst (fs.map V.ref))/\Paired (λp(x:Dd×List Nat)=>DdAt K H p x.1) fs tb
 wo:∃kvs,DTr K H aw kvs/\Paired (λ(x:Dd×List Nat)(kv:PyData×V)=>kv.1=dat x.1/\∃p,kv.2=.ref p/\p≠af/\H p=some (.lst (x.2.map λn=>V.int (n:Nat)))) tb kvs
 n1:H0 as=none
 n2:H0 af=none
 n3:H0 aw=none
 x1:as≠af
theorem CI.up{K:Frag}{c H H':Hp}{a:LA}{ss:List Dd}{as f d:Addr}{tb:Tb}(h:CI K c a ss as f d tb H)(s:Same H H'):CI K c a ss as f d tb H':=by
 obtain⟨v,⟨b1,b2⟩,⟨fs,n,r⟩,⟨kvs,g,q⟩,m,u,k,y⟩:=h;exact⟨λb o e=>s _ _ (v _ _ e),⟨s _ _ b1,Paired.mapP b2 λ_ _ z=>z.up s⟩,⟨fs,s _ _ n,Paired.mapP r λ_ _ z=>z.up s⟩,⟨kvs,g.up s,Paired.mapP q λ_ _ z=>let ⟨j,p,x,i,l⟩:=z;⟨j,p,x,i,s _ _ l⟩⟩,m,u,k,y⟩
theorem Et{H:Hp}{d:Addr}{x:Dd}:∀{tb:Tb}{kvs:List (PyData×V)},Paired (λ(x:Dd×List Nat)(a:PyData×V)=>a.1=dat x.1/\∃p,a.2=.ref p/\p≠d/\H p=some (.lst (x.2.map λn=>V.int (n:Nat)))) tb kvs ->
  (x∉tb.map (·.1)/\vT kvs (dat x)=none)\/∃w p,(x,w)∈tb/\vT kvs (dat x)=some (.ref p)/\p≠d/\H p=some (.lst (w.map λn=>V.int (n:Nat))):=by
 intro tb kvs h
 induction h with
 |nil=>exact .inl ⟨by simp,rfl⟩
 | @cons y a tb kvs e _ j =>
  obtain⟨e1,p,i,f,g⟩:=e
  by_cases z:y.1=x
  ·refine .inr ⟨y.2,p,by rw[←z];exact .head _,?_,f,g⟩;rw[jI (by rw[e1,z]),i]
  ·have ne:¬ a.1=dat x:=λq=>z (fU.mp (e1.symm.trans q));rw[jJ ne];rcases j with⟨c,b⟩|⟨w,p,c,b⟩
   ·exact .inl ⟨by rw[zO,xL,not_or];exact⟨λq=>z q.symm,c⟩,b⟩
   ·exact .inr ⟨w,p,.tail _ c,b⟩
theorem Jf{d:Nat}{x:Dd}{w:List Nat}{tb:Tb}{ks:Dd×Nat}(h:(tb.map (·.1)).Nodup):((nxt d x w tb ks).map (·.1)).Nodup:=by
 unfold nxt;split
 ·exact h
 ·next q =>
  rw[yX,qX];refine⟨h,by simp,λy b z a=>?_⟩;simp only[List.map_cons,List.map_nil,List.mem_singleton]at a;rw[a];exactλe=>q (e ▸ b)
theorem Je{d:Nat}{x:Dd}{w:List Nat}:∀(l:List (Dd×Nat))(tb:Tb),(tb.map (·.1)).Nodup->((l.foldl (nxt d x w) tb).map (·.1)).Nodup
 |[],_,h=>h
 |k:: l,tb,h=>Je l _ (Jf h)
theorem Jd{tb:Tb}(h:(tb.map (·.1)).Nodup){i:Nat}{x:Dd}{w w':List Nat}(e:tb[i]?=some (x,w))(m:(x,w')∈tb):w=w':=by
 obtain⟨j,a⟩:=xW m;have e1:(tb.map (·.1))[i]?=some x:=by rw[zH,e];rfl
 have b:(tb.map (·.1))[j]?=some x:=by rw[zH,a];rfl
 have hi:i<(tb.map (·.1)).length:=(zqa e1).1;have:i=j:=(sQ hi h).mp (e1.trans b.symm);subst this;rw[e]at a;cases a;rfl
theorem Ws{d:Nat}{ss:List Dd}{n i:Nat}{tb:Tb}(h:tb.length<=i):mL d ss n i tb=tb:=by
 cases n with
 |zero=>rfl
 |succ n=>unfold mL;rw[zD ⋯]
theorem Wq{d:Nat}{ss:List Dd}{n i:Nat}{tb:Tb}(h:i<tb.length)(a:0<n):mL d ss n i tb=mL d ss (n-1) (i+1) (jB d ss tb i):=by
 obtain⟨m,rfl⟩:∃m,n=m+1:=⟨n-1,⋯⟩;show(if i<tb.length then _ else _)=_;rw[zF h];rfl
theorem Wp{d:Nat}{ss:List Dd}{tb:Tb}{i:Nat}{x:Dd}{w:List Nat}(e:tb[i]?=some (x,w)):jB d ss tb i=ss.zipIdx.foldl (nxt d x w) tb:=by
 unfold jB;rw[e]
def part(d:Nat)(x:Dd)(w:List Nat)(ss:List Dd)(tb:Tb)(i:Nat):Tb:=(ss.zipIdx.take i).foldl (nxt d x w) tb
theorem cZ{d:Nat}{x s:Dd}{w:List Nat}{ss:List Dd}{tb:Tb}{i:Nat}(e:ss[i]?=some s):part d x w ss tb (i+1)=nxt d x w (part d x w ss tb i) (s,i):=by
 unfold part;rw[yY,rO,e,vX];simp
theorem Wo{d:Nat}{x:Dd}{w:List Nat}{ss:List Dd}{tb:Tb}:part d x w ss tb ss.length=ss.zipIdx.foldl (nxt d x w) tb:=by
 unfold part;rw[yJ (by simp)]
theorem Wn{d:Nat}{x:Dd}{w:List Nat}{ss:List Dd}{tb:Tb}(i:Nat):∃r,part d x w ss tb i=tb++r:=cX ..
theorem Jc{d:Nat}{x:Dd}{w:List Nat}{ss:List Dd}{tb:Tb}(i:Nat):(part d x w ss tb i).length<=(ss.zipIdx.foldl (nxt d x w) tb).length:=by
 have e:ss.zipIdx.foldl (nxt d x w) tb=(ss.zipIdx.drop i).foldl (nxt d x w) (part d x w ss tb i):=by
  unfold part;rw[←vX,xU]
 obtain⟨r,a⟩:=cX d x w (ss.zipIdx.drop i) (part d x w ss tb i);rw[e,a,yA];omega
def ND(d:Nat)(ss:List Dd)(tb:Tb):Prop:=(tb.map (·.1)).Nodup/\(∀y∈tb,y.2.length<tb.length)/\∀y∈tb,WdOk d ss y
theorem Wm{d:Nat}{ss:List Dd}{x s:Dd}{w:List Nat}{k:Nat}(h:WdOk d ss (x,w))(e:ss[k]?=some s):WdOk d ss (mJ d x s,w++[k]):=by
 obtain⟨a,b⟩:=h;refine⟨?_,λn c=>?_⟩
 ·show mJ d x s=mX d ss (w++[k]);unfold mX;rw[vX,vA,List.foldl_nil,zqc,e];have a:x=mX d ss w:=a;rw[a];rfl
 ·rcases oW.mp c with h|h
  ·exact b n h
  ·rw[oN.mp h];exact(zqa e).1
theorem Es{d:Nat}{ss:List Dd}{x:Dd}{w:List Nat}{tb:Tb}{ks:Dd×Nat}(h:ND d ss tb)(b:(x,w)∈tb)(e:ss[ks.2]?=some ks.1):ND d ss (nxt d x w tb ks):=by
 refine⟨Jf h.1,?_,?_⟩
 ·have c:=h.2.1 _ b;unfold nxt;split
  ·exact h.2.1
  ·intro y a;rw[yA];rcases oW.mp a with a|a
   ·have:=h.2.1 y a;simp only[List.length_cons,List.length_nil];omega
   ·rw[oN.mp a];simp only[List.length_append,List.length_cons,List.length_nil];have f:w.length<tb.length:=c;omega
 ·unfold nxt;split
  ·exact h.2.2
  ·intro y a;rcases oW.mp a with a|a
   ·exact h.2.2 y a
   ·rw[oN.mp a];exact Wm (h.2.2 _ b) e
theorem Wl{d:Nat}{x:Dd}{w:List Nat}{tb:Tb}{ks:Dd×Nat}{b:Nat->Dd->Prop}(h:∀y∈tb,b y.2.length y.1)(c:b (w.length+1) (mJ d x ks.1)):∀y∈nxt d x w tb ks,b y.2.length y.1:=by
 unfold nxt;split
 ·exact h
 ·intro y a;rcases oW.mp a with a|a
  ·exact h y a
  ·rw[oN.mp a];show b (w++[ks.2]).length (mJ d x ks.1);rw[yA];exact c
theorem ok_t(T:Txt K mg t):FnOk P w K mg base (CX1 P w) 2 t.a_t t.d_t ["most"] (sp_t t.a_1f):=by
 refine T.F_t.okX sc_t (λvs H Q E h=>?_) (λcdv A outer s H vs Q E hr h=>?_)
 ·obtain⟨n,rfl,_⟩:=h;rfl
 ·obtain⟨n,rfl,d,b⟩:=h;refine⟨_,(nM (mF (PW.pt (lU (mB fZ (pq 0) nK (mD _)) (kN (mB iW (pq 0) (Ry (v:=(.int 200)) rfl T.g_MOST_MEMBERS) (mD _)))))
   (nM (iZ rfl iX rfl T.m_1f T.x_1f yR (nH iJ nI)))
   mE)),?_⟩
  show tIfS _ _ _ _ [some (.int n)] H;ext
  by_cases a:n<1
  ·rw[zM a];exact iteT ⟨by show 1<=sizeLine;decide,b (λz=>⋯) H (Same.refl _)⟩
  ·rw[zJ a];refine iteF ?_
   by_cases c:200<n
   ·rw[zM c];exact iteT ⟨by show 1<=sizeLine;decide,b (λz=>⋯) H (Same.refl _)⟩
   ·rw[zJ c];exact iteF (d ⟨⋯,⋯⟩)
theorem kB{a b:Type}{F:a->b->Prop}{xs:List a}{ys:List b}(h:Paired F xs ys):∀{i:Nat}{x:a},xs[i]?=some x->∃y,ys[i]?=some y/\F x y:=by
 induction h with
 |nil=>intro i x e;simp at e
 |cons c _ d =>
  intro i x e;cases i with
  |zero=>cases e;exact⟨_,rfl,c⟩
  |succ i=>exact d (by simpa using e)
theorem ok_r(T:Txt K mg t):FnOk P w K mg base (CX1 P w) 2 t.a_r t.d_r ["d","makers"] (sp_r K t.a_1d):=by
 refine T.F_r.okX sc_r (λvs H Q E h=>?_) (λcdv A outer s H vs Q E hr h=>?_)
 ·obtain⟨b,d,a,ps,ms,rfl,_⟩:=h;rfl
 ·obtain⟨b,d,a,ps,ms,rfl,p,r,F,u⟩:=h;refine⟨_,(nJ (mF (mB Bk (pq 0) (kQ (nH nK (nH nK nI))) rfl)
   (nM (iZ rfl iX rfl T.m_1d T.x_1d yR (nH iJ nI)))
   mE)
   (nM (lJ qU rfl (mT (pq 1)) (mP (i:=2) sc_r.nd rfl (Or.inl rfl))
   (nM (mF (mB jU (lC T.z_len (nY (pq 2))) (pq 0) (mD _))
   (nM (iZ rfl iX rfl T.m_1d T.x_1d yR (nH iJ nI)))
   mE))))),?_⟩
  show tSeq _ _ _ [some (.int d),some (.ref a),none] H;right;refine⟨by show 2<=sizeLine;decide,λo C=>?_⟩;have k:Same H (upd H o (.tup [.int 2,.int 3])):=Same.new C;refine⟨o,_,rfl,.inr (SqT.of nN),rfl,rfl,_,rfl,?_⟩;generalize upd H o (.tup [.int 2,.int 3])=G at k;rw[inV2]
  by_cases n:d=2\/d=3
  case neg =>
   rw[zJ n];exact iteT ⟨by show 1<=sizeLine;decide,u (λz=>n z.1) G k⟩
  rw[zM n];refine iteF ?_;subst e1;refine lN λB eB=>?_;simp only[iSeq];ext;refine⟨b,⟨_,p.up k⟩,?_⟩;refine jP (g:=nX 2) (tb:=B) (nx:=λ_ H'=>Q .non H') (rt:=Q) (λi l e=>∃v,l=[some (.int d),some (.ref a),v]/\Same H e/\∀s∈ms.take i,(s.1.length:Int)=d) ⟨_,rfl,k,λs c=>by simp at c⟩ (λi l e _⟨_,_,f,_⟩=>p.up f) ?_ ?_
  ·rintro i x l e j ⟨v,rfl,f,hl⟩;rw[zH]at j;cases hp':ps[i]? with
   |none=>rw[hp']at j;cases j
   | some q =>
    rw[hp']at j;cases j;obtain⟨m,y,g⟩:=kB r hp';subst eB;show tIfS _ _ _ _ [some (.int d),some (.ref a),some (.ref q)] e;ext;refine fA (DdS.up g f) λx D=>fM D ?_
    try ext
    by_cases g:(m.1.length:Int)=d
    ·rw[zM g];refine iteF ⟨f,λs c=>?_⟩;rw[yY,y]at c;rcases oW.mp c with c|c
     ·exact hl s c
     ·have:s=m:=by simpa using c
      rw[this];exact g
    ·rw[zJ g];exact iteT ⟨by show 1<=sizeLine;decide,u (λz=>g (z.2 m (zqb y))) e f⟩
  ·rintro l e ⟨v,rfl,f,hl⟩;rw[zqe,mU r,rG]at hl;exact F ⟨n,hl⟩ e f
theorem ok_17(T:Txt K mg t):∀n:Nat,FnOk P w K mg base CX0 (n+2) t.a_17 t.d_17 ["thing"] (sp_17 n):=by
 intro n
 induction n with
 |zero =>
  apply T.F_17.ok sc_17
  ·obtain⟨x,rfl,⟨i,rfl⟩,m⟩:=h;refine⟨_,(nJ (mF (lP (mS (Ia T.h_r T.h_s) (by rfl) T.z_isinstance (nofun) (nH (pq 0) (nH (kQ (nH (jD (v:=.ty "list") rfl T.z_list (nofun) rfl) (nH (jD (v:=.ty "tuple") rfl T.z_tuple (nofun) rfl) nI))) nI)))) Nv mE) (nM (nV (pq 0)))),?_⟩;show tSeq _ _ _ [some (.int i)] H;ext;refine⟨by show 2<=sizeLine;decide,λp g=>⟨_,p,false,rfl,nN,.inl ⟨i,rfl,rfl⟩,false,rfl,?_⟩⟩;refine iteF ?_;exact m _ _ (Same.new g) rfl
 | succ n I =>
  have D:=I;apply T.F_17.ok sc_17
  ·obtain⟨x,rfl,⟨a,xs,rfl,d,hl,M⟩,m⟩:=h;refine⟨_,(nJ (mF (lP (mS (Ia T.h_r T.h_s) (by rfl) T.z_isinstance (nofun) (nH (pq 0) (nH (kQ (nH (jD (v:=.ty "list") rfl T.z_list (nofun) rfl) (nH (jD (v:=.ty "tuple") rfl T.z_tuple (nofun) rfl) nI))) nI))))
   (nM (nV (lE (sc:=nP s_17) (N:=N_17) (fr:=[]) (te:=(kJ (sp_17 n) [] E0 (mH (tVar 0) tNil))) rfl rfl (nofun) rfl (nofun) (mT (pq 0)) (λ_ _ _ V=>(nS D hr.mo T.F_17 (nH (pv 0) nI))))))
   mE)
   (nM (nV (pq 0)))),?_⟩
   show tSeq _ _ _ [some (.ref a)] H;ext;refine⟨by show 2<=sizeLine;decide,λp g=>⟨_,p,true,rfl,nN,.inr ⟨a,xs,rfl,Same.new g _ _ d,rfl⟩,true,rfl,?_⟩⟩;refine iteT ?_;have b:Same H (upd H p (.tup [.ty "list",.ty "tuple"])):=Same.new g;generalize upd H p (.tup [.ty "list",.ty "tuple"])=O at b;exfalso;refine⟨false,⟨_,SqB.lst (b _ _ d)⟩,λl o=>?_⟩;refine kX (λi y k=>∃x,xs[i]?=some x/\CpR n x H y (offH l k)) o (SqB.lst (b _ _ d)) hl (λ_ _ _ _⟨x,e,h⟩r=>⟨x,e,h.up (Ev r)⟩) ?_ ?_
   ·intro i x k zs c f J C G;subst eB;show kJ _ _ _ _ [some x] k C;ext;exact⟨x,rfl,(M x (zqb c)).up (b.trans f),λy U q cp=>G _ _ q ⟨x,c,(cp.off J).dn (b.trans f)⟩⟩
   ·intro k ys f N F L;refine m _ _ (b.trans f) λS R e h=>?_;cases e;rw[d]at h;cases h;refine⟨l,ys,rfl,Aj b o,N,F,λj u v e1 z=>?_⟩;obtain⟨x,c,cp⟩:=L j v z;rw[e1]at c;cases c;exact cp.up Ew
theorem ok_3(T:Txt K mg t):FnOk P w K mg base CX0 6 t.a_3 t.d_3 pv' (Wu t.a_d):=by
 have C:=ok_17 (P:=P) (w:=w) (base:=base) T 2;apply T.F_3.ok sc_3
 ·obtain⟨e,a,O,rfl,f,m,l1,l2,I⟩:=h;have L:=m.cp l1 l2;obtain⟨N,r,x⟩:=m;have n:=2;refine⟨_,(nJ (gM (Uj rfl T.m_1a T.h_9 (nH (pq 0) (nH iJ nI))))
   (nM (Ug T.h_a (nS C hr.mo T.F_17 (nH (pq 1) nI)) (pq 0)))),?_⟩
  show tSeq _ _ _ [some (.ref e),some (.ref a)] H;unfold Ie Ic;ext;refine⟨none,f,by show 1<=sizeLine;decide,.ref a,rfl,L,λy M c F=>?_⟩;obtain⟨l,ys,rfl,R,hl,u,cp⟩:=F a _ rfl r;obtain⟨vs,rfl,v⟩:=Ji x (by simpa using u) cp;refine⟨c _ _ f,λi d ne=>?_⟩;have le:l≠e:=λz=>by rw[z,c _ _ f]at hl;cases hl
  have J:l≠i:=λz=>by rw[z,d]at hl;cases hl
  refine I i _ (λb o D z=>?_) nN ⟨l,?_,vs,?_,Paired.mapP v λp w⟨k,g⟩=>?_⟩
  ·rw[nO D,nO (λq=>by rw[q]at z;rw[c _ _ z]at d;cases d)];exact c _ _ z
  ·rw[iI ne,nO ne,nN]
  ·rw[iI le,nO le,nO J];exact hl
  ·have j:p≠e:=λz=>by rw[z,f]at k;cases k
   have G:p≠i:=λz=>by rw[z,d]at g;cases g
   rw[iI j,nO j,nO G];exact g
theorem Wk{d:Nat}{x:Dd}{w:List Nat}{tb:Tb}{ks:Dd×Nat}:(nxt d x w tb ks).length<=tb.length+1:=by
 unfold nxt;split
 ·omega
 ·rw[yA];exact zE _
theorem Er{K:Frag}{a:Addr}{H:Hp}{xs:List V}(e:H a=some (.lst xs)):TK K H (offH a H):=TK.off e (λ_ z=>by cases z) (λ_ _ z=>by cases z) λc b=>by unfold offH;rw[zD b]
def DdR(K:Frag)(a:Addr)(ms:List Dd)(j:Nat)(y:V)(H:Hp):Prop:=∃q m,y=.ref q/\ms[j]?=some m/\DdAt K (offH a H) q m
theorem DdR.mono{K:Frag}{a:Addr}{ms:List Dd}(i:Nat)(y:V)(b c:Hp)(h:DdR K a ms i y b)(s:jO a b c):DdR K a ms i y c:=let ⟨q,m,e,f,d⟩:=h;⟨q,m,e,f,d.up (Ev s)⟩
theorem Jb{a:Type}{F:Addr->a->Prop}{D:List a}{ys:List V}(hl:ys.length=D.length)(h:∀(j:Nat) y,ys[j]?=some y->∃p e,y=V.ref p/\D[j]?=some e/\F p e):∃ps:LA,ys=ps.map V.ref/\Paired F ps D:=by
 induction D generalizing ys with
 |nil =>
  obtain rfl:=vG hl;exact⟨[],rfl,.nil⟩
 |cons m ms k =>
  obtain⟨y,ys,rfl⟩:=List.exists_cons_of_length_eq_add_one hl;obtain⟨q,l,rfl,f,d⟩:=h 0 y rfl;cases f;obtain⟨b,rfl,g⟩:=k (pI hl) λj c i=>h (j+1) c i;exact⟨q:: b,rfl,.cons d g⟩
theorem Ja{K:Frag}{a:Addr}{H:Hp}{ms:List Dd}{ys:List V}(hl:ys.length=ms.length)(h:∀j y,ys[j]?=some y->DdR K a ms j y H):∃c:LA,ys=c.map V.ref/\Paired (DdAt K H) c ms:=Jb hl λj y e=>by
 obtain⟨q,m,a,b,d⟩:=h j y e;exact⟨q,m,a,b,d.up Ew⟩
theorem jC{H:Hp}{p:Addr}{x:V}{xs:List V}{i:Nat}{I:Int}{Q:VK}(e:H p=some (.lst xs))(a:xs[i]?=some x)(hi:I=i)(q:Q x H):rIxB K (.ref p) (.int I) H Q:=⟨false,p,_,_,_,rfl,rfl,SqB.lst e,jH a hi,q⟩
theorem tyL{H:Hp}{p:Addr}{xs:List V}(e:H p=some (.lst xs)):tyV K "list" (.ref p) H:=.inl ⟨rfl,xs,.inl (.inl e)⟩
theorem Ep{c e d:Type}{F:c->d->Prop}{f:e->d}:∀{xs:List c}{ys:List e},Paired (λa b=>F a (f b)) xs ys->Paired F xs (ys.map f)
 |_,_,.nil=>.nil
 |_,_,.cons h hh=>.cons h (Ep hh)
theorem iB.up{H H':Hp}{l:Addr}{a:List (List Nat)}(h:iB H l a)(s:Same H H'):iB H' l a:=let ⟨c,b,d⟩:=h;⟨c,s _ _ b,Paired.mapP d λ_ _ z=>s _ _ z⟩
def CPv(K:Frag)(H0:Hp)(G:Nat->Dd->Prop)(qs:LA)(ss:List Dd)(a as af aw:Addr)(d i most:Nat)(f:Nat->Tb)(k:Nat)(σ:St)(H:Hp):Prop:=
 ∃v7 v8 v9,σ=[some (.int d),some (.ref a),some (.int most),some (.ref as),some (.ref af),some (.ref aw),some (.int i),v7,v8,v9]/\CI K H0 qs ss as af aw (f k) H/\ND d ss (f k)/\(∀y∈f k,G y.2.length y.1)/\(f k).length<=most
theorem ok_12(T:Txt K mg t):FnOk P w K mg base (CX1 P w) 10 t.a_12 t.d_12 pt' (sp_12 K t.a_d):=by
 have n1:=@ok_1i P w K mg base t T;have o7:=@ok_1e P w K mg base t T;have t9:=@ok_19 P w K mg base t T;have p6:=@ok_3 P w K mg base t T;refine T.F_12.okX sc_12 (λvs H Q E h=>?_) (λcdv A outer s H vs Q E hr h=>?_)
 ·obtain⟨b,d,a,ps,ms,most,R,rfl,_⟩:=h;rfl
 ·have c8:=hr.units;obtain⟨b,d,a,ps,ms,most,R,rfl,q6,j8,j0,w3,⟨n9,p0,l3,s8,p8⟩,s7,v8,s1,r6⟩:=h;refine⟨_,(nJ (Ro (i:=3) (sc:=nP s_12) (N:=N_12) (fr:=[]) (te:=(kJ (sp_1i K) [] E0 (mH (tVar 0) tNil))) rfl rfl (nofun) rfl sc_12.nd rfl rfl (nofun) (mT (pq 1)) (λ_ _ _ o5=>(nS n1 hr.mo T.F_1i (nH (pv 0) nI))))
   (nJ (nU (i:=4) sc_12.nd rfl (Or.inl rfl) (mQ (nH (nS o7 hr.mo T.F_1e (nH (pq 0) nI)) nI)))
   (nJ (nU (i:=5) sc_12.nd rfl (Or.inr rfl) (Hh c8 (nY (pq 4)) (mQ nI)))
   (nJ (nU (i:=6) sc_12.nd rfl (Or.inl rfl) nK)
   (nJ (Bu qU (mB fZ (pq 6) (lC T.z_len (pq 4)) (mD _))
   (nJ (lJ qU rfl (bY rfl T.z_enumerate (nH (pq 3) nI)) (gO rfl (kP (mP (i:=7) sc_12.nd rfl (Or.inl rfl)) (kP (mP (i:=8) sc_12.nd rfl (Or.inl rfl)) gN)))
   (nJ (nU (i:=9) sc_12.nd rfl (Or.inl rfl) (nS n1 hr.mo T.F_1i (nH (nS t9 hr.mo T.F_19 (nH (mG ix_B (pq 4) (pq 6) (λ_ _=>rfl)) (nH (pq 8) nI))) nI)))
   (nJ (mF (mB (aI c8) (pq 9) (pq 5) rfl)
   (nJ (jS (nR eN (mG (ix_T c8) (pq 5) (mG ix_B (pq 4) (pq 6) (λ_ _=>rfl)) (λ_ _=>rfl)) (mQ (nH (pq 7) nI))) (iE (pq 5) (pq 9) (cM c8)))
   (nM (gM (eJ wL vE vB eK (pq 4) (nH (pq 9) nI)))))
   mE)
   (nM (mF (mB iW (lC T.z_len (pq 4)) (pq 2) (mD _))
   (nM (Um rfl Ur rfl T.m_d T.h_9.cl yR p6 hr.mo T.b_3 fJ (nH (lE (sc:=nP s_12) (N:=N_12) (fr:=[("words",5)]) (te:=(tOp (aH K) (tVar 1) (tVar 0))) rfl rfl (nofun) rfl (nofun) (mT (pq 4)) (λ_ _ _ o5=>(mG (ix_T c8) (pv 1) (pv 0) (λ_ _=>rfl)))) nI)))
   mE)))))
   (nM (Fr (i:=6) sc_12.nd rfl (Or.inl rfl) nK Fq))))
   (nM (nV (pq 5)))))))),?_⟩
  show tSeq _ _ _ [some (.int d),some (.ref a),some (.int most),none,none,none,none,none,none,none] H;have w1:ps.length=ms.length:=mU j0;right;exfalso;refine⟨b,⟨_,j8⟩,λas l7=>?_⟩;refine kX (DdR K as (ms.map nQ)) l7 j8 (by rw[zqe];omega) DdR.mono ?_ ?_
  ·intro i x m3 zs e2 d5 i7 h9 h1;obtain⟨q,p1,rfl⟩:=jL e2;obtain⟨m,i3,n7⟩:=kB j0 p1;have h2:=n9 m (zqb i3);subst eB;show kJ _ _ _ _ [some (.ref q)] m3 h9;ext;refine⟨q,m.1,m.2.1,m.2.2,rfl,DdS.up n7 d5,by rw[h2.sq.1];omega,by rw[h2.len];omega,h2.pos,λr M v c3=>?_⟩;refine h1 _ _ v ⟨r,nQ m,rfl,by rw[zH,i3];rfl,?_⟩;exact DdAt.tk (show DdAt K M r (nQ m) from c3) (Er (v _ _ i7))
  ·intro m3 ys d5 e3 n3 f5;obtain⟨S,rfl,m8⟩:=Ja (by rw[n3,zqe,zqe];omega) f5;left;refine⟨d,rfl,q6,λa6 M v m4=>⟨by show 1<=sizeLine;decide,λf b0=>?_⟩⟩;have c7:Same M (upd M f (.lst [.ref a6])):=Same.new b0;have b6:(upd M f (.lst [.ref a6])) f=some (.lst [.ref a6]):=nN;generalize upd M f (.lst [.ref a6])=b8 at*
   have c2:DdAt K b8 a6 (mO d):=DdAt.up m4 c7;have f1:=c7 _ _ (v _ _ e3);have i5:=Paired.mapP m8 λ_ _ z=>z.up (v.trans c7);have h5:=(d5.trans v).trans c7;have r5:H f=none:=by
    cases z:H f with
    |none=>rfl
    |some o=>rw[v _ _ (d5 _ _ z)]at b0;cases b0
   have s6:as≠f:=λz=>by rw[z]at e3;rw[v _ _ e3]at b0;cases b0
   subst e1;refine st λN1 e1=>?_;simp only[Cp];ext;intro g Y;have U:Same b8 (upd b8 g (lD g [])):=Same.new Y;have c0:(upd b8 g (lD g [])) g=some (lD g []):=nN;have j1:H g=none:=by
    cases z:H g with
    |none=>rfl
    |some o=>rw[h5 _ _ z]at Y;cases Y
   generalize upd b8 g (lD g [])=e7 at*;ext;refine jC (i:=0) (U _ _ b6) rfl rfl ?_;refine⟨zY _,λa4 b5=>?_⟩;have N:Same e7 (upd e7 a4 (.lst [])):=Same.new b5;have ep:(upd e7 a4 (.lst [])) a4=some (.lst []):=nN;have k6:a4≠f:=λz=>by rw[z,U _ _ b6]at b5;cases b5
   have e4:a4≠g:=λz=>by rw[z,c0]at b5;cases b5
   generalize upd e7 a4 (.lst [])=u0 at*;refine⟨a6,rfl,dat (mO d),kH _,(DdAt.up c2 (U.trans N)).dt,N _ _ c0,λj9 b3 i4=>?_⟩;have k8:∀b o,H b=some o->b≠g:=λb o e z=>by rw[z,j1]at e;cases e
   have f7:TK K u0 j9:=TK.off (N _ _ c0) (λ_ z=>by cases z) (λ_ _ z=>by cases z) b3;have e5:as≠g:=λz=>by rw[z]at f1;rw[f1]at Y;cases Y
   have c9:f≠g:=λz=>by rw[z]at b6;rw[b6]at Y;cases Y
   have W:CI K H S (ms.map nQ) as f g [(mO d,[])] j9:=⟨λb o e=>by rw[b3 b (k8 b o e)];exact N _ _ (U _ _ (h5 _ _ e)),⟨by rw[b3 _ e5];exact N _ _ (U _ _ f1),Paired.mapP i5 λ_ _ z=>DdAt.tk (z.up (U.trans N)) f7⟩,
    ⟨[a6],by rw[b3 _ c9];exact N _ _ (U _ _ b6),.cons (DdAt.tk (DdAt.up c2 (U.trans N)) f7) .nil⟩,⟨_,i4,.cons ⟨rfl,a4,rfl,k6,by rw[b3 _ e4];exact ep⟩ .nil⟩,l7,r5,j1,s6⟩
   clear i4 f7 ep k6 e4 b5 N c0 U Y i5 f1 c2 b6 c7 b0 m4 v m8 f5 n3 e3 d5 h5 c9 e5 k8 b3;left;subst e1;refine st λN1 e1=>Pc λB eB=>?_;refine⟨λm c6 H'=>∃(i:Nat)(tb:Tb)(D F C:Option V),c6=[some (.int d),some (.ref a),some (.int most),some (.ref as),some (.ref f),some (.ref g),some (.int i),D,F,C]/\CI K H S (ms.map nQ) as f g tb H'/\mL d (ms.map nQ) (201-i) i tb=mL d (ms.map nQ) 201 0 [(mO d,[])]/\ND d (ms.map nQ) tb/\(∀y∈tb,R y.2.length y.1)/\tb.length<=most/\m=201-i,
    ⟨201,0,_,none,none,none,rfl,W,rfl,⟨by simp,λy X=>by rw[List.mem_singleton.mp X];exact Nat.zero_lt_one,λy X=>by rw[oN.mp X];exact⟨rfl,λ_ h=>(by cases h)⟩⟩,λy X=>by rw[oN.mp X];exact s8,s7,rfl⟩,?_⟩
   clear W;rintro m c6 t0 ⟨i,tb,D,F,C,rfl,W,L,nd,l6,m9,rfl⟩;ext;obtain⟨fs,t6,t1⟩:=W.fo;have fl:fs.length=tb.length:=mU t1;refine⟨false,f,_,rfl,SqB.lst t6,?_⟩
   try ext
   rw[zqe,fl]
   by_cases hi:i<tb.length
   case neg =>
    rw[zJ ⋯];refine iteF ?_;symm;rw[Ws ⋯]at L;obtain⟨kvs,d0,b4⟩:=W.wo;refine s1 (by rw[←L];exact m9) ⟨by rw[←L];exact nd.1,λy X=>by rw[←L]at X;exact⟨l6 y X,by have:=nd.2.1 y X;omega⟩⟩ g kvs t0 W.s W.n3 d0 ?_;rw[←L];exact Paired.mapP b4 λ_ _ z=>let ⟨a7,p,a0,_,f0⟩:=z;⟨a7,p,a0,f0⟩
   rw[zM (show(i:Int)<tb.length by omega)];obtain⟨⟨x,u⟩,e2⟩:∃e4,tb[i]?=some e4:=⟨_,zqd hi⟩;have s5:0<201-i:=⋯
   rw[Wq hi s5,Wp e2]at L;have v5:((ms.map nQ).zipIdx.foldl (nxt d x u) tb).length<=(mL d (ms.map nQ) 201 0 [(mO d,[])]).length:=by
    obtain⟨r,u6⟩:=Ex d (ms.map nQ) (201-i-1) (i+1) ((ms.map nQ).zipIdx.foldl (nxt d x u) tb);rw[←L,u6,yA];omega
   refine iteT ⟨λl1 H'=>∃(a8:Tb)(D F C:Option V),l1=[some (.int d),some (.ref a),some (.int most),some (.ref as),some (.ref f),some (.ref g),some (.int (i+1:Nat)),D,F,C]/\CI K H S (ms.map nQ) as f g a8 H'/\mL d (ms.map nQ) (201-(i+1)) (i+1) a8=mL d (ms.map nQ) 201 0 [(mO d,[])]/\ND d (ms.map nQ) a8/\(∀y∈a8,R y.2.length y.1)/\a8.length<=most,?_,?_⟩
   ·rintro l1 H' ⟨a8,D,F,C,rfl,k1,k2,k3,g2,k5⟩;exact⟨201-(i+1),⋯,i+1,a8,D,F,C,rfl,k1,k2,k3,g2,k5,rfl⟩
   subst eB;refine st λu9 c1=>lN λB eB=>?_;simp only[cK];ext;refine⟨false,⟨_,SqB.lst W.st.1⟩,?_⟩;refine Ho (g:=gTup K 2 (kC (nX 7) (kC (nX 8) gNil))) (tb:=B) (CPv K H R S (ms.map nQ) a as f g d i most (part d x u (ms.map nQ) tb))
    ⟨_,_,_,rfl,W,nd,l6,m9⟩ (λk c6 H' _⟨_,_,_,_,c,_⟩=>SqB.lst c.st.1) ?_ ?_
   ·rintro k y p c6 m7 q1 ⟨D,F,C,rfl,a2,Z,d3,f9⟩ n4;obtain⟨q,i6,rfl⟩:=jL q1;obtain⟨l,O,_⟩:=kB a2.st.2 i6;have q2:=Same.new (o:=.tup [.int (k:Int),.ref q]) n4;refine⟨p,[.int k,.ref q],rfl,SqT.of nN,rfl,_,[.ref q],rfl,_,[],rfl,rfl,?_⟩;have h3:=a2.up q2;generalize upd m7 p (.tup [.int (k:Int),.ref q])=q3 at*
    clear a2;obtain⟨w7,p7⟩:=Wn (d:=d) (x:=x) (w:=u) (ss:=ms.map nQ) (tb:=tb) k;have J:(part d x u (ms.map nQ) tb k)[i]?=some (x,u):=by rw[p7,yB hi];exact e2
    have v4:=Jc (d:=d) (x:=x) (w:=u) (ss:=ms.map nQ) (tb:=tb) k;have p9:=Jc (d:=d) (x:=x) (w:=u) (ss:=ms.map nQ) (tb:=tb) (k+1);have n5:∀D F C H',CI K H S (ms.map nQ) as f g (nxt d x u (part d x u (ms.map nQ) tb k) (l,k)) H'->R (u.length+1) (mJ d x l)->(nxt d x u (part d x u (ms.map nQ) tb k) (l,k)).length<=most->CPv K H R S (ms.map nQ) a as f g d i most (part d x u (ms.map nQ) tb) (k+1) [some (.int d),some (.ref a),some (.int most),some (.ref as),some (.ref f),some (.ref g),some (.int i),D,F,C] H':=λD F C H' c gs s4=>⟨D,F,C,rfl,by rw[cZ O];exact c,by rw[cZ O];exact Es Z (zqb J) O,by rw[cZ O];exact Wl d3 gs,by rw[cZ O];exact s4⟩;rw[cZ O]at p9;generalize CPv K H R S (ms.map nQ) a as f g d i most (part d x u (ms.map nQ) tb) (k+1)=v7 at*
    generalize part d x u (ms.map nQ) tb k=tk at*;obtain⟨m5,m0,l4⟩:∃m∈ms,nQ m=l:=by
     have:=zqb O;obtain⟨m,r3,p5⟩:=oZ.mp this;exact⟨m,r3,p5⟩
    have i2:R u.length x:=d3 _ (zqb J);have w8:u.length<tk.length:=Z.2.1 _ (zqb J);have gs:R (u.length+1) (mJ d x l):=by rw[←l4];exact p8 _ x m5 ⋯ i2 m0
    have t3:=l3 _ x ⋯ i2;have fs':kI d l:=by rw[←l4];exact p0 m5 m0
    have g4:=l3 _ _ ⋯ gs;subst eB;show tSeq _ _ _ [some (.int d),some (.ref a),some (.int most),some (.ref as),some (.ref f),some (.ref g),some (.int i),some (.int k),some (.ref q),C] q3;refine st λw2 g5=>?_;ext;obtain⟨u5,u4,l2⟩:=h3.fo;obtain⟨g8,l0⟩:∃g8,u5[i]?=some g8:=⟨_,zqd (by rw[mU l2];exact(zqa J).1)⟩;obtain⟨w4,k4,q4⟩:=kB l2 l0;rw[J]at k4;cases k4;obtain⟨w5,m2,t2⟩:=kB h3.st.2 i6;rw[O]at m2;cases m2;refine jC (i:=i) u4 (by rw[zH,l0];rfl) rfl ?_;refine⟨g8,q,x.1,l.1,x.2.1,l.2.1,x.2.2,l.2.2,d,rfl,kM.s q4,kM.s t2,t3,fs',⋯,⋯,λr1 u7 q8 f5=>?_⟩;have o6:DdAt K u7 r1 (behD d x l):=f5;refine⟨r1,_,_,_,rfl,kM.s o6,?_,?_,g4.pos,λr2 a3 u8 c3=>?_⟩
    ·have:=g4.sq.1;show(mulM d l.1 x.1).length<=100;have:(mulM d l.1 x.1).length=d:=this;omega
    ·have:=g4.len;have e:(lR (behD d x l).2.2 (behD d x l).2.1).length=(behD d x l).2.1.length:=by unfold lR;simp
     have:(lR (behD d x l).2.2 (behD d x l).2.1).length=d:=this;omega
    have l9:DdAt K a3 r2 (mJ d x l):=c3;have e8:=h3.up (q8.trans u8);subst g5;show tSeq _ _ _ [some (.int d),some (.ref a),some (.int most),some (.ref as),some (.ref f),some (.ref g),some (.int i),some (.int k),some (.ref q),some (.ref r2)] a3;refine st λo8 g0=>?_;have m6:∀H',CI K H S (ms.map nQ) as f g (nxt d x u tk (l,k)) H'->o8 [some (.int d),some (.ref a),some (.int most),some (.ref as),some (.ref f),some (.ref g),some (.int i),some (.int k),some (.ref q),some (.ref r2)] H':=by
     intro H' d9;subst g0;ext;obtain⟨w6,g9,f4⟩:=d9.fo;refine⟨false,f,_,rfl,SqB.lst g9,?_⟩
     try ext
     rw[zqe,mU f4]
     by_cases r9:(nxt d x u tk (l,k)).length<=most
     ·rw[zJ ⋯];refine iteF ?_;exact n5 _ _ _ H' d9 gs r9
     ·rw[zM ⋯];refine iteT ?_;have o2:=r6 ⋯;obtain⟨w9,q9,q0⟩:=d9.wo;exfalso;refine⟨false,⟨_,SqB.lst g9⟩,λg6 g1=>?_⟩;have c4:=Es (ks:=(l,k)) Z (zqb J) O;have v6:=Wk (d:=d) (x:=x) (w:=u) (tb:=tk) (ks:=(l,k));generalize nxt d x u tk (l,k)=d6 at*
      refine kX (WdR g6 d6) g1 (SqB.lst g9) (by rw[zqe,mU f4];omega) (λ_ _ _ _⟨p,m,e1,c1,g5,g0⟩n8=>⟨p,m,e1,c1,g5,n8 _ _ c1 g0⟩) ?_ ?_
      ·intro j d4 M zs t5 v i7 h9 h1;obtain⟨q7,o0,rfl⟩:=jL t5;obtain⟨d7,f8,c2⟩:=kB f4 o0;subst eB;show tOp _ _ _ [some (.ref q7),some (.ref g)] M h9;ext;rcases Et (x:=d7.1) q0 with⟨a9,_⟩|⟨n0,e9,a9,h7,t7,d1⟩
       ·exact absurd (oZ.mpr ⟨_,zqb f8,rfl⟩) a9
       refine fV (q9.up v) (kH _) (DdAt.dt (c2.up v)) h7 ?_;have c0:=Jd c4.1 (x:=d7.1) (w:=d7.2) f8 a9;refine h1 _ _ (Same.refl _) ⟨e9,d7,rfl,(λz=>by rw[z]at d1;rw[d1]at g1;cases g1),f8,by rw[c0];exact v _ _ d1⟩
      ·intro M ys v c1 o3 c3;have p4:d6.length=most+1:=⋯
       obtain⟨t8,rfl,u2⟩:=Eu (by rw[o3,zqe,mU f4]) c3;have s2:iB M g6 (d6.map (·.2)):=⟨t8,c1,Ep u2⟩;refine⟨by show 1<=sizeLine;decide,λe j3=>?_⟩;have o9:=Same.new (o:=XObj e t.a_d none) j3;refine⟨e,g6,_,rfl,nN,s2.up o9,by rw[zqe];omega,λw' s0=>?_,λp2 b8 k3 g2 k5=>⟨rfl,_,g2,?_⟩⟩
       ·obtain⟨d4,e6,rfl⟩:=oZ.mp s0;have:=c4.2.1 d4 e6;omega
       ·refine o2 p2 _ (λb o r0=>?_) ⟨d6,k5,p4,c4.1,λd4 e6=>⟨c4.2.2 d4 e6,by have:=c4.2.1 d4 e6;omega⟩⟩;have h8:=v _ _ (d9.s b o r0);have g3:b≠e:=λz=>by rw[z,j3]at h8;cases h8
        rw[iI g3];exact k3 b o g3 (by rw[nO g3];exact h8)
    ext;obtain⟨kvs,d0,b4⟩:=e8.wo;refine cY d0 (kH _) l9.dt ?_;rcases Et (x:=mJ d x l) b4 with⟨a7,a0⟩|⟨n0,e9,a7,a0,j5,f0⟩
    case inr =>
     rw[a0]
     try ext
     refine m6 a3 ?_;have h0:nxt d x u tk (l,k)=tk:=zF (oZ.mpr ⟨_,a7,rfl⟩);rw[h0];exact e8
    rw[a0]
    try ext
    rw[zF (by rfl)];obtain⟨a5,f6,f3⟩:=e8.fo;obtain⟨j4,j6⟩:∃j4,a5[i]?=some j4:=⟨_,zqd (by rw[mU f3];exact(zqa J).1)⟩;obtain⟨v9,m1,t4⟩:=kB f3 j6;rw[J]at m1;cases m1;refine jC (i:=i) f6 (by rw[zH,j6];rfl) rfl ?_;rcases Et (x:=x) b4 with⟨a9,_⟩|⟨n0,e9,a9,h7,t7,d1⟩
    ·exact absurd (oZ.mpr ⟨_,zqb J,rfl⟩) a9
    have s3:=Jd Z.1 J a9;subst s3;have w0:u.length<tk.length:=Z.2.1 _ (zqb J);have v1:tk.length=kvs.length:=mU b4;have hsz:1000<=sizeLine:=∅
    refine fV d0 (kH _) (DdAt.dt t4) h7 ?_;refine⟨by show 1<=sizeLine;decide,λc5 o4=>?_⟩;have e0:Same a3 (upd a3 c5 (.lst [.int k])):=Same.new o4;have r4:(upd a3 c5 (.lst [.int k])) c5=some (.lst [.int k]):=nN;generalize upd a3 c5 (.lst [.int k])=d8 at*
    refine⟨e9,c5,_,_,rfl,rfl,e0 _ _ d1,r4,by rw[zqe];show u.length+1<=sizeLine;omega,λG i1=>?_⟩;have i9:Same d8 (upd d8 G (.lst ((u.map λn=>V.int (n:Nat))++[.int k]))):=Same.new i1;have i8:(upd d8 G (.lst ((u.map λn=>V.int (n:Nat))++[.int k]))) G=some (.lst ((u.map λn=>V.int (n:Nat))++[.int k])):=nN;have I:=e8.up (e0.trans i9);have l8:G≠f:=λz=>by rw[z,e0 _ _ f6]at i1;cases i1
    generalize upd d8 G (.lst ((u.map λn=>V.int (n:Nat))++[.int k]))=h4 at*;have d2:=e0.trans i9;have j2:=d0.up d2;have q5:=Paired.mapP b4 λ_ _ z=>(let ⟨a7,p,a0,j5,f0⟩:=z;⟨a7,p,a0,j5,d2 _ _ f0⟩:_/\∃p,_/\p≠f/\h4 p=_);have n2:=DdAt.up l9 d2;have i0:=d2 _ _ f6;have o1:=Paired.mapP f3 λ_ _ z=>DdAt.up z d2;simp only[gSub];ext;have h0:nxt d x u tk (l,k)=tk++[(mJ d x l,u++[k])]:=zD a7;have n6:pT kvs (dat (mJ d x l)) (.ref G)=kvs++[(dat (mJ d x l),.ref G)]:=by
     unfold pT;rw[a0];rfl
    obtain⟨v0,f2,_,_⟩:=j2.ex;have c9:f≠g:=λz=>by rw[z,f2]at i0;cases i0
    have e5:as≠g:=λz=>by have:=I.st.1;rw[z,f2]at this;cases this
    refine⟨g,kvs,r2,dat (mJ d x l),rfl,rfl,j2,kH _,n2.dt,⋯,λa1 _ b9 k0=>?_⟩;rw[n6]at k0;have s9:DTr K a1 g (kvs++[(dat (mJ d x l),V.ref G)]):=k0;have tk1:TK K h4 a1:=TK.off f2 (λ_ z=>by cases z) (λ_ _ z=>by cases z) b9;have g7:a1 f=some (.lst (a5.map V.ref)):=by rw[b9 f c9];exact i0
    refine⟨tyL g7,f,_,_,rfl,rfl,g7,by rw[zqe,mU f3];omega,m6 _ ?_⟩;rw[h0];have b7:∀c,c≠f->upd a1 f (.lst (a5.map V.ref++[.ref r2])) c=a1 c:=λc L=>nO L;have r7:upd a1 f (.lst (a5.map V.ref++[.ref r2])) f=some (.lst (a5.map V.ref++[.ref r2])):=nN;generalize upd a1 f (.lst (a5.map V.ref++[.ref r2]))=r8 at*
    have l5:TK K a1 r8:=TK.off g7 (λ_ z=>by cases z) (λ_ _ z=>by cases z) b7;have h6:=tk1.trans l5;have j7:∀p xs,h4 p=some (.lst xs)->p≠g:=λp xs e z=>by rw[z,f2]at e;cases e
    refine⟨λb o e=>?_,⟨?_,Paired.mapP I.st.2 λ_ _ z=>DdAt.tk z h6⟩,⟨a5++[r2],by rw[r7];simp,Paired.snoc (Paired.mapP o1 λ_ _ z=>DdAt.tk z h6) (DdAt.tk n2 h6)⟩,⟨kvs++[(dat (mJ d x l),V.ref G)],DTr.tk s9 l5 (b7 g (zT c9)),Paired.snoc (Paired.mapP q5 λ_ _ z=>?_) ⟨rfl,G,rfl,l8,?_⟩⟩,I.n1,I.n2,I.n3,I.x1⟩
    ·have b1:b≠f:=λz=>by rw[z,I.n2]at e;cases e
     have b2:b≠g:=λz=>by rw[z,I.n3]at e;cases e
     rw[b7 b b1,b9 b b2];exact I.s b o e
    ·rw[b7 as I.x1,b9 as e5];exact I.st.1
    ·obtain⟨p3,p,u1,k7,k9⟩:=z;refine⟨p3,p,u1,k7,?_⟩;rw[b7 p k7,b9 p (j7 _ _ k9)];exact k9
    ·rw[b7 G l8,b9 G (j7 _ _ i8),i8];simp
   ·rintro c6 m7 ⟨D,F,C,rfl,a2,Z,d3,f9⟩;have u3:(S.map V.ref).length=(ms.map nQ).length:=by rw[zqe];exact mU a2.st.2
    rw[u3,Wo]at a2 Z d3 f9;subst c1;refine⟨.int i,rfl,?_⟩;unfold tC ipI;refine⟨i,1,rfl,rfl,?_⟩;refine⟨_,D,F,C,rfl,a2,?_,Z,d3,f9⟩;rw[show 201-(i+1)=201-i-1 by omega];exact L
theorem Eo:∀{l a:LI'},l.length=a.length->smA (l.map PyData.int) (a.map PyData.int)=true
 |[],[],_=>rfl
 |_:: l,_:: a,h=>by
  show(sm (.int _) (.int _) && smA (l.map PyData.int) (a.map PyData.int))=true;rw[Eo (by simpa using h)];rfl
theorem Kz{d:Nat}:∀{M a:LM},M.length=a.length->(∀r∈M,r.length=d)->(∀r∈a,r.length=d)->smA (M.map λr=>PyData.tuple (r.map PyData.int)) (a.map λr=>PyData.tuple (r.map PyData.int))=true
 |[],[],_,_,_=>rfl
 |r:: M,e:: a,h,c,f=>by
  show(smA (r.map PyData.int) (e.map PyData.int) && smA (M.map λr=>PyData.tuple (r.map PyData.int)) (a.map λr=>PyData.tuple (r.map PyData.int)))=true;rw[Eo ((c r (.head _)).trans (f e (.head _)).symm),Kz (by simpa using h) (λx b=>c x (.tail _ b)) λx b=>f x (.tail _ b)];rfl
theorem En{d:Nat}{x y:Dd}(a:kI d x)(b:kI d y):sm (dat x) (dat y)=true:=by
 show(smA (x.1.map λr=>PyData.tuple (r.map PyData.int)) (y.1.map λr=>PyData.tuple (r.map PyData.int)) && (smA (x.2.1.map PyData.int) (y.2.1.map PyData.int) && (sm (.int _) (.int _) && true)))=true;rw[Kz (a.sq.1.trans b.sq.1.symm) a.sq.2 b.sq.2,Eo (a.len.trans b.len.symm)];rfl
def Wj(d:Nat)(lg lo ls ln:Addr):List (Str×V):=[(Str.ofString "dimension",.int d),(Str.ofString "given",.ref lg),(Str.ofString "ordered",.ref lo),(Str.ofString "shortest",.ref ls),(Str.ofString "numbers",.ref ln)]
abbrev fG1(d:Nat):List (Str×V):=[(Str.ofString "dimension",.int d)]
abbrev fG2(d:Nat)(lg:Addr):List (Str×V):=[(Str.ofString "dimension",.int d),(Str.ofString "given",.ref lg)]
abbrev fG3(d:Nat)(lg lo:Addr):List (Str×V):=[(Str.ofString "dimension",.int d),(Str.ofString "given",.ref lg),(Str.ofString "ordered",.ref lo)]
abbrev fG4(d:Nat)(lg lo ls:Addr):List (Str×V):=[(Str.ofString "dimension",.int d),(Str.ofString "given",.ref lg),(Str.ofString "ordered",.ref lo),(Str.ofString "shortest",.ref ls)]
abbrev fG5(d:Nat)(lg lo ls ln:Addr):List (Str×V):=[(Str.ofString "dimension",.int d),(Str.ofString "given",.ref lg),(Str.ofString "ordered",.ref lo),(Str.ofString "shortest",.ref ls),(Str.ofString "numbers",.ref ln)]
def numT(srt:Tb)(n:Nat):List (PyData×V):=(srt.zipIdx n).map λp=>(dat p.1.1,V.int ((p.2:Nat):Int))
structure GrpF(K:Frag)(t:Adr)(H:Hp)(g:Addr)(d:Nat)(ms:List Dd)(srt:Tb):Prop where
 ex:∃dx lg lo ls ln,H g=some (.ins t.a_b dx (Wj d lg lo ls ln))/\(∃gs:LA,H lg=some (.lst (gs.map V.ref))/\Paired (DdS K H) gs ms) /\
  (∃os:LA,H lo=some (.lst (os.map V.ref))/\Paired (λp x=>Dt K H (.ref p) (dat x.1)) os srt) /\
  (∃ws:LA,H ls=some (.lst (ws.map V.ref))/\Paired (λp(x:Dd×List Nat)=>H p=some (.lst (x.2.map λn=>V.int (n:Nat)))) ws srt)/\DTr K H ln (numT srt 0)
def Ky(K:Frag)(t:Adr):Sp:=λvs H Q E=>E8 λ(b:Bool)(d most:Int)(a x dx:Addr)(ps:LA)(ms:List Dd)=>A7 (vs=[.ref x,.int d,.ref a,.int most]) (H x=some (.ins t.a_b dx [])) (SqB b K H a (ps.map V.ref)) (Paired (DdS K H) ps ms) ((¬ (1<=most/\most<=200)->∀H',Same H H'->E (.ref t.a_1f) none H')) (((1<=most/\most<=200)->¬ AxOk d ms->∀H',Same H H'->E (.ref t.a_1d) none H')) (((1<=most/\most<=200)->AxOk d ms->∃(G:Nat->Dd->Prop)(d' m':Nat),d=d'/\most=m'/\ms.length<=200/\Ak d' ms G/\((mL d' (ms.map nQ) 201 0 [(mO d',[])]).length<=m'->(((mL d' (ms.map nQ) 201 0 [(mO d',[])]).map (·.1)).Nodup/\∀y∈mL d' (ms.map nQ) 201 0 [(mO d',[])],G y.2.length y.1/\y.2.length<=200)->∀srt H',(∀b o,b≠x->H b=some o->H' b=some o)->GrpF K t H' x d' ms srt->srt.Perm (mL d' (ms.map nQ) 201 0 [(mO d',[])])->srt.Pairwise (λp q=>lx (fl (dat q.1)) (fl (dat p.1))=false)->Q .non H')/\(m'<(mL d' (ms.map nQ) 201 0 [(mO d',[])]).length->∀dx H',Same H H'->AptE d' ms m' H' dx->E (.ref t.a_d) (some dx) H')))
theorem Em{c d:Type}{f:c->d}:∀{l:List d}{tb:List c},l.Perm (tb.map f)->∃srt:List c,srt.Perm tb/\srt.map f=l
 |[],tb,h=>by
  have:=h.length_eq;rw[zqe]at this;exact⟨[],by rw[List.length_eq_zero_iff.mp this.symm],rfl⟩
 | b:: l,tb,h=>by
  obtain⟨a,g,e⟩:=oZ.mp (h.mem_iff.mp (yE));obtain⟨s,r,rfl⟩:=List.append_of_mem g;have i:(b:: l).Perm (b:: (s++r).map f):=by
   refine h.trans ?_;rw[yX,zO,e,yX];exact List.perm_middle
  obtain⟨srt,p,q⟩:=Em (List.Perm.cons_inv i);exact⟨a:: srt,(List.Perm.cons a p).trans List.perm_middle.symm,by rw[zO,e,q]⟩
def KX(x:Addr)(H H':Hp):Prop:=∀b o,b≠x->H b=some o->H' b=some o
theorem KX.same{x:Addr}{H H':Hp}(s:Same H H'):KX x H H':=λb o _ e=>s b o e
theorem KX.put{x:Addr}{H:Hp}{o:HO}:KX x H (upd H x o):=λb c a e=>by rw[nO a];exact e
theorem KX.trans{x:Addr}{H d f:Hp}(a:KX x H d)(b:KX x d f):KX x H f:=λc o g e=>b c o g (a c o g e)
theorem KX.tk{K:Frag}{x C c:Addr}{fs:List (Str×V)}{H H':Hp}(k:KX x H H')(e:H x=some (.ins C c fs)):TK K H H':=by
 have a:∀b xs,H b=some (.tup xs)->H' b=some (.tup xs):=λb xs q=>k b _ (λz=>by rw[z,e]at q;cases q) q;refine⟨a,λb xs q=>?_⟩;rcases q with(q|⟨d,q⟩)|q
 ·exact .inl (.inl (a _ _ q))
 ·exact .inl (.inr ⟨d,k b _ (λz=>by rw[z,e]at q;cases q) q⟩)
 ·exact .inr q
theorem Wi{H:Hp}{x:Dd}{w:List Nat}{p:Addr}:∀{tb:Tb}{kvs:List (PyData×V)},TbAt H tb kvs->(tb.map (·.1)).Nodup->(x,w)∈tb->vT kvs (dat x)=some (.ref p)->H p=some (.lst (w.map λn=>V.int (n:Nat))):=by
 intro tb kvs h
 induction h with
 |nil=>intro _ a;cases a
 |@cons y c tb kvs d _ g =>
  intro nd a e;obtain⟨e1,q,f,b⟩:=d;rw[zO,rN]at nd;rcases xL.mp a with a|a
  ·rw[←a]at e1 b;rw[jI e1,f]at e;cases e;exact b
  ·have ne:¬ c.1=dat x:=λq=>nd.1 (by rw[fU.mp (e1.symm.trans q)];exact oZ.mpr ⟨_,a,rfl⟩);rw[jJ ne]at e;exact g nd.2 a e
theorem Wh{K:Frag}{H:Hp}{C x d a:Addr}{fs:List (Str×V)}{o:HO}{b:Bool}{xs:List V}(e:H x=some (.ins C d fs))(h:SqB b K H a xs):SqB b K (upd H x o) a xs:=by
 cases b with
 |false =>
  rcases(show SqL K H a xs from h) with(h|⟨c,h⟩)|h
  ·exact(.inl (.inl (by rw[nO (λz=>by rw[z,e]at h;cases h)];exact h)):SqL K (upd H x o) a xs)
  ·exact(.inl (.inr ⟨c,by rw[nO (λz=>by rw[z,e]at h;cases h)];exact h⟩):SqL K (upd H x o) a xs)
  ·exact(.inr h:SqL K (upd H x o) a xs)
 |true =>
  rcases(show SqT K H a xs from h) with(h|⟨c,h⟩)|h
  ·exact(.inl (.inl (by rw[nO (λz=>by rw[z,e]at h;cases h)];exact h)):SqT K (upd H x o) a xs)
  ·exact(.inl (.inr ⟨c,by rw[nO (λz=>by rw[z,e]at h;cases h)];exact h⟩):SqT K (upd H x o) a xs)
  ·exact(.inr h:SqT K (upd H x o) a xs)
theorem Wg{H:Hp}{v:V}{ds:List PyData}(h:Dt K H v (.tuple ds)):∃q,v=V.ref q:=by
 cases h;exact⟨_,rfl⟩
theorem dN{H:Hp}{b:St}{i:Nat}{C x a:Addr}{fs:List (Str×V)}{f:Str}{v:V}{Q:VK}(d:b[i]?=some (some (V.ref x)))(e:H x=some (.ins C a fs))(c:Cls K C)(n:fH K C f)(l:fs.lookup f=some v)(q:Q v H):tFld K (tVar i) f b H Q:=⟨_,d,x,C,a,fs,v,rfl,e,c,n,l,q⟩
theorem Wf{H:Hp}:∀{tb:Tb}{kvs:List (PyData×V)},TbAt H tb kvs->∀y∈tb,∃p,vT kvs (dat y.1)=some (V.ref p):=by
 intro tb kvs h
 induction h with
 |nil=>intro y a;cases a
 | @cons z b tb kvs c _ e =>
  intro y a;obtain⟨e1,p,d,_⟩:=c
  by_cases q:b.1=dat y.1
  ·exact⟨p,by rw[jI q,d]⟩
  ·rw[jJ q];rcases xL.mp a with a|a
   ·exact absurd (by rw[e1,a]) q
   ·exact e y a
theorem We{K:Frag}{H:Hp}{ps:List (V×PyData)}{zs:List V}{n:Nat}(hl:zs.length=ps.length)(d:∀p∈ps,tT 4 p.2=true/\Dt K H p.1 p.2/\∃q,p.1=V.ref q)(f:∀j y,zs[j]?=some y->∃p m,y=V.ref p/\ps[j]?=some m/\H p=some (.tup [m.1,.int ((n+j:Nat):Int)])):
  ∃ts:List (Addr×PyData×Addr×V),zs=ts.map (λt=>V.ref t.1)/\(ts.map (·.2.1)=ps.map (·.2)/\ts.map (λt=>(t.2.1,t.2.2.2))=(ps.zipIdx n).map λp=>(p.1.2,V.int ((p.2:Nat):Int)))/\∀t∈ts,SqT K H t.1 [.ref t.2.2.1,t.2.2.2]/\tT 4 t.2.1=true/\Dt K H (.ref t.2.2.1) t.2.1:=by
 induction ps generalizing zs n with
 |nil =>
  obtain rfl:=vG hl;exact⟨[],rfl,⟨rfl,rfl⟩,λ_ h=>nomatch h⟩
 | cons p ps C =>
  obtain⟨z,zs,rfl⟩:=List.exists_cons_of_length_eq_add_one hl;obtain⟨a,m,e1,J,c⟩:=f 0 z rfl;cases J;obtain⟨F,e,q,i⟩:=d p (.head _);obtain⟨ts,r,⟨o,u⟩,D⟩:=C (zs:=zs) (n:=n+1) (pI hl) (λx I=>d x (.tail _ I)) λj y L=>by
   obtain⟨v,G,l,g,k⟩:=f (j+1) y L;exact⟨v,G,l,g,by rw[k,show n+(j+1)=n+1+j by omega]⟩
  rw[i]at c e;refine⟨(a,p.2,q,.int ((n+0:Nat):Int)):: ts,by rw[e1,r];rfl,⟨by rw[zO,zO,o],by rw[zO,uL,zO,u];rfl⟩,λt b=>?_⟩;rcases xL.mp b with b|b
  ·rw[b];exact⟨SqT.of c,F,e⟩
  ·exact D t b
theorem ord_of{K:Frag}{H:Hp}:∀{ps:List (V×PyData)}{srt:Tb},(srt.map λy=>dat y.1)=ps.map (·.2)->(∀p∈ps,Dt K H p.1 p.2/\(∃q,p.1=V.ref q))->∃a:LA,ps.map (·.1)=a.map V.ref/\Paired (λp(x:Dd×List Nat)=>Dt K H (.ref p) (dat x.1)) a srt
 |[],[],_,_=>⟨[],rfl,.nil⟩
 |[],_:: _,h,_=>by simp at h
 |_:: _,[],h,_=>by simp at h
 |p:: ps,y:: srt,e,h=>by
  rw[zO,zO,xQ]at e;obtain⟨a,e1,d⟩:=ord_of (ps:=ps) (srt:=srt) e.2 λx f=>h x (.tail _ f);obtain⟨b,q,c⟩:=h p (.head _);rw[c,←e.1]at b;exact⟨q:: a,by rw[zO,zO,e1,c],.cons b d⟩
theorem Wd{H:Hp}{kvs:List (PyData×V)}{srt:Tb}{ys:List V}(hl:ys.length=srt.length)(h:∀(j:Nat) y,ys[j]?=some y->∃p m,y=V.ref p/\srt[j]?=some m/\vT kvs (dat m.1)=some (V.ref p))
  (f:∀m∈srt,∀p,vT kvs (dat m.1)=some (V.ref p)->H p=some (.lst (m.2.map λn=>V.int (n:Nat)))):∃d:LA,ys=d.map V.ref/\Paired (λp(x:Dd×List Nat)=>H p=some (.lst (x.2.map λn=>V.int (n:Nat)))) d srt:=Jb hl λj y e=>by
 obtain⟨p,m,a,b,c⟩:=h j y e;exact⟨p,m,a,b,f m (zqb b) p c⟩
theorem Kx:∀{srt:Tb}{ps:List (V×PyData)},(srt.map λy=>dat y.1)=ps.map (·.2)->∀n,((srt.zipIdx n).map λp=>(dat p.1.1,V.int ((p.2:Nat):Int)))=(ps.zipIdx n).map λp=>(p.1.2,V.int ((p.2:Nat):Int))
 |[],[],_,_=>rfl
 |[],_:: _,h,_=>by simp at h
 |_:: _,[],h,_=>by simp at h
 |y:: srt,p:: ps,e,n=>by
  rw[zO,zO,xQ]at e;rw[uL,uL,zO,zO,Kx e.2 (n+1),e.1]
structure GI(K:Frag)(H0:Hp)(C x dx wd:Addr)(fs:List (Str×V))(tb:Tb)(kvs:List (PyData×V))(H:Hp):Prop where
 hx:H x=some (.ins C dx fs)
 s:∀b o,b≠x->H0 b=some o->H b=some o
 D:DTr K H wd kvs
 T:TbAt H tb kvs
theorem GI.up{K:Frag}{a H H':Hp}{C x d c:Addr}{fs:List (Str×V)}{tb:Tb}{kvs:List (PyData×V)}(h:GI K a C x d c fs tb kvs H)(s:Same H H'):GI K a C x d c fs tb kvs H':=
 ⟨s _ _ h.hx,λb o j e=>s _ _ (h.s b o j e),h.D.up s,Paired.mapP h.T λ_ _ z=>let ⟨g,p,i,f⟩:=z;⟨g,p,i,s _ _ f⟩⟩
theorem Ai{K:Frag}{H:Hp}{C x a:Addr}{fs fs':List (Str×V)}(e:H x=some (.ins C a fs)):TK K H (upd H x (.ins C a fs')):=TK.off e (λ_ z=>by cases z) (λ_ _ z=>by cases z) λ_ b=>nO b
theorem GI.put{K:Frag}{f H:Hp}{C x d c:Addr}{fs:List (Str×V)}{tb:Tb}{kvs:List (PyData×V)}(h:GI K f C x d c fs tb kvs H)(fs':List (Str×V)):GI K f C x d c fs' tb kvs (upd H x (.ins C d fs')):=by
 have k:c≠x:=λz=>by
  obtain⟨_,_,xs,e,_⟩:=h.D;rw[z,h.hx]at e;cases e
 refine⟨nN,λb o g e=>?_,DTr.tk h.D (Ai h.hx) (nO k),Paired.mapP h.T λ_ _ z=>?_⟩
 ·rw[nO g];exact h.s b o g e
 ·obtain⟨i,p,j,a⟩:=z;have:p≠x:=λq=>by rw[q,h.hx]at a;cases a
  exact⟨i,p,j,by rw[nO this];exact a⟩
theorem ok_0(T:Txt K mg t):FnOk P w K mg base (CX1 P w) 12 t.a_0 t.d_0 pm' (Ky K t):=by
 have j1:=@ok_t P w K mg base t T;have h3:=@ok_r P w K mg base t T;have l0:=@ok_12 P w K mg base t T;refine T.F_0.okX sc_0 (λvs H Q E h=>?_) (λcdv A outer s H vs Q E hr h=>?_)
 ·obtain⟨b,d,most,a,x,g,ps,ms,rfl,_⟩:=h;rfl
 ·have c2:=hr.units;obtain⟨b,d0,e9,a,x,g,ps,ms,rfl,f1,c4,b7,e4,g2,W⟩:=h;refine⟨_,(nJ (gM (Bg j1 hr.mo rfl T.F_t.m T.F_t.kp T.F_t.b .nil Bh (nH (pv 3) nI)))
   (nJ (gM (Bg h3 hr.mo rfl T.F_r.m T.F_r.kp T.F_r.b .nil Bh (nH (pv 1) (nH (pv 2) nI))))
   (nJ (nU (i:=4) sc_0.nd rfl (Or.inr rfl) (Bg l0 hr.mo rfl T.F_12.m T.F_12.kp T.F_12.b .nil Bh (nH (pv 1) (nH (pv 2) (nH (pv 3) nI)))))
   (nJ (dZ (pv 0) (pv 1) rfl)
   (nJ (dZ (pv 0) (lK hZ rfl T.z_list (nofun) (nH (pv 2) nI)) rfl)
   (nJ (dZ (pv 0) (mS (Tl (N:=201) Jk c2 rfl) rfl T.z_sorted (nofun) (nH (pv 4) nI)) rfl)
   (nJ (dZ (pv 0) (lE (sc:=nP s_0) (N:=N_0) (fr:=[("words",4)]) (te:=(tOp (aH K) (tVar 1) (tVar 0))) rfl rfl (nofun) rfl (nofun) (mT (eE (pv 0) rfl)) (λ_ _ _ a1=>(mG (ix_T c2) (pv 1) (pv 0) (λ_ _=>rfl)))) rfl)
   (nM (dZ (pv 0) (lK (Ta c2 rfl) rfl T.z_dict (nofun) (nH (hX (xs:=["number","member"]) (fr:=[]) (g:=(gTup K 2 (kC (nX 0) (kC (nX 1) gNil)))) (tt:=(tEl (tTup (mH (tVar 1) (mH (tVar 0) tNil))))) (jW (sc:=nP s_0) (N:=N_0) rfl rfl (nofun)) rfl (bY rfl T.z_enumerate (nH (eE (pv 0) rfl) nI)) (λ_ _ _ a1=>(gO rfl (kP (iH (N:=["number","member"]) (i:=0) a1 rfl (nofun)) (kP (iH (N:=["number","member"]) (i:=1) a1 rfl (nofun)) gN)))) (λ_ _ _ a1=>(iM (kQ (nH (pv 1) (nH (pv 0) nI)))))) nI)) rfl))))))))),?_⟩
  show tSeq _ _ _ [some (.ref x),some (.int d0),some (.ref a),some (.int e9),none] H;right;refine⟨e9,rfl,λb0=>?_,e4⟩;left;refine⟨b,d0,a,ps,ms,rfl,c4,b7,λax n5 b2=>?_,g2 b0⟩;obtain⟨j0,d,most,rfl,rfl,h4,a9,W,f5⟩:=W b0 ax;have i8:d=2\/d=3:=by have:=ax.1;omega
  have k6:1<=most:=⋯
  have f2:most<=200:=⋯
  left;refine⟨b,d,a,ps,ms,most,j0,rfl,i8,c4.up b2,Paired.mapP b7 λ_ _ z=>z.up b2,h4,a9,k6,f2,λa2 e3 d7 kvs O c3 n6 g8 i3=>?_,λa2 h0 O c3 h1=>f5 a2 h0 O (b2.trans c3) h1⟩;have W:=W a2 e3;have n0:=yC a2 f2;obtain⟨e8,d1⟩:=e3;have k7:∀y∈mL d (ms.map nQ) 201 0 [(mO d,[])],kI d y.1:=λy D=>a9.g _ _ (by have:=(d1 y D).2;omega) (d1 y D).1;have h6:=a9.g 0 _ ∅ a9.g0;clear f5 d1 e4 g2;generalize mL d (ms.map nQ) 201 0 [(mO d,[])]=tb at*
  have d2:=b2.trans c3;have b6:=d2 _ _ f1;subst e1;refine st λN1 e1=>?_;simp only[sFld];ext;have f7:GI K H t.a_b x g d7 [] tb kvs O:=⟨b6,λb o _ e=>d2 _ _ e,g8,i3⟩;refine⟨_,_,_,b6,T.cl_b,T.h_5,∅,?_⟩;have f6:=f7.put (fG1 d);have sq3:SqB b K (upd O x (.ins t.a_b g (fG1 d))) a (ps.map V.ref):=Wh b6 (c4.up d2);show N1 _ (upd O x (.ins t.a_b g (fG1 d)));generalize upd O x (.ins t.a_b g (fG1 d))=a7 at*
  clear f7;subst e1;refine st λN1 e1=>?_;simp only[sFld];ext;refine⟨b,a,_,rfl,sq3,λc c0=>?_⟩;have m1:Same a7 (upd a7 c (.lst (ps.map V.ref))):=Same.new c0;have h7:(upd a7 c (.lst (ps.map V.ref))) c=some (.lst (ps.map V.ref)):=nN;have k2:c≠x:=λz=>by rw[z,f6.hx]at c0;cases c0
  have g4:=f6.up m1;generalize upd a7 c (.lst (ps.map V.ref))=G at*
  refine⟨_,_,_,g4.hx,T.cl_b,T.h_l,by show 1<1000;decide,?_⟩;have Z:=g4.put (fG2 d c);have k4:KX x G (upd G x (.ins t.a_b g (fG2 d c))):=KX.put;show N1 _ (upd G x (.ins t.a_b g (fG2 d c)));generalize upd G x (.ins t.a_b g (fG2 d c))=n7 at*
  subst e1;refine st λN1 e1=>?_;simp only[sFld];ext;have n3:tb.length=kvs.length:=mU Z.T;have f9:∀I∈kvs,∃y∈tb,I.1=dat y.1:=λI X=>by
   obtain⟨y,D,z⟩:=aV Z.T I X;exact⟨y,D,z.1⟩
  have i0:=h6;refine⟨d7,kvs,[.tuple ((List.replicate d (0:Int)).map PyData.int),.int 1],(idM d).map (λr=>PyData.tuple (r.map PyData.int)),rfl,⋯,Z.D,λI X=>?_,λlo u U c6 n1 a6 b1 a4 i1=>?_⟩
  ·obtain⟨y,D,e⟩:=f9 I X;rw[e];exact En i0 (k7 y D)
  have b3:=Z.up c6;have h2:=k4.trans (KX.same c6);refine⟨_,_,_,b3.hx,T.cl_b,T.h_7,by show 2<1000;decide,?_⟩;have pl:u.length<=200:=by
   have:=a4.length_eq;rw[zqe,zqe]at this;omega
  have n8:=a6;have Y:=b3.put (fG3 d c lo);have b8:lo≠x:=λz=>by rw[z,b3.hx]at a6;cases a6
  have j3:KX x G (upd U x (.ins t.a_b g (fG3 d c lo))):=h2.trans KX.put;have c8:(upd U x (.ins t.a_b g (fG3 d c lo))) lo=some (.lst (u.map (·.1))):=by rw[nO b8];exact a6
  have L:∀p∈u,tT 4 p.2=true/\Dt K (upd U x (.ins t.a_b g (fG3 d c lo))) p.1 p.2:=λp f=>⟨(b1 p f).1,jZ (Ai b3.hx).t 4 (b1 p f).1 (jZ (lY c6) 4 (b1 p f).1 (b1 p f).2)⟩;show N1 _ (upd U x (.ins t.a_b g (fG3 d c lo)));generalize upd U x (.ins t.a_b g (fG3 d c lo))=n4 at*
  -- every member is a reference to one of the dict's keys
  have mem:∀p∈u,∃y∈tb,p.2=dat y.1:=λp f=>by
   have:p.2∈kvs.map (·.1):=a4.mem_iff.mp (oZ.mpr ⟨p,f,rfl⟩);obtain⟨I,X,e⟩:=oZ.mp this;obtain⟨y,D,d8⟩:=f9 I X;exact⟨y,D,by rw[←e,d8]⟩
  have e6:kvs.map (·.1)=tb.map λy=>dat y.1:=by
   have:∀{H':Hp}{tb:Tb}{kvs:List (PyData×V)},TbAt H' tb kvs->kvs.map (·.1)=tb.map λy=>dat y.1:=by
    intro H' tb kvs h
    induction h with
    |nil=>rfl
    |cons d4 _ i6=>rw[zO,zO,i6,d4.1]
   exact this Y.T
  obtain⟨srt,g0,S⟩:=Em (f:=λy:Dd×List Nat=>dat y.1) (l:=u.map (·.2)) (tb:=tb) (by rw[←e6];exact a4);have h8:srt.length=u.length:=by have:=wZ List.length S;simpa using this
  have d5:∀p∈u,∃q,p.1=V.ref q:=λp f=>by
   obtain⟨y,_,e⟩:=mem p f;have e7:=(L p f).2;rw[e]at e7;exact Wg e7
  subst e1;refine st λN1 e1=>?_;simp only[sFld];refine mK λB eB=>?_;simp only[iSeq];refine dN rfl Y.hx T.cl_b T.h_7 rfl ?_;refine⟨false,lo,rfl,⟨_,SqB.lst c8⟩,λk b9=>?_⟩;refine kX (λj y _=>∃(p:Addr)(m:Dd×List Nat),y=V.ref p/\srt[j]?=some m/\vT kvs (dat m.1)=some (V.ref p)) b9 (SqB.lst c8) (by rw[zqe];omega) (λ_ _ _ _ h _=>h) ?_ ?_
  ·intro i y C zs c5 F e5 d6 d3;obtain⟨p,f,rfl⟩:=jL c5;have c9:=zqb f;obtain⟨q,j4⟩:=d5 p c9;obtain⟨m5,k1,l4⟩:=mem p c9;obtain⟨g1,f3⟩:=L p c9;subst eB;show tOp _ _ _ [some p.1,some (.ref d7)] C d6;ext;rw[j4]at f3 ⊢;have M:=Y.up F;obtain⟨l6,b5⟩:=Wf M.T m5 k1;rw[←l4]at b5;refine fV M.D g1 (jZ (lY F) 4 g1 f3) b5 ?_;have l9:∃m,srt[i]?=some m/\dat m.1=p.2:=by
    have e:=wZ (λl=>l[i]?) S;simp only[List.getElem?_map,f,Option.map_some]at e;cases hm2:srt[i]? with
    |none=>rw[hm2]at e;cases e
    |some m=>rw[hm2]at e;exact⟨m,rfl,zZ e⟩
   obtain⟨m,b4,k5⟩:=l9;exact d3 _ _ (Same.refl _) ⟨l6,m,rfl,b4,by rw[k5];exact b5⟩
  ·intro C ys F i9 m7 m0;have M:=Y.up F;have e2:k≠x:=λz=>by rw[z,Y.hx]at b9;cases b9
   have k0:=j3.trans (KX.same F);have l2:KX x G (upd C x (.ins t.a_b g (fG4 d c lo k))):=k0.trans KX.put;have j9:(upd C x (.ins t.a_b g (fG4 d c lo k))) k=some (.lst ys):=by rw[nO e2];exact i9
   refine⟨.ref x,rfl,x,_,_,_,rfl,M.hx,T.cl_b,T.h_6,by show 3<1000;decide,?_⟩;have e0:=M.put (fG4 d c lo k);have c1:(upd C x (.ins t.a_b g (fG4 d c lo k))) lo=some (.lst (u.map (·.1))):=by rw[nO b8];exact F _ _ c8
   have N:∀p∈u,tT 4 p.2=true/\Dt K (upd C x (.ins t.a_b g (fG4 d c lo k))) p.1 p.2:=λp f=>⟨(L p f).1,jZ (Ai M.hx).t 4 (L p f).1 (jZ (lY F) 4 (L p f).1 (L p f).2)⟩;show N1 _ (upd C x (.ins t.a_b g (fG4 d c lo k)));generalize upd C x (.ins t.a_b g (fG4 d c lo k))=n2 at*
   subst e1;simp only[sFld];ext;refine mK λB eB=>?_;simp only[cK];ext;refine dN rfl e0.hx T.cl_b T.h_7 rfl ?_;refine⟨false,lo,rfl,⟨_,SqB.lst c1⟩,λf0 i2=>?_⟩;refine Qj (λj y H=>∃p m,y=V.ref p/\p≠f0/\u[j]?=some m/\H p=some (.tup [m.1,.int (j:Int)])) i2 (SqB.lst c1) (by rw[zqe];omega) (λ_ _ _ _⟨p,m,e,n,b4,h⟩g6=>⟨p,m,e,n,b4,g6 _ _ n h⟩) ?_ ?_
   ·intro i y d9 zs c5 a5 e5 d6 d3;obtain⟨p,f,rfl⟩:=jL c5;subst eB;show tTup _ [some (.int i),some p.1] d9 d6;ext;refine⟨by show 2<=sizeLine;decide,λq c7=>?_⟩;refine d3 _ _ (Same.new c7) ⟨q,p,rfl,(λz=>by rw[z,e5]at c7;cases c7),f,nN⟩
   ·intro d9 zs a5 m6 l3 d4;obtain⟨ts,j8,⟨j7,i5⟩,i7⟩:=We (K:=K) (H:=d9) (ps:=u) (zs:=zs) (n:=0) (by rw[l3,zqe]) (λp f=>⟨(N p f).1,jZ (lY a5) 4 (N p f).1 (N p f).2,d5 p f⟩) λj y m9=>by
     obtain⟨p,m,l8,_,k8,j5⟩:=d4 j y m9;exact⟨p,m,l8,k8,by rw[wS];exact j5⟩
    have i4:=e0.up a5;have k9:(u.map (·.2)).Nodup:=a4.nodup_iff.mpr (by
     rw[e6,show(tb.map λy=>dat y.1)=(tb.map (·.1)).map dat by rw[yW];rfl];exact List.Pairwise.map dat (λa b h e=>h (fU.mp e)) e8)
    refine⟨f0,ts,rfl,by rw[←j8];exact .inl (.inl m6),i7,by rw[j7];exact k9,λv J g5 _ g3=>?_⟩;have a0:=i4.up g5;refine⟨_,_,_,a0.hx,T.cl_b,T.h_8,by show 4<1000;decide,?_⟩;have a3:=a5.trans g5;have f8:=Ai (K:=K) (fs':=(fG5 d c lo k v)) a0.hx;have a8:=a0.put (fG5 d c lo k v);show Q .non (upd J x (.ins t.a_b g (fG5 d c lo k v)));have l7:KX x J (upd J x (.ins t.a_b g (fG5 d c lo k v))):=KX.put;have m8:(upd J x (.ins t.a_b g (fG5 d c lo k v))) k=some (.lst ys):=by rw[nO e2];exact a3 _ _ j9
    have j2:v≠x:=λz=>by
     obtain⟨_,_,xs,e,_⟩:=g3;rw[z,a0.hx]at e;cases e
    have m4:=DTr.tk g3 f8 (nO j2);have g9:(upd J x (.ins t.a_b g (fG5 d c lo k v))) lo=some (.lst (u.map (·.1))):=by rw[nO b8];exact a3 _ _ c1
    generalize upd J x (.ins t.a_b g (fG5 d c lo k v))=R at*;have l5:KX x G R:=((l2.trans (KX.same a3)).trans l7);have g7:TK K H R:=KX.tk (λb o h5 e=>a8.s b o h5 e) f1;refine W srt R a8.s ⟨g,c,lo,k,v,a8.hx,⟨ps,l5 _ _ k2 h7,Paired.mapP b7 λ_ _ z=>DdS.tk z g7⟩,?_,?_,?_⟩ g0 ?_
    ·obtain⟨l1,k3,j6⟩:=ord_of (K:=K) (H:=R) (ps:=u) (srt:=srt) S λp f=>⟨jZ f8.t 4 (N p f).1 (jZ (lY a3) 4 (N p f).1 (N p f).2),d5 p f⟩;exact⟨l1,by rw[g9,k3],j6⟩
    ·obtain⟨m2,h9,m3⟩:=Wd (H:=R) (srt:=srt) (kvs:=kvs) (ys:=ys) (by rw[m7,zqe,h8]) m0 λm b0 p e=>Wi (x:=m.1) (w:=m.2) a8.T e8 (g0.mem_iff.mp b0) e;exact⟨m2,by rw[←h9];exact m8,m3⟩
    ·have d8:numT srt 0=ts.map λt=>(t.2.1,t.2.2.2):=by
      rw[i5];unfold numT;exact Kx S 0
     rw[d8];exact m4
    ·have f4:(u.map (·.2)).Pairwise λp q=>lx (fl q) (fl p)=false:=List.pairwise_map.mpr i1;rw[←S]at f4;exact List.pairwise_map.mp f4
theorem GrpF.up{H H':Hp}{g:Addr}{d:Nat}{ms:List Dd}{srt:Tb}(h:GrpF K t H g d ms srt)(s:Same H H'):GrpF K t H' g d ms srt:=by
 obtain⟨p,q,lo,c,m,e,⟨gs,n,k⟩,⟨a,b,o⟩,⟨j,l,i⟩,f⟩:=h;exact⟨p,q,lo,c,m,s _ _ e,⟨gs,s _ _ n,Paired.mapP k λ_ _ z=>DdS.up z s⟩,⟨a,s _ _ b,Paired.mapP o λ_ x z=>jZ (lY s) 4 (kH x.1) z⟩,⟨j,s _ _ l,Paired.mapP i λ_ _ z=>s _ _ z⟩,f.up s⟩
def sp_8(K:Frag)(t:Adr):Sp:=λvs H Q _=>E4 λ(g:Addr)(d:Nat)(ms:List Dd)(srt:Tb)=>A3 (vs=[.ref g]) (GrpF K t H g d ms srt) (∀l gs H',Same H H'->H l=none->H' l=some (.lst (gs.map V.ref))->Paired (DdS K H') gs ms->Q (.ref l) H')
def sp_5(K:Frag)(t:Adr):Sp:=λvs H Q _=>E4 λ(g:Addr)(d:Nat)(ms:List Dd)(srt:Tb)=>A3 (vs=[.ref g]) (GrpF K t H g d ms srt) (∀l os H',Same H H'->H l=none->H' l=some (.lst (os.map V.ref))->Paired (λp x=>Dt K H' (.ref p) (dat x.1)) os srt->Q (.ref l) H')
def sp_9(K:Frag)(t:Adr):Sp:=λvs H Q _=>E4 λ(g:Addr)(d:Nat)(ms:List Dd)(srt:Tb)=>A4 (vs=[.ref g]) (GrpF K t H g d ms srt) (srt.length<=200) (∀l ws H',Same H H'->H l=none->H' l=some (.lst (ws.map V.ref))->Paired (λp(x:Dd×List Nat)=>H' p=some (.lst (x.2.map λn=>V.int (n:Nat)))) ws srt->Q (.ref l) H')
theorem ok_8(T:Txt K mg t):FnOk P w K mg base CX0 2 t.a_8 t.d_8 pC' (sp_8 K t):=by
 apply T.F_8.ok sc_8
 ·obtain⟨g,d,ms,srt,rfl,⟨k,f,lo,i,j,a,⟨gs,e,c⟩,_⟩,b⟩:=h;refine⟨_,(nM (nV (lK hZ rfl T.z_list (nofun) (nH (eE (pv 0) rfl) nI)))),?_⟩;show tRet _ _ [some (.ref g)] H;simp only[tRet,tCB,mH,tNil];refine dN rfl a T.cl_b T.h_l rfl ?_;refine⟨false,f,_,rfl,SqB.lst e,λl hl=>?_⟩;exact b l gs _ (Same.new hl) hl nN (Paired.mapP c λ_ _ z=>DdS.up z (Same.new hl))
theorem ok_5(T:Txt K mg t):FnOk P w K mg base CX0 2 t.a_5 t.d_5 pC' (sp_5 K t):=by
 apply T.F_5.ok sc_5
 ·obtain⟨g,d,ms,srt,rfl,⟨k,m,lo,i,j,c,_,⟨a,b,f⟩,_⟩,e⟩:=h;refine⟨_,(nM (nV (lK hZ rfl T.z_list (nofun) (nH (eE (pv 0) rfl) nI)))),?_⟩;show tRet _ _ [some (.ref g)] H;simp only[tRet,tCB,mH,tNil];refine dN rfl c T.cl_b T.h_7 rfl ?_;refine⟨false,lo,_,rfl,SqB.lst b,λl hl=>?_⟩;exact e l a _ (Same.new hl) hl nN (Paired.mapP f λ_ x z=>jZ (lY (Same.new hl)) 4 (kH x.1) z)
theorem ok_9(T:Txt K mg t):FnOk P w K mg base CX0 2 t.a_9 t.d_9 pC' (sp_9 K t):=by
 apply T.F_9.ok sc_9
 ·obtain⟨g,d,ms,srt,rfl,⟨Y,U,lo,u,W,J,_,_,⟨k,o,r⟩,_⟩,X,L⟩:=h;refine⟨_,(nM (nV (lE (sc:=nP s_9) (N:=N_9) (fr:=[]) (te:=(tCB (aA K) (mH (tVar 0) tNil))) rfl rfl (nofun) rfl (nofun) (mT (eE (pv 0) rfl)) (λ_ _ _ V=>(lK hZ rfl T.z_list (nofun) (nH (pv 0) nI)))))),?_⟩;show tRet _ _ [some (.ref g)] H;simp only[tRet];refine mK λB eB=>?_;simp only[iSeq];refine dN rfl J T.cl_b T.h_6 rfl ?_;have O:k.length=srt.length:=mU r;refine⟨false,u,rfl,⟨_,SqB.lst o⟩,λl hl=>?_⟩;refine kX (WdR l srt) hl (SqB.lst o) (by rw[zqe];omega) (λ_ _ _ _⟨p,m,e,n,b,h⟩x=>⟨p,m,e,n,b,x _ _ n h⟩) ?_ ?_
  ·intro i y f zs a c I D G;rw[zH]at a;cases hp':k[i]? with
   |none=>rw[hp']at a;cases a
   |some p =>
    rw[hp']at a;cases a;obtain⟨m,b,S⟩:=kB r hp';subst eB;show tCB _ _ [some (.ref p)] f D;simp only[tCB,mH,tNil,tVar];refine⟨_,rfl,false,p,_,rfl,SqB.lst (c _ _ S),λq j=>?_⟩;exact G _ _ (Same.new j) ⟨q,m,rfl,(λz=>by rw[z,I]at j;cases j),b,nN⟩
  ·intro f ys c N M C;obtain⟨R,v,F⟩:=Eu (by rw[M,zqe,O]) C;exact L l R f c hl (by rw[N,v]) F
def sp_a(K:Frag)(t:Adr):Sp:=λvs H Q _=>E4 λ(g:Addr)(d:Nat)(ms:List Dd)(srt:Tb)=>A3 (vs=[.ref g]) (GrpF K t H g d ms srt) (Q (.int d) H)
theorem ok_a(T:Txt K mg t):FnOk P w K mg base CX0 2 t.a_a t.d_a pC' (sp_a K t):=by
 apply T.F_a.ok sc_a
 ·obtain⟨g,d,ms,srt,rfl,⟨f,i,lo,c,e,a,_⟩,b⟩:=h;refine⟨_,(nM (nV (eE (pv 0) rfl))),?_⟩;show tRet _ _ [some (.ref g)] H;simp only[tRet];exact dN rfl a T.cl_b T.h_5 rfl b
theorem sq1{b:LM}(h:Sq 1 b):∃a,b=[[a]]:=by
 obtain⟨hl,hr⟩:=h
 match b,hl with
 |[r],_ =>
  have:=hr r (by simp)
  match r,this with
  |[a],_=>exact⟨a,rfl⟩
theorem len2{r:LI'}(h:r.length=2):∃a b,r=[a,b]:=by match r,h with|[a,b],_=>exact⟨a,b,rfl⟩
theorem len3{r:LI'}(h:r.length=3):∃a b c,r=[a,b,c]:=by match r,h with|[a,b,c],_=>exact⟨a,b,c,rfl⟩
theorem len4{r:LI'}(h:r.length=4):∃a b c d,r=[a,b,c,d]:=by match r,h with|[a,b,c,d],_=>exact⟨a,b,c,d,rfl⟩
theorem sq2{e:LM}(h:Sq 2 e):∃a b c d,e=[[a,b],[c,d]]:=by
 obtain⟨hl,hr⟩:=h
 match e,hl with
 |[r,s],_ =>
  obtain⟨a,b,rfl⟩:=len2 (hr r (by simp));obtain⟨c,d,rfl⟩:=len2 (hr s (by simp));exact⟨a,b,c,d,rfl⟩
theorem sq3{k:LM}(h:Sq 3 k):∃a b c d e f g i j,k=[[a,b,c],[d,e,f],[g,i,j]]:=by
 obtain⟨hl,hr⟩:=h
 match k,hl with
 |[r,s,t],_ =>
  obtain⟨a,b,c,rfl⟩:=len3 (hr r (by simp));obtain⟨d,e,f,rfl⟩:=len3 (hr s (by simp));obtain⟨g,i,j,rfl⟩:=len3 (hr t (by simp));exact⟨a,b,c,d,e,f,g,i,j,rfl⟩
theorem sq4{v:LM}(h:Sq 4 v):∃a b c d e f g i j k l m n o p q,v=[[a,b,c,d],[e,f,g,i],[j,k,l,m],[n,o,p,q]]:=by
 obtain⟨hl,hr⟩:=h
 match v,hl with
 |[r,s,t,u],_ =>
  obtain⟨a,b,c,d,rfl⟩:=len4 (hr r (by simp));obtain⟨e,f,g,i,rfl⟩:=len4 (hr s (by simp));obtain⟨j,k,l,m,rfl⟩:=len4 (hr t (by simp));obtain⟨n,o,p,q,rfl⟩:=len4 (hr u (by simp));exact⟨a,b,c,d,e,f,g,i,j,k,l,m,n,o,p,q,rfl⟩
theorem id2:idM 2=[[1,0],[0,1]]:=nofun
theorem id3:idM 3=[[1,0,0],[0,1,0],[0,0,1]]:=nofun
theorem Wc(a b v:Int)(c:0<v):gcdI (a*v) (b*v)=gcdI a b*v:=by
 unfold gcdI;rw[Int.gcd_mul_right];have:((v.natAbs:Nat):Int)=v:=⋯
 rw[Int.natCast_mul,this]
theorem Wb{u v:Int}(b:0<v)(ts:LI'):gl (u*v) (ts.map (·*v))=gl u ts*v:=by
 have d:∀(ts:LI')(a:Int),(ts.map (·*v)).foldl gcdI (a*v)=ts.foldl gcdI a*v:=by
  intro ts
  induction ts with
  |nil=>intro a;rfl
  |cons t r e=>intro a;rw[zO,vA,vA,Wc _ _ _ b,e]
 unfold gl;have:absI (u*v)=absI u*v:=by
  unfold absI;rcases Int.lt_or_le u 0 with l|l
  ·have c:u*v<0:=Int.mul_neg_of_neg_of_pos l b;rw[zF l,zF c,Int.neg_mul]
  ·have c:0<=u*v:=Int.mul_nonneg l (uK b);rw[zD ⋯,zD ⋯]
 rw[this,d]
def Cong(u:Int)(xs ys:LI'):Prop:=xs.length=ys.length/\∀(i:Nat)(x y:Int),xs[i]?=some x->ys[i]?=some y->u∣x-y
theorem Wa{u x y:Int}(a:0<u)(h:u∣x-y):x.fmod u=y.fmod u:=by
 rw[xX _ (uK a),xX _ (uK a)];exact Int.emod_eq_emod_iff_emod_sub_eq_zero.mpr (Int.emod_eq_zero_of_dvd h)
theorem Cong.rest{u:Int}(b:0<u)(ns:LI'):Cong u ns (lR u ns):=by
 refine⟨by simp[lR],λi x y e1 a=>?_⟩;unfold lR at a;rw[zH,e1]at a;cases zZ a;have:=Vj b x;have d:=xX (x.fmod u-x) (uK b);rw[d]at this;have c:=Int.dvd_of_emod_eq_zero this;have:=Int.dvd_neg.mpr c
 rwa[Int.neg_sub]at this
theorem Cong.gl{u:Int}{xs ys:LI'}(h:Cong u xs ys):Cw.gl u xs=Cw.gl u ys:=by
 have c:∀{xs ys:LI'}{d:Int},Cong u xs ys->d∣u->(∀t∈xs,d∣t)->∀t∈ys,d∣t:=λ{xs ys d}h m j t g=>by
  obtain⟨i,hi,e⟩:=wP g;have f:i<xs.length:=by rw[h.1];exact hi
  have a:=h.2 i xs[i] t (by simp[f]) (by simp[hi,e]);have b:=j _ (vK f);have l:=Int.dvd_sub b (Int.dvd_trans m a)
  rwa[show xs[i]-(xs[i]-t)=t by omega]at l
 have n:Cong u ys xs:=⟨h.1.symm,λi x y e1 k=>by
  have:=Int.dvd_neg.mpr (h.2 i y x k e1)
  rwa[Int.neg_sub]at this⟩
 exact Vn λd=>⟨λ⟨a,b⟩=>⟨a,c h a b⟩,λ⟨a,b⟩=>⟨a,c n a b⟩⟩
theorem Cong.red{u:Int}{xs ys:LI'}(q:0<u)(h:Cong u xs ys):redU u xs=redU u ys/\lR (redU u xs) (redT u xs)=lR (redU u ys) (redT u ys):=by
 have o:=h.gl;have f:cs u xs=cs u ys:=by unfold cs;rw[o]
 have a:=dL xs (show u≠0 by omega);have d:redU u xs=redU u ys:=by unfold redU;rw[f]
 refine⟨d,?_⟩;have p:0<redU u xs:=Ap xs ⋯;have j:redU u xs*cs u xs=u:=gZ a (iR (gl_u u xs));rw[←d];unfold lR redT;refine tO (by simp[h.1]) λi b c=>?_;simp at b c;simp only[List.getElem_map];have k:=h.2 i xs[i] ys[i] (by simp[b]) (by simp[c]);have m:∀x y:Int,u∣x-y->cs u xs∣x->cs u ys∣y->redU u xs∣x.fdiv (cs u xs)-y.fdiv (cs u ys):=λx y l g e=>by
  have e1:x.fdiv (cs u xs)*cs u xs=x:=gZ a g;rw[←f]at e ⊢;have n:y.fdiv (cs u xs)*cs u xs=y:=gZ a e;refine Int.dvd_of_mul_dvd_mul_right a ?_;rw[j,Int.sub_mul,e1,n];exact l
 exact Wa p (m _ _ k (iR (Aq (vK b))) (iR (Aq (vK c))))
theorem Kv{u:Int}:∀(r ts c:LI'),Cong u ts c->u∣dotI r ts-dotI r c
 |[],ts,c,_=>by simp[dotI]
 |x:: r,[],c,h=>by
  have:c=[]:=vG h.1.symm;subst this;simp[dotI]
 |x:: r,t:: ts,[],h=>by have:=h.1;simp at this
 |x:: r,t:: ts,t':: c,h=>by
  have f:=Kv r ts c ⟨by have:=h.1;simpa using this,λi a b e1 d=>h.2 (i+1) a b (by simpa using e1) (by simpa using d)⟩;have e:=h.2 0 t t' rfl rfl;have e1:dotI (x:: r) (t:: ts)=x*t+dotI r ts:=by simp[dotI]
  have d:dotI (x:: r) (t':: c)=x*t'+dotI r c:=by simp[dotI]
  rw[e1,d,show x*t+dotI r ts-(x*t'+dotI r c)=x*(t-t')+(dotI r ts-dotI r c) by rw[Int.mul_sub];omega];exact Int.dvd_add (Int.dvd_mul_of_dvd_right e) f
theorem Ku{N:LM}{ns ts c b:LI'}{v u:Int}(d:Cong v ns c)(g:Cong u ts b):Cong (v*u) (movT N ns v ts u) (movT N c v b u):=by
 refine⟨by unfold movT;rw[xZ,xZ,d.1],λi x y e1 a=>?_⟩;unfold movT at e1 a;rw[wB]at e1 a;cases en:N[i]? with
 |none=>rw[en]at e1;cases e1
 | some r =>
  rw[en]at e1 a;cases e3:ns[i]? with
  |none=>rw[e3]at e1;cases e1
  | some n =>
   cases e4:c[i]? with
   |none=>rw[e4]at a;cases a
   |some e =>
    rw[e3]at e1;rw[e4]at a;cases zZ e1;cases zZ a;obtain⟨k,l⟩:=Kv r ts b g;obtain⟨m,o⟩:=d.2 i n e e3 e4;refine⟨k+m,?_⟩;have j:dotI r ts=dotI r b+u*k:=⋯
    have f:n=e+v*m:=⋯
    rw[j,f];grind
theorem Xz{d:Nat}{x s:Dd}(b:0<x.2.2)(a:0<s.2.2):nQ (behD d x s)=mJ d (nQ x) (nQ s):=by
 obtain⟨c,e⟩:=Cong.red (wR a b) (Ku (N:=s.1) (Cong.rest a s.2.1) (Cong.rest b x.2.1));unfold mJ nQ behD;show(_,_,_)=(_,_,_);rw[Prod.mk.injEq,Prod.mk.injEq];exact⟨rfl,e,c⟩
theorem Sq.mul{n:Nat}{A B:LM}(a:Sq n A):Sq n (mulM n A B):=by
 refine⟨by simp[mulM,a.1],λr hr=>?_⟩;obtain⟨z,_,rfl⟩:=oZ.mp hr;simp
theorem gJ{d:Nat}:Sq d (idM d):=⟨by simp[idM],λr hr=>by
 obtain⟨i,_,rfl⟩:=oZ.mp hr;simp⟩
theorem mul2(a b c d e g f d':Int):mulM 2 [[a,b],[c,d]] [[e,g],[f,d']]=[[a*e+b*f,a*g+b*d'],[c*e+d*f,c*g+d*d']]:=by simp[mulM,dotI,colI,List.range,List.range.loop]
theorem mul3(a b c d e f g i j k q p d' l o g' n m:Int):mulM 3 [[a,b,c],[d,e,f],[g,i,j]] [[k,q,p],[d',l,o],[g',n,m]]=[[a*k+(b*d'+c*g'),a*q+(b*l+c*n),a*p+(b*o+c*m)],[d*k+(e*d'+f*g'),d*q+(e*l+f*n),d*p+(e*o+f*m)],[g*k+(i*d'+j*g'),g*q+(i*l+j*n),g*p+(i*o+j*m)]]:=by
 simp[mulM,dotI,colI,List.range,List.range.loop]
theorem mul_assoc{d:Nat}(r:d=2\/d=3){A B C:LM}(l:Sq d A)(m:Sq d B)(k:Sq d C):mulM d (mulM d A B) C=mulM d A (mulM d B C):=by
 rcases r with e|e <;> subst e
 ·obtain⟨a,b,c,d,rfl⟩:=sq2 l;obtain⟨q,v,p,d',rfl⟩:=sq2 m;obtain⟨n,b2,o,u,rfl⟩:=sq2 k;simp only[mul2,List.cons.injEq,and_true];refine⟨⟨?_,?_⟩,?_,?_⟩ <;> grind
 ·obtain⟨a,b,c,d,e,f,g,i,j,rfl⟩:=sq3 l;obtain⟨q,v,p,d',I,L,g',D,y,rfl⟩:=sq3 m;obtain⟨n,b2,o,u,J,x,F,z,G,rfl⟩:=sq3 k;simp only[mul3,List.cons.injEq,and_true];refine⟨⟨?_,?_,?_⟩,⟨?_,?_,?_⟩,?_,?_,?_⟩ <;> grind
theorem gK{d:Nat}(l:d=2\/d=3){A:LM}(k:Sq d A):mulM d (idM d) A=A/\mulM d A (idM d)=A:=by
 rcases l with e|e <;> subst e
 ·obtain⟨a,b,c,d,rfl⟩:=sq2 k;rw[id2,mul2,mul2];simp
 ·obtain⟨a,b,c,d,e,f,g,i,j,rfl⟩:=sq3 k;rw[id3,mul3,mul3];simp
theorem v2{v:LI'}(h:v.length=2):∃x y,v=[x,y]:=len2 h
theorem v3{v:LI'}(h:v.length=3):∃x y z,v=[x,y,z]:=len3 h
def mv(M:LM)(v:LI'):LI':=M.map λr=>dotI r v
def va(v w:LI'):LI':=List.zipWith (·+·) v w
theorem Xy{d:Nat}{A:LM}{v:LI'}(h:Sq d A):(mv A v).length=d:=by unfold mv;rw[zqe];exact h.1
theorem mv2(a b c e x y:Int):mv [[a,b],[c,e]] [x,y]=[a*x+b*y,c*x+e*y]:=by simp[mv,dotI]
theorem mv3(a b c d j i f e g x y z:Int):mv [[a,b,c],[d,j,i],[f,e,g]] [x,y,z]=[a*x+(b*y+c*z),d*x+(j*y+i*z),f*x+(e*y+g*z)]:=by simp[mv,dotI]
theorem Xx{d:Nat}(b:d=2\/d=3){v:LI'}(a:v.length=d):mv (idM d) v=v:=by
 rcases b with rfl|rfl
 ·obtain⟨x,y,rfl⟩:=v2 a;rw[id2,mv2];simp
 ·obtain⟨x,y,z,rfl⟩:=v3 a;rw[id3,mv3];simp
def smul(k:Int)(T:LI'):LI':=T.map λt=>k*t
theorem Xw{k:Int}{T:LI'}:(smul k T).length=T.length:=by unfold smul;rw[zqe]
structure Chg(d:Nat)(P P':LM):Prop where
 p:Sq d P
 q:Sq d P'
 l:mulM d P' P=idM d
 r:mulM d P P'=idM d
theorem Chg.id{d:Nat}(a:d=2\/d=3):Chg d (idM d) (idM d):=⟨gJ,gJ,(gK a gJ).1,(gK a gJ).1⟩
theorem Chg.then{d:Nat}(a:d=2\/d=3){P c R b:LM}(h:Chg d P c)(g:Chg d R b):Chg d (mulM d R P) (mulM d c b):=by
 refine⟨g.p.mul,h.q.mul,?_,?_⟩
 ·rw[mul_assoc a h.q g.q g.p.mul,←mul_assoc a g.q g.p h.p,g.l,(gK a h.p).1,h.l]
 ·rw[mul_assoc a g.p h.p h.q.mul,←mul_assoc a h.p h.q g.q,h.r,(gK a g.q).1,g.r]
def cjM(d:Nat)(P P' M:LM):LM:=mulM d (mulM d P M) P'
theorem dO{d:Nat}{P a:LM}(h:Chg d P a)(M:LM):Sq d (cjM d P a M):=h.p.mul.mul
theorem Xv{d:Nat}(c:d=2\/d=3){P b R a M:LM}(h:Chg d P b)(g:Chg d R a)(e:Sq d M):cjM d R a (cjM d P b M)=cjM d (mulM d R P) (mulM d b a) M:=by
 unfold cjM;rw[mul_assoc c g.p h.p e,←mul_assoc c (g.p.mul) h.q g.q,mul_assoc c g.p (h.p.mul) h.q]
def vs(v w:LI'):LI':=List.zipWith (· - ·) v w
theorem Xu{d:Nat}{v w:LI'}(b:v.length=d)(a:w.length=d):(va v w).length=d:=by unfold va;rw[xZ,b,a,Nat.min_self]
def cjT(d:Nat)(P P' M:LM)(ts S:LI'):LI':=vs (va (mv P ts) S) (mv (cjM d P P' M) S)
theorem Xt{d:Nat}(a:d=2\/d=3){P c A B:LM}(h:Chg d P c)(b:Sq d A)(e:Sq d B):mulM d (cjM d P c B) (cjM d P c A)=cjM d P c (mulM d B A):=by
 unfold cjM;rw[mul_assoc a h.p.mul h.q h.p.mul.mul,mul_assoc a h.p b h.q,←mul_assoc a h.q h.p b.mul,h.l,(gK a b.mul).1,←mul_assoc a h.p.mul b h.q,mul_assoc a h.p e b]
def stE(i j:Nat)(m:Int)(a b:Nat):Int:=if a=b then 1 else if a=i/\b=j then m else 0
def stM(d i j:Nat)(m:Int):LM:=(List.range d).map λa=>(List.range d).map λb=>if a=b then 1 else if a=i/\b=j then m else 0
def vst(i j:Nat)(m:Int)(v:LI'):LI':=v.set i (v.getD i 0+m*v.getD j 0)
def mixR(d:Nat)(x y:LI')(m:Int):LI':=(List.range d).map λk=>x.getD k 0+m*y.getD k 0
def colR(d i j:Nat)(m:Int)(row:LI'):LI':=(List.range d).map λk=>row.getD k 0-(if k=j then 1 else 0)*m*row.getD i 0
def Ah(d i j:Nat)(m:Int)(A:LM):LM:=(A.set i (mixR d (A.getD i []) (A.getD j []) m)).map (colR d i j m)
theorem bA{d i j:Nat}{m:Int}:Sq d (stM d i j m):=⟨by simp[stM],λr hr=>by
 obtain⟨a,_,rfl⟩:=oZ.mp hr;simp⟩
theorem bB{a:Type}{d k:Nat}{f:Nat->a}{z:a}(h:k<d):((List.range d).map f).getD k z=f k:=by
 rw[zqc,zH,xC h];rfl
theorem dP{a:Type}{d:Nat}{l:List a}{z:a}(h:l.length=d):l=(List.range d).map λk=>l.getD k z:=by
 refine tO (by simp[h]) λk b c=>?_;rw[tL,qI,zqc,zqd b];rfl
theorem El{b:Type}{d i:Nat}{f:Nat->b}{v:b}:((List.range d).map f).set i v=(List.range d).map λa=>if a=i then v else f a:=by
 refine tO (by simp) λk c g=>?_;rw[tL,qI,List.getElem_set]
 by_cases e:i=k
 ·rw[zF e,zF e.symm]
 ·rw[zD e,zD (zT e),tL,qI]
theorem iC{a:Type}{d:Nat}{f g:Nat->a}(h:∀k,k<d->f k=g k):(List.range d).map f=(List.range d).map g:=xS λk b=>h k (oY.mp b)
theorem dQ{x y:Int}{r c:LI'}:dotI (x:: r) (y:: c)=x*y+dotI r c:=by simp[dotI]
theorem Ek{n:Int}{a:Nat}:∀{c:LI'}{s:Nat},dotI ((List.range' s c.length).map λb=>if a=b then n else 0) c=if s<=a then n*c.getD (a-s) 0 else 0
 |[],s=>by simp[dotI]
 | x:: c,s=>by
  rw[zR,List.range'_succ,zO,dQ,Ek]
  by_cases h:a=s
  ·subst h;rw[zF rfl,zD ⋯,zF (zE _),vN,vC];rfl
  ·rw[zD h,uJ,rP]
   by_cases d:s<=a
   ·rw[zF d,zF ⋯,show a-s=(a-(s+1))+1 by omega];rfl
   ·rw[zD d,zD ⋯]
theorem Kt{f g:Nat->Int}:∀{l:List Nat}{c:LI'},dotI (l.map λb=>f b+g b) c=dotI (l.map f) c+dotI (l.map g) c
 |[],c=>by simp[dotI]
 |b:: l,[]=>by simp[dotI]
 |b:: l,x:: c=>by
  rw[zO,zO,zO,dQ,dQ,dQ,Kt,Int.add_mul];omega
theorem Ej{d a i j:Nat}(l:i≠j){m:Int}{c:LI'}(n:c.length=d):dotI ((List.range d).map (stE i j m a)) c=c.getD a 0+if a=i then m*c.getD j 0 else 0:=by
 have e:stE i j m a=λb=>(if a=b then(1:Int) else 0)+if j=b then(if a=i then m else 0) else 0:=funext λb=>by
  unfold stE
  by_cases k:a=b
  ·subst k;rw[zF rfl,zF rfl]
   by_cases f:j=a
   ·rw[zF f,zD (λz=>l ⋯),vC]
   ·rw[zD f,vC]
  ·rw[zD k,zD k,rP]
   by_cases f:j=b
   ·by_cases g:a=i
    ·rw[zF ⟨g,f.symm⟩,zF f,zF g]
    ·rw[zD (λz=>g z.1),zF f,zD g]
   ·rw[zD (λz=>f z.2.symm),zD f]
 subst n;rw[e,Kt,List.range_eq_range',Ek,Ek,zF (zY _),zF (zY _),oR];show c.getD a 0+_*c.getD j 0=_
 by_cases h:a=i
 ·rw[zF h,zF h]
 ·rw[zD h,zD h,uJ]
theorem Ks{A:LM}{a k:Nat}:(colI k A).getD a 0=(A.getD a []).getD k 0:=by
 unfold colI;rw[zqc,zH,zqc (l:=A)];cases A[a]? <;> rfl
theorem Kr:∀{r c:LI'},dotI r c=dotI c r
 |[],c=>by cases c <;> rfl
 |x:: r,[]=>rfl
 |x:: r,y:: c=>by rw[dQ,dQ,Kr,vD]
theorem Xs{i j a k:Nat}{n:Int}:stE i j n a k=stE j i n k a:=by
 unfold stE
 by_cases h:a=k
 ·rw[zF h,zF h.symm]
 ·rw[zD h,zD (zT h)]
  by_cases z:a=i/\k=j
  ·rw[zF z,zF z.symm]
  ·rw[zD z,zD (λw=>z w.symm)]
theorem Kq{d i j:Nat}{m:Int}(b:i≠j){A:LM}(c:A.length=d):mulM d (stM d i j m) A=(List.range d).map λa=>(List.range d).map λk=>(A.getD a []).getD k 0+if a=i then m*(A.getD j []).getD k 0 else 0:=by
 unfold mulM stM;rw[yW];refine iC λa _=>iC λk _=>?_;have e:(colI k A).length=d:=by unfold colI;rw[zqe,c]
 have:=Ej (a:=a) (m:=m) b e;rw[Ks,Ks]at this;exact this
theorem Xr{d i j:Nat}{n:Int}(c:i≠j){B:LM}(f:∀r∈B,r.length=d):mulM d B (stM d i j n)=B.map λr=>(List.range d).map λk=>r.getD k 0+if k=j then n*r.getD i 0 else 0:=by
 unfold mulM;refine xS λr hr=>iC λk b=>?_;have e:colI k (stM d i j n)=(List.range d).map (stE j i n k):=by
  unfold colI stM;rw[yW];refine iC λa _=>?_;show((List.range d).map (stE i j n a)).getD k 0=_;rw[bB b,Xs]
 rw[e,Kr,Ej (zT c) (f r hr)]
theorem Kp{d i j:Nat}{m:Int}(l:i≠j)(o:j<d):mulM d (stM d i j m) (stM d i j (-m))=idM d:=by
 rw[Kq l bA.1];unfold idM;refine iC λa g=>iC λk n=>?_;have e:∀a,a<d->(((stM d i j (-m)).getD a []).getD k 0)=stE i j (-m) a k:=λa g=>by
  unfold stM;rw[bB g];exact bB n
 rw[e a g,e j o];unfold stE
 by_cases f:a=k
 ·rw[zF f,zF f]
  by_cases b:a=i
  ·rw[zF b,zD ⋯,zD ⋯,oQ,vC]
  ·rw[zD b,vC]
 ·rw[zD f,zD f]
  by_cases b:a=i
  ·rw[zF b]
   by_cases c:k=j
   ·rw[zF ⟨b,c⟩,zF c.symm,oB,Int.add_left_neg]
   ·rw[zD (λz=>c z.2),zD (zT c),zD (λz=>c z.2),oQ,vC]
  ·rw[zD (λz=>b z.1),zD b,vC]
theorem Ko{d i j:Nat}{m:Int}(n:d=2\/d=3)(hi:i<d)(g:j<d)(b:i≠j):Chg d (stM d i j m) (stM d i j (-m))/\(∀v:LI',v.length=d->mv (stM d i j m) v=vst i j m v)/\∀A,Sq d A->Ah d i j m A=cjM d (stM d i j m) (stM d i j (-m)) A:=by
 refine⟨⟨bA,bA,?_,Kp b g⟩,λv f=>?_,λA c=>?_⟩
 ·have:=Kp (d:=d) (m:=-m) b g;rw[Int.neg_neg]at this;exact this
 ·unfold mv stM vst;rw[yW]
  conv=>rhs;rw[dP (z:=0) f,El,←dP f]
  refine iC λa _=>?_;show dotI ((List.range d).map (stE i j m a)) v=_;rw[Ej b f]
  by_cases h:a=i
  ·rw[zF h,zF h,h]
  ·rw[zD h,zD h,vC]
 ·unfold cjM;rw[Xr b bA.mul.2,Kq b c.1];unfold Ah;have e:A.set i (mixR d (A.getD i []) (A.getD j []) m)=(List.range d).map λa=>(List.range d).map λk=>(A.getD a []).getD k 0+if a=i then m*(A.getD j []).getD k 0 else 0:=by
   conv=>lhs;rw[dP (l:=A) (z:=[]) c.1,El,←dP c.1]
   refine iC λa l=>?_
   by_cases h:a=i
   ·rw[zF h];unfold mixR;refine iC λk _=>?_;rw[zF h,h]
   ·rw[zD h];have hr:(A.getD a []).length=d:=c.2 _ (by rw[zqc,zqd (by rw[c.1];exact l)];exact vK _)
    conv=>lhs;rw[dP (z:=0) hr]
    exact iC λk _=>by rw[zD h,vC]
  rw[e];refine xS λr _=>iC λk _=>?_
  by_cases h:k=j
  ·rw[zF h,zF h,oR,Int.neg_mul,Int.sub_eq_add_neg]
  ·rw[zD h,zD h,uJ,uJ,Int.sub_zero,vC]
structure Stp where
 i:Nat
 j:Nat
 m:Int
structure Stp.Ok(d:Nat)(s:Stp):Prop where
 hi:s.i<d
 hj:s.j<d
 ne:s.i≠s.j
 m2:s.m.natAbs<=1000000
def chP(d:Nat):List Stp->LM
 |[]=>idM d
 |s:: L=>mulM d (stM d s.i s.j s.m) (chP d L)
def chQ(d:Nat):List Stp->LM
 |[]=>idM d
 |s:: L=>mulM d (chQ d L) (stM d s.i s.j (-s.m))
theorem iD{d:Nat}(a:d=2\/d=3):∀{L:List Stp},(∀s∈L,s.Ok d)->Chg d (chP d L) (chQ d L)
 |[],_=>Chg.id a
 |s:: L,h=>by
  have o:=h s (yE ..);exact(iD a λz b=>h z (zU _ b)).then a (Ko a o.hi o.hj o.ne).1
theorem Xq{d:Nat}(a:d=2\/d=3){L:List Stp}(h:∀s∈L,s.Ok d){s:Stp}(o:s.Ok d){A:LM}(b:Sq d A):Ah d s.i s.j s.m (cjM d (chP d L) (chQ d L) A)=cjM d (chP d (s:: L)) (chQ d (s:: L)) A:=by
 have g:=(Ko (m:=s.m) a o.hi o.hj o.ne);rw[g.2.2 _ (dO (iD a h) A),Xv a (iD a h) g.1 b];rfl
theorem Xp{d:Nat}(a:d=2\/d=3){A:LM}(b:Sq d A){v:LI'}(c:v.length=d):cjM d (chP d []) (chQ d []) A=A/\mv (chP d []) v=v:=by
 refine⟨?_,Xx a c⟩;unfold chP chQ cjM;rw[(gK a b).1,(gK a b).2]
def LeM(N:Nat)(A:LM):Prop:=∀r∈A,∀z∈r,z.natAbs<=N
theorem Kn{d i j:Nat}{m:Int}{N:Nat}(h:m.natAbs<=N)(c:1<=N):LeM N (stM d i j m):=λr hr z e=>by
 obtain⟨a,_,rfl⟩:=oZ.mp hr;obtain⟨b,_,rfl⟩:=oZ.mp e;split
 ·exact c
 ·split
  ·exact h
  ·omega
theorem Km{A B:Nat}:∀(r ns:LI'),(∀z∈r,z.natAbs<=A)->(∀z∈ns,z.natAbs<=B)->(dotI r ns).natAbs<=r.length*(A*B)
 |[],ns,_,_=>by simp[dotI]
 |_:: _,[],_,_=>by simp[dotI]
 |a:: r,b:: ns,d,e=>by
  have i:=Km r ns (λz c=>d z (zU _ c)) λz c=>e z (zU _ c);unfold dotI at i ⊢;rw[wQ,List.sum_cons,zR,pK];have e1:(a*b).natAbs<=A*B:=by rw[xK];exact wY (d a yE) (e b yE)
  have j:=vW (a*b) (List.zipWith (λg f=>g*f) r ns).sum;omega
theorem Xo{N:Nat}{A:LM}(h:LeM N A)(k:Nat):∀z∈colI k A,z.natAbs<=N:=λz a=>by
 unfold colI at a;obtain⟨r,hr,rfl⟩:=oZ.mp a;rw[zqc];cases e:r[k]? with
 |none=>exact zY _
 |some y=>exact h r hr y (zqb e)
theorem bD{d A B:Nat}{M N:LM}(f:Sq d M)(e:LeM A M)(c:LeM B N):LeM (d*(A*B)) (mulM d M N):=λr hr z b=>by
 obtain⟨x,a,rfl⟩:=oZ.mp hr;obtain⟨k,_,rfl⟩:=oZ.mp b;have:=Km x (colI k N) (e x a) (Xo c k);rw[f.2 x a]at this;exact this
theorem Kl{c:Int}:∀{r v:LI'},dotI r (smul c v)=c*dotI r v
 |[],v=>by simp[dotI]
 |_:: _,[]=>by simp[dotI,smul]
 |a:: r,x:: v=>by
  have:=Kl (c:=c) (r:=r) (v:=v);unfold dotI smul at this ⊢;simp only[List.map_cons,List.zipWith_cons_cons,List.sum_cons];rw[this];grind
def canD(M:LM)(ts:LI')(U:Int):Dd:=(M,lR (redU U ts) (redT U ts),redU U ts)
theorem Kk{M:LM}{ts b:LI'}{U:Int}(c:0<U)(h:Cong U ts b):canD M ts U=canD M b U:=by
 obtain⟨a,d⟩:=h.red c;unfold canD;rw[a,←a,d,a]
theorem Ag{U:Int}{ts:LI'}(a:0<U):cs U ts=gl U ts/\0<cs U ts:=by
 have:=De ts (show U≠0 by omega);unfold cs;rw[zD ⋯];exact⟨rfl,this⟩
theorem Ei{U:Int}{ts:LI'}(b:0<U):∃c,0<c/\ts=smul c (redT U ts)/\U=c*redU U ts/\0<redU U ts:=by
 obtain⟨e,d⟩:=Ag (ts:=ts) b;refine⟨cs U ts,d,?_,?_,Ap ts ⋯⟩
 ·unfold smul redT;rw[yW]
  conv=>lhs;rw[←List.map_id ts]
  refine xS λt a=>?_;show t=cs U ts*t.fdiv (cs U ts);rw[vD];exact(gZ ⋯ (iR (Aq a))).symm
 ·rw[vD];exact(gZ ⋯ (iR (gl_u U ts))).symm
theorem Xn{U k:Int}{ts:LI'}(b:0<U)(a:0<k):redT (k*U) (smul k ts)=redT U ts/\redU (k*U) (smul k ts)=redU U ts:=by
 have d:0<k*U:=wR a b;have c:cs (k*U) (smul k ts)=k*cs U ts:=by
  rw[(Ag d).1,(Ag b).1,vD k U,vD k (gl U ts),←Wb a];unfold smul;congr 1;exact xS λt _=>vD k t
 have f:=(Ag (ts:=ts) b).2;refine⟨?_,?_⟩
 ·unfold redT;rw[c];unfold smul;rw[yW];exact xS λt e=>by
   show(k*t).fdiv (k*cs U ts)=_;exact Int.mul_fdiv_mul_of_pos _ _ a
 ·unfold redU;rw[c];exact Int.mul_fdiv_mul_of_pos _ _ a
theorem bE{M:LM}{U k:Int}{ts:LI'}(c:0<U)(b:0<k):canD M (smul k ts) (k*U)=canD M ts U:=by
 obtain⟨a,d⟩:=Xn (ts:=ts) c b;unfold canD;rw[a,d]
theorem Xm{N:LM}{ns ts:LI'}{c e u v:Int}:movT N (smul e ns) (e*v) (smul c ts) (c*u)=smul (e*c) (movT N ns v ts u):=by
 unfold movT
 induction N generalizing ns with
 |nil=>rfl
 | cons r N b =>
  cases ns with
  |nil=>rfl
  |cons n ns =>
   have:=b (ns:=ns);unfold smul at this ⊢;rw[zO,wQ,wQ,zO,this];have a:=Kl (c:=c) (r:=r) (v:=ts);unfold smul at a;rw[a];congr 1;grind
theorem Xl{d:Nat}{M N:LM}{ts ns:LI'}{U V:Int}(l:0<U)(i:0<V):mJ d (canD M ts U) (canD N ns V)=canD (mulM d N M) (movT N ns V ts U) (V*U):=by
 obtain⟨c,m,e1,g,b⟩:=Ei (ts:=ts) l;obtain⟨e,k,j,f,a⟩:=Ei (ts:=ns) i;have k1:canD (mulM d N M) (movT N ns V ts U) (V*U)=canD (mulM d N M) (movT N (redT V ns) (redU V ns) (redT U ts) (redU U ts)) (redU V ns*redU U ts):=by
  have hh:V*U=(e*c)*(redU V ns*redU U ts):=by
   conv=>lhs;rw[g,f]
   grind
  have n:movT N ns V ts U=smul (e*c) (movT N (redT V ns) (redU V ns) (redT U ts) (redU U ts)):=by
   rw[←Xm,←e1,←g,←j,←f]
  rw[hh,n,bE (wR a b) (wR k m)]
 rw[k1];exact Kk (wR a b) (Ku (Cong.rest a _) (Cong.rest b _)) |>.symm
def frD(d:Nat)(P P':LM)(s:LI')(su p:Int)(R:LM)(t:LI'):Dd:=canD (cjM d P P' R) (cjT d P P' R (smul su t) (smul p s)) (p*su)
theorem Xk{N:LM}{ns ts:LI'}{U:Int}:movT N ns U ts U=smul U (va (mv N ts) ns):=by
 unfold movT va mv
 induction N generalizing ns with
 |nil=>rfl
 | cons r N a =>
  cases ns with
  |nil=>rfl
  |cons n ns =>
   have:=a (ns:=ns);unfold smul at this ⊢;rw[wQ,zO,wQ,zO,this];congr 1;grind
theorem Xj{ss:List Dd}{k:Dd×Nat}(h:k∈ss.zipIdx):k.1∈ss/\ss[k.2]?=some k.1:=by
 obtain⟨i,hi⟩:=xW h;rw[rO]at hi;cases e:ss[i]? with
 |none=>rw[e]at hi;cases hi
 |some s =>
  rw[e]at hi;cases hi;exact⟨zqb e,by simpa using e⟩
theorem Xi{d:Nat}{ss:List Dd}{tb:Tb}{i:Nat}(h:(tb.map (·.1)).Nodup):((jB d ss tb i).map (·.1)).Nodup:=by
 unfold jB;split
 ·exact h
 ·exact Je _ _ h
theorem Kj{d:Nat}{ss:List Dd}:∀(n i:Nat)(tb:Tb),(tb.map (·.1)).Nodup->((mL d ss n i tb).map (·.1)).Nodup
 |0,_,_,h=>h
 |n+1,i,tb,h=>by
  unfold mL;split
  ·exact Kj n (i+1) _ (Xi h)
  ·exact h
abbrev tab(d:Nat)(ss:List Dd)(N:Nat):Tb:=mL d ss N 0 [(mO d,[])]
theorem Xh{d:Nat}{ss:List Dd}{N:Nat}:((tab d ss N).map (·.1)).Nodup:=Kj N 0 _ (by simp)
theorem Ki{d:Nat}{x:Dd}{w:List Nat}:∀(l:List (Dd×Nat))(tb:Tb),∀k∈l,mJ d x k.1∈(l.foldl (nxt d x w) tb).map (·.1)
 | k:: l,tb,k',a=>by
  rw[vA];rcases xL.mp a with rfl|a
  ·have h:mJ d x k'.1∈(nxt d x w tb k').map (·.1):=by
    unfold nxt;split
    ·assumption
    ·simp
   obtain⟨r,e⟩:=cX d x w l (nxt d x w tb k');rw[e,yX];exact xI _ h
  ·exact Ki l _ k' a
theorem Xg{d:Nat}{ss:List Dd}{tb:Tb}{i:Nat}{a:Dd×List Nat}(e:tb[i]?=some a){s:Dd}(b:s∈ss):mJ d a.1 s∈(jB d ss tb i).map (·.1):=by
 unfold jB;rw[e];obtain⟨j,c⟩:=xW b;exact Ki ss.zipIdx tb (s,j) (zqb (i:=j) (by rw[rO,c];simp))
theorem Xf{d:Nat}{ss:List Dd}{N:Nat}:(mO d,[])∈tab d ss N:=by
 obtain⟨r,e⟩:=Ex d ss N 0 [(mO d,[])];unfold tab;rw[e];simp
def famG:Nat->List LM
 |0=>[[[0,-1],[1,0]],[[-1,0],[0,1]]]
 |1=>[[[1,-1],[1,0]],[[0,1],[1,0]]]
 |2=>[[[0,-1,0],[1,0,0],[0,0,1]],[[0,0,1],[1,0,0],[0,1,0]],[[-1,0,0],[0,-1,0],[0,0,-1]]]
 |_=>[[[1,-1,0],[1,0,0],[0,0,1]],[[0,1,0],[1,0,0],[0,0,1]],[[1,0,0],[0,1,0],[0,0,-1]]]
def famD(k:Nat):Nat:=if k<2 then 2 else 3
def Xe(d:Nat)(gs l:List LM):List LM:=(l.flatMap λA=>gs.map λg=>mulM d g A).foldl (λacc M=>if acc.contains M then acc else acc++[M]) l
def Eh(d:Nat)(gs:List LM):Nat->List LM->List LM
 |0,l=>l
 |n+1,l=>Eh d gs n (Xe d gs l)
def pgL(k:Nat):List LM:=Eh (famD k) (famG k) 10 [idM (famD k)]
def invM(d:Nat)(A:LM):LM:=mulM d A (mulM d (mulM d A A) (mulM d (mulM d (mulM d A A) (mulM d A A)) (mulM d (mulM d A A) (mulM d A A))))
def Kh(k:Nat):Bool:=
 (pgL k).contains (idM (famD k)) && (famG k).all (λg=>(pgL k).contains g) &&
 (pgL k).all (λA=>(famG k).all λg=>(pgL k).contains (mulM (famD k) g A)) &&
 (pgL k).all (λA=>decide (mulM (famD k) A (invM (famD k) A)=idM (famD k)) && decide (mulM (famD k) (invM (famD k) A) A=idM (famD k))) &&
 (pgL k).all (λA=>decide (A.length=famD k) && A.all λr=>decide (r.length=famD k) && r.all λz=>decide (z.natAbs<=1))
theorem Xd:(List.range 4).all Kh=true:=nofun
theorem Xc(k:Nat):famD k=2\/famD k=3:=by unfold famD;split <;> simp
theorem Kg{M:LM}:∀(xs acc:List LM),M∈xs.foldl (λacc M=>if acc.contains M then acc else acc++[M]) acc->M∈acc\/M∈xs
 |[],_,h=>.inl h
 | x:: xs,acc,h=>by
  rcases Kg xs _ h with q|q
  ·dsimp only at q;split at q
   ·exact .inl q
   ·rcases oW.mp q with q|q
    ·exact .inl q
    ·exact .inr (by rw[oN.mp q];exact .head _)
  ·exact .inr (.tail _ q)
theorem Kf{P:LM->Prop}{d:Nat}{gs:List LM}(a:∀A,P A->∀g∈gs,P (mulM d g A)):∀(n:Nat)(l:List LM),(∀A∈l,P A)->∀M∈Eh d gs n l,P M
 |0,_,h=>h
 |n+1,l,h=>Kf a n _ λM c=>by
  rcases Kg _ _ c with q|q
  ·exact h M q
  ·obtain⟨A,e,q⟩:=List.mem_flatMap.mp q;obtain⟨g,b,rfl⟩:=oZ.mp q;exact a A (h A e) g b
structure Fam(k:Nat):Prop where
 one:idM (famD k)∈pgL k
 gen:∀g∈famG k,g∈pgL k
 mul:∀A∈pgL k,∀B∈pgL k,mulM (famD k) A B∈pgL k
 inv:∀A∈pgL k,∃B∈pgL k,mulM (famD k) A B=idM (famD k)/\mulM (famD k) B A=idM (famD k)
 sq:∀A∈pgL k,Sq (famD k) A
 wee:∀A∈pgL k,∀r∈A,∀z∈r,z.natAbs<=1
theorem Af{k:Nat}(o:k<4):Fam k:=by
 have h:=uI.mp Xd k (oY.mpr o);simp only[Kh,Bool.and_eq_true,List.all_eq_true,decide_eq_true_eq,List.contains_iff_mem]at h;obtain⟨⟨⟨⟨l,f⟩,p⟩,j⟩,d⟩:=h;have i:=Xc k;have b:∀A∈pgL k,Sq (famD k) A:=λA a=>⟨(d A a).1,λr hr=>((d A a).2 r hr).1⟩;have mul:∀A∈pgL k,∀B∈pgL k,mulM (famD k) A B∈pgL k:=λA a=>(Kf (P:=λA=>Sq (famD k) A/\∀B∈pgL k,mulM (famD k) A B∈pgL k) (gs:=famG k) (λA⟨n,q⟩g e=>⟨(b g (f g e)).mul,λB c=>by
  rw[mul_assoc i (b g (f g e)) n (b B c)];exact p _ (q B c) g e⟩) 10 [idM (famD k)] (λA a=>by
   rw[oN.mp a];exact⟨gJ,λB c=>by rw[(gK i (b B c)).1];exact c⟩) A a).2
 have sq2:=λA a=>mul A a A a;have sq4:=λA a=>mul _ (sq2 A a) _ (sq2 A a);exact⟨l,f,mul,λA a=>⟨invM (famD k) A,mul A a _ (mul _ (sq2 A a) _ (mul _ (sq4 A a) _ (sq4 A a))),j A a⟩,b,λA a r hr z m=>((d A a).2 r hr).2 z m⟩
theorem Xb{d:Nat}{c:Int}:smul c (List.replicate d 0)=List.replicate d 0:=by
 unfold smul;rw[List.map_replicate,oQ]
theorem Ke{d:Nat}(b:d=2\/d=3){M:LM}{U:Int}(a:0<U):canD M (List.replicate d 0) U=(M,List.replicate d 0,1):=by
 have h:=bE (M:=M) (ts:=List.replicate d 0) (U:=1) (k:=U) ⋯ a;rw[Xb,oB]at h;rw[h];have:lR (redU 1 (List.replicate d 0)) (redT 1 (List.replicate d 0))=List.replicate d 0/\redU 1 (List.replicate d 0)=1:=by
  rcases b with rfl|rfl <;> decide +kernel
 unfold canD;rw[this.1,this.2]
def Rs(d:Nat)(x:Dd):Prop:=∃M ts U,Sq d M/\ts.length=d/\0<U/\x=canD M ts U
structure Grp(d:Nat)(T:List Dd):Prop where
 dim:d=2\/d=3
 nd:T.Nodup
 rs:∀x∈T,Rs d x
 one:mO d∈T
 mul:∀x∈T,∀y∈T,mJ d x y∈T
 inv:∀x∈T,∃y∈T,mJ d x y=mO d/\mJ d y x=mO d
theorem LeM.le{A B:Nat}{M:LM}(h:LeM A M)(a:A<=B):LeM B M:=λr hr z b=>yC (h r hr z b) a
theorem bF{d:Nat}:LeM 1 (idM d):=λr hr z a=>by
 obtain⟨i,_,rfl⟩:=oZ.mp hr;obtain⟨j,_,rfl⟩:=oZ.mp a;split <;> decide
theorem Kd{U:Int}{ts:LI'}(i:0<U):(∀z∈redT U ts,∃t∈ts,z.natAbs<=t.natAbs)/\0<redU U ts/\redU U ts<=U:=by
 have b:=dL ts (show U≠0 by omega);have g:0<redU U ts:=Ap ts ⋯;refine⟨λz d=>?_,g,?_⟩
 ·unfold redT at d;obtain⟨t,c,rfl⟩:=oZ.mp d;refine⟨t,c,?_⟩;have e:t.fdiv (cs U ts)*cs U ts=t:=gZ b (iR (Aq c));have a:=wZ Int.natAbs e;rw[xK]at a;have:1<=(cs U ts).natAbs:=⋯
  rw[←a];exact Nat.le_mul_of_pos_right _ this
 ·have e:redU U ts*cs U ts=U:=gZ b (iR (gl_u U ts));have a:=wZ Int.natAbs e;rw[xK]at a;have f:1<=(cs U ts).natAbs:=⋯
  have:=Nat.le_mul_of_pos_right (redU U ts).natAbs f;omega
theorem fms(x y:Int)(h:0<y):0<=x.fmod y/\x.fmod y<y:=⟨uU x h,sG x h⟩
structure Amb(d:Nat)(G:Dd->Prop):Prop where
 dim:d=2\/d=3
 rs:∀x,G x->Rs d x
 fine:∀x,G x->kI d x
 one:G (mO d)
 mul:∀x y,G x->G y->G (mJ d x y)
 inv:∀x,G x->∃y,G y/\mJ d x y=mO d/\mJ d y x=mO d
theorem Kc{d:Nat}(b:d=2\/d=3):∀{L:List Stp},(∀s∈L,s.Ok d)->LeM (3000000^L.length) (chP d L)/\LeM (3000000^L.length) (chQ d L)
 |[],_=>⟨bF,bF⟩
 | s:: L,h=>by
  obtain⟨g,i⟩:=Kc b (L:=L) λz a=>h z (zU _ a);have o:=h s yE;have c:=iD b (L:=L) λz a=>h z (zU _ a);have f:=o.m2;rw[zR,sK];have e:d*(1000000*3000000^L.length)<=3000000^L.length*3000000:=by
   have:d*(1000000*3000000^L.length)<=3*(1000000*3000000^L.length):=wH _ ⋯;omega
  refine⟨(bD bA (Kn f ∅) g).le e,?_⟩;have:=bD c.q i (Kn (d:=d) (i:=s.i) (j:=s.j) (m:=-s.m) (N:=1000000) ⋯ ∅);rw[rS (3000000^L.length) 1000000]at this;exact this.le e
structure Fr4 where
 k:Nat
 L:List Stp
 U:Int
structure Fr4.Ok(F:Fr4):Prop where
 k:F.k<4
 ok:∀s∈F.L,s.Ok (famD F.k)
 l3:F.L.length<=3
 u0:0<F.U
 u1:F.U<2^100
def Fr4.cj(F:Fr4)(R:LM):LM:=cjM (famD F.k) (chP (famD F.k) F.L) (chQ (famD F.k) F.L) R
theorem Kb{C:LM}{ts:LI'}{U:Int}:nQ (canD C ts U)=canD C ts U:=by
 unfold canD nQ lR;show(_,_,_)=(_,_,_);rw[yW];congr 2;exact xS λy _=>Int.fmod_fmod _ _
structure Fr5 where
 d:Nat
 L:List Stp
 U:Int
structure Fr5.Ok(F:Fr5):Prop where
 d:F.d=2\/F.d=3
 ok:∀s∈F.L,s.Ok F.d
 l3:F.L.length<=3
 u0:0<F.U
 u1:F.U<2^100
def Fr5.cj(F:Fr5)(R:LM):LM:=cjM F.d (chP F.d F.L) (chQ F.d F.L) R
def Wr(d:Nat)(R:LM):Prop:=Sq d R/\LeM 27 R
theorem Ka{k:Nat}(a:k<4){R:LM}(h:R∈pgL k):Wr (famD k) R:=⟨(Af a).sq R h,λr hr z b=>yC ((Af a).wee R h r hr z b) ∅⟩
def InN(F:Fr5)(n:Nat)(x:Dd):Prop:=∃R,Sq F.d R/\LeM (81^n) R/\∃ts:LI',ts.length=F.d/\x=canD (F.cj R) ts F.U
theorem ac5(A N:Nat):3*(3*(A*N)*A)=N*(3*(3*A*A)):=by
 rw[rS N,qT 3 (3*A*A) N,qT (3*A) A N,qT 3 A (A*N),qT 3 (A*N) A,rS (A*N) A]
theorem Eg{F:Fr5}(h:F.Ok){R:LM}{N:Nat}(g:LeM N R):LeM (N*2^140) (F.cj R):=by
 have b:=h.d;have c:=iD b h.ok;obtain⟨d,i⟩:=Kc b h.ok;have a:3000000^F.L.length<=3000000^3:=yS ∅ h.l3;have j:=bD c.p (d.le a) g;have f:=bD (c.p.mul (B:=R)) j (i.le a);refine LeM.le f ?_;have e:F.d*(F.d*(3000000^3*N)*3000000^3)<=3*(3*(3000000^3*N)*3000000^3):=wY ⋯ (wH _ (wH _ ⋯));rw[ac5]at e;exact yC e (Nat.mul_le_mul_left N ∅)
theorem Xa{n:Nat}(h:n<=201):81^n*2^140<2^1500 :=
 wX (wH _ (yS ∅ h)) (nofun)
theorem Lz{F:Fr5}(h:F.Ok){R:LM}{n:Nat}(b:n<=201)(a:LeM (81^n) R):mV 1500 (F.cj R):=λr hr z c=>wX (Eg h a r hr z c) (Xa b)
theorem Yz{d B:Nat}{C:LM}{ts:LI'}{U:Int}(i:B<=200000)(e:Sq d C)(g:mV B C)(hl:ts.length=d)(f:0<U)(j:U<2^100):kI d (canD C ts U)/\jA 1000 (canD C ts U).2.1/\(canD C ts U).2.2<2^1000:=by
 obtain⟨_,r2,k⟩:=Kd (ts:=ts) f;have b:∀z∈(canD C ts U).2.1,z.natAbs<2^100:=λz a=>by
  obtain⟨y,_,rfl⟩:=oZ.mp a;have:=fms y _ r2;omega
 have c:(canD C ts U).2.2<2^100:=by
  show redU U ts<2^100;omega
 refine⟨⟨e,by show(lR _ (redT _ ts)).length=_;unfold lR redT;rw[zqe,zqe];exact hl,r2,λr hr z a=>zP (g r hr z a) (yS ∅ i),λz a=>?_,?_⟩,λz a=>?_,?_⟩
 ·exact zP (b z a) (yS ∅ ∅)
 ·exact Int.lt_of_lt_of_le c (nofun)
 ·exact zP (b z a) (yS ∅ ∅)
 ·exact Int.lt_of_lt_of_le c (nofun)
theorem Ae{F:Fr5}(h:F.Ok){n:Nat}{x:Dd}(e:n<=201)(c:InN F n x):kI F.d x/\mV 1500 x.1/\jA 1000 x.2.1/\x.2.2<2^1000:=by
 obtain⟨R,i,d,ts,hl,rfl⟩:=c;have b:=Lz h e d;obtain⟨g,a,f⟩:=Yz (ts:=ts) ∅ (dO (iD h.d h.ok) R) b hl h.u0 h.u1;exact⟨g,b,a,f⟩
theorem Yy{F:Fr5}(h:F.Ok){a R2:LM}(b:Sq F.d a)(c:Sq F.d R2){ts ns:LI'}:mJ F.d (canD (F.cj a) ts F.U) (canD (F.cj R2) ns F.U)=canD (F.cj (mulM F.d R2 a)) (va (mv (F.cj R2) ts) ns) F.U:=by
 rw[Xl h.u0 h.u0,Xk,bE h.u0 h.u0];unfold Fr5.cj;rw[Xt h.d (iD h.d h.ok) b c]
theorem Yx{F:Fr5}(h:F.Ok):InN F 0 (mO F.d):=by
 have c:=iD h.d h.ok;have e:F.cj (idM F.d)=idM F.d:=by
  unfold Fr5.cj cjM;rw[(gK h.d c.p).2,c.r]
 exact⟨_,gJ,bF,List.replicate F.d 0,by simp,by rw[e,Ke h.d h.u0];rfl⟩
def MkN(F:Fr5)(s:Dd):Prop:=kI F.d s/\∃R,Wr F.d R/\∃ns:LI',ns.length=F.d/\nQ s=canD (F.cj R) ns F.U
theorem Ef{F:Fr5}(h:F.Ok){ms:List Dd}(d:∀s∈ms,MkN F s):Ak F.d ms (InN F):=by
 have one:∀s∈ms,InN F 1 (nQ s):=λs a=>by
  obtain⟨_,R,⟨i,k⟩,ns,c,e⟩:=d s a;exact⟨R,i,LeM.le k ∅,ns,c,e⟩
 refine⟨λs a=>(d s a).1,λs a=>(Ae h ∅ (one s a)).1,λn x j b=>(Ae h j b).1,Yx h,λn x s _ b a=>?_⟩;obtain⟨l,g,b1,ts,lt,rfl⟩:=b;obtain⟨_,R2,⟨f,b2⟩,ns,c,e⟩:=d s a;rw[e,Yy h g f];refine⟨_,f.mul,LeM.le (bD f b2 b1) ?_,_,Xu (Xy (dO (iD h.d h.ok) R2)) c,rfl⟩;rw[sK];have:=h.d;have e:F.d*(27*81^n)<=3*(27*81^n):=wH _ ⋯;omega
def Mkr(d:Nat)(L:List Stp)(su:Int)(x:Dd):Prop:=∃R,Wr d R/\∃(ts:LI')(u:Int),ts.length=d/\jA 250 ts/\0<u/\u<=200/\x=(cjM d (chP d L) (chQ d L) R,redT (u*su) ts,redU (u*su) ts)
theorem Ly{d:Nat}{L:List Stp}{i:Int}:∀{ms:List Dd},(∀m∈ms,Mkr d L i m)->∃V:Int,0<V/\V<=((200^ms.length:Nat):Int)/\∀m∈ms,∃R,Wr d R/\∃(ts:LI')(u:Int),ts.length=d/\jA 250 ts/\0<u/\u<=200/\u∣V/\m=(cjM d (chP d L) (chQ d L) R,redT (u*i) ts,redU (u*i) ts)
 |[],_=>⟨1,∅,∅,λ_ h=>(by cases h)⟩
 | m:: ms,h=>by
  obtain⟨V,q,n,l⟩:=Ly (ms:=ms) λx c=>h x (.tail _ c);obtain⟨R,f,ts,u,lt,g,k,j,e⟩:=h m (.head _);refine⟨u*V,wR k q,?_,λx c=>?_⟩
  ·rw[zR,sK,Int.natCast_mul,vD];exact qB n j ⋯ ⋯
  ·rcases xL.mp c with rfl|c
   ·exact⟨R,f,ts,u,lt,g,k,j,⟨V,rfl⟩,e⟩
   ·obtain⟨R,f,ts,p,lt,g,a,b,o,e⟩:=l x c;exact⟨R,f,ts,p,lt,g,a,b,Int.dvd_trans o ⟨u,vD _ _⟩,e⟩
theorem Yw{d:Nat}{L:List Stp}{a:Int}{ms:List Dd}(l:d=2\/d=3)(n:∀s∈L,s.Ok d)(x:L.length<=3)(b:0<a)(g:a<=1000)(hl:ms.length<=3)(h:∀m∈ms,Mkr d L a m):∃F:Fr5,F.d=d/\F.Ok/\∀m∈ms,MkN F m/\mV 1500 m.1/\jA 1000 m.2.1/\m.2.2<2^1000:=by
 obtain⟨V,k,p,v⟩:=Ly (ms:=ms) h;have v2:V<=8000000:=Int.le_trans p (Int.ofNat_le.mpr (yC (yS ∅ hl) ∅));have y:0<V*a:=wR k b;have G:V*a<=8000000*1000:=qB v2 g ⋯ ∅;have M:V*a<2^100:=qH G ∅;have F:(⟨d,L,V*a⟩:Fr5).Ok:=⟨l,n,x,y,M⟩;refine⟨⟨d,L,V*a⟩,rfl,F,λm S=>?_⟩;obtain⟨R,j,ts,u,lt,N,c,I,⟨w',i⟩,rfl⟩:=v m S;have us:0<u*a:=wR c b;obtain⟨r1,r2,T⟩:=Kd (ts:=ts) us;have us2:u*a<=200*1000:=qB I g ⋯ ⋯;have e:mV 1500 (cjM d (chP d L) (chQ d L) R):=Lz (n:=1) F ∅ (LeM.le j.2 ∅);have o:∀B,250<=B->jA B (redT (u*a) ts):=λB r z J=>by
  obtain⟨t,C,D⟩:=r1 z J;exact wX D (zP (N t C) (yS ∅ r))
 have f:redU (u*a) ts<=200000:=⋯
 refine⟨⟨⟨dO (iD l n) R,by unfold redT;rw[zqe];exact lt,r2,mV.le e ∅,o _ ∅,?_⟩,R,j,smul w' ts,by rw[Xw];exact lt,?_⟩,e,o _ ∅,?_⟩
 ·show redU (u*a) ts<_;exact qH f (nofun)
 ·have q:0<w':=Classical.byContradiction λO=>absurd (i ▸ k:0<u*w') (Int.not_lt.mpr (Int.mul_nonpos_of_nonneg_of_nonpos (uK c) (Int.not_lt.mp O)));show canD _ ts (u*a)=canD _ (smul w' ts) (V*a);rw[i,show u*w'*a=w'*(u*a) by grind,bE (wR c b) q];rfl
 ·show redU (u*a) ts<_;exact qH f (nofun)
structure Rw(H0 H:Hp)(a:Addr)(M:LM):Prop where
 s:Same H0 H
 n:H0 a=none
 m:MatD H0 H a M
theorem Rw.up{b H H':Hp}{a:Addr}{M:LM}(h:Rw b H a M)(s:Same H H'):Rw b H' a M:=⟨h.s.trans s,h.n,h.m.up s⟩
def sp_l:Sp:=λvs H Q _=>E1 λ(n:Nat)=>A3 (vs=[.int n]) (n<=4) (∀r H',Rw H H' r (idM n)->Q (.ref r) H')
def sp_j(K:Frag):Sp:=λvs H Q _=>E9 λ(b1 b2 b3 b4:Bool)(a b:Addr)(A B:LM)(d:Nat)=>A9 (vs=[.ref a,.ref b]) (MatB b1 b2 K H a A) (MatB b3 b4 K H b B) (Sq d A) (Sq d B) ((d=2\/d=3)) (mV 1500 A) (mV 1500 B) (∀r H',Rw H H' r (mulM d A B)->Q (.ref r) H')
def sp_m(K:Frag):Sp:=λvs H Q _=>E8 λ(b1 b2 b3:Bool)(a l:Addr)(M:LM)(ns:LI')(u:Int)=>A8 (vs=[.ref a,.ref l,.int u]) (MatB b1 b2 K H a M) (SqB b3 K H l (ns.map V.int)) (M.length<=100) (ns.length<=100) (0<u) (jK u) (∀r H',Same H H'->DdAt K H' r (canD M ns u)->Q (.ref r) H')
def sp_11(K:Frag):Sp:=λvs H Q _=>E8 λ(b1 b2 b3:Bool)(a l:Addr)(M:LM)(ns:LI')(u:Int)=>A8 (vs=[.ref a,.ref l,.int u]) (MatB b1 b2 K H a M) (SqB b3 K H l (ns.map V.int)) (M.length<=100) (ns.length<=100) (0<u) (jK u) (∀r H',Same H H'->DdAt K H' r (M,redT u ns,redU u ns)->Q (.ref r) H')
def sp_6(K:Frag):Sp:=λvs H Q _=>E5 λ(p q:Addr)(x y:Dd)(d:Nat)=>A17 (vs=[.ref p,.ref q]) (DdS K H p x) (DdS K H q y) ((d=2\/d=3)) (Sq d x.1) (Sq d y.1) (x.2.1.length=d) (y.2.1.length=d) (0<x.2.2) (0<y.2.2) (mV 1500 x.1) (mV 1500 y.1) (jA 1000 x.2.1) (jA 1000 y.2.1) (x.2.2<2^1000) (y.2.2<2^1000) (∀r H',Same H H'->DdAt K H' r (mJ d x y)->Q (.ref r) H')
theorem dvs(x y:Int)(a:y≠0)(b:y.natAbs<1073741824):fL x y:=⟨a,zP ((Nat.log2_lt ⋯).mpr (show y.natAbs<2^30 from b)) ∅⟩
theorem dR{H H':Hp}{b:Addr}(s:Same H H')(h:H' b=none):H b=none:=by
 cases q:H b with
 |none=>rfl
 |some o=>rw[s _ _ q]at h;cases h
theorem MatD.app{d H c:Hp}{a l:Addr}{M:LM}{r:LI'}(h:MatD d H a M)(s:Same H c)(hl:H l=none)(D:d l=none)(e:c l=some (.lst (r.map V.int))):∃zs,c a=some (.lst zs)/\zs.length=M.length/\MatD d (upd c a (.lst (zs++[.ref l]))) a (M++[r]):=by
 obtain⟨ps,g,f,x,n⟩:=h;have k:l≠a:=λz=>by rw[z,g]at hl;cases hl
 refine⟨ps.map V.ref,s _ _ g,by rw[zqe,f],ps++[l],by rw[nN,yX];rfl,by simp[f],?_,λi p q e1 b=>?_⟩
 ·rw[qX];refine⟨x,by simp,λz u w y=>?_⟩;rw[oN.mp y];obtain⟨j,G,C⟩:=wP u;exact lI (n j z M[j] (by simp[G,C]) (by simp[show j<M.length by omega])).2.2 hl
 ·by_cases hi:i<ps.length
  ·rw[yB hi]at e1;rw[yB ⋯]at b;obtain⟨m,F,v⟩:=n i p q e1 b;exact⟨m,F,by rw[nO m];exact s _ _ v⟩
  ·have o:i=ps.length:=by have:=(zqa e1).1;simp at this;omega
   subst o;rw[zX (zE _)]at e1;rw[f,zX (zE _)]at b;simp at e1 b;subst e1 b;exact⟨k,D,by rw[nO k];exact e⟩
theorem MatD.nil{b H:Hp}{a:Addr}(e:H a=some (.lst [])):MatD b H a []:=⟨[],e,rfl,tD,λi p r e1=>by simp at e1⟩
theorem Yv{lo:Int}{n:Nat}{H:Hp}{a:Addr}{fr:List (Str×Nat)}{M:St}{te:TE}{Q:VK}(f:Nat->LI')(T:H a=none)(D:n<=1000)
  (Z:∀(i:Nat) b zs,i<n->Same H b->b a=some (.lst zs)->∀I:VK,(∀p g,Same b g->b p=none->g p=some (.lst ((f i).map V.int))->I (.ref p) g)->te (some (.int (lo+i)):: lV fr M) b I)
  (Y:∀b,Same H b->MatD H b a ((List.range n).map f)->Q (.ref a) b):kL (Itr lo n) (nX 0) (tEl te) 1 fr M a H Q:=by
 refine aB n (λi zs b=>∃ps:LA,zs=ps.map V.ref/\ps.length=i/\ps.Nodup/\∀(j:Nat)(p:Addr),ps[j]?=some p->p≠a/\H p=none/\b p=some (.lst ((f j).map V.int))) T D ⟨[],rfl,rfl,tD,λj p e=>by simp at e⟩
  (λi zs b⟨ps,e,l,_⟩=>by rw[e,zqe,l];exact zE _) (λi zs b g⟨ps,e,l,n,q⟩s=>⟨ps,e,l,n,λj p e1=>⟨(q j p e1).1,(q j p e1).2.1,s _ _ (q j p e1).1 (q j p e1).2.2⟩⟩)
  (λi b hi s=>hi) (λb s=>zE _) ?_ ?_
 ·rintro i b zs hi k L ⟨ps,rfl,u,F,m⟩ ys x U R X C S _;obtain⟨e1,v⟩:=X;subst e1 v
  match ys,R with
  | [o],_ =>
   refine⟨⟨[_],rfl,rfl⟩,Z i U _ hi k L _ λp g J y e=>S _ _ J ⟨ps++[p],by simp,by simp[u],?_,λj q c=>?_⟩⟩
   ·rw[qX];refine⟨F,by simp,λz D w W=>?_⟩;rw[oN.mp W];obtain⟨j,d,G⟩:=wP D;exact lI (m j z (by simp[d,G])).2.2 y
   ·by_cases d:j<ps.length
    ·rw[yB d]at c;obtain⟨O,a0,N⟩:=m j q c;exact⟨O,a0,J _ _ N⟩
    ·have G:j=ps.length:=by have:=(zqa c).1;simp at this;omega
     subst G;rw[zX (zE _)]at c;simp at c;subst c;rw[u];exact⟨zT (lI L y),dR k y,e⟩
 ·rintro b ys k e1 ⟨ps,rfl,u,F,m⟩;refine Y b k ⟨ps,e1,by simp[u],F,λj p r v c=>?_⟩;have d:j<n:=by have:=(zqa v).1;omega
  rw[zH,xC d]at c;cases c;exact m j p v
theorem ok_l(T:Txt K mg t):FnOk P w K mg base CX0 1 t.a_l t.d_l ["_law_d"] sp_l:=by
 apply T.F_l.ok sc_l
 ·obtain⟨n,rfl,W,G⟩:=h;refine⟨_,(nM (nV (hX (xs:=["_law_i"]) (fr:=[("_law_d",0)]) (g:=(nX 0)) (tt:=(tEl (kW (mY (mH (tVar 1) tNil)) (nX 0) (tEl (tCB (λxs H Q=>(∃i,xs=[.int i]/\Q (.int i) H)\/∃k,xs=[.bl k]/\Q (.int (if k then 1 else 0)) H) (mH (tOp (rI0 λi j=>.bl (decide (i=j))) (tVar 1) (tVar 0)) tNil))) 1 [("_law_i",0)]))) (jW (sc:=nP Az) (N:=N_l) rfl rfl (nofun)) rfl (lG rfl T.z_range (nH (pq 0) nI)) (λ_ _ _ a=>(cJ (N:=["_law_i","_law_d"]) (i:=0) a rfl (nofun) rfl)) (λ_ _ _ a=>(iM (lE (N:=["_law_i","_law_d"]) (fr:=[("_law_i",0)]) (te:=(tCB (λxs H Q=>(∃i,xs=[.int i]/\Q (.int i) H)\/∃k,xs=[.bl k]/\Q (.int (if k then 1 else 0)) H) (mH (tOp (rI0 λi j=>.bl (decide (i=j))) (tVar 1) (tVar 0)) tNil))) a rfl (nofun) rfl (nofun) (lG rfl T.z_range (nH (pv 1) nI)) (λ_ _ _ N=>(lK Fn rfl T.z_int (nofun) (nH (dW kK (pv 1) (pv 0) (mD _)) nI))))))))),?_⟩;show tRet _ _ [some (.int n)] H;ext;refine mK λB eB=>?_;simp only[mY];ext;refine⟨⋯,⋯,λC b=>?_⟩;rw[zS];refine Yv (λi=>(List.range n).map λk=>if i=k then(1:Int) else 0) b ⋯ ?_ λm D l=>G C m ⟨D,b,l⟩;intro i J zs hi O R p x;subst eB;show kW _ _ _ _ _ [some (.int (0+(i:Int))),some (.int n)] J p;refine mK λB eB=>?_;simp only[mY];ext;refine⟨⋯,⋯,λM f=>?_⟩;rw[zS];refine jG (λk y _=>k<n/\y=.int (if i=k then 1 else 0)) f ⋯ (λ_ _ _ _ r _=>r) ?_ ?_
  ·intro k d U u c S I q;subst eB;show tCB _ _ [some (.int (0+(k:Int))),some (.int (0+(i:Int)))] d I;ext;refine .inr (q _ _ (Same.refl _) ⟨u,?_⟩)
   by_cases z:i=k
   ·rw[zF z,zM ⋯];rfl
   ·rw[zD z,zJ ⋯];rfl
  ·intro d ys c o g L;have F:ys=((List.range n).map λk=>if i=k then(1:Int) else 0).map V.int:=by
    refine kE (by simpa using g) λj y e=>?_;obtain⟨v,rfl⟩:=L j y e;exact⟨_,by rw[zH,xC v];rfl,rfl⟩
   subst F;exact x _ _ c f o
theorem ok_j(T:Txt K mg t):FnOk P w K mg base CX0 1 t.a_j t.d_j po' (sp_j K):=by
 apply T.F_j.ok sc_j
 ·obtain⟨b1,b2,d3,c3,a,b,f,c,d,rfl,U,a2,v,D,d0,b3,b8,q⟩:=h;refine⟨_,(nJ (nU (i:=2) sc_j.nd rfl (Or.inr rfl) (lC T.z_len (pq 0)))
   (nJ (nU (i:=3) sc_j.nd rfl (Or.inl rfl) (mQ nI))
   (nJ (lJ yD rfl (lG rfl T.z_range (nH (pq 2) nI)) (mP (i:=4) sc_j.nd rfl (Or.inr rfl))
   (nM (gM (eJ wL vE vB eK (pq 3) (nH (hX (xs:=["_law_k"]) (fr:=[("_law_one",0),("_law_other",1),("_law_d",2),("_law_i",4)]) (g:=(nX 0)) (tt:=(tEl (tCB (λxs H Q=>∃(p:Addr)(ns:LI'),xs=[.ref p]/\SqL K H p (ns.map V.int)/\Q (.int ns.sum) H) (mH (kW (mY (mH (tVar 3) tNil)) (nX 0) (tEl (tOp (rI (λi j=>IntMulOk i j) λi j=>.int (i*j)) (tOp (rIxB K) (tOp (rIxB K) (tVar 2) (tVar 4)) (tVar 0)) (tOp (rIxB K) (tOp (rIxB K) (tVar 3) (tVar 0)) (tVar 1)))) 1 [("_law_k",0),("_law_one",1),("_law_other",2),("_law_i",4)]) tNil)))) (jW (sc:=nP Ay) (N:=N_j) rfl rfl (nofun)) rfl (lG rfl T.z_range (nH (pq 2) nI)) (λ_ _ _ O=>(cJ (N:=["_law_k","_law_one","_law_other","_law_d","_law_i"]) (i:=0) O rfl (nofun) rfl)) (λ_ _ _ O=>(iM (mS (bZ rfl) rfl T.z_sum (nofun) (nH (lE (N:=["_law_k","_law_one","_law_other","_law_d","_law_i"]) (fr:=[("_law_k",0),("_law_one",1),("_law_other",2),("_law_i",4)]) (te:=(tOp (rI (λi j=>IntMulOk i j) λi j=>.int (i*j)) (tOp (rIxB K) (tOp (rIxB K) (tVar 2) (tVar 4)) (tVar 0)) (tOp (rIxB K) (tOp (rIxB K) (tVar 3) (tVar 0)) (tVar 1)))) O rfl (nofun) rfl (nofun) (lG rfl T.z_range (nH (pv 3) nI)) (λ_ _ _ c2=>(nR mZ (mG ix_B (mG ix_B (pv 2) (pv 4) (λ_ _=>rfl)) (pv 0) (λ_ _=>rfl)) (mG ix_B (mG ix_B (pv 3) (pv 0) (λ_ _=>rfl)) (pv 1) (λ_ _=>rfl))))) nI))))) nI)))))
   (nM (nV (pq 3)))))),?_⟩
  show tSeq _ _ _ [some (.ref a),some (.ref b),none,none,none] H;right;refine fM U ?_
  try ext
  rw[v.1];left;refine⟨zY _,λm I=>?_⟩;subst e1;refine st λN1 e1=>lN λM eB=>?_;simp only[mY];ext;have b7:Same H (upd H m (.lst [])):=Same.new I;refine⟨⋯,⋯,?_⟩;rw[zS];refine gD (n:=d) (g:=nX 4) (tb:=M) (λi R g=>∃G,R=[some (.ref a),some (.ref b),some (.int d),some (.ref m),G]/\Same H g/\MatD H g m ((mulM d f c).take i)) ⟨_,rfl,b7,MatD.nil nN⟩ ?_ ?_
  ·rintro i R g hi ⟨G,rfl,l,n⟩;have z:f[i]?=some (f.getD i []):=by have:=v.1;simp[show i<f.length by omega]
   have c5:(f.getD i []).length=d:=v.2 _ (zqb z);have a9:=Qe (w:=d) (B:=c) z;subst eB;show Fs _ _ [some (.ref a),some (.ref b),some (.int d),some (.ref m),some (.int (0+(i:Int)))] g;ext;obtain⟨d1,a1⟩:∃zs,g m=some (.lst zs):=let ⟨ps,h,_⟩:=n;⟨_,h⟩
   refine⟨.inl ⟨rfl,_,SqL.of a1⟩,?_⟩;refine mK λM eB=>?_;simp only[mY];ext;refine⟨⋯,⋯,λc4 J=>?_⟩;rw[zS];refine jG (len:=d) (λj y _=>j<d/\y=.int (dotI (f.getD i []) (colI j c))) J ⋯ (λ_ _ _ _ r _=>r) ?_ ?_
   ·intro j X zs L o c7 a5 a8;subst eB;show tCB _ _ [some (.int (0+(j:Int))),some (.ref a),some (.ref b),some (.int d),some (.int (0+(i:Int)))] X a5;ext;refine mK λM eB=>?_;simp only[mY];ext;refine⟨⋯,⋯,λa0 a7=>?_⟩;rw[zS];refine jG (len:=d) (λk y _=>∃x,(List.zipWith (·*·) (f.getD i []) (colI j c))[k]?=some x/\y=.int x) a7 ⋯ (λ_ _ _ _ r _=>r) ?_ ?_
    ·intro k W d2 c6 u c9 b0 a6;have C:c[k]?=some (c.getD k []):=by have:=D.1;simp[show k<c.length by omega]
     have c8:(c.getD k []).length=d:=D.2 _ (zqb C);have F:k<(f.getD i []).length:=⋯
     subst eB;show tOp _ _ _ [some (.int (0+(k:Int))),some (.int (0+(j:Int))),some (.ref a),some (.ref b),some (.int (0+(i:Int)))] W b0;ext;refine gE (((U.up l).up o).up u) z (L2.getD_at F) ⋯ ⋯ ?_;refine gE (((a2.up l).up o).up u) C (getD_at (k:=j) ⋯) ⋯ ⋯ ?_;ext;refine⟨xF (mW (b3 _ (zqb z) _ (L2.getD_mem F))) (mW (b8 _ (zqb C) _ (L2.getD_mem ⋯))) ∅,a6 _ _ (Same.refl _) ⟨_,?_,rfl⟩⟩;have b5:(colI j c)[k]?=some ((c.getD k []).getD j 0):=by unfold colI;rw[zH,C];rfl
     rw[wB,L2.getD_at F,b5]
    ·intro W ys u a4 S c1;have N:ys=(List.zipWith (·*·) (f.getD i []) (colI j c)).map V.int:=by
      refine kE (by have:=D.1;simp only[zqe,List.length_zipWith,colI];omega) λk y e=>?_;obtain⟨x,b9,rfl⟩:=c1 k y e;exact⟨x,b9,rfl⟩
     subst N;exact⟨a0,rfl,_,SqL.of a4,a8 _ _ u ⟨L,rfl⟩⟩
   ·intro X ys o c0 S b6;have N:ys=((List.range d).map λk=>dotI (f.getD i []) (colI k c)).map V.int:=by
     refine kE (by simpa using S) λj y e=>?_;obtain⟨L,rfl⟩:=b6 j y e;exact⟨_,by rw[zH,xC L];rfl,rfl⟩
    subst N;obtain⟨zs,Z,b4,Y⟩:=MatD.app n o J (dR l J) c0;refine⟨m,zs,_,rfl,rfl,Z,fK (by rw[b4,yG];omega),?_⟩;have a3:(mulM d f c).take (i+1)=(mulM d f c).take i++[(List.range d).map λk=>dotI (f.getD i []) (colI k c)]:=by rw[yY,a9];rfl
    refine⟨Same.over I (l.trans o),?_⟩;rw[a3];exact Y
  ·rintro R g ⟨G,rfl,l,n⟩;symm;rw[yJ (by simp[mulM,v.1])]at n;exact q m g ⟨l,I,n⟩
abbrev Box:=Int×Int×Int
def bxO(b:Box):HO:=.lst [.int b.1,.int b.2.1,.int b.2.2]
structure BxOk(B:Nat)(b:Box):Prop where
 x0:0<=b.1
 y0:0<=b.2.1
 y1:b.2.1<2147483647
 z0:0<=b.2.2
 z1:b.2.2<=B
theorem BxOk.le{b:Box}{B a:Nat}(h:BxOk B b)(l:B<=a):BxOk a b:=⟨h.x0,h.y0,h.y1,h.z0,by have:=h.z1;omega⟩
def tkN(b:Box):Int:=(b.2.1*48271+12347+(b.2.2+1)*7919+(b.2.2+1)*(b.2.2+1)*39373).fmod 2147483563
def tkV(b:Box)(many:Int):Int:=if 0<b.1 then b.1.fmod many else(((tkN b*tkN b).fmod 2147483549).fdiv 7).fmod many
def tkB(b:Box)(many:Int):Box:=if 0<b.1 then(b.1.fdiv many,b.2) else(b.1,b.2.1,b.2.2+1)
def bxF(ns:LI')(k:Nat):Box:=(if 1000000000000000000<=ns.getD k 0 then ns.getD k 0 else 0,(ns.getD k 0).fmod 2147483647,100*(k:Int))
def sp_w(K:Frag):Sp:=λvs H Q _=>E3 λ(p:Addr)(ns:LI')(k:Nat)=>A4 (vs=[.ref p,.int k]) (SqL K H p (ns.map V.int)) (k<=1000) (∀r H',Same H H'->H r=none->H' r=some (bxO (bxF ns k))->Q (.ref r) H')
def sp_1:Sp:=λvs H Q _=>E4 λ(a:Addr)(many:Int)(b:Box)(B:Nat)=>A7 (vs=[.ref a,.int many]) (H a=some (bxO b)) (BxOk B b) (B<=1000000) (1<=many) (many<1073741824) (∀H',(∀c,c≠a->H' c=H c)->H' a=some (bxO (tkB b many))->Q (.int (tkV b many)) H')
theorem Yu{x y:Int}(a:0<=x)(b:0<y):0<=x.fdiv y:=by
 rw[Int.fdiv_eq_ediv_of_nonneg _ ⋯];exact Int.ediv_nonneg a ⋯
theorem fms1(x y:Int)(h:0<y):0<=x.fmod y/\x.fmod y<y:=⟨uU x h,sG x h⟩
theorem m40{x y:Int}(a:x.natAbs<1099511627776)(b:y.natAbs<1099511627776):IntMulOk x y:=xF (mW (B:=40) a) (mW (B:=40) b) ∅
theorem mM{b:Box}{B:Nat}{many:Int}(h:BxOk B b)(f:1<=many):(0<=tkV b many/\tkV b many<many)/\BxOk (B+1) (tkB b many):=by
 obtain⟨a,d,c,e,g⟩:=h;unfold tkV tkB;split
 ·exact⟨fms1 _ _ ⋯,⟨Yu a ⋯,d,c,e,by show b.2.2<=_;omega⟩⟩
 ·exact⟨fms1 _ _ ⋯,⟨a,d,c,by show 0<=b.2.2+1;omega,by show b.2.2+1<=_;omega⟩⟩
theorem fW{ns:LI'}{k:Nat}:BxOk (100*k) (bxF ns k):=by
 have f:=fms1 (ns.getD k 0) 2147483647 ∅;refine⟨?_,f.1,f.2,?_,?_⟩
 ·show 0<=(if 1000000000000000000<=ns.getD k 0 then ns.getD k 0 else 0);split <;> omega
 ·show 0<=100*(k:Int);omega
 ·show 100*(k:Int)<=_;omega
theorem ok_1(T:Txt K mg t):FnOk P w K mg base CX0 1 t.a_1 t.d_1 pl' sp_1:=by
 apply T.F_1.ok sc_1
 ·obtain⟨a,many,⟨x,y,z⟩,B,rfl,d,⟨m,n,k,l,j⟩,r,C,D,f⟩:=h;replace d:H a=some (.lst [.int x,.int y,.int z]):=d;replace m:0<=x:=m;replace n:0<=y:=n;replace k:y<2147483647:=k;replace l:0<=z:=l;replace j:z<=B:=j;refine⟨_,(nJ (mF (mB iW (nY (pq 0)) nK (mD _))
   (nJ (nU (i:=2) sc_1.nd rfl (Or.inl rfl) (nR jT (nY (pq 0)) (pq 1)))
   (nJ (jS (nR gQ (nY (pq 0)) (pq 1)) (iE (pq 0) nK cE))
   (nM (nV (pq 2)))))
   mE)
   (nJ (jS (nR lH (nY (pq 0)) nK) (iE (pq 0) nK cE))
   (nJ (nU (i:=3) sc_1.nd rfl (Or.inl rfl) (nR lH (nR lH (nR mZ (nY (pq 0)) nK) nK) (nR mZ (nY (pq 0)) nK)))
   (nJ (nU (i:=3) sc_1.nd rfl (Or.inl rfl) (nR jT (nR lH (pq 3) (nR mZ (nR mZ (nY (pq 0)) (nY (pq 0))) nK)) nK))
   (nM (nV (nR jT (nR gQ (nR jT (nR mZ (pq 3) (pq 3)) nK) nK) (pq 1)))))))),?_⟩
  show tSeq _ _ _ [some (.ref a),some (.int many),none,none] H;right;refine⟨false,a,_,_,_,rfl,rfl,SqB.lst d,rfl,?_⟩
  try ext
  refine ite2 (λc=>?_) (λc=>?_)
  ·have c:=xT c;have i:tkV (x,y,z) many=x.fmod many:=zF c;have eB:tkB (x,y,z) many=(x.fdiv many,y,z):=zF c;rw[i,eB]at f;refine⟨false,a,_,_,_,rfl,rfl,SqB.lst d,rfl,?_⟩
   try ext
   refine⟨⋯,false,a,_,_,_,rfl,rfl,SqB.lst d,rfl,?_⟩
   try ext
   refine⟨dvs _ _ ⋯ ⋯,?_⟩;simp only[gSub,eI];ext;refine⟨_,d,0,rfl,?_⟩;exact f _ (λb g=>nO g) nN
  ·have c:¬ 0<x:=by simpa using c
   have i:tkV (x,y,z) many=(((tkN (x,y,z)*tkN (x,y,z)).fmod 2147483549).fdiv 7).fmod many:=zD c;have eB:tkB (x,y,z) many=(x,y,z+1):=zD c;rw[i,eB]at f;subst e1;refine st λN1 e1=>?_;simp only[tAsg,gSub,eI];ext;refine⟨false,a,_,_,_,rfl,rfl,SqB.lst d,rfl,?_⟩
   try ext
   refine⟨_,d,2,rfl,?_⟩;have p:∀b,b≠a->(upd H a (.lst [V.int x,V.int y,V.int (z+1)])) b=H b:=λb g=>nO g;have e:(upd H a (.lst [V.int x,V.int y,V.int (z+1)])) a=some (.lst [V.int x,V.int y,V.int (z+1)]):=nN;show N1 _ (upd H a (.lst [V.int x,V.int y,V.int (z+1)]));generalize upd H a (.lst [V.int x,V.int y,V.int (z+1)])=u at*
   left;refine⟨false,a,_,_,_,rfl,rfl,SqB.lst e,rfl,?_⟩
   try ext
   refine⟨m40 ⋯ ∅,false,a,_,_,_,rfl,rfl,SqB.lst e,rfl,?_⟩
   try ext
   refine⟨m40 ⋯ ∅,?_⟩;left;refine⟨false,a,_,_,_,rfl,rfl,SqB.lst e,rfl,false,a,_,_,_,rfl,rfl,SqB.lst e,rfl,?_⟩
   try ext
   have F:((z+1)*(z+1)).natAbs<1099511627776*2:=by
    rw[xK];have:(z+1).natAbs*(z+1).natAbs<=1000001*1000001:=wY ⋯ ⋯;omega
   refine⟨m40 ⋯ ⋯,xF (mW (B:=42) (show _<2^42 by omega)) (mW (B:=40) ∅) ∅,∅,?_⟩;have q:=fms1 (y*48271+12347+(z+1)*7919+(z+1)*(z+1)*39373) 2147483563 ∅;have o:tkN (x,y,z)=(y*48271+12347+(z+1)*7919+(z+1)*(z+1)*39373).fmod 2147483563:=rfl;rw[o]at f;generalize (y*48271+12347+(z+1)*7919+(z+1)*(z+1)*39373).fmod 2147483563=v at*
   symm;refine⟨m40 ⋯ ⋯,∅,dvs _ _ ∅ ∅,⋯,?_⟩;exact f _ p e
theorem Yt{H H':Hp}{b:Addr}(s:Same H H')(h:H' b=none):H b=none:=by
 cases e:H b with
 |none=>rfl
 |some o=>rw[s _ _ e]at h;cases h
theorem ok_w(T:Txt K mg t):FnOk P w K mg base CX0 1 t.a_w t.d_w pp' (sp_w K):=by
 apply T.F_w.ok sc_w
 ·obtain⟨p,ns,k,rfl,F,Y,M⟩:=h;have G:SqB false K H p (ns.map V.int):=F;refine⟨_,(nJ (nU (i:=2) sc_w.nd rfl (Or.inl rfl) (nR eN (cD sl_B (pq 0) (eG (pq 1)) (eG (nR lH (pq 1) nK))) (mQ (nH nK nI))))
   (nJ (mF (mB Fo (nY (pq 2)) (nR Bs nK nK) (mD _))
   (nM (nV (mQ (nH (nY (pq 2)) (nH (nR jT (nY (pq 2)) nK) (nH (nR mZ nK (pq 1)) nI))))))
   mE)
   (nM (nV (mQ (nH nK (nH (nR jT (nY (pq 2)) nK) (nH (nR mZ nK (pq 1)) nI)))))))),?_⟩
  show tSeq _ _ _ [some (.ref p),some (.int k),none] H;right;refine⟨false,p,_,rfl,G,(by intro z;cases z),λg S=>?_⟩;have I:=Same.new (o:=seqO false (cutV (ns.map V.int) (some (k:Int)) (some ((k:Int)+1)))) S;have C:(upd H g (seqO false (cutV (ns.map V.int) (some (k:Int)) (some ((k:Int)+1))))) g=some (.lst (cutV (ns.map V.int) (some (k:Int)) (some ((k:Int)+1)))):=nN;obtain⟨c,r,⟨R,D⟩,U⟩:∃(c:Int)(r:List V),(cutV (ns.map V.int) (some (k:Int)) (some ((k:Int)+1))++[V.int 0]=.int c:: r/\c=ns.getD k 0)/\(cutV (ns.map V.int) (some (k:Int)) (some ((k:Int)+1))).length<=1:=by
   rw[Ct,HT.sIx_nat,show(k:Int)+1=((k+1:Nat):Int) by omega,HT.sIx_nat];have l1:((ns.drop (min k ns.length)).take (min (k+1) ns.length-min k ns.length)).length<=1:=by
    rw[yG];omega
   have l2:((ns.drop (min k ns.length)).take (min (k+1) ns.length-min k ns.length)).getD 0 0=ns.getD k 0:=by
    rw[zqc,zqc]
    by_cases h:k<ns.length
    ·rw[wC ⋯,vQ,pQ ⋯];rfl
    ·rw[vS (show ns.length<=k by omega),vS (by rw[yG];omega)]
   generalize (ns.drop (min k ns.length)).take (min (k+1) ns.length-min k ns.length)=l at l1 l2;cases l with
   |nil=>exact⟨0,[],⟨rfl,l2⟩,by simp⟩
   |cons c l=>exact⟨c,l.map V.int++[V.int 0],⟨rfl,l2⟩,by rw[zqe];exact l1⟩
  generalize cutV (ns.map V.int) (some (k:Int)) (some ((k:Int)+1))=y at*;generalize upd H g (seqO false y)=i at*
  refine⟨by show 1<=sizeLine;decide,λd J=>?_⟩;have m:=Same.new (o:=.lst [V.int 0]) J;have W:(upd i d (.lst [V.int 0])) d=some (.lst [V.int 0]):=nN;generalize upd i d (.lst [V.int 0])=u at*
  have O:2<=sizeLine:=∅
  refine⟨g,d,_,_,rfl,rfl,m _ _ C,W,yC (Nat.succ_le_succ U) O,λa L=>?_⟩;rw[R];have v:=Same.new (o:=.lst (V.int c:: r)) L;have e:(upd u a (.lst (V.int c:: r))) a=some (.lst (V.int c:: r)):=nN;generalize upd u a (.lst (V.int c:: r))=j at*
  have o:=(I.trans m).trans v;left;have f:=fms1 c 2147483647 ∅;have a0:atI (V.int c:: r) 0=some (V.int c):=jH (k:=0) rfl rfl;refine⟨false,a,_,_,_,rfl,rfl,SqB.lst e,a0,⟨∅,∅,∅⟩,?_⟩
  try ext
  have ok:IntMulOk 100 (k:Int):=m40 ∅ ⋯;have n:∀(x:Int)(q:Addr),x=(if 1000000000000000000<=c then c else 0)->j q=none->Q (.ref q) (upd j q (.lst [V.int x,V.int (c.fmod 2147483647),V.int (100*(k:Int))])):=λx q X b=>M q _ (o.trans (Same.new b)) (Yt o b) (by
   rw[nN];unfold bxO bxF;rw[←D,←X])
  refine ite2 (λz=>?_) (λz=>?_)
  ·have z:=xT z;have N:(10:Int)^Int.toNat 18=1000000000000000000:=nofun
   refine⟨false,a,_,_,_,rfl,rfl,SqB.lst e,a0,false,a,_,_,_,rfl,rfl,SqB.lst e,a0,?_⟩
   try ext
   exact⟨∅,ok,by show 3<=sizeLine;decide,λq b=>n c q (by rw[zF ⋯]) b⟩
  ·have z:¬ (10:Int)^Int.toNat 18<=c:=by simpa using z
   have N:(10:Int)^Int.toNat 18=1000000000000000000:=nofun
   symm;refine⟨false,a,_,_,_,rfl,rfl,SqB.lst e,a0,?_⟩
   try ext
   exact⟨∅,ok,by show 3<=sizeLine;decide,λq b=>n 0 q (by rw[zD ⋯]) b⟩
structure Rk(a:Addr)(H H':Hp)(r:Addr)(R:LM):Prop where
 k:KX a H H'
 n:H r=none
 m:MatD H H' r R
theorem fC{a b:Addr}{H H':Hp}(k:KX a H H'){o:HO}(c:H' a=some o)(h:H' b=none):H b=none:=by
 cases e:H b with
 |none=>rfl
 |some d =>
  by_cases z:b=a
  ·rw[z,c]at h;cases h
  ·rw[k b d z e]at h;cases h
theorem KX.tk1{a:Addr}{H d f:Hp}(k:KX a H d)(o:∀c,c≠a->f c=d c):KX a H f:=λb x g e=>by rw[o b g];exact k b x g e
theorem Rk.of{a r:Addr}{H b c:Hp}{R:LM}{o:HO}(h:Rw b c r R)(k:KX a H b)(d:b a=some o):Rk a H c r R:=
 ⟨k.trans (KX.same h.s),fC k d h.n,let ⟨ps,f,m,n,l⟩:=h.m;⟨ps,f,m,n,λi p r e1 j=>let ⟨q,g,e⟩:=l i p r e1 j;⟨q,fC k d g,e⟩⟩⟩
theorem Rk.up{a r:Addr}{H b c:Hp}{R:LM}(h:Rk a H b r R)(s:Same b c):Rk a H c r R:=⟨h.k.trans (KX.same s),h.n,h.m.up s⟩
theorem Rk.tk{a r:Addr}{H e d:Hp}{R:LM}{o:HO}(h:Rk a H e r R)(v:H a=some o)(k:∀c,c≠a->d c=e c):Rk a H d r R:=by
 have ne:∀{c},H c=none->c≠a:=λ{c}z q=>by rw[q,v]at z;cases z
 refine⟨h.k.tk1 k,h.n,?_⟩;obtain⟨ps,g,m,n,l⟩:=h.m;refine⟨ps,by rw[k _ (ne h.n)];exact g,m,n,λi p r e1 j=>?_⟩;obtain⟨u,b,f⟩:=l i p r e1 j;exact⟨u,b,by rw[k _ (ne b)];exact f⟩
def Drw(K:Frag)(H:Hp)(Q:VK)(a:Addr)(B:Nat)(P:LM->Prop):Prop:=∀r H' R b',Rk a H H' r R->H' a=some (bxO b')->BxOk (B+100) b'->P R->Q (.ref r) H'
def sp_v(K:Frag):Sp:=λvs H Q _=>∃(a:Addr)(d:Nat)(b:Box)(B:Nat),vs=[.ref a,.int d]/\H a=some (bxO b)/\BxOk B b/\B<=900000/\(d=2\/d=3)/\Drw K H Q a B λR=>R∈pgL (if d=2 then 1 else 3)
def sp_g(K:Frag):Sp:=λvs H Q _=>∃(a:Addr)(d:Nat)(b:Box)(B:Nat),vs=[.ref a,.int d]/\H a=some (bxO b)/\BxOk B b/\B<=900000/\(d=2\/d=3)/\Drw K H Q a B λR=>R∈pgL (if d=2 then 0 else 2)
def sp_x(K:Frag):Sp:=λvs H Q _=>E4 λ(a:Addr)(d:Nat)(b:Box)(B:Nat)=>A6 (vs=[.ref a,.int d]) (H a=some (bxO b)) (BxOk B b) (B<=900000) ((d=2\/d=3)) (Drw K H Q a B (Wr d))
def sp_13(K:Frag):Sp:=λvs H Q _=>E5 λ(a:Addr)(so:Int)(d:Nat)(b:Box)(B:Nat)=>A7 (vs=[.int so,.ref a,.int d]) (H a=some (bxO b)) (BxOk B b) (B<=900000) ((d=2\/d=3)) (0<=so) (Drw K H Q a B (Wr d))
theorem Ee{H f d g:Hp}{e c p:Addr}{r1 r2:LI'}(x:H e=none)(e1:f=upd H e (.lst (r1.map V.int)))(n:f c=none)(y:d=upd f c (.lst (r2.map V.int)))(j:d p=none)(u:g=upd d p (.lst [.ref e,.ref c])):Rw H g p [r1,r2]:=by
 have l:Same H f:=e1 ▸ Same.new x;have k:Same f d:=y ▸ Same.new n;have m:Same d g:=u ▸ Same.new j;have o:f e=some (.lst (r1.map V.int)):=by rw[e1,nN]
 have v:d c=some (.lst (r2.map V.int)):=by rw[y,nN]
 have z:g p=some (.lst [.ref e,.ref c]):=by rw[u,nN]
 refine⟨(l.trans k).trans m,dR (l.trans k) j,[e,c],z,rfl,?_,λi q r a b=>?_⟩
 ·simp only[List.nodup_cons,List.mem_singleton,List.not_mem_nil,not_false_eq_true,List.nodup_nil,and_true];exact lI o n
 ·match i,a,b with
  |0,a,b=>cases a;cases b;exact⟨lI (k _ _ o) j,x,m _ _ (k _ _ o)⟩
  |1,a,b=>cases a;cases b;exact⟨lI v j,dR l n,m _ _ v⟩
  |i+2,a,b=>simp at a
theorem Ad{k:Nat}(b:k<4){R:LM}(a:R∈pgL k):mV 1500 R:=λr hr z c=>wX ((Af b).wee R a r hr z c) (Nat.one_lt_two_pow ∅)
def Ed(R:LM)(z:Int):LM:=[R.getD 0 []++[0],R.getD 1 []++[0],[0,0,z]]
theorem Ys:(pgL 1).all (λR=>(pgL 3).contains (Ed R 1) && (pgL 3).contains (Ed R (-1)))=true:=nofun
theorem Yr{R:LM}(h:R∈pgL 1){z:Int}(a:z=1\/z=-1):Ed R z∈pgL 3:=by
 have:=uI.mp Ys R h;rw[zN,rH,rH]at this;rcases a with rfl|rfl
 ·exact this.1
 ·exact this.2
theorem rk3{a r d e f:Addr}{H g:Hp}{r1 r2 j:LI'}(k:KX a H g)(n:H r=none)(G:g r=some (.lst [.ref d,.ref e,.ref f]))(u:H d=none)(F:H e=none)(m:H f=none)(e1:g d=some (.lst (r1.map V.int)))(D:g e=some (.lst (r2.map V.int)))(x:g f=some (.lst (j.map V.int)))
  (z:d≠r)(o:e≠r)(y:f≠r)(l:d≠e)(C:d≠f)(v:e≠f):Rk a H g r [r1,r2,j]:=by
 refine⟨k,n,[d,e,f],G,rfl,by simp[l,C,v],λi p q b c=>?_⟩
 match i,b,c with
 |0,b,c=>cases b;cases c;exact⟨z,u,e1⟩
 |1,b,c=>cases b;cases c;exact⟨o,F,D⟩
 |2,b,c=>cases b;cases c;exact⟨y,m,x⟩
 |i+3,b,c=>simp at b
theorem ok_v(T:Txt K mg t):FnOk P w K mg base CX0 2 t.a_v t.d_v pn' (sp_v K):=by
 have c1:=@ok_1 P w K mg base t T;have c5:=@ok_j P w K mg base t T;apply T.F_v.ok sc_v
 ·obtain⟨c,d,b,B,rfl,a1,e3,i2,g2,d5⟩:=h;refine⟨_,(nJ (nU (i:=2) sc_v.nd rfl (Or.inl rfl) (mQ (nH (mQ (nH nK (nH nK nI))) (nH (mQ (nH nK (nH nK nI))) nI))))
   (nJ (lJ yD rfl (lG rfl T.z_range (nH (nS c1 hr.mo T.F_1 (nH (pq 0) (nH nK nI))) nI)) (mP (i:=3) sc_v.nd rfl (Or.inl rfl))
   (nM (nU (i:=2) sc_v.nd rfl (Or.inl rfl) (nS c5 hr.mo T.F_j (nH (mQ (nH (mQ (nH nK (nH (fF fG nK) nI))) (nH (mQ (nH nK (nH nK nI))) nI))) (nH (pq 2) nI))))))
   (nJ (mF (mB kK (nS c1 hr.mo T.F_1 (nH (pq 0) (nH nK nI))) nK (mD _))
   (nM (nU (i:=2) sc_v.nd rfl (Or.inl rfl) (nS c5 hr.mo T.F_j (nH (mQ (nH (mQ (nH nK (nH nK nI))) (nH (mQ (nH nK (nH nK nI))) nI))) (nH (pq 2) nI)))))
   mE)
   (nJ (mF (mB kK (pq 1) nK (mD _))
   (nM (nV (pq 2)))
   mE)
   (nM (nV (mQ (nH (nR eN (nY (pq 2)) (mQ (nH nK nI))) (nH (nR eN (nY (pq 2)) (mQ (nH nK nI))) (nH (mQ (nH nK (nH nK (nH (nR iK nK (nR mZ nK (nS c1 hr.mo T.F_1 (nH (pq 0) (nH nK nI))))) nI)))) nI)))))))))),?_⟩
  show tSeq _ _ _ [some (.ref c),some (.int d),none,none] H;have l:=Af (show 1<4 by decide);right;refine⟨by show 2<=sizeLine;decide,λc7 M=>⟨by show 2<=sizeLine;decide,λd7 N=>⟨by show 2<=sizeLine;decide,λp O=>?_⟩⟩⟩;have e8:=Ee (r1:=[1,0]) (r2:=[0,1]) M rfl N rfl O rfl;generalize hH1:upd (upd (upd H c7 (.lst [.int 1,.int 0])) d7 (.lst [.int 0,.int 1])) p (.lst [.ref c7,.ref d7])=d8;have b7:Rw H d8 p [[1,0],[0,1]]:=hH1 ▸ e8;have g7:=b7.s _ _ a1;have g5:Rk c H d8 p [[1,0],[0,1]]:=Rk.of b7 (λ_ _ _ e=>e) a1;clear b7;have f5:[[1,0],[0,1]]∈pgL 1:=by rw[←id2];exact l.one
  clear e8 M N O hH1;subst e1;refine st λN1 e1=>lN λg0 eB=>?_;simp only[mY];ext;refine⟨c,6,b,B,rfl,g7,e3,⋯,∅,∅,λh6 g4 h1=>?_⟩;obtain⟨h9,d3⟩:=mM (many:=6) e3 ∅;have f7:=g5.tk a1 g4;generalize tkB b 6=b1 at*
  generalize tkV b 6=h7 at*
  try ext
  refine⟨⋯,⋯,?_⟩;refine gD (g:=nX 3) (tb:=g0) (λ_ b9 L=>∃(r:Addr)(R:LM)(v:Option V),b9=[some (.ref c),some (.int d),some (.ref r),v]/\Rk c H L r R/\R∈pgL 1/\L c=some (bxO b1)) ⟨p,_,none,rfl,f7,f5,h1⟩ ?_ ?_
  ·rintro k b9 L h8 ⟨r,R,v,rfl,a5,x,b0⟩;subst eB;show tAsg _ _ _ [some (.ref c),some (.int d),some (.ref r),some (.int (0+(k:Int)))] L;ext;refine⟨by show 2<=sizeLine;decide,λf M=>⟨by show 2<=sizeLine;decide,λY N=>⟨by show 2<=sizeLine;decide,λq O=>?_⟩⟩⟩;have b8:=Ee (r1:=[1,-1]) (r2:=[1,0]) M rfl N rfl O rfl;generalize hH3:upd (upd (upd L f (.lst [.int 1,.int (-1)])) Y (.lst [.int 1,.int 0])) q (.lst [.ref f,.ref Y])=g;have l1:Rw L g q [[1,-1],[1,0]]:=hH3 ▸ b8;have mg:[[1,-1],[1,0]]∈pgL 1:=l.gen _ ∅;have m:=a5.up l1.s;refine⟨false,false,false,false,q,r,_,_,2,rfl,l1.m.l.b,m.m.l.b,l.sq _ mg,l.sq _ x,.inl rfl,Ad ∅ mg,Ad ∅ x,λe6 a6 W=>?_⟩;have i:=l1.s _ _ b0;exact⟨e6,rfl,_,Rk.of W m.k i,l.mul _ mg _ x,W.s _ _ i⟩
  ·rintro b9 L ⟨r,R,v,rfl,a5,x,b0⟩;subst e1;refine st λc3 c2=>?_;have nx:∀g m b3 C,Rk c H g m b3->b3∈pgL 1->g c=some (bxO C)->BxOk (B+2) C->c3 [some (.ref c),some (.int d),some (.ref m),v] g:=by
    intro g m b3 C X c0 i b5;subst c2;refine st λc3 c2=>?_;ext;rcases g2 with rfl|rfl
    ·rw[zM ∅];refine iteT ?_;exact d5 m g b3 C X i (b5.le ⋯) c0
    ·rw[zJ ∅];refine iteF ?_;subst c2;ext;obtain⟨ps,k1,k2,k3,c9⟩:=X.m;obtain⟨a,b,z,F,rfl⟩:=sq2 (l.sq _ c0);obtain⟨D,f,rfl⟩:∃D f,ps=[D,f]:=by
      match ps,k2 with
      |[D,f],_=>exact⟨D,f,rfl⟩
     have h4:g D=some (.lst [.int a,.int b]):=(c9 0 D _ rfl rfl).2.2;have h5:g f=some (.lst [.int z,.int F]):=(c9 1 f _ rfl rfl).2.2;refine jC (i:=0) k1 rfl rfl ⟨by show 1<=sizeLine;decide,λa9 f6=>?_⟩;have j:=Same.new (o:=.lst [V.int 0]) f6;have e4:(upd g a9 (.lst [.int 0])) a9=some (.lst [V.int 0]):=nN;generalize upd g a9 (.lst [.int 0])=a6 at j e4;refine⟨D,a9,_,_,rfl,rfl,j _ _ h4,e4,by show 3<=sizeLine;decide,λn a3=>?_⟩;have I:=Same.new (o:=.lst ([V.int a,.int b]++[.int 0])) a3;have a8:(upd a6 n (.lst ([V.int a,.int b]++[.int 0]))) n=some (.lst ([a,b,0].map V.int)):=nN;generalize upd a6 n (.lst ([V.int a,.int b]++[.int 0]))=e5 at I a8;refine jC (i:=1) (I _ _ (j _ _ k1)) rfl rfl ⟨by show 1<=sizeLine;decide,λa4 g9=>?_⟩;have y:=Same.new (o:=.lst [V.int 0]) g9;have e2:(upd e5 a4 (.lst [.int 0])) a4=some (.lst [V.int 0]):=nN;generalize upd e5 a4 (.lst [.int 0])=d0 at y e2;refine⟨f,a4,_,_,rfl,rfl,y _ _ (I _ _ (j _ _ h5)),e2,by show 3<=sizeLine;decide,λu S=>?_⟩;have b6:=Same.new (o:=.lst ([V.int z,.int F]++[.int 0])) S;have d1:(upd d0 u (.lst ([V.int z,.int F]++[.int 0]))) u=some (.lst ([z,F,0].map V.int)):=nN;generalize upd d0 u (.lst ([V.int z,.int F]++[.int 0]))=h0 at b6 d1;have c6:=((j.trans I).trans y).trans b6;have h2:=c6 _ _ i;refine⟨c,2,C,B+2,rfl,h2,b5,⋯,∅,∅,λa7 ok e9=>?_⟩;obtain⟨i0,f0⟩:=mM (many:=2) b5 ∅;generalize tkB C 2=f3 at*
     generalize tkV C 2=v2 at*
     try ext
     have g8:KX c H h0:=X.k.trans (KX.same c6);have e0:=g8.tk1 ok;have f8:n≠c:=λq=>by rw[q,j _ _ i]at a3;cases a3
     have f4:u≠c:=λq=>by rw[q,y _ _ (I _ _ (j _ _ i))]at S;cases S
     have g1:H n=none:=fC (X.k.trans (KX.same j)) (j _ _ i) a3;have g6:H u=none:=fC (X.k.trans (KX.same ((j.trans I).trans y))) (y _ _ (I _ _ (j _ _ i))) S;have U:a7 n=some (.lst ([a,b,0].map V.int)):=by rw[ok _ f8];exact b6 _ _ (y _ _ a8)
     have Z:a7 u=some (.lst ([z,F,0].map V.int)):=by rw[ok _ f4];exact d1
     have h3:n≠u:=λq=>by rw[q]at a8;rw[y _ _ a8]at S;cases S
     refine⟨tQ ∅,by show 3<=sizeLine;decide,λG a2=>⟨by show 3<=sizeLine;decide,λr o=>?_⟩⟩;have J:=Same.new (o:=.lst [V.int 0,.int 0,.int (1-2*v2)]) a2;have b4:(upd a7 G (.lst [.int 0,.int 0,.int (1-2*v2)])) G=some (.lst ([0,0,1-2*v2].map V.int)):=nN;have f9:n≠G:=λq=>by rw[q,a2]at U;cases U
     have f2:u≠G:=λq=>by rw[q,a2]at Z;cases Z
     have f1:H G=none:=fC e0 e9 a2;generalize upd a7 G (.lst [.int 0,.int 0,.int (1-2*v2)])=i1 at J b4 o ⊢;have a0:=Same.new (o:=.lst [V.ref n,.ref u,.ref G]) o;have d4:=e0.trans (KX.same J);have d2:=J _ _ e9;have g3:Rk c H _ r [[a,b,0],[z,F,0],[0,0,1-2*v2]]:=rk3 (d4.trans (KX.same a0)) (fC d4 d2 o) nN g1 g6 f1 (a0 _ _ (J _ _ U)) (a0 _ _ (J _ _ Z)) (a0 _ _ b4)
      (λq=>by rw[q]at U;rw[J _ _ U]at o;cases o) (λq=>by rw[q]at Z;rw[J _ _ Z]at o;cases o) (λq=>by rw[q]at b4;rw[b4]at o;cases o) h3 f9 f2
     exact d5 r _ _ f3 g3 (a0 _ _ d2) (f0.le ⋯) (Yr c0 (z:=1-2*v2) ⋯)
   ext;refine⟨c,2,b1,B+1,rfl,b0,d3,⋯,∅,∅,λe7 d9 c8=>?_⟩;obtain⟨_,c4⟩:=mM (many:=2) d3 ∅;have d6:=a5.tk a1 d9;generalize tkB b1 2=b2 at*
   generalize tkV b1 2=v2 at*;clear a5 b0 d9
   try ext
   refine ite2 (λ_=>?_) (λ_=>nx _ _ _ _ d6 x c8 c4);refine⟨by show 2<=sizeLine;decide,λf M=>⟨by show 2<=sizeLine;decide,λY N=>⟨by show 2<=sizeLine;decide,λq O=>?_⟩⟩⟩;have b8:=Ee (r1:=[0,1]) (r2:=[1,0]) M rfl N rfl O rfl;generalize hH3:upd (upd (upd e7 f (.lst [.int 0,.int 1])) Y (.lst [.int 1,.int 0])) q (.lst [.ref f,.ref Y])=g;have l1:Rw e7 g q [[0,1],[1,0]]:=hH3 ▸ b8;have mg:[[0,1],[1,0]]∈pgL 1:=l.gen _ ∅;have m:=d6.up l1.s;have i:=l1.s _ _ c8;exact⟨false,false,false,false,q,r,_,_,2,rfl,l1.m.l.b,m.m.l.b,l.sq _ mg,l.sq _ x,.inl rfl,Ad ∅ mg,Ad ∅ x,λe6 a6 W=>nx _ _ _ _ (Rk.of W m.k i) (l.mul _ mg _ x) (W.s _ _ i) c4⟩
def bG(d x:Nat)(s:Int):LI':=(List.range d).map λj=>s*(if j=x then 1 else 0)
def sgR(d:Nat):List (Nat×Int)->List Nat->LM
 |[],_=>[]
 |(c,s):: r,l=>bG d (l.getD c 0) s:: sgR d r (l.eraseIdx c)
def sgL:List (Nat×Int)->List Nat->List Nat
 |[],l=>l
 |(c,_):: r,l=>sgL r (l.eraseIdx c)
theorem Lx{d:Nat}{x:Nat×Int}:∀{r:List (Nat×Int)}{l:List Nat},sgR d (r++[x]) l=sgR d r l++[bG d ((sgL r l).getD x.1 0) x.2]/\sgL (r++[x]) l=(sgL r l).eraseIdx x.1
 |[],_=>⟨rfl,rfl⟩
 |(c,s):: r,l=>by
  obtain⟨a,b⟩:=Lx (d:=d) (x:=x) (r:=r) (l:=l.eraseIdx c);exact⟨by show _:: sgR d (r++[x]) _=_;rw[a];rfl,b⟩
theorem Lw{d:Nat}:∀{r:List (Nat×Int)}{l:List Nat},(sgR d r l).length=r.length
 |[],_=>rfl
 |(c,s):: r,l=>by show(sgR d r _).length+1=_;rw[Lw];rfl
def Chs:Nat->List (Nat×Int)->Prop
 |_,[]=>True
 |m,(c,s):: r=>c<m/\(s=1\/s=-1)/\Chs (m-1) r
theorem Lv{x:Nat×Int}:∀{r:List (Nat×Int)}{m:Nat},Chs m r->x.1<m-r.length->(x.2=1\/x.2=-1)->Chs m (r++[x])
 |[],m,_,d,e=>⟨by simpa using d,e,trivial⟩
 |(c,s):: r,m,⟨a,b,k⟩,d,e=>⟨a,b,Lv k (by rw[zR]at d;omega) e⟩
theorem Lu:∀{r:List (Nat×Int)}{l:List Nat},Chs l.length r->r.length<=l.length->(sgL r l).length=l.length-r.length
 |[],_,_,_=>rfl
 |(c,s):: r,l,⟨a,_,k⟩,h=>by
  have e:(l.eraseIdx c).length=l.length-1:=List.length_eraseIdx_of_lt a;rw[zR]at h ⊢;show(sgL r (l.eraseIdx c)).length=_;rw[Lu (by rw[e];exact k) (by rw[e];omega),e];omega
def allC:Nat->Nat->List (List (Nat×Int))
 |0,_=>[[]]
 |n+1,m=>(List.range m).flatMap λc=>[1,-1].flatMap λs=>(allC n (m-1)).map λr=>(c,s):: r
theorem Eb:∀{n m:Nat}{r:List (Nat×Int)},Chs m r->r.length=n->r∈allC n m
 |0,_,[],_,_=>.head _
 |n+1,m,(c,s):: r,⟨a,b,k⟩,h=>List.mem_flatMap.mpr ⟨c,oY.mpr a,List.mem_flatMap.mpr ⟨s,by rcases b with rfl|rfl <;> decide,oZ.mpr ⟨r,Eb k (by simpa using h),rfl⟩⟩⟩
theorem Yq:(allC 2 2).all (λr=>(pgL 0).contains (sgR 2 r (List.range 2)))=true:=nofun
theorem Yp:(allC 3 3).all (λr=>(pgL 2).contains (sgR 3 r (List.range 3)))=true:=nofun
theorem Yo{d:Nat}(a:d=2\/d=3){r:List (Nat×Int)}(h:Chs d r)(hl:r.length=d):sgR d r (List.range d)∈pgL (if d=2 then 0 else 2):=by
 rcases a with rfl|rfl
 ·exact rH.mp (uI.mp Yq r (Eb h hl))
 ·exact rH.mp (uI.mp Yp r (Eb h hl))
theorem ok_g(T:Txt K mg t):FnOk P w K mg base CX0 2 t.a_g t.d_g pn' (sp_g K):=by
 have d2:=@ok_1 P w K mg base t T;apply T.F_g.ok sc_g
 ·obtain⟨f,d,b,b2,rfl,a0,g0,g4,e5,f3⟩:=h;refine⟨_,(nJ (nU (i:=2) sc_g.nd rfl (Or.inl rfl) (Rq rfl rfl T.z_list rfl T.z_range (nH (pq 1) nI)))
   (nJ (nU (i:=3) sc_g.nd rfl (Or.inl rfl) (mQ nI))
   (nJ (lJ yD rfl (lG rfl T.z_range (nH (pq 1) nI)) (mP (i:=4) sc_g.nd rfl (Or.inl rfl))
   (nJ (nU (i:=5) sc_g.nd rfl (Or.inr rfl) (eJ wL PySem.F.slot_list_pop PySem.F.type_list_pop Py (pq 2) (nH (nS d2 hr.mo T.F_1 (nH (pq 0) (nH (lC T.z_len (pq 2)) nI))) nI)))
   (nJ (nU (i:=6) sc_g.nd rfl (Or.inr rfl) (nR iK nK (nR mZ nK (nS d2 hr.mo T.F_1 (nH (pq 0) (nH nK nI))))))
   (nM (gM (eJ wL vE vB eK (pq 3) (nH (lE (sc:=nP Ax) (N:=N_g) (fr:=[("_law_at",5),("_law_sign",6)]) (te:=(tOp (rI (λi j=>IntMulOk i j) λi j=>.int (i*j)) (tVar 2) (tCB (λxs H Q=>(∃i,xs=[.int i]/\Q (.int i) H)\/∃k,xs=[.bl k]/\Q (.int (if k then 1 else 0)) H) (mH (tOp (rI0 λi j=>.bl (decide (i=j))) (tVar 0) (tVar 1)) tNil)))) rfl rfl (nofun) rfl (nofun) (lG rfl T.z_range (nH (pq 1) nI)) (λ_ _ _ g3=>(nR mZ (pv 2) (lK Fn rfl T.z_int (nofun) (nH (dW kK (pv 0) (pv 1) (mD _)) nI))))) nI)))))))
   (nM (nV (pq 3)))))),?_⟩
  show tSeq _ _ _ [some (.ref f),some (.int d),none,none,none,none,none] H;right;refine⟨d,rfl,⋯,λl hl=>?_⟩;have W:Same H (upd H l (.lst ((List.range d).map λ(i:Nat)=>V.int (i:Int)))):=Same.new hl;have R:(upd H l (.lst ((List.range d).map λ(i:Nat)=>V.int (i:Int)))) l=some (.lst ((List.range d).map λ(i:Nat)=>V.int (i:Int))):=nN;have b3:l≠f:=λz=>by rw[z,a0]at hl;cases hl
  show N1 _ (upd H l (.lst ((List.range d).map λ(i:Nat)=>V.int (i:Int))));generalize upd H l (.lst ((List.range d).map λ(i:Nat)=>V.int (i:Int)))=v at W R ⊢;have a5:=W _ _ a0;left;refine⟨zY _,λm O=>?_⟩;have a4:Same v (upd v m (.lst [])):=Same.new O;have c0:(upd v m (.lst [])) m=some (.lst []):=nN;have c3:l≠m:=λz=>by rw[z,O]at R;cases R
  have b6:m≠f:=λz=>by rw[z,a5]at O;cases O
  generalize upd v m (.lst [])=g7 at a4 c0;subst e1;refine st λN1 e1=>lN λd8 eB=>?_;simp only[mY];ext;refine⟨⋯,⋯,?_⟩;rw[zS];refine gD (g:=nX 4) (tb:=d8) (λi b1 C=>∃(r:List (Nat×Int))(b4 a3 a1:Option V)(x:Box),b1=[some (.ref f),some (.int d),some (.ref l),some (.ref m),b4,a3,a1]/\(∀b o,b≠l->b≠f->v b=some o->C b=some o)/\C l=some (.lst ((sgL r (List.range d)).map λ(i:Nat)=>V.int (i:Int)))/\MatD v C m (sgR d r (List.range d))/\Chs d r/\r.length=i/\C f=some (bxO x)/\BxOk (b2+2*i) x)
   ⟨[],none,none,none,b,rfl,λb o _ _ e=>a4 _ _ e,a4 _ _ R,MatD.nil c0,trivial,rfl,a4 _ _ a5,g0⟩ ?_ ?_
  ·rintro i b1 C hi ⟨r,b4,a3,a1,x,rfl,k3,U,a6,a8,rfl,a7,X⟩;have d9:(sgL r (List.range d)).length=d-r.length:=by
    have:=Lu (r:=r) (l:=List.range d) (by rw[uX];exact a8) (by rw[uX];omega);rw[uX]at this;exact this
   generalize hL:sgL r (List.range d)=L at*;subst eB;show tSeq _ _ _ [some (.ref f),some (.int d),some (.ref l),some (.ref m),some (.int (0+(r.length:Int))),a3,a1] C;refine st λd3 b7=>?_;ext;refine⟨.inl ⟨rfl,_,SqL.of U⟩,?_⟩;refine⟨false,l,_,rfl,SqB.lst U,?_⟩
   try ext
   rw[zqe,d9];refine⟨f,((d-r.length:Nat):Int),x,b2+2*r.length,rfl,a7,X,⋯,⋯,⋯,λI ok d4=>?_⟩;obtain⟨f6,b8⟩:=mM (many:=((d-r.length:Nat):Int)) X ⋯;generalize tkB x ((d-r.length:Nat):Int)=Y at*
   generalize tkV x ((d-r.length:Nat):Int)=e7 at*;have c8:I l=some (.lst (L.map λ(i:Nat)=>V.int (i:Int))):=by rw[ok _ b3];exact U
   have c9:∀b o,b≠l->b≠f->v b=some o->I b=some o:=λb o u g e=>by rw[ok b g];exact k3 b o u g e
   have c1:MatD v I m (sgR d r (List.range d)):=by
    obtain⟨ps,u,g,M,J⟩:=a6;refine⟨ps,by rw[ok m b6];exact u,g,M,λj p q a b=>?_⟩;obtain⟨G,n,F⟩:=J j p q a b;exact⟨G,n,by rw[ok p (λz=>by rw[z,a5]at n;cases n)];exact F⟩
   clear a6 k3 U ok a7;obtain⟨c,f1⟩:∃c:Nat,e7=c:=⟨_,(Int.toNat_of_nonneg f6.1).symm⟩;subst f1;have e0:c<L.length:=⋯
   refine⟨l,_,_,c,.int ((L.getD c 0:Nat):Int),rfl,rfl,c8,⋯,⋯,?_,?_,?_⟩
   ·rw[oC ⋯ (by rw[zqe];omega)];rfl
   ·rw[zH,zqc,zqd e0];rfl
   have d6:(L.map λ(i:Nat)=>V.int (i:Int)).eraseIdx c=(L.eraseIdx c).map λ(i:Nat)=>V.int (i:Int):=Ib _ _ _;rw[d6];have N:∀b,b≠l->upd I l (.lst ((L.eraseIdx c).map λ(i:Nat)=>V.int (i:Int))) b=I b:=λb a0=>nO a0;have b0:upd I l (.lst ((L.eraseIdx c).map λ(i:Nat)=>V.int (i:Int))) l=some (.lst ((L.eraseIdx c).map λ(i:Nat)=>V.int (i:Int))):=nN;generalize upd I l (.lst ((L.eraseIdx c).map λ(i:Nat)=>V.int (i:Int)))=c5 at N b0;have d1:MatD v c5 m (sgR d r (List.range d)):=by
    obtain⟨ps,u,g,M,J⟩:=c1;refine⟨ps,by rw[N m (zT c3)];exact u,g,M,λj p q a b=>?_⟩;obtain⟨G,n,F⟩:=J j p q a b;exact⟨G,n,by rw[N p (λz=>by rw[z,R]at n;cases n)];exact F⟩
   have c6:c5 f=some (bxO Y):=by rw[N f (zT b3)];exact d4
   subst b7;refine st λd3 b7=>?_;ext;refine⟨f,2,Y,b2+2*r.length+1,rfl,c6,b8,⋯,∅,∅,λa2 ok c2=>?_⟩;obtain⟨g6,f4⟩:=mM (many:=2) b8 ∅;generalize tkB Y 2=d7 at*
   generalize tkV Y 2=v2 at*
   try ext
   refine⟨tQ ∅,?_⟩;have c7:a2 l=some (.lst ((L.eraseIdx c).map λ(i:Nat)=>V.int (i:Int))):=by rw[ok _ b3];exact b0
   have b9:∀b o,b≠l->b≠f->v b=some o->a2 b=some o:=λb o u g e=>by rw[ok b g,N b u];exact c9 b o u g e
   have c4:MatD v a2 m (sgR d r (List.range d)):=by
    obtain⟨ps,u,g,M,J⟩:=d1;refine⟨ps,by rw[ok m b6];exact u,g,M,λj p q a b=>?_⟩;obtain⟨G,n,F⟩:=J j p q a b;exact⟨G,n,by rw[ok p (λz=>by rw[z,a5]at n;cases n)];exact F⟩
   clear d1 c1 c9 N b0 ok c6 c8;have sg:1-2*v2=1\/1-2*v2=-1:=⋯
   generalize 1-2*v2=sn at*;subst b7;ext;obtain⟨g5,f8⟩:∃zs,a2 m=some (.lst zs):=let ⟨ps,h,_⟩:=c4;⟨_,h⟩
   refine⟨.inl ⟨rfl,_,SqL.of f8⟩,?_⟩;refine mK λB eB=>?_;simp only[mY];ext;refine⟨⋯,⋯,λZ D=>?_⟩;rw[zS];refine jG (λj y _=>j<d/\y=.int (sn*(if j=L.getD c 0 then 1 else 0))) D ⋯ (λ_ _ _ _ r _=>r) ?_ ?_
   ·intro j d0 zs b5 S g2 f9 f2;subst eB;show tOp _ _ _ [some (.int (0+(j:Int))),some (.int ((L.getD c 0:Nat):Int)),some (.int sn)] d0 f9;ext;refine .inr ⟨(show CMul _ _ from .inl ⟨⋯,⋯⟩).ok,f2 _ _ (Same.refl _) ⟨b5,?_⟩⟩
    by_cases z:j=L.getD c 0
    ·rw[zF z,zM ⋯];rfl
    ·rw[zD z,zJ ⋯];rfl
   ·intro d0 ys S g1 f0 f5;have e4:ys=(bG d (L.getD c 0) sn).map V.int:=by
     refine kE (by simpa [bG]using f0) λj y e=>?_;obtain⟨b5,rfl⟩:=f5 j y e;exact⟨_,by unfold bG;rw[zH,xC b5];rfl,rfl⟩
    subst e4;obtain⟨zs,f7,e6,e2⟩:=MatD.app c4 S D (by
     cases q:v Z with
     |none=>rfl
     | some o =>
      by_cases z:Z=l
      ·rw[z,c7]at D;cases D
      ·by_cases y:Z=f
       ·rw[y,c2]at D;cases D
       ·rw[b9 Z o z y q]at D;cases D) g1
    refine⟨m,zs,_,rfl,rfl,f7,fK (by rw[e6,Lw];omega),?_⟩;have a9:=Lx (d:=d) (x:=(c,sn)) (r:=r) (l:=List.range d);rw[hL]at a9;refine⟨λb o e3 e9 e=>?_,r++[(c,sn)],?_,?_,Lv a8 (by show c<d-r.length;omega) sg,by simp,d7,?_,?_⟩
    ·have bm:b≠m:=λz=>by rw[z,O]at e;cases e
     rw[nO bm];exact S _ _ (b9 b o e3 e9 e)
    ·rw[nO c3,a9.2];exact S _ _ c7
    ·rw[a9.1];exact e2
    ·rw[nO (zT b6)];exact S _ _ c2
    ·exact f4.le ⋯
  ·rintro b1 C ⟨r,b4,a3,a1,x,rfl,k3,U,a6,a8,d5,a7,X⟩;symm;refine f3 m C _ x ⟨λb o e8 e=>k3 b o (λz=>by rw[z,hl]at e;cases e) e8 (W _ _ e),dR W O,?_⟩ a7 (X.le ⋯) (Yo e5 a8 d5);obtain⟨ps,u,g,M,J⟩:=a6;exact⟨ps,u,g,M,λj p q a b=>let ⟨G,n,F⟩:=J j p q a b;⟨G,dR W n,F⟩⟩
theorem Ea{n k:Nat}(h:k<n):ixN n (k:Int)=some k:=by
 unfold ixN;rw[zF ⋯,zF ⋯];simp
theorem Yn{c:Int}{d:Nat}(h:0<d):∃n:Nat,c.fmod d=n/\n<d:=by
 have:=fms c d ⋯;exact⟨(c.fmod d).toNat,⋯,⋯⟩
def colU(d i j:Nat)(m:Int)(R:LM)(u:Nat):LM:=(R.take u).map (colR d i j m)++R.drop u
theorem Ym{d i j:Nat}{m:Int}{r:LI'}(hl:r.length=d)(b:j<d):r.set j (r.getD j 0-m*r.getD i 0)=colR d i j m r:=by
 unfold colR
 conv=>lhs;rw[dP (z:=(0:Int)) hl]
 rw[El];refine iC λk a=>?_
 by_cases h:k=j
 ·subst h;rw[zF rfl,zF rfl,bB a,oR]
  by_cases hi:i<d
  ·rw[bB hi]
  ·congr 1;rw[zqc,vS (by simp;omega),zqc,vS ⋯]
 ·rw[zD h,zD h,uJ,uJ,Int.sub_zero]
theorem Yl{d i j u:Nat}{m:Int}{R:LM}{r:LI'}(e:R[u]?=some r):(colU d i j m R u)[u]?=some r/\(colU d i j m R u).set u (colR d i j m r)=colU d i j m R (u+1):=by
 have b:=(zqa e).1;have a:((R.take u).map (colR d i j m)).length=u:=by rw[zqe,yG];omega
 unfold colU;refine⟨?_,?_⟩
 ·rw[zX ⋯,a,vN,vQ,tE];exact e
 ·rw[List.set_append,zD ⋯,a,vN,yY,e,yX,yK,vZ b];rfl
theorem Ls{d i:Nat}{A:LM}{r:LI'}(a:Sq d A)(hr:r.length=d):Sq d (A.set i r):=⟨by rw[List.length_set];exact a.1,λz b=>by
 rcases uA b with h|h
 ·exact a.2 z h
 ·rw[h];exact hr⟩
theorem Lr{x:Addr}:∀{l:LA}{i:Nat},l.Nodup->x∉l->(l.set i x).Nodup
 |[],_,_,_=>by simp
 |a:: l,0,nd,h=>rN.mpr ⟨λq=>h (.tail _ q),(rN.mp nd).2⟩
 |a:: l,i+1,nd,h=>by
  have b:=rN.mp nd;refine rN.mpr ⟨λq=>?_,Lr b.2 λq=>h (.tail _ q)⟩;rcases uA q with q|q
  ·exact b.1 q
  ·exact h (q ▸ .head _)
theorem MatD.put{f H c:Hp}{a l:Addr}{M:LM}{r:LI'}{i:Nat}(h:MatD f H a M)(s:Same H c)(hl:H l=none)(y:f l=none)(e:c l=some (.lst (r.map V.int))):∃zs,c a=some (.lst zs)/\zs.length=M.length/\MatD f (upd c a (.lst (zs.set i (.ref l)))) a (M.set i r):=by
 obtain⟨ps,g,o,v,n⟩:=h;have k:l≠a:=λz=>by rw[z,g]at hl;cases hl
 have x:l∉ps:=λG=>by
  obtain⟨j,d,F⟩:=wP G;rw[(n j l M[j] (by simp[d,F]) (by simp[show j<M.length by omega])).2.2]at hl;cases hl
 refine⟨ps.map V.ref,s _ _ g,by rw[zqe,o],ps.set i l,by rw[nN,List.map_set],by simp[o],?_,λj p q e1 b=>?_⟩
 ·exact Lr v x
 ·by_cases d:j=i
  ·subst d;have D:j<ps.length:=by have:=(zqa e1).1;simpa using this
   rw[xR D]at e1;rw[xR ⋯]at b;cases e1;cases b;exact⟨k,y,by rw[nO k];exact e⟩
  ·rw[uB (zT d)]at e1 b;obtain⟨m,C,u⟩:=n j p q e1 b;exact⟨m,C,by rw[nO m];exact s _ _ u⟩
theorem ok_x(T:Txt K mg t):FnOk P w K mg base CX0 2 t.a_x t.d_x pn' (sp_x K):=by
 have a2:=@ok_1 P w K mg base t T;have c6:=@ok_l P w K mg base t T;apply T.F_x.ok sc_x
 ·obtain⟨g,d,b,J,rfl,p,d6,f0,e7,d0⟩:=h;refine⟨_,(nJ (nU (i:=2) sc_x.nd rfl (Or.inr rfl) (nS c6 hr.mo T.F_l (nH (pq 1) nI)))
   (nJ (lJ yD rfl (lG rfl T.z_range (nH nK nI)) (mP (i:=3) sc_x.nd rfl (Or.inl rfl))
   (nJ (nU (i:=4) sc_x.nd rfl (Or.inr rfl) (nS a2 hr.mo T.F_1 (nH (pq 0) (nH (pq 1) nI))))
   (nJ (nU (i:=5) sc_x.nd rfl (Or.inr rfl) (nR jT (nR lH (nR lH (pq 4) nK) (nS a2 hr.mo T.F_1 (nH (pq 0) (nH (nR iK (pq 1) nK) nI)))) (pq 1)))
   (nJ (nU (i:=6) sc_x.nd rfl (Or.inr rfl) (nR iK (nS a2 hr.mo T.F_1 (nH (pq 0) (nH nK nI))) nK))
   (nM (jS (lE (sc:=nP Aw) (N:=N_x) (fr:=[("_law_rows_here",2),("_law_i",4),("_law_j",5),("_law_by",6)]) (te:=(tOp (rI0 λi j=>.int (i+j)) (tOp (rIxB K) (tOp (rIxB K) (tVar 1) (tVar 2)) (tVar 0)) (tOp (rI (λi j=>IntMulOk i j) λi j=>.int (i*j)) (tVar 4) (tOp (rIxB K) (tOp (rIxB K) (tVar 1) (tVar 3)) (tVar 0))))) rfl rfl (nofun) rfl (nofun) (lG rfl T.z_range (nH (pq 1) nI)) (λ_ _ _ e3=>(nR lH (mG ix_B (mG ix_B (pv 1) (pv 2) (λ_ _=>rfl)) (pv 0) (λ_ _=>rfl)) (nR mZ (pv 4) (mG ix_B (mG ix_B (pv 1) (pv 3) (λ_ _=>rfl)) (pv 0) (λ_ _=>rfl)))))) (iE (pq 2) (pq 4) cE)))))))
   (nM (nV (pq 2))))),?_⟩
  show tSeq _ _ _ [some (.ref g),some (.int d),none,none,none,none,none] H;right;refine⟨d,rfl,⋯,λa f1 a6=>?_⟩;subst e1;refine st λN1 e1=>lN λc1 eB=>?_;simp only[mY];ext;refine⟨∅,∅,?_⟩;refine gD (g:=nX 3) (tb:=c1) (λk Y x=>∃(b1:Box)(f:LM)(v3 R L I:Option V),Y=[some (.ref g),some (.int d),some (.ref a),v3,R,L,I]/\Rk g H x a f/\Sq d f/\LeM (3^k) f/\x g=some (bxO b1)/\BxOk (J+3*k) b1) ⟨b,_,none,none,none,none,rfl,Rk.of a6 (λ_ _ _ e=>e) p,gJ,bF,a6.s _ _ p,d6⟩ ?_ ?_
  ·rintro k Y x e6 ⟨b1,f,v3,R,L,I,rfl,N,m,C,O,D⟩;subst eB;show tSeq _ _ _ [some (.ref g),some (.int d),some (.ref a),some (.int (0+(k:Int))),R,L,I] x;refine st λa3 F=>?_;ext;refine⟨g,d,b1,J+3*k,rfl,O,D,⋯,⋯,⋯,λe9 b6 b7=>?_⟩;obtain⟨b8,U⟩:=mM (many:=(d:Int)) D ⋯;have b0:=N.tk p b6;generalize tkB b1 (d:Int)=b2 at*
   obtain⟨i,a9⟩:=Int.eq_ofNat_of_zero_le b8.1;rw[a9]at b8 ⊢;have hi:i<d:=⋯
   clear N O b6 D a9;subst F;refine st λa3 F=>?_;ext;refine⟨g,(d:Int)-1,b2,J+3*k+1,rfl,b7,U,⋯,⋯,⋯,λe8 b4 b5=>?_⟩;obtain⟨_,S⟩:=mM (many:=(d:Int)-1) U ⋯;have a5:=b0.tk p b4;generalize tkB b2 ((d:Int)-1)=G at*
   generalize tkV b2 ((d:Int)-1)=d8 at*
   try ext
   obtain⟨j,b9,f3⟩:=Yn (c:=(i:Int)+1+d8) (d:=d) ⋯;refine⟨⋯,?_⟩;rw[b9];clear b0 b7 b4 U b9;subst F;refine st λa3 F=>?_;ext;refine⟨g,5,G,J+3*k+2,rfl,b5,S,⋯,∅,∅,λf2 a7 a8=>?_⟩;obtain⟨e4,d1⟩:=mM (many:=5) S ∅;have l:=a5.tk p a7;generalize tkB G 5=W at*
   generalize tkV G 5=b3 at*
   try ext
   have c9:(b3-2).natAbs<=2:=⋯
   generalize b3-2=n at*;clear a5 b5 a7 S;subst F;simp only[tAsg,gSub,eI];refine mK λB eB=>?_;simp only[mY];ext;refine⟨⋯,⋯,λa4 a1=>?_⟩;rw[zS];have X:f[i]?=some (f.getD i []):=by have:=m.1;simp[show i<f.length by omega]
   have Z:f[j]?=some (f.getD j []):=by have:=m.1;simp[show j<f.length by omega]
   have e0:=m.2 _ (zqb X);have f4:=m.2 _ (zqb Z);have e5:3^k<=3^3:=yS ∅ ⋯;have ok:∀z:Int,IntMulOk n z:=λz=>tQ (intBits_le_iff.mpr ⋯);refine jG (λu y _=>u<d/\y=.int ((f.getD i []).getD u 0+n*(f.getD j []).getD u 0)) a1 ⋯ (λ_ _ _ _ r _=>r) ?_ ?_
   ·intro u M zs v q e2 d5 c8;subst eB;show tOp _ _ _ [some (.int (0+(u:Int))),some (.ref a),some (.int i),some (.int j),some (.int n)] M d5;ext;refine gE (b1:=false) (b2:=false) (l.up q).m.l.b X (L2.getD_at (k:=u) ⋯) rfl ⋯ ?_;refine gE (b1:=false) (b2:=false) (l.up q).m.l.b Z (L2.getD_at (k:=u) ⋯) rfl ⋯ ?_;ext;exact⟨ok _,c8 _ _ (Same.refl _) ⟨v,rfl⟩⟩
   ·intro M ys q c3 c7 d2;have c4:ys=(mixR d (f.getD i []) (f.getD j []) n).map V.int:=by
     refine kE (by simpa [mixR]using c7) λu y e=>?_;obtain⟨v,rfl⟩:=d2 u y e;exact⟨_,by unfold mixR;rw[zH,xC v];rfl,rfl⟩
    subst c4;obtain⟨zs,d4,c5,c2⟩:=MatD.put (i:=i) l.m q a1 (fC l.k a8 a1) c3
    try ext
    refine⟨_,d4,i,Ea (by rw[c5,m.1];omega),?_⟩;have ab:a≠g:=λz=>by have:=l.n;rw[z,p]at this;cases this
    have c0:Rk g H (upd M a (.lst (zs.set i (.ref a4)))) a (f.set i (mixR d (f.getD i []) (f.getD j []) n)):=⟨λc o d7 e=>by
     rw[nO (λz=>by rw[z,l.n]at e;cases e)];exact q _ _ (l.k c o d7 e),l.n,c2⟩
    have d3:(upd M a (.lst (zs.set i (.ref a4)))) g=some (bxO W):=by rw[nO (zT ab)];exact q _ _ a8
    have d9:(mixR d (f.getD i []) (f.getD j []) n).length=d:=by simp[mixR]
    refine⟨W,_,c0,Ls (i:=i) m d9,λr hr z a0=>?_,d3,d1.le ⋯⟩;rw[sK];rcases uA hr with h|h
    ·have:=C r h z a0;omega
    ·rw[h]at a0;obtain⟨u,v,rfl⟩:=oZ.mp a0;have v:=oY.mp v;have b1:=C _ (zqb X) _ (L2.getD_mem (k:=u) ⋯);have b2:=C _ (zqb Z) _ (L2.getD_mem (k:=u) ⋯);have G:(n*(f.getD j []).getD u 0).natAbs<=2*3^k:=by rw[xK];exact wY c9 b2
     have W:=vW ((f.getD i []).getD u 0) (n*(f.getD j []).getD u 0);omega
  ·rintro Y x ⟨b1,f,v3,R,L,I,rfl,N,m,C,O,D⟩;symm;exact d0 a x f b1 N O (D.le ⋯) ⟨m,C⟩
theorem ok_13(T:Txt K mg t):FnOk P w K mg base CX0 3 t.a_13 t.d_13 pi' (sp_13 K):=by
 have u:=@ok_l P w K mg base t T;have C:=@ok_x P w K mg base t T;have p:=@ok_v P w K mg base t T;have v:=@ok_g P w K mg base t T;apply T.F_13.ok sc_13
 ·obtain⟨a,F,d,b,j,rfl,c,f,k,i,G,g⟩:=h;refine⟨_,(nJ (mF (mB kK (pq 0) nK (mD _))
   (nM (nV (nS u hr.mo T.F_l (nH (pq 2) nI))))
   mE)
   (nJ (mF (mB kK (pq 0) nK (mD _))
   (nM (nV (nS C hr.mo T.F_x (nH (pq 1) (nH (pq 2) nI)))))
   mE)
   (nJ (mF (mB fZ (pq 0) nK (mD _))
   (nM (nV (nS p hr.mo T.F_v (nH (pq 1) (nH (pq 2) nI)))))
   mE)
   (nM (nV (nS v hr.mo T.F_g (nH (pq 1) (nH (pq 2) nI)))))))),?_⟩
  show tSeq _ _ _ [some (.int F),some (.ref a),some (.int d)] H;have n:∀{k1 k2:Nat}{R:LM},k1<2->2<=k2->k2<4->R∈pgL (if d=2 then k1 else k2)->Wr d R:=λ{k1 k2 R}q I D h=>by
   rcases i with rfl|rfl
   ·have:=Ka (k:=k1) ⋯ h;rw[show famD k1=2 from zF q]at this;exact this
   ·have:=Ka (k:=k2) D h;rw[show famD k2=3 from zD ⋯]at this;exact this
  ext;refine ite2 (λz=>?_) (λz=>ite2 (λy=>?_) (λy=>ite2 (λx=>?_) (λx=>?_)))
  ·exact⟨d,rfl,⋯,λr H' o=>g r H' _ b (Rk.of o (λ_ _ _ e=>e) c) (o.s _ _ c) (f.le ⋯) ⟨gJ,LeM.le bF ∅⟩⟩
  ·exact⟨a,d,b,j,rfl,c,f,k,i,g⟩
  ·exact⟨a,d,b,j,rfl,c,f,k,i,λr H' R l k1 k2 k3 m=>g r H' R l k1 k2 k3 (n ∅ ∅ ∅ m)⟩
  ·exact⟨a,d,b,j,rfl,c,f,k,i,λr H' R l k1 k2 k3 m=>g r H' R l k1 k2 k3 (n ∅ ∅ ∅ m)⟩
def sxI(d:Nat)(b:Box):Int:=tkV b d
def sxJ(d:Nat)(b:Box):Int:=(tkV b d+1+tkV (tkB b d) ((d:Int)-1)).fmod d
def b3B(d:Nat)(b:Box):Box:=tkB (tkB b d) ((d:Int)-1)
def b5B(d:Nat)(b:Box):Box:=tkB (tkB (b3B d b) 5) 4
def sxM(d:Nat)(b:Box):Int:=if tkV (tkB (b3B d b) 5) 4=1 then tkV (b5B d b) 2000001-1000000 else tkV (b3B d b) 5-2
def nxB(d:Nat)(b:Box):Box:=if tkV (tkB (b3B d b) 5) 4=1 then tkB (b5B d b) 2000001 else b5B d b
def sxS(d:Nat)(b:Box):Stp:=⟨(sxI d b).toNat,(sxJ d b).toNat,sxM d b⟩
def bxS(d:Nat):Nat->Box->Box
 |0,b=>b
 |n+1,b=>nxB d (bxS d n b)
def stB(d:Nat):Nat->Box->List Stp
 |0,_=>[]
 |n+1,b=>sxS d (bxS d n b):: stB d n b
def stL(d:Nat)(b:Box):List Stp:=stB d (tkV b 4).toNat (tkB b 4)
theorem Lq{d:Nat}{b:Box}{B:Nat}(n:d=2\/d=3)(h:BxOk B b):(0<=sxI d b/\sxI d b<d)/\(0<=sxJ d b/\sxJ d b<d)/\(sxS d b).Ok d/\BxOk (B+5) (nxB d b):=by
 obtain⟨c,m⟩:=mM (many:=(d:Int)) h ⋯;obtain⟨u,o⟩:=mM (many:=(d:Int)-1) m ⋯;obtain⟨i,l⟩:=mM (many:=5) o ∅;obtain⟨v,a⟩:=mM (many:=4) l ∅;obtain⟨q,j⟩:=mM (many:=2000001) a ∅;have f:=fms1 (tkV b d+1+tkV (tkB b d) ((d:Int)-1)) d ⋯;have g:sxJ d b=(tkV b d+1+tkV (tkB b d) ((d:Int)-1)).fmod d:=rfl;have e:sxI d b=tkV b d:=rfl;have x:sxI d b≠sxJ d b:=by
  rw[g,e,xX _ ⋯];rcases n with rfl|rfl <;> omega
 have r:(sxM d b).natAbs<=1000000:=by
  have y:0<=tkV (b3B d b) 5/\tkV (b3B d b) 5<5:=i;have z:0<=tkV (b5B d b) 2000001/\tkV (b5B d b) 2000001<2000001:=q;unfold sxM;split <;> omega
 rw[←g]at f;rw[←e]at c;refine⟨c,f,⟨?_,?_,?_,r⟩,?_⟩
 ·show(sxI d b).toNat<d;omega
 ·show(sxJ d b).toNat<d;omega
 ·show(sxI d b).toNat≠(sxJ d b).toNat;omega
 ·have p:BxOk (B+4) (b5B d b):=a;have k:BxOk (B+5) (tkB (b5B d b) 2000001):=j;unfold nxB;split
  ·exact k
  ·exact p.le ⋯
theorem Fz{d:Nat}{b:Box}{B:Nat}(c:d=2\/d=3)(h:BxOk B b):∀n,(∀s∈stB d n b,s.Ok d)/\(stB d n b).length=n/\BxOk (B+5*n) (bxS d n b)
 |0=>⟨λ_ h=>(by cases h),rfl,h⟩
 |n+1=>by
  obtain⟨f,i,g⟩:=Fz c h n;obtain⟨_,_,e,j⟩:=Lq c g;refine⟨λs a=>?_,by show(stB d n b).length+1=_;rw[i],j.le ⋯⟩;rcases xL.mp a with rfl|a
  ·exact e
  ·exact f s a
theorem Lp{d:Nat}{b:Box}{B:Nat}(e:d=2\/d=3)(h:BxOk B b):(∀s∈stL d b,s.Ok d)/\(stL d b).length<=3:=by
 obtain⟨g,c⟩:=mM (many:=4) h ∅;obtain⟨a,f,_⟩:=Fz e c (tkV b 4).toNat;exact⟨a,by show(stB _ _ _).length<=3;rw[f];omega⟩
theorem KX.over{a r:Addr}{D H:Hp}{o:HO}(k:KX a D H)(n:D r=none):KX a D (upd H r o):=λb x c e=>by
 rw[nO (λz=>by rw[z,n]at e;cases e)];exact k b x c e
def sp_p:Sp:=λvs H Q _=>E8 λ(a bx:Addr)(b:Box)(Z d:Nat)(R:LM)(D:Hp)(o:HO)=>A9 (vs=[.ref a,.ref bx]) ((d=2\/d=3)) (Wr d R) (Rk bx D H a R) (D bx=some o) (H bx=some (bxO b)) (BxOk Z b) (Z<=900000) (∀H' b',Rk bx D H' a (cjM d (chP d (stL d b)) (chQ d (stL d b)) R)->H' bx=some (bxO b')->Q (.ref a) H')
theorem ok_p(T:Txt K mg t):FnOk P w K mg base CX0 2 t.a_p t.d_p pk' sp_p:=by
 have a0:=@ok_1 P w K mg base t T;apply T.F_p.ok sc_p
 ·obtain⟨a,m,b,S,d,R,D,o,rfl,U,d7,c9,J,d5,f2,j7,e7⟩:=h;refine⟨_,(nJ (nU (i:=2) sc_p.nd rfl (Or.inl rfl) (lC T.z_len (pq 0)))
   (nJ (lJ yD rfl (lG rfl T.z_range (nH (nS a0 hr.mo T.F_1 (nH (pq 1) (nH nK nI))) nI)) (mP (i:=3) sc_p.nd rfl (Or.inl rfl))
   (nJ (nU (i:=4) sc_p.nd rfl (Or.inr rfl) (nS a0 hr.mo T.F_1 (nH (pq 1) (nH (pq 2) nI))))
   (nJ (nU (i:=5) sc_p.nd rfl (Or.inr rfl) (nR jT (nR lH (nR lH (pq 4) nK) (nS a0 hr.mo T.F_1 (nH (pq 1) (nH (nR iK (pq 2) nK) nI)))) (pq 2)))
   (nJ (nU (i:=6) sc_p.nd rfl (Or.inr rfl) (nR iK (nS a0 hr.mo T.F_1 (nH (pq 1) (nH nK nI))) nK))
   (nJ (mF (mB kK (nS a0 hr.mo T.F_1 (nH (pq 1) (nH nK nI))) nK (mD _))
   (nM (nU (i:=6) sc_p.nd rfl (Or.inr rfl) (nR iK (nS a0 hr.mo T.F_1 (nH (pq 1) (nH (nR lH (nR mZ nK (nR Bs nK nK)) nK) nI))) (nR Bs nK nK))))
   mE)
   (nJ (jS (lE (sc:=nP Av) (N:=N_p) (fr:=[("_law_rows_here",0),("_law_i",4),("_law_j",5),("_law_by",6)]) (te:=(tOp (rI0 λi j=>.int (i+j)) (tOp (rIxB K) (tOp (rIxB K) (tVar 1) (tVar 2)) (tVar 0)) (tOp (rI (λi j=>IntMulOk i j) λi j=>.int (i*j)) (tVar 4) (tOp (rIxB K) (tOp (rIxB K) (tVar 1) (tVar 3)) (tVar 0))))) rfl rfl (nofun) rfl (nofun) (lG rfl T.z_range (nH (pq 2) nI)) (λ_ _ _ j1=>(nR lH (mG ix_B (mG ix_B (pv 1) (pv 2) (λ_ _=>rfl)) (pv 0) (λ_ _=>rfl)) (nR mZ (pv 4) (mG ix_B (mG ix_B (pv 1) (pv 3) (λ_ _=>rfl)) (pv 0) (λ_ _=>rfl)))))) (iE (pq 0) (pq 4) cE))
   (nM (lJ yD rfl (mT (pq 0)) (mP (i:=7) sc_p.nd rfl (Or.inl rfl))
   (nM (jS (nR iK (mG ix_B (pq 7) (pq 5) (λ_ _=>rfl)) (nR mZ (pq 6) (mG ix_B (pq 7) (pq 4) (λ_ _=>rfl)))) (iE (pq 7) (pq 5) cE)))))))))))
   (nM (nV (pq 0))))),?_⟩
  show tSeq _ _ _ [some (.ref a),some (.ref m),none,none,none,none,none,none] H;have d0:=d7.1;right;refine fM (b1:=false) (b2:=false) c9.m.l.b ?_
  try ext
  rw[d0.1];subst e1;refine st λN1 e1=>lN λB eB=>?_;simp only[mY];ext;refine⟨m,4,b,S,rfl,d5,f2,⋯,∅,∅,λk0 d9 g5=>?_⟩;obtain⟨j4,g6⟩:=mM (many:=4) f2 ∅;have g0:=c9.tk J d9;have e5:stL d b=stB d (tkV b 4).toNat (tkB b 4):=rfl;rw[e5]at e7;clear e5 c9 d5 d9;generalize tkB b 4=v at*
  generalize tkV b 4=c at*
  try ext
  refine⟨⋯,⋯,?_⟩;have ne:∀{q},D q=none->q≠m:=λ{q}z y=>by rw[y,J]at z;cases z
  refine gD (g:=nX 3) (tb:=B) (λn L C=>∃v3 b8 b5 b3 F,L=[some (.ref a),some (.ref m),some (.int (d)),v3,b8,b5,b3,F]/\Rk m D C a (cjM (d) (chP (d) (stB (d) n v)) (chQ (d) (stB (d) n v)) R)/\C m=some (bxO (bxS d n v))) ⟨none,none,none,none,none,rfl,by rw[show stB (d) 0 v=[] from rfl,(Xp U d0 (v:=List.replicate (d) 0) (by simp)).1];exact g0,g5⟩ ?_ ?_
  ·rintro n L C j8 ⟨v3,b8,b5,b3,F,rfl,g,M⟩;obtain⟨ok,j6,a9⟩:=Fz U g6 n;have es:stB (d) (n+1) v=sxS (d) (bxS d n v):: stB (d) n v:=rfl;have a4:bxS d (n+1) v=nxB d (bxS d n v):=rfl;rw[es,a4];generalize bxS d n v=x at*
   obtain⟨i5,h7,d3,h2⟩:=Lq U a9;have i6:n<=3:=⋯
   have Z:=dO (iD U ok) R;have a8:mV 145 (cjM (d) (chP (d) (stB (d) n v)) (chQ (d) (stB (d) n v)) R):=λr hr z a3=>wX (Eg (F:=⟨d,stB d n v,1⟩) ⟨U,ok,by show(stB _ n v).length<=3;omega,by show(0:Int)<1;decide,by show(1:Int)<2^100;decide⟩ d7.2 r hr z a3) ∅;have nx:=Xq U ok d3 d0;rw[←nx];generalize cjM (d) (chP (d) (stB (d) n v)) (chQ (d) (stB (d) n v)) R=f at*
   subst eB;show tSeq _ _ _ [some (.ref a),some (.ref m),some (.int d),some (.int (0+(n:Int))),b8,b5,b3,F] C;obtain⟨hi,k2,j0,j9⟩:=d3;have d8:tkV x d=((sxS d x).i:Int):=by
    show _=(((sxI d x).toNat:Nat):Int);have:sxI d x=tkV x d:=rfl;omega
   have d2:(tkV x d+1+tkV (tkB x d) ((d:Int)-1)).fmod d=((sxS d x).j:Int):=by
    show _=(((sxJ d x).toNat:Nat):Int);have:sxJ d x=(tkV x d+1+tkV (tkB x d) ((d:Int)-1)).fmod d:=rfl;omega
   have a7:(sxS d x).m=if tkV (tkB (b3B d x) 5) 4=1 then tkV (b5B d x) 2000001-1000000 else tkV (b3B d x) 5-2:=rfl
   have b6:b3B d x=tkB (tkB x d) ((d:Int)-1):=rfl;have f9:b5B d x=tkB (tkB (b3B d x) 5) 4:=rfl;have b0:nxB d x=if tkV (tkB (b3B d x) 5) 4=1 then tkB (b5B d x) 2000001 else b5B d x:=rfl
   clear i5 h7 h2;generalize nxB d x=c5 at*
   generalize b5B d x=h5 at*;generalize b3B d x=h4 at*
   generalize (sxS d x).i=i at*;generalize (sxS d x).j=j at*
   generalize (sxS d x).m=l at*;refine st λa1 G=>?_;ext;refine⟨m,d,x,S+1+5*n,rfl,M,a9,⋯,⋯,⋯,λW e6 e9=>?_⟩;obtain⟨_,c0⟩:=mM (many:=(d:Int)) a9 ⋯;replace g:=g.tk J e6;rw[d8]at d2 ⊢;clear M e6 a9 d8;generalize tkB x d=i3 at*
   subst G;refine st λa1 G=>?_;ext;refine⟨m,(d:Int)-1,i3,S+1+5*n+1,rfl,e9,c0,⋯,⋯,⋯,λe2 e3 X=>?_⟩;obtain⟨_,a6⟩:=mM (many:=(d:Int)-1) c0 ⋯;replace g:=g.tk J e3
   try ext
   refine⟨⋯,?_⟩;rw[d2];rw[←b6]at X a6;clear e9 e3 c0 d2 b6;subst G;refine st λa1 G=>?_;ext;refine⟨m,5,h4,S+1+5*n+2,rfl,X,a6,⋯,∅,∅,λN d6 a2=>?_⟩;obtain⟨_,e8⟩:=mM (many:=5) a6 ∅;replace g:=g.tk J d6
   try ext
   clear X d6 a6;subst G;refine st λa1 G=>?_;have f1:∀C,Rk m D C a f->C m=some (bxO c5)->a1 [some (.ref a),some (.ref m),some (.int d),some (.int (0+(n:Int))),some (.int i),some (.int j),some (.int l),F] C:=λC g M=>by
    subst G;refine st λa1 G=>?_;simp only[tAsg,gSub,eI];refine mK λB eB=>?_;simp only[mY];ext;refine⟨⋯,⋯,λc1 c8=>?_⟩;rw[zS];have c4:f[i]?=some (f.getD i []):=by have:=Z.1;simp[show i<f.length by omega]
    have b4:f[j]?=some (f.getD j []):=by have:=Z.1;simp[show j<f.length by omega]
    have i7:=Z.2 _ (zqb c4);have k3:=Z.2 _ (zqb b4);have c6:l.natAbs<2^20:=by
     have:(2:Nat)^20=1048576:=∅
     omega
    refine jG (λu y _=>u<d/\y=.int ((f.getD i []).getD u 0+l*(f.getD j []).getD u 0)) c8 ⋯ (λ_ _ _ _ r _=>r) ?_ ?_
    ·intro u W zs I O i9 i2 h3;subst eB;show tOp _ _ _ [some (.int (0+(u:Int))),some (.ref a),some (.int i),some (.int j),some (.int l)] W i2;ext;refine gE (b1:=false) (b2:=false) (g.up O).m.l.b c4 (L2.getD_at (k:=u) ⋯) rfl ⋯ ?_;refine gE (b1:=false) (b2:=false) (g.up O).m.l.b b4 (L2.getD_at (k:=u) ⋯) rfl ⋯ ?_;ext;exact⟨xF (mW c6) (mW (a8 _ (zqb b4) _ (L2.getD_mem ⋯))) ∅,h3 _ _ (Same.refl _) ⟨I,rfl⟩⟩
    ·intro W ys O b6 g8 h8;have b7:ys=(mixR d (f.getD i []) (f.getD j []) l).map V.int:=by
      refine kE (by simpa [mixR]using g8) λu y e=>?_;obtain⟨I,rfl⟩:=h8 u y e;exact⟨_,by unfold mixR;rw[zH,xC I];rfl,rfl⟩
     subst b7;obtain⟨zs,h9,g4,g1⟩:=MatD.put (i:=i) g.m O c8 (fC g.k M c8) b6
     try ext
     refine⟨_,h9,i,Ea (by rw[g4,Z.1];omega),?_⟩;have c3:Rk m D (upd W a (.lst (zs.set i (.ref c1)))) a (f.set i (mixR d (f.getD i []) (f.getD j []) l)):=⟨KX.over (g.k.trans (KX.same O)) g.n,g.n,g1⟩;have X:(upd W a (.lst (zs.set i (.ref c1)))) m=some (bxO c5):=by rw[nO (zT (ne g.n))];exact O _ _ M
     generalize upd W a (.lst (zs.set i (.ref c1)))=e2 at c3 X;have i4:(mixR d (f.getD i []) (f.getD j []) l).length=d:=by simp[mixR]
     have a5:=Ls (i:=i) Z i4;have g7:mV 170 (f.set i (mixR d (f.getD i []) (f.getD j []) l)):=λr hr z a3=>by
      rcases uA hr with h|h
      ·exact zP (a8 r h z a3) (yS ∅ ∅)
      ·rw[h]at a3;obtain⟨u,I,rfl⟩:=oZ.mp a3;have I:=oY.mp I;have b1:=a8 _ (zqb c4) _ (L2.getD_mem (k:=u) ⋯);have b2:=a8 _ (zqb b4) _ (L2.getD_mem (k:=u) ⋯);have j3:(l*(f.getD j []).getD u 0).natAbs<2^20*2^145:=by rw[xK];exact pN c6 b2
       have i8:=vW ((f.getD i []).getD u 0) (l*(f.getD j []).getD u 0);have j2:(2:Nat)^140+2^20*2^145<=2^170:=∅
       omega
     have f5:Ah d i j l f=(f.set i (mixR d (f.getD i []) (f.getD j []) l)).map (colR d i j l):=rfl;generalize f.set i (mixR d (f.getD i []) (f.getD j []) l)=b9 at*
     obtain⟨zs,f4,f7⟩:∃zs,e2 a=some (.lst zs)/\zs.length=d:=by
      obtain⟨ps,h,hl,_⟩:=c3.m;exact⟨_,h,by rw[zqe,hl,a5.1]⟩
     subst G;refine lN λB eB=>?_;simp only[iSeq];ext;refine⟨false,⟨_,SqB.lst f4⟩,?_⟩;refine jP (g:=nX 7) (tb:=B) (λu L N=>∃F,L=[some (.ref a),some (.ref m),some (.int d),some (.int (0+(n:Int))),some (.int i),some (.int j),some (.int l),F]/\Rk m D N a (colU d i j l b9 u)/\N a=some (.lst zs)/\N m=some (bxO c5)) ⟨_,rfl,by unfold colU;rw[oH];exact c3,f4,X⟩ (λ_ _ _ _⟨_,_,_,h,_⟩=>SqB.lst h) ?_ ?_
     ·rintro u y L N b7 ⟨F,rfl,Y,a4,a2⟩;have I:u<d:=by have:=(zqa b7).1;omega
      obtain⟨rt,c2⟩:∃rt,b9[u]?=some rt:=⟨_,zqd (by rw[a5.1];exact I)⟩;obtain⟨f6,h0⟩:=Yl (d:=d) (i:=i) (j:=j) (m:=l) c2;have h1:=a5.2 _ (zqb c2);obtain⟨j5,p,f3,f0,k1,f8,e0,d1,g9⟩:=Y.m.row f6;rw[a4]at f3;cases f3;rw[b7]at f0;cases f0;subst eB;show tAsg _ _ _ [some (.ref a),some (.ref m),some (.int d),some (.int (0+(n:Int))),some (.int i),some (.int j),some (.int l),some (.ref p)] N;simp only[tAsg,gSub,eI];ext;refine⟨false,p,_,_,_,rfl,rfl,SqB.lst d1,jH (gR (getD_at (k:=j) ⋯)) rfl,false,p,_,_,_,rfl,rfl,SqB.lst d1,jH (gR (getD_at (k:=i) ⋯)) rfl,?_⟩;ext;refine⟨xF (mW c6) (mW (g7 rt (zqb c2) _ (L2.getD_mem ⋯))) ∅,?_⟩;refine⟨_,d1,j,Ea (by rw[zqe];omega),?_⟩;have e4:=g9 (colR d i j l rt);rw[h0]at e4;have e:(rt.map V.int).set j (.int (rt.getD j 0-l*rt.getD i 0))=(colR d i j l rt).map V.int:=by rw[←Ym h1 ⋯,List.map_set]
      rw[e];refine⟨⟨KX.over Y.k e0,Y.n,e4⟩,?_,?_⟩
      ·rw[nO (zT f8)];exact a4
      ·rw[nO (zT (ne e0))];exact a2
     ·rintro L N ⟨F,rfl,Y,a4,a2⟩;rw[f7]at Y;have e:colU d i j l b9 d=b9.map (colR d i j l):=by
       unfold colU;rw[yJ (by rw[a5.1];exact zE _),List.drop_of_length_le (by rw[a5.1];exact zE _),wO]
      rw[f5,←e];exact⟨_,_,_,_,_,rfl,Y,a2⟩
   ext;refine⟨m,4,_,S+1+5*n+3,rfl,a2,e8,⋯,∅,∅,λg3 i1 c7=>?_⟩;obtain⟨_,d4⟩:=mM (many:=4) e8 ∅;replace g:=g.tk J i1;rw[←f9]at c7 d4
   try ext
   refine ite2 (λz=>?_) (λz=>?_)
   ·rw[zF (xT z)]at a7 b0;refine⟨⟨∅,∅,∅⟩,tQ ∅,?_⟩;refine⟨m,2000001,h5,S+1+5*n+4,rfl,c7,d4,⋯,∅,∅,λh6 g2 i0=>?_⟩;replace g:=g.tk J g2
    try ext
    refine⟨⟨∅,∅,∅⟩,?_⟩;have k:=f1 h6 g (by rw[i0,b0]);rw[a7]at k;exact k
   ·rw[zD (by simpa using z)]at a7 b0;have k:=f1 g3 g (by rw[c7,b0]);rw[a7]at k;exact k
  ·rintro L C ⟨v3,b8,b5,b3,F,rfl,g,M⟩;symm;exact e7 C _ g M
theorem ok_f(T:Txt K mg t):FnOk P w K mg base CX0 1 t.a_f t.d_f po' sp_f:=by
 apply T.F_f.ok sc_f
 ·obtain⟨a,b,rfl,k⟩:=h;refine⟨_,(nJ (nU (i:=0) sc_f.nd rfl (Or.inl rfl) (mS dY rfl T.z_abs (nofun) (nH (pq 0) nI)))
   (nJ (nU (i:=1) sc_f.nd rfl (Or.inl rfl) (mS dY rfl T.z_abs (nofun) (nH (pq 1) nI)))
   (nJ (Bu yD (mB iW (pq 1) nK (mD _))
   (nM (Nu (i:=0) (j:=1) rfl sc_f.nd rfl rfl ∅ rfl rfl (nH (pq 1) (nH (nR jT (pq 0) (pq 1)) nI)) rfl)))
   (nM (nV (pq 0)))))),?_⟩
  show tSeq _ _ _ [some (.int a),some (.int b)] H;ext;refine⟨λm d c=>∃g l,d=[some (.int g),some (.int l)]/\c=H/\0<=g/\0<=l/\Int.gcd g l=Int.gcd a b/\m=l.toNat,
   ⟨_,_,_,rfl,rfl,Ao a,Ao b,Jt a b,rfl⟩,?_⟩
  rintro m d c ⟨g,l,rfl,rfl,i,hl,e,rfl⟩;ext
  by_cases z:0<l
  ·rw[zM z];refine iteT ⟨λf H'=>f=[some (.int l),some (.int (g.fmod l))]/\H'=c,?_,⋯,rfl,rfl⟩;rintro f H' ⟨rfl,rfl⟩;have l1:=sG g z;have l2:=uU g z;exact⟨(g.fmod l).toNat,⋯,_,_,rfl,rfl,hl,l2,by rw[Ju];exact e,rfl⟩
  ·rw[zJ z];refine iteF ?_;rw[Js e i ⋯];exact k
theorem Lo{u:Int}{ns:LI'}{i:Nat}{x:Int}(e:ns[i]?=some x):gcdI (gl u (ns.take i)) x=gl u (ns.take (i+1)):=by
 unfold gl;rw[yY,e,vX];rfl
theorem Ln{u:Int}{ns:LI'}(a:0<u):gl u ns=cs u ns:=by
 unfold cs;rw[zD ⋯]
theorem Lm{u:Int}{ns:LI'}(b:0<u)(a:jK u)(x:Int):fL x (cs u ns):=by
 have h:=dL ns (show u≠0 by omega);exact⟨h,Jr (Jq a ⋯ (iR (gl_u u ns))) h⟩
theorem ok_11(T:Txt K mg t):FnOk P w K mg base CX0 2 t.a_11 t.d_11 pf' (sp_11 K):=by
 have a0:=@ok_f P w K mg base t T;apply T.F_11.ok sc_11
 ·obtain⟨b1,b2,G,a,l,M,ns,u,rfl,o,f,b4,b0,p,R,a2⟩:=h;refine⟨_,(nJ (nU (i:=3) sc_11.nd rfl (Or.inr rfl) (pq 2))
   (nJ (lJ yD rfl (mT (pq 1)) (mP (i:=4) sc_11.nd rfl (Or.inl rfl))
   (nM (nU (i:=3) sc_11.nd rfl (Or.inr rfl) (nS a0 hr.mo T.F_f (nH (pq 3) (nH (pq 4) nI))))))
   (nM (nV (kQ (nH (lK jX rfl T.z_tuple (nofun) (nH (lE (sc:=nP s_11) (N:=N_11) (fr:=[]) (te:=(tCB (eX K) (mH (tVar 0) tNil))) rfl rfl (nofun) rfl (nofun) (mT (pq 0)) (λ_ _ _ a3=>(lK jX rfl T.z_tuple (nofun) (nH (pv 0) nI)))) nI)) (nH (lK jX rfl T.z_tuple (nofun) (nH (lE (sc:=nP s_11) (N:=N_11) (fr:=[("_law_by",3)]) (te:=(tOp (rI fL λi j=>.int (i.fdiv j)) (tVar 0) (tVar 1))) rfl rfl (nofun) rfl (nofun) (mT (pq 1)) (λ_ _ _ a3=>(nR gQ (pv 0) (pv 1)))) nI)) (nH (nR gQ (pq 2) (pq 3)) nI)))))))),?_⟩
  show tSeq _ _ _ [some (.ref a),some (.ref l),some (.int u),none,none] H;right;subst e1;refine st λN1 e1=>lN λB eB=>?_;simp only[iSeq];ext;refine⟨G,⟨_,f⟩,?_⟩;refine jP (g:=nX 4) (tb:=B) (λi m b=>∃v,m=[some (.ref a),some (.ref l),some (.int u),some (.int (gl u (ns.take i))),v]/\b=H) ⟨none,by rw[oH];show _=[_,_,_,some (V.int (absI u)),_];unfold absI;rw[zD ⋯],rfl⟩ (λ_ _ _ _⟨_,_,e⟩=>e ▸ f) ?_ ?_
  ·rintro i y m b g ⟨v,rfl,rfl⟩;obtain⟨x,a7,rfl⟩:=jY g;subst eB;show tAsg _ _ _ [some (.ref a),some (.ref l),some (.int u),some (.int (gl u (ns.take i))),some (.int x)] b;ext;refine⟨_,_,rfl,?_⟩;rw[Lo a7];exact⟨rfl,rfl⟩
  ·rintro m b ⟨v,rfl,rfl⟩;rw[zqe,yJ (zE _),Ln p];have z:=Lm (ns:=ns) p R;symm;exfalso;obtain⟨xs,a4,_⟩:=o.walk;refine⟨b1,⟨_,a4⟩,λO S=>?_⟩;subst eB;refine Ez o ⋯ S λq zs N a5 c=>?_;refine⟨O,_,rfl,.inl ⟨SqL.of a5,λl1 F=>?_⟩⟩;have d:Same b (upd q l1 (.tup zs)):=N.trans (Same.new F);replace c:=c l1 F;generalize upd q l1 (.tup zs)=a9 at d c;exfalso;refine⟨G,⟨_,f.up d⟩,λL X=>?_⟩;refine kX (λj y _=>∃n,ns[j]?=some n/\y=.int (n.fdiv (cs u ns))) X (f.up d) (by rw[zqe];omega) (λ_ _ _ _ r _=>r) ?_ ?_
   ·intro j y C b3 Z _ _ U Y;obtain⟨n,a6,rfl⟩:=jY Z;subst eB;show tOp _ _ _ [some (.int n),some (.int (cs u ns))] C U;ext;exact⟨z n,Y _ _ (Same.refl _) ⟨n,a6,rfl⟩⟩
   ·intro C ys a8 a1 J I;have g:ys=(redT u ns).map V.int:=by
     unfold redT;rw[yW];exact kE (by simpa using J) I
    subst g;refine⟨L,_,rfl,.inl ⟨SqL.of a1,λl2 W=>?_⟩⟩;refine⟨z u,by show 3<=sizeLine;decide,λr k=>?_⟩;have D:=a8.trans (Same.new (o:=.tup ((redT u ns).map V.int)) W);exact a2 r _ ((d.trans D).trans (Same.new k)) ⟨l1,l2,nN,(c.up D).up (Same.new k),Same.new k _ _ nN⟩
theorem ok_m(T:Txt K mg t):FnOk P w K mg base CX0 2 t.a_m t.d_m pf' (sp_m K):=by
 have a1:=@ok_f P w K mg base t T;apply T.F_m.ok sc_m
 ·obtain⟨b1,b2,G,a,l,M,ns,u,rfl,o,f,b6,b4,p,S,a3⟩:=h;refine⟨_,(nJ (nU (i:=3) sc_m.nd rfl (Or.inr rfl) (pq 2))
   (nJ (lJ yD rfl (mT (pq 1)) (mP (i:=4) sc_m.nd rfl (Or.inl rfl))
   (nM (nU (i:=3) sc_m.nd rfl (Or.inr rfl) (nS a1 hr.mo T.F_f (nH (pq 3) (nH (pq 4) nI))))))
   (nJ (nU (i:=2) sc_m.nd rfl (Or.inr rfl) (nR gQ (pq 2) (pq 3)))
   (nM (nV (kQ (nH (lK jX rfl T.z_tuple (nofun) (nH (lE (sc:=nP cU) (N:=N_m) (fr:=[]) (te:=(tCB (eX K) (mH (tVar 0) tNil))) rfl rfl (nofun) rfl (nofun) (mT (pq 0)) (λ_ _ _ a4=>(lK jX rfl T.z_tuple (nofun) (nH (pv 0) nI)))) nI)) (nH (lK jX rfl T.z_tuple (nofun) (nH (lE (sc:=nP cU) (N:=N_m) (fr:=[("_law_under",2),("_law_by",3)]) (te:=(tOp (rI (λ_ j=>j≠0) λi j=>.int (i.fmod j)) (tOp (rI fL λi j=>.int (i.fdiv j)) (tVar 0) (tVar 2)) (tVar 1))) rfl rfl (nofun) rfl (nofun) (mT (pq 1)) (λ_ _ _ a4=>(nR jT (nR gQ (pv 0) (pv 2)) (pv 1)))) nI)) (nH (pq 2) nI))))))))),?_⟩
  show tSeq _ _ _ [some (.ref a),some (.ref l),some (.int u),none,none] H;right;subst e1;refine st λN1 e1=>lN λB eB=>?_;simp only[iSeq];ext;refine⟨G,⟨_,f⟩,?_⟩;refine jP (g:=nX 4) (tb:=B) (λi m b=>∃v,m=[some (.ref a),some (.ref l),some (.int u),some (.int (gl u (ns.take i))),v]/\b=H) ⟨none,by rw[oH];show _=[_,_,_,some (V.int (absI u)),_];unfold absI;rw[zD ⋯],rfl⟩ (λ_ _ _ _⟨_,_,e⟩=>e ▸ f) ?_ ?_
  ·rintro i y m b g ⟨v,rfl,rfl⟩;obtain⟨x,a8,rfl⟩:=jY g;subst eB;show tAsg _ _ _ [some (.ref a),some (.ref l),some (.int u),some (.int (gl u (ns.take i))),some (.int x)] b;ext;refine⟨_,_,rfl,?_⟩;rw[Lo a8];exact⟨rfl,rfl⟩
  ·rintro m b ⟨v,rfl,rfl⟩;rw[zqe,yJ (zE _),Ln p];have z:=Lm (ns:=ns) p S;have up:0<redU u ns:=Ap ns ⋯;subst e1;refine st λO a9=>?_;ext;refine⟨z u,?_⟩;show O [some (.ref a),some (.ref l),some (.int (redU u ns)),some (.int (cs u ns)),v] b;subst a9;ext;exfalso;obtain⟨xs,a5,_⟩:=o.walk;refine⟨b1,⟨_,a5⟩,λR U=>?_⟩;subst eB;refine Ez o ⋯ U λq zs N a6 c=>?_;refine⟨R,_,rfl,.inl ⟨SqL.of a6,λl1 F=>?_⟩⟩;have d:Same b (upd q l1 (.tup zs)):=N.trans (Same.new F);replace c:=c l1 F;generalize upd q l1 (.tup zs)=b3 at d c;exfalso;refine⟨G,⟨_,f.up d⟩,λL Y=>?_⟩;refine kX (λj y _=>∃n,ns[j]?=some n/\y=.int ((n.fdiv (cs u ns)).fmod (redU u ns))) Y (f.up d) (by rw[zqe];omega) (λ_ _ _ _ r _=>r) ?_ ?_
   ·intro j y C b5 a0 _ _ W Z;obtain⟨n,a7,rfl⟩:=jY a0;subst eB;show tOp _ _ _ [some (.int n),some (.int (redU u ns)),some (.int (cs u ns))] C W;ext;exact⟨z n,⋯,Z _ _ (Same.refl _) ⟨n,a7,rfl⟩⟩
   ·intro C ys b0 a2 J I;have g:ys=(lR (redU u ns) (redT u ns)).map V.int:=by
     unfold lR redT;rw[yW,yW];exact kE (by simpa using J) I
    subst g;refine⟨L,_,rfl,.inl ⟨SqL.of a2,λl2 X=>?_⟩⟩;refine⟨by show 3<=sizeLine;decide,λr k=>?_⟩;have D:=b0.trans (Same.new (o:=.tup ((lR (redU u ns) (redT u ns)).map V.int)) X);exact a3 r _ ((d.trans D).trans (Same.new k)) ⟨l1,l2,nN,(c.up D).up (Same.new k),Same.new k _ _ nN⟩
theorem Yk{N:LM}{ns ts:LI'}{u v:Int}{i:Nat}{r:LI'}{n:Int}(e1:N[i]?=some r)(a:ns[i]?=some n):(movT N ns v ts u)[i]?=some (dotI r ts*v+n*u):=by
 unfold movT;rw[wB,e1,a]
theorem ok_6(T:Txt K mg t):FnOk P w K mg base CX0 4 t.a_6 t.d_6 po' (sp_6 K):=by
 have c7:=@ok_j P w K mg base t T;have d0:=@ok_m P w K mg base t T;apply T.F_6.ok sc_6
 ·obtain⟨p,q,x,y,d,rfl,M,G,c5,b3,F,e0,a4,c4,c8,d2,R,a3,ty,e3,d4,c3⟩:=h;refine⟨_,(nJ (nU (i:=2) sc_6.nd rfl (Or.inl rfl) (nS c7 hr.mo T.F_j (nH (nY (pq 1)) (nH (nY (pq 0)) nI))))
   (nJ (nU (i:=3) sc_6.nd rfl (Or.inl rfl) (mQ nI))
   (nJ (lJ yD rfl (lG rfl T.z_range (nH (lC T.z_len (pq 2)) nI)) (mP (i:=4) sc_6.nd rfl (Or.inr rfl))
   (nJ (nU (i:=5) sc_6.nd rfl (Or.inl rfl) (mS (bZ rfl) rfl T.z_sum (nofun) (nH (lE (sc:=nP s_6) (N:=N_6) (fr:=[("_law_one",0),("_law_other",1),("_law_i",4)]) (te:=(tOp (rI (λi j=>IntMulOk i j) λi j=>.int (i*j)) (tOp (rIxB K) (tOp (rIxB K) (tOp (rIxB K) (tVar 2) (tC (.int 0))) (tVar 3)) (tVar 0)) (tOp (rIxB K) (tOp (rIxB K) (tVar 1) (tC (.int 1))) (tVar 0)))) rfl rfl (nofun) rfl (nofun) (lG rfl T.z_range (nH (lC T.z_len (pq 2)) nI)) (λ_ _ _ d9=>(nR mZ (mG ix_B (mG ix_B (nY (pv 2)) (pv 3) (λ_ _=>rfl)) (pv 0) (λ_ _=>rfl)) (mG ix_B (nY (pv 1)) (pv 0) (λ_ _=>rfl))))) nI)))
   (nM (gM (eJ wL vE vB eK (pq 3) (nH (nR lH (nR mZ (pq 5) (nY (pq 1))) (nR mZ (mG ix_B (nY (pq 1)) (pq 4) (λ_ _=>rfl)) (nY (pq 0)))) nI))))))
   (nM (nV (nS d0 hr.mo T.F_m (nH (pq 2) (nH (pq 3) (nH (nR mZ (nY (pq 0)) (nY (pq 1))) nI))))))))),?_⟩
  show tSeq _ _ _ [some (.ref p),some (.ref q),none,none,none,none] H;right;refine fA G λr1 c1=>fA M λr2 c6=>?_;refine⟨true,true,true,true,r1,r2,_,_,d,rfl,c1,c6,F,b3,c5,R,d2,λm u a8=>?_⟩;have a5:=a8.s;have N:=a8.m;have Y:Sq d (mulM d y.1 x.1):=F.mul;left;refine⟨zY _,λl hl=>?_⟩;have W:Same u (upd u l (.lst [])):=Same.new hl;have a6:(upd u l (.lst [])) l=some (.lst (([]:LI').map V.int)):=nN;generalize upd u l (.lst [])=e2 at W a6;have Z:x.2.2.natAbs<2^1000:=by
   have:((2^1000:Nat):Int)=2^1000:=nofun
   omega
  have X:y.2.2.natAbs<2^1000:=by
   have:((2^1000:Nat):Int)=2^1000:=nofun
   omega
  subst e1;refine st λN1 e1=>lN λB eB=>?_;simp only[mY];ext;refine fM (b1:=false) (b2:=false) (N.up W).l.b ?_
  try ext
  rw[Y.1];refine⟨⋯,⋯,?_⟩;rw[zS];have b5:(movT y.1 y.2.1 y.2.2 x.2.1 x.2.2).length=d:=by unfold movT;rw[xZ,F.1,a4,Nat.min_self]
  refine gD (g:=nX 4) (tb:=B) (λi a1 D=>∃O L,a1=[some (.ref p),some (.ref q),some (.ref m),some (.ref l),O,L]/\Same u D/\D l=some (.lst (((movT y.1 y.2.1 y.2.2 x.2.1 x.2.2).take i).map V.int))) ⟨none,none,rfl,W,a6⟩ ?_ ?_
  ·rintro i a1 D hi ⟨O,L,rfl,o,C⟩;obtain⟨r,I⟩:∃r,y.1[i]?=some r:=⟨_,zqd (by rw[F.1];exact hi)⟩;obtain⟨n,S⟩:∃n,y.2.1[i]?=some n:=⟨_,zqd (by rw[a4];exact hi)⟩;have b7:=F.2 _ (zqb I);have b:=a5.trans o;subst eB;show tSeq _ _ _ [some (.ref p),some (.ref q),some (.ref m),some (.ref l),some (.int (0+(i:Int))),L] D;refine st λb2 d1=>?_;ext;refine mK λB eB=>?_;simp only[mY];ext;refine fM (b1:=false) (b2:=false) (N.up o).l.b ?_
   try ext
   rw[Y.1];refine⟨⋯,⋯,λb0 b9=>?_⟩;rw[zS];refine jG (len:=d) (λk z _=>∃v,(List.zipWith (·*·) r x.2.1)[k]?=some v/\z=.int v) b9 ⋯ (λ_ _ _ _ r _=>r) ?_ ?_
   ·intro k c zs d6 a d7 b6 c0;obtain⟨g,a0⟩:∃g,r[k]?=some g:=⟨_,zqd ⋯⟩;obtain⟨f,U⟩:∃f,x.2.1[k]?=some f:=⟨_,zqd ⋯⟩;subst eB;show tOp _ _ _ [some (.int (0+(k:Int))),some (.ref p),some (.ref q),some (.int (0+(i:Int)))] c b6;ext;refine fA (G.up (b.trans a)) λd8 b8=>gE b8 I a0 ⋯ ⋯ ?_;refine cV (M.up (b.trans a)) λa2 a9=>⟨true,a2,_,_,_,rfl,rfl,(a9:SqB true K c a2 _),jH (gR U) ⋯,?_⟩;ext;refine⟨xF (mW (R _ (zqb I) _ (zqb a0))) (mW (a3 _ (zqb U))) ∅,c0 _ _ (Same.refl _) ⟨_,?_,rfl⟩⟩;rw[wB,a0,U]
   ·intro c ys a c9 d5 J;have c2:ys=(List.zipWith (·*·) r x.2.1).map V.int:=by
     refine kE (by simp only[zqe,List.length_zipWith];omega) λk z e=>?_;obtain⟨v,d3,rfl⟩:=J k z e;exact⟨v,d3,rfl⟩
    subst c2;refine⟨b0,rfl,_,SqL.of c9,?_⟩;show b2 [some (.ref p),some (.ref q),some (.ref m),some (.ref l),some (.int (0+(i:Int))),some (.int (dotI r x.2.1))] c;have b1:(dotI r x.2.1).natAbs<2^2502:=by
     have:=An r x.2.1 (R r (zqb I)) a3;rw[b7]at this;have e:(2:Nat)^2502=4*2^(1500+1000):=by rw[show 2502=1500+1000+2 by rfl,tV _ (1500+1000) 2,rS]
     have:=pW (1500+1000);omega
    subst d1;ext;refine⟨.inl ⟨rfl,_,SqL.of (a _ _ C)⟩,?_⟩;refine fB (G.up (b.trans a)) ?_;ext;refine⟨xF (mW b1) (mW X) ∅,?_⟩;refine cV (G.up (b.trans a)) λa7 b4=>⟨true,a7,_,_,_,rfl,rfl,(b4:SqB true K c a7 _),jH (gR S) ⋯,?_⟩;refine fB (M.up (b.trans a)) ?_;ext;refine⟨xF (mW (ty _ (zqb S))) (mW Z) ∅,?_⟩;refine⟨l,_,_,rfl,rfl,a _ _ C,fK (by rw[zqe,yG];omega),?_⟩;refine⟨Same.over hl (o.trans a),?_⟩;rw[nN,yY,Yk I S,yX];rfl
  ·rintro a1 D ⟨O,L,rfl,o,C⟩;rw[yJ ⋯]at C;subst e1;have b:=a5.trans o;ext;refine fB (M.up b) (fB (G.up b) ?_);ext;refine⟨xF (mW Z) (mW X) ∅,?_⟩;refine⟨false,false,false,m,l,_,_,_,rfl,(N.up o).l.b,SqB.lst C,by rw[Y.1];omega,by rw[b5];omega,wR c4 c8,?_,λr c a J=>?_⟩
   ·show(x.2.2*y.2.2).natAbs<2^8990;rw[xK];refine zP (pN Z X) ?_;rw[←tV];exact yS ∅ ∅
   ·refine c3 r c (b.trans a) ?_;rw[vD]at J;exact J
theorem Yj{lo:Int}{len:Nat}{H:Hp}{a:Addr}{fr:List (Str×Nat)}{j:St}{te:TE}{Q:VK}(P:Nat->List V->Hp->Prop)(D:len<=1000)(z:P 0 [] (upd H a (.lst [])))(hl:∀i zs b,P i zs b->zs.length<=i)
  (r:∀(i:Nat) b zs,i<len->P i zs b->∀f:VK,(∀y c,c a=some (.lst zs)->P (i+1) (zs++[y]) (upd c a (.lst (zs++[y])))->f y c)->te (some (.int (lo+i)):: lV fr j) b f)
  (C:∀b ys,P len ys b->Q (.ref a) b):kL (Itr lo len) (nX 0) (tEl te) 1 fr j a H Q:=by
 refine⟨λi m b=>m=len-i/\i<=len/\∃zs,P i zs b,⟨len,by simp,Nat.zero_le _,[],z⟩,?_⟩;rintro i m b ⟨rfl,hi,zs,p⟩
 by_cases d:i<len
 ·refine .inr ⟨d,λH'=>i+1<=len/\∃zs,P (i+1) zs H',λH' q=>⟨len-(i+1),⋯,rfl,q⟩,λys x g u n=>?_⟩;obtain⟨e1,v⟩:=n;subst e1 v
  match ys,u with
  |[o],_=>exact⟨⟨[_],rfl,rfl⟩,r i g zs d p _ λy c k l=>⟨zs,k,fK (by have:=hl i zs g p;omega),d,_,l⟩⟩
 ·have e:i=len:=⋯
  subst e;exact .inl ⟨zE _,C b zs p⟩
theorem fX{d:Addr}{H a c:Hp}(s:Same H a)(n:H d=none)(k:KX d a c):Same H c:=λb o e=>k b o (λz=>by rw[z,n]at e;cases e) (s b o e)
theorem Rk.kx{a r:Addr}{H e d:Hp}{R:LM}{o:HO}(h:Rk a H e r R)(v:H a=some o)(k:KX a e d):Rk a H d r R:=by
 have ne:∀{c},H c=none->c≠a:=λ{c}z q=>by rw[q,v]at z;cases z
 refine⟨h.k.trans k,h.n,?_⟩;obtain⟨ps,g,m,n,l⟩:=h.m;refine⟨ps,k _ _ (ne h.n) g,m,n,λi p r e1 j=>?_⟩;obtain⟨u,b,f⟩:=l i p r e1 j;exact⟨u,b,k _ _ (ne b) f⟩
theorem Yi{u d a:Addr}{g k f:Hp}{R:LM}{o L U:HO}(h:Rk u g k a R)(G:g u=some o)(T:k u=some L)(s:Same k f)(W:k d=none)(S:f d=some U):∃D:Hp,Rk d D f a R/\D d=some U/\∀v M,Rk d D v a M->Rk u g v a M/\v u=some L:=by
 have N:∀{c o},k c=some o->c≠d:=λ{c o}e z=>by rw[z,W]at e;cases e
 have up:∀{c o},g c=some o->∃l,k c=some l:=λ{c o}e=>by
  by_cases z:c=u
  ·exact⟨L,by rw[z];exact T⟩
  ·exact⟨o,h.k _ _ z e⟩
 refine⟨λc=>match g c with|none=>if c=d then f d else none|some _=>f c,⟨?_,?_,?_⟩,?_,?_⟩
 ·intro b x _ e;replace e:(match g b with|none=>if b=d then f d else none|some _=>f b)=_:=e;split at e
  ·split at e
   ·rename_i q;rw[q];exact e
   ·cases e
  ·exact e
 ·show(match g a with|none=>if a=d then f d else none|some _=>f a)=none;rw[h.n];obtain⟨ps,y,_⟩:=h.m;exact zD (N y)
 ·obtain⟨ps,y,I,n,F⟩:=h.m;refine⟨ps,s _ _ y,I,n,λi p r e1 m=>?_⟩;obtain⟨J,j,C⟩:=F i p r e1 m;refine⟨J,?_,s _ _ C⟩;show(match g p with|none=>if p=d then f d else none|some _=>f p)=none;rw[j];exact zD (N C)
 ·show(match g d with|none=>if d=d then f d else none|some _=>f d)=_;split
  ·exact(zF rfl).trans S
  ·exact S
 ·intro v M O;have V:∀{c o l},g c=some o->k c=some l->v c=some l:=λ{c o l}e m=>by
   refine O.k _ _ (N m) ?_;show(match g c with|none=>if c=d then f d else none|some _=>f c)=_;rw[e];exact s _ _ m
  refine⟨⟨λb x G e=>V e (h.k _ _ G e),h.n,?_⟩,V G T⟩;obtain⟨ps,y,I,n,F⟩:=O.m;refine⟨ps,y,I,n,λi p r e1 m=>?_⟩;obtain⟨J,j,C⟩:=F i p r e1 m;refine⟨J,?_,C⟩;replace j:(match g p with|none=>if p=d then f d else none|some _=>f p)=none:=j;cases q:g p with
  |none=>rfl
  |some o =>
   obtain⟨l,X⟩:=up q;rw[q]at j;replace j:f p=none:=j;rw[s _ _ X]at j;cases j
def sp_10(K:Frag):Sp:=λvs H Q _=>E3 λ(p:Addr)(ns:LI')(d:Nat)=>A4 (vs=[.ref p,.int d]) (SqL K H p (ns.map V.int)) ((d=2\/d=3)) (∀q l(S:LI') su H',Same H H'->H' q=some (.tup [.ref l,.int su])->H' l=some (.lst (S.map V.int))->S.length=d->(∀z∈S,0<=z/\z<1000)->0<su->su<=1000->Q (.ref q) H')
def sp_k(K:Frag):Sp:=λvs H Q _=>E9 λ(p q l:Addr)(ns S:LI')(at':Nat)(d:Nat)(su so:Int)=>A12 (vs=[.ref p,.int at',.int d,.ref q,.int so]) (SqL K H p (ns.map V.int)) (at'<=10) ((d=2\/d=3)) (H q=some (.tup [.ref l,.int su])) (H l=some (.lst (S.map V.int))) (S.length=d) ((∀z∈S,0<=z/\z<1000)) (0<su) (su<=1000) (0<=so) (∀r H' x,Same H H'->DdAt K H' r x->Mkr d (stL d (bxF ns 2)) su x->Q (.ref r) H')
def sp_i(K:Frag):Sp:=λvs H Q _=>E2 λ(p:Addr)(ns:LI')=>A3 (vs=[.ref p]) (SqL K H p (ns.map V.int)) (∀r l qs ms d L su H',Same H H'->H' r=some (.lst [.int (d:Nat),.ref l])->H' l=some (.lst (qs.map V.ref))->Paired (DdAt K H') qs ms->(d=2\/d=3)->(∀s∈L,Stp.Ok d s)->L.length<=3->0<su->su<=1000->ms.length<=3->(∀m∈ms,Mkr d L su m)->Q (.ref r) H')
theorem Ac{K:Frag}{H H':Hp}{p:Addr}{xs:List V}(h:SqL K H p xs)(s:Same H H'):SqL K H' p xs:=SqB.up (b:=false) h s
theorem Ll{P:Int->Prop}:∀{ys:List V}{H:Hp},(∀(j:Nat) y,ys[j]?=some y->∃v:Int,y=.int v/\P v)->∃a:LI',ys=a.map V.int/\∀z∈a,P z
 |[],_,_=>⟨[],rfl,λ_ h=>(by cases h)⟩
 |y:: ys,H,h=>by
  obtain⟨v,rfl,p⟩:=h 0 y rfl;obtain⟨a,rfl,k⟩:=Ll (P:=P) (ys:=ys) (H:=H) λj y e=>h (j+1) y (by simpa using e);exact⟨v:: a,rfl,λz b=>by rcases xL.mp b with rfl|b;exact p;exact k z b⟩
theorem Lk{a:Addr}{H:Hp}{F:Dd->Prop}:∀{ys:List V},(∀(j:Nat) y,ys[j]?=some y->∃q m,y=.ref q/\DdAt K (offH a H) q m/\F m)->∃(b:LA)(ms:List Dd),ys=b.map V.ref/\Paired (DdAt K H) b ms/\∀m∈ms,F m
 |[],_=>⟨[],[],rfl,.nil,λ_ h=>(by cases h)⟩
 |y:: ys,h=>by
  obtain⟨q,m,rfl,k,f⟩:=h 0 y rfl;obtain⟨b,ms,rfl,d,g⟩:=Lk (ys:=ys) λj y e=>h (j+1) y (by simpa using e);exact⟨q:: b,m:: ms,rfl,.cons (k.up Ew) d,λz c=>by rcases xL.mp c with rfl|c;exact f;exact g z c⟩
theorem ok_10(T:Txt K mg t):FnOk P w K mg base CX0 2 t.a_10 t.d_10 pq' (sp_10 K):=by
 have Y:=@ok_w P w K mg base t T;have F:=@ok_1 P w K mg base t T;apply T.F_10.ok sc_10
 ·obtain⟨p,ns,d,rfl,a8,c6,b4⟩:=h;refine⟨_,(nJ (nU (i:=2) sc_10.nd rfl (Or.inr rfl) (nS Y hr.mo T.F_w (nH (pq 0) (nH nK nI))))
   (nJ (nU (i:=3) sc_10.nd rfl (Or.inr rfl) (nR lH nK (nS F hr.mo T.F_1 (nH (pq 2) (nH nK nI)))))
   (nJ (mF (mB kK (nS F hr.mo T.F_1 (nH (pq 2) (nH nK nI))) nK (mD _))
   (nM (nU (i:=3) sc_10.nd rfl (Or.inr rfl) (nR lH nK (nS F hr.mo T.F_1 (nH (pq 2) (nH nK nI))))))
   mE)
   (nM (nV (kQ (nH (lE (sc:=nP s_10) (N:=N_10) (fr:=[("_law_box_here",2),("_law_under",3)]) (te:=(kJ (sp_1) [] E0 (mH (tVar 1) (mH (tVar 2) tNil)))) rfl rfl (nofun) rfl (nofun) (lG rfl T.z_range (nH (pq 1) nI)) (λ_ _ _ c5=>(nS F hr.mo T.F_1 (nH (pv 1) (nH (pv 2) nI))))) (nH (pq 3) nI)))))))),?_⟩
  show tSeq _ _ _ [some (.ref p),some (.int d),none,none] H;right;refine⟨p,ns,3,rfl,a8,∅,λa J a9 a7 b9=>?_⟩;have U:BxOk 300 (bxF ns 3):=fW (k:=3);generalize bxF ns 3=b1 at*
  left;refine⟨a,12,b1,300,rfl,b9,U,∅,∅,∅,λb8 a0 W=>?_⟩;obtain⟨c2,O⟩:=mM (many:=12) U ∅;have k2:KX a J b8:=λb x g e=>by rw[a0 b g];exact e
  generalize tkB b1 12=b2 at*;generalize tkV b1 12=c1 at*
  try ext
  subst e1;refine st λN1 e1=>?_;have R:∀(u:Int)(b:Box) f,0<u->u<=1000->KX a J f->f a=some (bxO b)->BxOk 310 b->N1 [some (.ref p),some (.int d),some (.ref a),some (.int u)] f:=by
   intro u b f a4 b3 k3 C m;symm;refine mK λB eB=>?_;simp only[mY];ext;refine⟨⋯,⋯,λl hl=>?_⟩;rw[zS];have I:l≠a:=λz=>by rw[z,C]at hl;cases hl
   refine Yj (len:=d) (λi zs c=>KX a f c/\c l=some (.lst zs)/\(∃o,c a=some (bxO o)/\BxOk (310+i) o)/\zs.length=i/\∀(j:Nat) y,zs[j]?=some y->∃v:Int,y=.int v/\0<=v/\v<u) ⋯ ⟨KX.same (Same.new hl),nN,⟨b,by rw[nO (zT I)];exact C,m⟩,rfl,λj y e=>by simp at e⟩ (λi zs c p=>sI p.2.2.2.1) ?_ ?_
   ·rintro i c zs hi ⟨G,M,⟨o,D,k⟩,r,L⟩ a1 a6;subst eB;show kJ _ _ _ _ [some (.int (0+(i:Int))),some (.ref a),some (.int u)] c a1;ext;refine⟨a,u,o,310+i,rfl,D,k,⋯,⋯,⋯,λc4 N a5=>?_⟩;obtain⟨b6,b5⟩:=mM (many:=u) k ⋯;refine a6 _ _ (by rw[N _ I];exact M) ⟨?_,nN,⟨_,by rw[nO (zT I)];exact a5,b5.le ⋯⟩,by simp[r],λj y e=>?_⟩
    ·exact KX.over (λb x g e=>by rw[N b g];exact G b x g e) hl
    ·rcases uE j zs.length with h|h
     ·rw[yB h]at e;exact L j y e
     ·rw[zX h]at e;have:j-zs.length=0:=by
       have:=(zqa e).1;simp at this;omega
      rw[this]at e;cases e;exact⟨_,rfl,b6⟩
   ·rintro c ys ⟨G,M,⟨o,D,k⟩,r,L⟩;obtain⟨n,a3,Z⟩:∃n:LI',ys=n.map V.int/\∀z∈n,0<=z/\z<u:=Ll (H:=H) L;subst a3;have a2:n.length=d:=by simpa using r
    refine⟨by show 2<=sizeLine;decide,λq b7=>?_⟩;have S:=Same.new (o:=.tup [V.ref l,.int u]) b7;refine b4 q l n u _ ((fX a9 a7 (k3.trans G)).trans S) nN (S _ _ M) a2 (λz r=>?_) a4 b3;have:=Z z r;omega
  ext;refine⟨a,4,b2,301,rfl,W,O,∅,∅,∅,λf b0 C=>?_⟩;obtain⟨_,m⟩:=mM (many:=4) O ∅;have k3:KX a J f:=k2.trans λb x g e=>by rw[b0 b g];exact e
  generalize tkB b2 4=c0 at*;generalize tkV b2 4=v2 at*
  try ext
  refine ite2 (λ_=>?_) (λ_=>?_)
  ·refine⟨a,1000,c0,302,rfl,C,m,∅,∅,∅,λc X D=>?_⟩;obtain⟨c3,k⟩:=mM (many:=1000) m ∅
   try ext
   exact R _ _ c ⋯ ⋯ (k3.trans λb x g e=>by rw[X b g];exact e) D (k.le ∅)
  ·exact R _ _ f ⋯ ⋯ k3 C (m.le ∅)
theorem ok_k(T:Txt K mg t):FnOk P w K mg base CX0 5 t.a_k t.d_k pb' (sp_k K):=by
 have g4:=@ok_w P w K mg base t T;have c2:=@ok_1 P w K mg base t T;have j6:=@ok_13 P w K mg base t T;have k0:=@ok_p P w K mg base t T;have i9:=@ok_11 P w K mg base t T;apply T.F_k.ok sc_k
 ·obtain⟨p,q,l,ns,N,x,d,S,a3,rfl,f3,k3,a7,a8,e8,h8,d2,h6,h7,j2,j0⟩:=h;refine⟨_,(nJ (nU (i:=5) sc_k.nd rfl (Or.inl rfl) (nS g4 hr.mo T.F_w (nH (pq 0) (nH (pq 1) nI))))
   (nJ (nU (i:=6) sc_k.nd rfl (Or.inr rfl) (nS k0 hr.mo T.F_p (nH (nS j6 hr.mo T.F_13 (nH (pq 4) (nH (pq 5) (nH (pq 2) nI)))) (nH (nS g4 hr.mo T.F_w (nH (pq 0) (nH nK nI))) nI))))
   (nJ (nU (i:=7) sc_k.nd rfl (Or.inl rfl) (mG ix_B (mQ (nH nK (nH nK (nH nK (nH nK (nH nK (nH nK nI))))))) (nS c2 hr.mo T.F_1 (nH (pq 5) (nH nK nI))) (λ_ _=>rfl)))
   (nJ (mF (PW.pt (lU (mB kK (pq 4) nK (mD _)) (kN (mB kK (nS c2 hr.mo T.F_1 (nH (pq 5) (nH nK nI))) nK (mD _)))))
   (nM (nU (i:=7) sc_k.nd rfl (Or.inl rfl) (nR lH nK (nS c2 hr.mo T.F_1 (nH (pq 5) (nH nK nI))))))
   mE)
   (nJ (nU (i:=8) sc_k.nd rfl (Or.inl rfl) (mQ nI))
   (nJ (lJ yD rfl (lG rfl T.z_range (nH (pq 2) nI)) (mP (i:=9) sc_k.nd rfl (Or.inr rfl))
   (nJ (nU (i:=10) sc_k.nd rfl (Or.inl rfl) (nR iK (mG ix_B (nY (pq 3)) (pq 9) (λ_ _=>rfl)) (mS (bZ rfl) rfl T.z_sum (nofun) (nH (lE (sc:=nP Au) (N:=N_k) (fr:=[("_law_spot_here",3),("_law_rows_here",6),("_law_i",9)]) (te:=(tOp (rI (λi j=>IntMulOk i j) λi j=>.int (i*j)) (tOp (rIxB K) (tOp (rIxB K) (tVar 2) (tVar 3)) (tVar 0)) (tOp (rIxB K) (tOp (rIxB K) (tVar 1) (tC (.int 0))) (tVar 0)))) rfl rfl (nofun) rfl (nofun) (lG rfl T.z_range (nH (pq 2) nI)) (λ_ _ _ k5=>(nR mZ (mG ix_B (mG ix_B (pv 2) (pv 3) (λ_ _=>rfl)) (pv 0) (λ_ _=>rfl)) (mG ix_B (nY (pv 1)) (pv 0) (λ_ _=>rfl))))) nI))))
   (nM (gM (eJ wL vE vB eK (pq 8) (nH (nR lH (nR mZ (nS c2 hr.mo T.F_1 (nH (pq 5) (nH (pq 7) nI))) (nY (pq 3))) (nR mZ (pq 10) (pq 7))) nI))))))
   (nM (nV (nS i9 hr.mo T.F_11 (nH (pq 6) (nH (pq 8) (nH (nR mZ (pq 7) (nY (pq 3))) nI)))))))))))),?_⟩
  show tSeq _ _ _ [some (.ref p),some (.int x),some (.int d),some (.ref q),some (.int a3),none,none,none,none,none,none] H;have f7:BxOk (100*x) (bxF ns x):=fW;obtain⟨g6,i2⟩:=Lp a7 (fW (ns:=ns) (k:=2));right;refine⟨p,ns,x,rfl,f3,⋯,λm j5 a9 e2 W=>?_⟩;generalize bxF ns x=b1 at*
  have b0:∀{c o},H c=some o->c≠m:=λ{c o}e z=>by rw[z,e2]at e;cases e
  left;refine⟨m,a3,d,b1,100*x,rfl,W,f7,⋯,a7,j2,λa l7 R b2 d9 g1 c5 d1=>?_⟩;refine⟨p,ns,2,rfl,Ac f3 (fX a9 e2 d9.k),∅,λj3 I Y g3 c9=>?_⟩;obtain⟨D,rk3,e6,e7⟩:=Yi d9 W g1 Y g3 c9
  try ext
  refine⟨a,j3,_,200,d,R,D,_,rfl,a7,d1,rk3,e6,c9,fW (k:=2),∅,λb6 g8 g5 _=>?_⟩;obtain⟨f6,d3⟩:=e7 b6 _ g5;clear g5 e7 rk3 e6 c9 g3 Y g1 d9;generalize hLL:stL d (bxF ns 2)=L at*
  have e3:Sq d (cjM d (chP d L) (chQ d L) R):=dO (iD a7 g6) R;have g9:mV 145 (cjM d (chP d L) (chQ d L) R):=λr hr z M=>wX (Eg (F:=⟨d,L,1⟩) ⟨a7,g6,i2,by show(0:Int)<1;decide,by show(1:Int)<2^100;decide⟩ d1.2 r hr z M) ∅;have h9:∀(ts:LI')(u:Int),ts.length=d->jA 250 ts->0<u->u<=200->Mkr d L S (cjM d (chP d L) (chQ d L) R,redT (u*S) ts,redU (u*S) ts):=λts u a b c e=>⟨R,d1,ts,u,a,b,c,e,rfl⟩;generalize cjM d (chP d L) (chQ d L) R=C at*
  left;refine⟨by show 6<=sizeLine;decide,λz M=>?_⟩;have Y:=Same.new (o:=.lst [V.int 1,.int 2,.int 2,.int 3,.int 4,.int 6]) M;have b5:(upd b6 z (.lst [V.int 1,.int 2,.int 2,.int 3,.int 4,.int 6])) z=some (.lst [V.int 1,.int 2,.int 2,.int 3,.int 4,.int 6]):=nN;generalize upd b6 z (.lst [V.int 1,.int 2,.int 2,.int 3,.int 4,.int 6])=I at Y b5;have h5:z≠m:=λy=>by rw[y,d3]at M;cases M
  refine⟨m,6,b2,100*x+100,rfl,Y _ _ d3,c5,⋯,∅,∅,λX c8 a1=>?_⟩;obtain⟨l1,O⟩:=mM (many:=6) c5 ∅;have a2:=(f6.up Y).tk W c8;rw[←c8 z h5]at b5;clear f6 Y c8 c5 d3 M f7;generalize tkB b2 6=F at*
  generalize tkV b2 6=Z at*
  try ext
  obtain⟨c0,b7,h3,j9,j8,j1⟩:∃(c0:Nat)(b7:Int),Z=c0/\[V.int 1,.int 2,.int 2,.int 3,.int 4,.int 6][c0]?=some (.int b7)/\0<b7/\b7<=200:=by
   rcases(show Z=0\/Z=1\/Z=2\/Z=3\/Z=4\/Z=5 by omega) with e|e|e|e|e|e <;> rw[e]
   ·exact⟨0,1,rfl,rfl,∅,∅⟩
   ·exact⟨1,2,rfl,rfl,∅,∅⟩
   ·exact⟨2,2,rfl,rfl,∅,∅⟩
   ·exact⟨3,3,rfl,rfl,∅,∅⟩
   ·exact⟨4,4,rfl,rfl,∅,∅⟩
   ·exact⟨5,6,rfl,rfl,∅,∅⟩
  refine jC (i:=c0) b5 j9 h3 ?_;subst e1;refine st λN1 e1=>?_;have e0:∀(u:Int)(a5:Box) I,0<u->u<=200->Rk m j5 I a C->I m=some (bxO a5)->BxOk (100*x+150) a5->N1 [some (.ref p),some (.int x),some (.int d),some (.ref q),some (.int a3),some (.ref m),some (.ref a),some (.int u),none,none,none] I:=by
   clear b5 a2 a1 O;intro u a5 I f2 f5 a2 f9 g7;left;refine⟨zY _,λJ c3=>?_⟩;have d8:Same I (upd I J (.lst [])):=Same.new c3;have f0:(upd I J (.lst [])) J=some (.lst (([]:LI').map V.int)):=nN;have tb:J≠m:=λy=>by rw[y,f9]at c3;cases c3
   generalize upd I J (.lst [])=b6 at d8 f0;subst e1;refine st λN1 e1=>lN λB eB=>?_;simp only[mY];ext;refine⟨⋯,⋯,?_⟩;rw[zS];refine gD (g:=nX 9) (tb:=B) (λi c7 X=>∃(ts:LI')(e4 c4:Option V),c7=[some (.ref p),some (.int x),some (.int d),some (.ref q),some (.int a3),some (.ref m),some (.ref a),some (.int u),some (.ref J),e4,c4]/\KX m I X/\X J=some (.lst (ts.map V.int))/\ts.length=i/\jA 250 ts/\∃F,X m=some (bxO F)/\BxOk (100*x+150+i) F) ⟨[],none,none,rfl,KX.same d8,f0,rfl,λ_ h=>(by cases h),a5,d8 _ _ f9,g7⟩ ?_ ?_
   ·rintro i c7 X hi ⟨ts,e4,c4,rfl,b4,c1,lt,c6,F,a1,O⟩;have a0:=a2.kx W b4;have b3:=a0.k _ _ (b0 a8) (a9 _ _ a8);have g2:=a0.k _ _ (b0 e8) (a9 _ _ e8);obtain⟨r,e5⟩:∃r,C[i]?=some r:=⟨_,zqd (by rw[e3.1];exact hi)⟩;obtain⟨n,f8⟩:∃n,N[i]?=some n:=⟨_,zqd (by rw[h8];exact hi)⟩;have i6:=e3.2 _ (zqb e5);have l0:=d2 n (zqb f8);subst eB;show tSeq _ _ _ [some (.ref p),some (.int x),some (.int d),some (.ref q),some (.int a3),some (.ref m),some (.ref a),some (.int u),some (.ref J),some (.int (0+(i:Int))),c4] X;refine st λk2 k1=>?_;ext;have f4:∀{H':Hp}{b9:VK},Same X H'->b9 (.ref l) H'->rIxB K (.ref q) (.int 0) H' b9:=λs h=>⟨true,q,_,_,_,rfl,rfl,SqB.tup (s _ _ b3),rfl,h⟩;refine f4 (Same.refl _) ?_;refine⟨false,l,_,_,_,rfl,rfl,SqB.lst g2,jH (gR f8) ⋯,?_⟩;refine mK λB eB=>?_;simp only[mY];ext;refine⟨⋯,⋯,λi5 i7=>?_⟩;rw[zS];refine jG (len:=d) (λk z _=>∃v,(List.zipWith (·*·) r N)[k]?=some v/\z=.int v) i7 ⋯ (λ_ _ _ _ r _=>r) ?_ ?_
    ·intro k U zs k8 G k4 b9 i8;obtain⟨g,f1⟩:∃g,r[k]?=some g:=⟨_,zqd ⋯⟩;obtain⟨f,d0⟩:∃f,N[k]?=some f:=⟨_,zqd ⋯⟩;have l2:=d2 f (zqb d0);subst eB;show tOp _ _ _ [some (.int (0+(k:Int))),some (.ref q),some (.ref a),some (.int (0+(i:Int)))] U b9;ext;refine gE (b1:=false) (b2:=false) (a0.up G).m.l.b e5 f1 ⋯ ⋯ ?_;refine f4 G ⟨false,l,_,_,_,rfl,rfl,SqB.lst (G _ _ g2),jH (gR d0) ⋯,?_⟩;ext;refine⟨(show CMul _ _ from .inr ⟨⋯,⋯⟩).ok,i8 _ _ (Same.refl _) ⟨_,?_,rfl⟩⟩;rw[wB,f1,d0]
    ·intro U ys G h1 k9 i0;have i1:ys=(List.zipWith (·*·) r N).map V.int:=by
      refine kE (by simp only[zqe,List.length_zipWith];omega) λk z e=>?_;obtain⟨v,h4,rfl⟩:=i0 k z e;exact⟨v,h4,rfl⟩
     subst i1;refine⟨i5,rfl,_,SqL.of h1,?_⟩
     try ext
     have l3:(dotI r N).natAbs<2^160:=by
      have:=An r N (g9 r (zqb e5)) (C:=10) λz M=>by have:=d2 z M;show z.natAbs<1024;omega
      rw[i6]at this;have e:(2:Nat)^160=32*2^(145+10):=∅
      omega
     have i4:(List.zipWith (·*·) r N).sum=dotI r N:=rfl;rw[i4];generalize dotI r N=dd at*
     subst k1;ext;refine⟨.inl ⟨rfl,_,SqL.of (G _ _ c1)⟩,m,u,F,100*x+150+i,rfl,G _ _ a1,O,⋯,⋯,⋯,λg0 a6 d6=>?_⟩;obtain⟨l4,d4⟩:=mM (many:=u) O ⋯;generalize tkV F u=d5 at*
     generalize tkB F u=j7 at*;have h0:q≠m:=b0 a8
     try ext
     refine⟨true,q,_,_,_,rfl,rfl,SqB.tup (by rw[a6 q h0];exact G _ _ b3),rfl,?_⟩;ext;refine⟨(show CMul _ _ from .inl ⟨⋯,⋯⟩).ok,(show CMul _ _ from .inr ⟨⋯,⋯⟩).ok,?_⟩;refine⟨J,_,_,rfl,rfl,by rw[a6 J tb];exact G _ _ c1,fK (by rw[zqe,lt];omega),KX.over ((b4.trans (KX.same G)).tk1 a6) c3,ts++[d5*S+(n-dd)*u],by rw[nN,yX];rfl,by rw[yA,lt];rfl,λz M=>?_,j7,by rw[nO (zT tb)];exact d6,d4.le ⋯⟩;rcases oW.mp M with h|h
     ·exact c6 z h
     ·rw[oN.mp h];have b1:(d5*S).natAbs<=200*1000:=by rw[xK];exact wY ⋯ ⋯
      have b2:((n-dd)*u).natAbs<=(1000+2^160)*200:=by rw[xK];exact wY ⋯ ⋯
      have a5:=vW (d5*S) ((n-dd)*u);have g8:200*1000+(1000+2^160)*200<2^250:=∅
      omega
   ·rintro c7 X ⟨ts,e4,c4,rfl,b4,c1,lt,c6,F,a1,O⟩;have a0:=a2.kx W b4;have b3:=a0.k _ _ (b0 a8) (a9 _ _ a8);symm;refine⟨true,q,_,_,_,rfl,rfl,SqB.tup b3,rfl,?_⟩;ext;refine⟨(show CMul _ _ from .inl ⟨⋯,⋯⟩).ok,?_⟩;have i3:0<u*S:=wR f2 h6;have l6:u*S<=200*1000:=qB f5 h7 ⋯ ⋯;refine⟨false,false,false,a,J,_,ts,_,rfl,a0.m.l.b,SqB.lst c1,by rw[e3.1];omega,⋯,i3,Am (B:=20) (by show _<1048576;omega) ∅,λr U G h2=>?_⟩;exact j0 r U _ ((fX a9 e2 a0.k).trans G) h2 (h9 ts u lt c6 f2 f5)
  ext;refine ite2 (λ_=>?_) (λ_=>?_)
  ·refine⟨m,200,F,100*x+101,rfl,a1,O,⋯,∅,∅,λU d7 b8=>?_⟩;obtain⟨l5,a4⟩:=mM (many:=200) O ∅
   try ext
   exact e0 _ _ U ⋯ ⋯ (a2.tk W d7) b8 (a4.le ⋯)
  ·refine⟨m,4,F,100*x+101,rfl,a1,O,⋯,∅,∅,λU d7 b8=>?_⟩;obtain⟨_,a4⟩:=mM (many:=4) O ∅;generalize tkB F 4=j4 at*
   generalize tkV F 4=k6 at*;have e9:=a2.tk W d7
   try ext
   refine ite2 (λ_=>?_) (λ_=>?_)
   ·refine⟨m,200,j4,100*x+102,rfl,b8,a4,⋯,∅,∅,λg0 a6 d6=>?_⟩;obtain⟨k7,d4⟩:=mM (many:=200) a4 ∅
    try ext
    exact e0 _ _ g0 ⋯ ⋯ (e9.tk W a6) d6 (d4.le ⋯)
   ·exact e0 _ _ U j8 j1 e9 b8 (a4.le ⋯)
theorem ok_i(T:Txt K mg t):FnOk P w K mg base CX0 6 t.a_i t.d_i pz' (sp_i K):=by
 have a9:=@ok_w P w K mg base t T;have F:=@ok_1 P w K mg base t T;have b8:=@ok_10 P w K mg base t T;have b7:=@ok_k P w K mg base t T;apply T.F_i.ok sc_i
 ·obtain⟨p,ns,rfl,D,c8⟩:=h;refine⟨_,(nJ (nU (i:=1) sc_i.nd rfl (Or.inl rfl) (nS a9 hr.mo T.F_w (nH (pq 0) (nH nK nI))))
   (nJ (nU (i:=2) sc_i.nd rfl (Or.inr rfl) (nR lH nK (nS F hr.mo T.F_1 (nH (pq 1) (nH nK nI)))))
   (nJ (nU (i:=3) sc_i.nd rfl (Or.inl rfl) (nS F hr.mo T.F_1 (nH (pq 1) (nH nK nI))))
   (nJ (nU (i:=4) sc_i.nd rfl (Or.inr rfl) (nS F hr.mo T.F_1 (nH (pq 1) (nH nK nI))))
   (nJ (nU (i:=5) sc_i.nd rfl (Or.inr rfl) (nS b8 hr.mo T.F_10 (nH (pq 0) (nH (pq 2) nI))))
   (nM (nV (mQ (nH (pq 2) (nH (lE (sc:=nP At) (N:=N_i) (fr:=[("_law_script",0),("_law_d",2),("_law_sort",4),("_law_spot_here",5)]) (te:=(kJ (sp_k K) [] E0 (mH (tVar 1) (mH (tOp (rI0 λi j=>.int (i+j)) (tC (.int 4)) (tVar 0)) (mH (tVar 2) (mH (tVar 4) (mH (tVar 3) tNil))))))) rfl rfl (nofun) rfl (nofun) (lG rfl T.z_range (nH (pq 3) nI)) (λ_ _ _ e7=>(nS b7 hr.mo T.F_k (nH (pv 1) (nH (nR lH nK (pv 0)) (nH (pv 2) (nH (pv 4) (nH (pv 3) nI)))))))) nI)))))))))),?_⟩
  show tSeq _ _ _ [some (.ref p),none,none,none,none,none] H;right;refine⟨p,ns,0,rfl,D,∅,λf C c5 c3 d6=>?_⟩;have a1:BxOk 0 (bxF ns 0):=fW (k:=0);generalize bxF ns 0=b1 at*
  left;refine⟨f,2,b1,0,rfl,d6,a1,∅,∅,∅,λa0 R a6=>?_⟩;obtain⟨e0,W⟩:=mM (many:=2) a1 ∅;have k2:KX f C a0:=λb x n e=>by rw[R b n];exact e
  generalize tkB b1 2=b2 at*;generalize tkV b1 2=J at*
  try ext
  obtain⟨d,a2,o⟩:∃d:Nat,2+J=(d:Int)/\(d=2\/d=3):=⟨(2+J).toNat,⋯,⋯⟩;rw[a2];left;refine⟨f,4,b2,1,rfl,a6,W,∅,∅,∅,λc Z d5=>?_⟩;obtain⟨e2,M⟩:=mM (many:=4) W ∅;have k3:KX f C c:=k2.trans λb x n e=>by rw[Z b n];exact e
  generalize tkB b2 4=G at*;generalize tkV b2 4=v2 at*
  obtain⟨many,a7,e3⟩:∃m:Nat,v2=(m:Int)/\m<=3:=⟨v2.toNat,⋯,⋯⟩;subst a7;left;refine⟨f,6,G,2,rfl,d5,M,∅,∅,∅,λI N e5=>?_⟩;obtain⟨d0,d9⟩:=mM (many:=6) M ∅;have L:KX f C I:=k3.trans λb x n e=>by rw[N b n];exact e
  generalize tkB G 6=e4 at*;generalize tkV G 6=O at*
  have a:=fX c5 c3 L;clear k2 k3 L R Z N;left;refine⟨p,ns,d,rfl,Ac D a,o,λq l a5 u a0 d7 a4 c1 b6 b0 S Y=>?_⟩;have U:=a.trans d7;obtain⟨c9,c7⟩:=Lp o (fW (ns:=ns) (k:=2));symm;refine mK λB eB=>?_;simp only[mY];ext;refine⟨⋯,⋯,λv b9=>?_⟩;rw[zS];refine jG (len:=many) (λ_ y c=>∃q m,y=.ref q/\DdAt K (offH v c) q m/\Mkr d (stL d (bxF ns 2)) u m) b9 ⋯ (λ_ _ _ _⟨q,m,e,h,k⟩a8=>⟨q,m,e,h.up (Ev a8),k⟩) ?_ ?_
  ·intro k c zs e6 g c4 b5 c2;subst eB;show kJ _ _ _ _ [some (.int (0+(k:Int))),some (.ref p),some (.int d),some (.int O),some (.ref q)] c b5;ext;refine⟨p,q,l,ns,a5,4+k,d,u,O,by rw[show((4+k:Nat):Int)=4+(0+(k:Int)) by omega],Ac D (U.trans g),⋯,o,g _ _ a4,g _ _ c1,b6,λz d3=>?_,S,Y,d0.1,λr I x a d4 c0=>c2 _ _ a ⟨r,x,rfl,DdAt.tk d4 (Er (a _ _ c4)),c0⟩⟩;have:=b0 z d3;omega
  ·intro c ys g b3 a3 d8;obtain⟨d1,ms,rfl,X,b4⟩:=Lk d8;refine⟨by show 2<=sizeLine;decide,λr d2=>?_⟩;have a:=Same.new (o:=.lst [V.int d,.ref v]) d2;have c6:ms.length<=3:=by
    have:=mU X;rw[zqe]at a3;omega
   refine c8 r v d1 ms d (stL d (bxF ns 2)) u _ ((U.trans g).trans a) nN (a _ _ b3) (Paired.mapP X λ_ _ z=>z.up a) o c9 c7 S Y c6 b4
theorem Lj{K:Frag}{H:Hp}{ns:LI'}{xs:List V}(h:Dts K H xs (ns.map PyData.int)):xs=ns.map V.int:=by
 induction ns generalizing xs with
 |nil=>cases h;rfl
 |cons n ns b=>cases h with|cons a h=>cases a;rw[b h];rfl
theorem Li{K:Frag}{H:Hp}:∀{M:LM}{xs:List V},Dts K H xs (M.map λr=>PyData.tuple (r.map PyData.int))->∃ps:LA,xs=ps.map V.ref/\ps.length=M.length/\∀(i:Nat) p r,ps[i]?=some p->M[i]?=some r->SqT K H p (r.map V.int)
 |[],_,.nil=>⟨[],rfl,rfl,λi p r e=>by cases e⟩
 | r:: M,_,.cons (x:=x) d f=>by
  obtain⟨ps,e,l,h⟩:=Li f;cases d with
  |tup a b =>
   rename_i q ys;rw[Lj b]at a;refine⟨q:: ps,by rw[e];rfl,by rw[zR,zR,l],λi p s e1 c=>?_⟩;cases i with
   |zero=>cases e1;cases c;exact a
   |succ i=>exact h i p s e1 c
theorem Yh{K:Frag}{H:Hp}{p:Addr}{x:Dd}(h:Dt K H (.ref p) (dat x)):DdS K H p x:=by
 obtain⟨M,ts,u⟩:=x;have h':Dt K H (.ref p) (.tuple [.tuple (M.map λr=>.tuple (r.map PyData.int)),.tuple (ts.map PyData.int),.int u]):=h;cases h' with
 | tup a b =>
  cases b with
  | cons b1 b =>
   cases b with
   | cons b2 b =>
    cases b with
    | cons g b =>
     cases b;cases g;cases b1 with
     | tup d f =>
      cases b2 with
      |tup e1 e =>
       rw[Lj e]at e1;obtain⟨ps,rfl,l,c⟩:=Li f;exact⟨_,_,a,⟨ps,d,l,c⟩,e1⟩
theorem Yg{c:Type}{f:c->PyData}{l:List c}(nd:l.Nodup)(inj:∀x∈l,∀y∈l,f x=f y->x=y)(i:∀x∈l,∀y∈l,sm (f x) (f y)=true)(h:l.Pairwise λp q=>lx (fl (f q)) (fl (f p))=false):l.Pairwise λp q=>lx (fl (f p)) (fl (f q))=true:=by
 have g:=List.Pairwise.and nd h;refine List.Pairwise.imp_of_mem (λ{a b}d e h=>?_) g;cases z:lx (fl (f a)) (fl (f b)) with
 |true=>rfl
 |false=>exact absurd (inj a d b e (fT _ _ (i a d b e) (Ip _ _ z h.2))) h.1
structure Told(d:Nat)(ss:List Dd)(srt:Tb):Prop where
 p:srt.Perm (tab d ss 201)
 o:srt.Pairwise λp q=>lx (fl (dat q.1)) (fl (dat p.1))=false
 l:(tab d ss 201).length<=200
section
variable {d:Nat} {G:Dd->Prop} {ss ss':List Dd} {srt srt':Tb}
theorem Told.mem(h:Told d ss srt){x:Dd}:x∈srt.map (·.1)↔x∈(tab d ss 201).map (·.1):=(h.p.map _).mem_iff
theorem Told.nd(h:Told d ss srt):(srt.map (·.1)).Nodup:=(h.p.map _).nodup_iff.mpr Xh
theorem Told.len(h:Told d ss srt):srt.length<=200:=by rw[h.p.length_eq];exact h.l
end
section
variable {d:Nat} {T L:List Dd}
def cut(d:Nat)(L R:List Dd)(y:Dd)(n:Nat):List Dd:=R.filter λx=>decide (x∉(L.take n).map λl=>mJ d l y)
structure Cos(d:Nat)(T L R:List Dd)(c:Nat):Prop where
 nd:R.Nodup
 sub:∀x∈R,x∈T
 cl:∀x∈R,∀l∈L,mJ d l x∈R
 len:c*L.length+R.length=T.length
def run(d:Nat)(L:List Dd):List Dd->List Dd×Nat->List Dd×Nat
 |[],s=>s
 |y:: ys,(R,c)=>if y∈R then run d L ys (cut d L R y L.length,c+1) else run d L ys (R,c)
end
theorem dS{K:Frag}{H:Hp}{p:Addr}{x:Dd}(h:DdS K H p x):Dt K H (.ref p) (dat x):=by
 obtain⟨e,d,a,c,b⟩:=h;exact .tup a (.cons (Dt.matB c) (.cons (Dt.intsB (b:=true) b) (.cons (.int _) .nil)))
theorem Yf{K:Frag}{H:Hp}{b:LA}{ms:List Dd}(h:Paired (DdS K H) b ms):Dts K H (b.map V.ref) (ms.map dat):=by
 induction h with
 |nil=>exact .nil
 |cons a _ c=>exact .cons (dS a) c
theorem Ye{K:Frag}{H:Hp}{b:LA}{srt:Tb}(h:Paired (λp(x:Dd×List Nat)=>Dt K H (.ref p) (dat x.1)) b srt):Paired (DdS K H) b (srt.map (·.1)):=by
 induction h with
 |nil=>exact .nil
 |cons a _ c=>exact .cons (Yh a) c
def dlD(l:List Dd):PyData:=.list (l.map dat)
theorem Lh(l:List Dd):iT 5 (dlD l)=true:=by
 show(l.map dat).all (iT 4)=true;rw[uI];intro d a;obtain⟨x,_,rfl⟩:=oZ.mp a;exact gF 4 _ (kH x)
theorem Lg{K:Frag}{H:Hp}{a:Addr}{b:LA}{ms:List Dd}(e:H a=some (.lst (b.map V.ref)))(h:Paired (DdS K H) b ms):Dt K H (.ref a) (dlD ms):=.lst (SqL.of e) (Yf h)
theorem Ab{K:Frag}{H:Hp}{a b:Addr}{c f:LA}{ms d:List Dd}{Q:VK}(e:H a=some (.lst (c.map V.ref)))(h:Paired (DdS K H) c ms)(g:H b=some (.lst (f.map V.ref)))(h':Paired (DdS K H) f d)(i:ms=d)(q:Q (.bl false) H):rNeD K (.ref a) (.ref b) H Q:=
 Qh 5 ∅ (Lg e h) (Lg g h') (Lh _) (Lh _) (b:=true) (by simp only[true_iff];rw[i]) q
theorem Yd(h:GrpF K t H g d ms srt)(k:∀l b H',Same H H'->H l=none->H' l=some (.lst (b.map V.ref))->Paired (λp(x:Dd×List Nat)=>Dt K H' (.ref p) (dat x.1)) b srt->Q (.ref l) H'):∃a fs,H g=some (.ins t.a_b a fs)/\fs.lookup (Str.ofString "members")=none/\sp_5 K t [.ref g] H Q E0:=by
 obtain⟨a,i,lo,e,f,c,_⟩:=id h.ex;exact⟨a,_,c,rfl,g,d,ms,srt,rfl,h,k⟩
theorem Yc(h:GrpF K t H g d ms srt)(k:∀l gs H',Same H H'->H l=none->H' l=some (.lst (gs.map V.ref))->Paired (DdS K H') gs ms->Q (.ref l) H'):∃a fs,H g=some (.ins t.a_b a fs)/\fs.lookup (Str.ofString "makers")=none/\sp_8 K t [.ref g] H Q E0:=by
 obtain⟨a,f,lo,c,e,b,_⟩:=id h.ex;exact⟨a,_,b,rfl,g,d,ms,srt,rfl,h,k⟩
theorem Yb{H:Hp}{C x a:Addr}(nx:H x=none)(b:H a=none)(ne:a≠x):Same H (upd (upd H a (.own x)) x (.ins C a []))/\(upd (upd H a (.own x)) x (.ins C a [])) x=some (.ins C a []):=
 ⟨(Same.new b).trans (Same.new (by rw[nO (zT ne)];exact nx)),nN⟩
theorem Lf{k:PyData}{v:V}{k':PyData}:∀{kvs:List (PyData×V)},vT (kvs.map λa=>if a.1=k then(a.1,v) else a) k'=if k'=k then(if(vT kvs k').isSome then some v else none) else vT kvs k'
 |[]=>by simp[vT]
 | p:: r=>by
  have c:=Lf (k:=k) (v:=v) (k':=k') (kvs:=r);rw[zO]
  by_cases e:p.1=k'
  ·rw[jI e]
   by_cases h:k'=k
   ·rw[zF h,zF (e.trans h),jI (show((p.1,v):PyData×V).1=k' from e)];rfl
   ·rw[zD h,zD (λq=>h (e.symm.trans q)),jI e]
  ·have b:¬ (if p.1=k then(p.1,v) else p).1=k':=by split <;> exact e
   rw[jJ b,jJ e,c]
theorem Le{k:PyData}{v:V}{k':PyData}:∀{kvs:List (PyData×V)},vT (kvs++[(k,v)]) k'=if(vT kvs k').isSome then vT kvs k' else if k'=k then some v else none
 |[]=>by
  rw[pZ]
  by_cases h:k'=k
  ·rw[jI h.symm,zD (by simp[vT]),zF h]
  ·rw[jJ (λq=>h q.symm),zD (by simp[vT]),zD h];simp[vT]
 |p:: r=>by
  have a:=Le (k:=k) (v:=v) (k':=k') (kvs:=r);rw[List.cons_append]
  by_cases e:p.1=k'
  ·rw[jI e,jI e];rfl
  ·rw[jJ e,jJ e,a]
theorem Fy{kvs:List (PyData×V)}{k k':PyData}{v:V}:vT (pT kvs k v) k'=if k'=k then some v else vT kvs k':=by
 unfold pT;split
 ·rename_i h;rw[Lf]
  by_cases e:k'=k
  ·rw[zF e,zF e,zF (by rw[e];exact h)]
  ·rw[zD e,zD e]
 ·rename_i h;rw[Le]
  by_cases e:k'=k
  ·rw[zF e,zF e,zD (by rw[e];exact h)]
  ·rw[zD e,zD e];split
   ·rfl
   ·rename_i q;cases hv:vT kvs k' with
    |none=>rfl
    |some w=>rw[hv]at q;simp at q
theorem Aa{K:Frag}{H H':Hp}{a:Addr}{kvs:List (PyData×V)}(d:DTr K H a kvs)(k:KX a H H'):TK K H H':=by
 obtain⟨xs,e,_⟩:=d.ex;have b:∀c ys,H c=some (.tup ys)->H' c=some (.tup ys):=λc ys q=>k c _ (λw=>by rw[w,e]at q;cases q) q;refine⟨b,λc ys q=>?_⟩;rcases q with(q|⟨f,q⟩)|q
 ·exact .inl (.inl (b _ _ q))
 ·exact .inl (.inr ⟨f,k c _ (λw=>by rw[w,e]at q;cases q) q⟩)
 ·exact .inr q
structure Pr(d:Nat)(x:Dd):Prop where
 sq:Sq d x.1
 len:x.2.1.length=d
 pos:0<x.2.2
 bm:mV 1500 x.1
 bt:jA 1000 x.2.1
 bu:x.2.2<2^1000
def kS(d:Nat)(ms:List Dd):Prop:=(d=2\/d=3)/\ms.length<=3/\∃F:Fr5,F.d=d/\F.Ok/\∀m∈ms,MkN F m/\mV 1500 m.1/\jA 1000 m.2.1/\m.2.2<2^1000
theorem kS.pr{d:Nat}{ms:List Dd}(h:kS d ms):∀m∈ms,Pr d m:=by
 obtain⟨_,_,F,rfl,_,g⟩:=h;exactλm f=>let ⟨a,b,c,e⟩:=g m f;⟨a.1.sq,a.1.len,a.1.pos,b,c,e⟩
theorem kS.ax{d:Nat}{ms:List Dd}(h:kS d ms):AxOk d ms:=⟨by have:=h.1;omega,λs a=>by rw[(h.pr s a).sq.1]⟩
theorem Pr.up{d:Nat}{x:Dd}(f:kI d x)(b:mV 1500 x.1)(c:jA 1000 x.2.1)(e:x.2.2<2^1000):Pr d x:=⟨f.sq,f.len,f.pos,b,c,e⟩
theorem Ya{K:Frag}{t:Adr}{d most:Nat}{ms:List Dd}{H j:Hp}{a x q:Addr}{b:Bool}{ps:LA}{Q:VK}{E:XK}(D:kS d ms)(U:j x=some (.ins t.a_b q []))(i:Same H j)(J:SqB b K H a (ps.map V.ref))(M:Paired (DdS K H) ps ms)(Z:1<=most)(S:most<=200)(W:H x=none)
  (C:most<(tab d (ms.map nQ) 201).length->∀c H',Same H H'->AptE d ms most H' c->E (.ref t.a_d) (some c) H')
  (N:(tab d (ms.map nQ) 201).length<=most->∀srt H',Same H H'->GrpF K t H' x d ms srt->Told d (ms.map nQ) srt->(∀y∈srt.map (·.1),kI d y/\Pr d y/\nQ y=y)->Q .non H'):
  Ky K t [.ref x,.int d,.ref a,.int most] j Q E:=by
 have ax:=D.ax;obtain⟨a0,Y,F,rfl,l,u⟩:=D;have O:=Ef l (λs I=>(u s I).1);refine⟨b,F.d,most,a,x,q,ps,ms,rfl,U,J.up i,Paired.mapP M λ_ _ z=>DdS.up z i,λh=>absurd ⟨⋯,⋯⟩ h,λ_ h=>absurd ax h,λ_ _=>⟨InN F,F.d,most,rfl,rfl,⋯,O,λhl v srt H' k g p o=>?_,λhl c H' r G=>C hl c H' (i.trans r) G⟩⟩;have m:Told F.d (ms.map nQ) srt:=⟨p,o,yC hl S⟩;refine N hl srt H' (λb o e=>k b o (λz=>by rw[z,W]at e;cases e) (i _ _ e)) g m λy L=>?_;obtain⟨z,T,rfl⟩:=oZ.mp (m.mem.mp L);obtain⟨n,a1⟩:=v.2 z T;obtain⟨f,b1,b2,X⟩:=Ae l ⋯ n;refine⟨f,Pr.up f b1 b2 X,?_⟩;obtain⟨R,_,_,ts,_,e⟩:=n;rw[e];exact Kb
theorem Ld{d:Nat}{x m:Dd}(a:0<x.2.2)(b:0<m.2.2)(e:nQ x=x):mJ d x m=mJ d x (nQ m):=by
 have:=Xz (d:=d) a b;rw[e]at this;exact this
def Bf(n:Nat)(tb:Tb):Prop:=tb.Pairwise (λa b=>a.2.length<=b.2.length)/\∀y∈tb,y.2.length<=n+1
theorem Zz{d:Nat}{x:Dd}{w:List Nat}{tb:Tb}{ks:Dd×Nat}(h:Bf w.length tb):Bf w.length (nxt d x w tb ks):=by
 unfold nxt;split
 ·exact h
 ·refine⟨oX.mpr ⟨h.1,sO _ _,λa e b f=>?_⟩,λy c=>?_⟩
  ·rw[oN.mp f];show a.2.length<=(w++[ks.2]).length;rw[yA];exact h.2 a e
  ·rcases oW.mp c with c|c
   ·exact h.2 y c
   ·rw[oN.mp c];show(w++[ks.2]).length<=_;rw[yA];exact zE _
theorem Lc{d:Nat}{x:Dd}{w:List Nat}:∀(l:List (Dd×Nat))(tb:Tb),Bf w.length tb->Bf w.length (l.foldl (nxt d x w) tb)
 |[],_,h=>h
 |k:: l,tb,h=>Lc l _ (Zz h)
theorem Lb{d:Nat}{ss:List Dd}:∀(n i:Nat)(tb:Tb),(tb=[]\/∀b,tb[i]?=some b->Bf b.2.length tb)->(∀j,j<i->∀a,tb[j]?=some a->∀s∈ss,∃w',(mJ d a.1 s,w')∈tb/\w'.length<=a.2.length+1)->(mL d ss n i tb).length<=n+i->∀a∈mL d ss n i tb,∀s∈ss,∃w',(mJ d a.1 s,w')∈mL d ss n i tb/\w'.length<=a.2.length+1
 |0,i,tb,_,h,hl=>λa o s f=>by
  obtain⟨j,c⟩:=xW o;have:=(zqa c).1;unfold mL at hl this c ⊢;exact h j ⋯ _ c s f
 | n+1,i,tb,p,h,hl=>by
  unfold mL at hl ⊢;split
  ·next q =>
   rw[zF q]at hl;obtain⟨r,m⟩:=Jl d ss tb i;obtain⟨b,g⟩:∃b,tb[i]?=some b:=⟨_,zqd q⟩;have x:Bf b.2.length tb:=by
    rcases p with rfl|p
    ·exact absurd q (pS i)
    ·exact p b g
   have b1:Bf b.2.length (jB d ss tb i):=by
    unfold jB;rw[g];exact Lc _ _ x
   refine Lb n (i+1) _ (.inr λF D=>⟨b1.1,λy k=>?_⟩) (λj c a e s f=>?_) ⋯
   ·have e1:(jB d ss tb i)[i]?=some b:=by rw[m,yB q];exact g
    obtain⟨k1,k2⟩:=zqa e1;obtain⟨k3,u⟩:=zqa D;have:=oU.mp b1.1 i (i+1) k1 k3 (uG i);rw[k2,u]at this;have:=b1.2 y k;omega
   ·rcases uE j i with l|l
    ·rw[m,yB ⋯]at e;obtain⟨w',C,z⟩:=h j l a e s f;exact⟨w',by rw[m];exact xI _ C,z⟩
    ·have:j=i:=⋯
     subst this;rw[m,yB ⋯]at e;rw[g]at e;cases e;obtain⟨y,k,v⟩:=oZ.mp (Xg (d:=d) g f);exact⟨y.2,by rw[←v];exact k,b1.2 y k⟩
  ·next q =>
   intro a o s f;obtain⟨j,c⟩:=xW o;have:=(zqa c).1;exact h j ⋯ _ c s f
theorem Zy{d:Nat}{ss:List Dd}{N:Nat}(h:(tab d ss N).length<=N):∀a∈tab d ss N,∀s∈ss,∃w',(mJ d a.1 s,w')∈tab d ss N/\w'.length<=a.2.length+1:=Lb N 0 _ (.inr λf e=>by
 cases e;exact⟨sO _ _,λy c=>by rw[oN.mp c];exact zY _⟩) (λj b=>absurd b (pS j)) h
theorem La{d:Nat}{ss:List Dd}{w:List Nat}{n:Nat}:mX d ss (w++[n])=mJ d (mX d ss w) (ss.getD n (mO d)):=by
 unfold mX;rw[vX];rfl
theorem Fx{d:Nat}{ms:List Dd}{a:Nat->Dd->Prop}(g:Ak d ms a):∀(k:Nat)(w:List Nat),w.length=k->k<=201->(∀n∈w,n<ms.length)->a k (mX d (ms.map nQ) w)
 |0,w,e,_,_=>by
  cases w with
  |nil=>exact g.g0
  |cons=>cases e
 |k+1,w,e,j,c=>by
  have ne:w≠[]:=λz=>by rw[z]at e;cases e
  have b:=List.dropLast_concat_getLast ne;have l1:w.dropLast.length=k:=by rw[List.length_dropLast,e];rfl
  have i:=Fx g k w.dropLast l1 ⋯ λn f=>c n (by rw[←b];exact xI _ f);have hl:=c _ (List.getLast_mem ne);rw[←b,La,zqc,zH,zqd hl];exact g.gs k _ _ ⋯ i (vK hl)
theorem kS.word{d:Nat}{ms:List Dd}(h:kS d ms){w:List Nat}(hl:w.length<=201)(c:∀n∈w,n<ms.length):kI d (mX d (ms.map nQ) w)/\Pr d (mX d (ms.map nQ) w)/\nQ (mX d (ms.map nQ) w)=mX d (ms.map nQ) w:=by
 obtain⟨_,l,F,rfl,b,i⟩:=h;have g:=Ef b (λs j=>(i s j).1);have a:=Fx g w.length w rfl hl c;obtain⟨f,b1,b2,k⟩:=Ae b ⋯ a;refine⟨f,Pr.up f b1 b2 k,?_⟩;obtain⟨R,_,_,ts,_,e⟩:=a;rw[e];exact Kb
theorem kS.step{d:Nat}{ms:List Dd}(h:kS d ms){w:List Nat}{n:Nat}{m:Dd}(hl:w.length<=201)(a:∀n∈w,n<ms.length)(e:ms[n]?=some m):mJ d (mX d (ms.map nQ) w) m=mX d (ms.map nQ) (w++[n]):=by
 obtain⟨f,p,r⟩:=h.word hl a;rw[La,Ld p.pos (h.pr m (zqb e)).pos r,zqc,zH,e];rfl
def wV(w:List Nat):List V:=w.map λn=>V.int (n:Nat)
def sp_c(K:Frag):Sp:=λvs H Q _=>E7 λ(b:Bool)(wa l:Addr)(w:List Nat)(qs:LA)(ms:List Dd)(d:Nat)=>A8 (vs=[.ref wa,.ref l,.int d]) (SqB b K H wa (wV w)) (H l=some (.lst (qs.map V.ref))) (Paired (DdS K H) qs ms) (kS d ms) (w.length<=200) ((∀n∈w,n<ms.length)) (∀r H',Same H H'->DdAt K H' r (mX d (ms.map nQ) w)->Q (.ref r) H')
theorem ok_c(T:Txt K mg t):FnOk P w K mg base CX0 5 t.a_c t.d_c ph' (sp_c K):=by
 have b5:=@ok_l P w K mg base t T;have b6:=@ok_m P w K mg base t T;have b7:=@ok_6 P w K mg base t T;apply T.F_c.ok sc_c
 ·obtain⟨b,C,l,w,b1,ms,d,rfl,L,hl,R,D,c2,Y,a9⟩:=h;have x:=D.1;refine⟨_,(nJ (nU (i:=3) sc_c.nd rfl (Or.inl rfl) (nS b6 hr.mo T.F_m (nH (nS b5 hr.mo T.F_l (nH (pq 2) nI)) (nH (nR Gr (mQ (nH nK nI)) (pq 2)) (nH nK nI)))))
   (nJ (lJ yD rfl (mT (pq 0)) (mP (i:=4) sc_c.nd rfl (Or.inl rfl))
   (nM (nU (i:=3) sc_c.nd rfl (Or.inl rfl) (nS b7 hr.mo T.F_6 (nH (pq 3) (nH (mG ix_B (pq 1) (pq 4) (λ_ _=>rfl)) nI))))))
   (nM (nV (pq 3))))),?_⟩
  show tSeq _ _ _ [some (.ref C),some (.ref l),some (.int d),none,none] H;right;refine⟨d,rfl,⋯,λa o Z=>?_⟩;refine⟨by show 1<=sizeLine;decide,λz b4=>?_⟩;have N:Same o (upd o z (.lst [V.int 0])):=Same.new b4;have a6:(upd o z (.lst [V.int 0])) z=some (.lst [V.int 0]):=nN;generalize upd o z (.lst [V.int 0])=p at*
  refine⟨z,d,[V.int 0],rfl,rfl,a6,⋯,⋯,?_,λy a7=>?_⟩
  ·rw[zS];have:1000<=sizeLine:=∅
   simp only[List.length_cons,List.length_nil];omega
  rw[zS];have b8:(List.replicate d [V.int 0]).flatten=(List.replicate d (0:Int)).map V.int:=by rcases x with rfl|rfl <;> rfl
  rw[b8];have J:Same p (upd p y (.lst ((List.replicate d (0:Int)).map V.int))):=Same.new a7;have a8:(upd p y (.lst ((List.replicate d (0:Int)).map V.int))) y=some (.lst ((List.replicate d (0:Int)).map V.int)):=nN;generalize upd p y (.lst ((List.replicate d (0:Int)).map V.int))=b9 at*
  try ext
  refine⟨false,false,false,a,y,idM d,List.replicate d 0,1,rfl,(Z.up (N.trans J)).m.l.b,SqB.lst a8,by rw[gJ.1];omega,by rw[List.length_replicate];omega,∅,Am (B:=20) ∅ ∅,λW a0 a3 G=>?_⟩;have X:=(Z.s.trans N).trans (J.trans a3);rw[Ke x ∅]at G;have b0:DdAt K a0 W (mX d (ms.map nQ) (w.take 0)):=G;subst e1;refine st λN1 e1=>lN λB eB=>?_;simp only[iSeq];ext;refine⟨b,⟨_,L.up X⟩,?_⟩;refine jP (g:=nX 4) (tb:=B) (λi F f=>∃(r:Addr)(v:Option V),F=[some (.ref C),some (.ref l),some (.int d),some (.ref r),v]/\Same H f/\DdAt K f r (mX d (ms.map nQ) (w.take i))) ⟨W,none,rfl,X,b0⟩ (λ_ _ _ _⟨_,_,_,c,_⟩=>L.up c) ?_ ?_
  ·rintro i c0 F f a2 ⟨r,v,rfl,c,j⟩;obtain⟨n,M,rfl⟩:=jL a2;have U:=Y n (zqb M);obtain⟨m,u⟩:∃m,ms[n]?=some m:=⟨_,zqd U⟩;obtain⟨q,I⟩:∃q,b1[n]?=some q:=⟨_,zqd (by rw[mU R];exact U)⟩;obtain⟨c3,S,b3⟩:=kB R I;rw[u]at S;cases S;have lt:(w.take i).length<=201:=by rw[yG];omega
   have O:∀k∈w.take i,k<ms.length:=λk a4=>Y k (List.mem_of_mem_take a4);obtain⟨_,e,_⟩:=D.word lt O;have g:=D.pr m (zqb u);have es:=D.step lt O u;have a1:w.take (i+1)=w.take i++[n]:=by rw[yY,M];rfl
   rw[a1,←es];subst eB;show tAsg _ _ _ [some (.ref C),some (.ref l),some (.int d),some (.ref r),some (.int n)] f;simp only[tAsg];ext;refine jC (i:=n) (c _ _ hl) (by rw[zH,I];rfl) rfl ?_;refine⟨r,q,_,m,d,rfl,j.s,b3.up c,x,e.sq,g.sq,e.len,g.len,e.pos,g.pos,e.bm,g.bm,e.bt,g.bt,e.bu,g.bu,λr2 c1 b2 a5=>?_⟩;exact⟨r2,rfl,c.trans b2,a5⟩
  ·rintro F f ⟨r,v,rfl,c,j⟩;symm;refine a9 r f c ?_;rw[yJ (by unfold wV;rw[zqe];exact zE _)]at j;exact j
def sp_o:Sp:=λvs H Q _=>E5 λ(wa l:Addr)(w:List Nat)(ys:List V)(most:Nat)=>A6 (vs=[.ref wa,.ref l,.int most]) (H wa=some (.lst (wV w))) (H l=some (.lst ys)) (w.length<=most) ((∀n∈w,n<ys.length)) (Q (.bl true) H)
theorem ok_o(T:Txt K mg t):FnOk P w K mg base CX0 2 t.a_o t.d_o pe' sp_o:=by
 have k:=@ok_h P w K mg base t T;apply T.F_o.ok sc_o
 ·obtain⟨a,l,w,ys,most,rfl,b,hl,r,g,q⟩:=h;refine⟨_,(nJ (mF (PW.pt (lU (kO (lP (mS kU rfl T.z_isinstance (nofun) (nH (pq 0) (nH (jD (v:=.ty "list") rfl T.z_list (nofun) rfl) nI))))) (kN (mB iW (lC T.z_len (pq 0)) (pq 2) (mD _)))))
   (nM (nV lF))
   mE)
   (nJ (lJ yD rfl (mT (pq 0)) (mP (i:=3) sc_o.nd rfl (Or.inl rfl))
   (nM (mF (PW.pt (lU (kO (lP (nS k hr.mo T.F_h (nH (pq 3) nI)))) (lU (mB fZ (pq 3) nK (mD _)) (kN (mB Fo (pq 3) (lC T.z_len (pq 1)) (mD _))))))
   (nM (nV lF))
   mE)))
   (nM (nV lF)))),?_⟩
  show tSeq _ _ _ [some (.ref a),some (.ref l),some (.int most),none] H;right;refine⟨_,_,_,_,rfl,.ty (.lst b),rfl,T.h_q,?_⟩
  try ext
  refine⟨false,a,_,rfl,SqB.lst b,?_⟩
  try ext
  have f:(wV w).length=w.length:=by unfold wV;rw[zqe]
  rw[f,zJ (show¬ (w.length:Int) > (most:Int) by omega)];refine iteF ?_;subst e1;refine st λN1 e1=>lN λB eB=>?_;simp only[iSeq];ext;refine⟨false,⟨_,SqB.lst b⟩,?_⟩;refine jP (g:=nX 3) (tb:=B) (λi d c=>∃(v3:Option V),d=[some (.ref a),some (.ref l),some (.int most),v3]/\c=H) ⟨none,rfl,rfl⟩ (λ_ _ _ _⟨_,_,e⟩=>by rw[e];exact SqB.lst b) ?_ ?_
  ·rintro i o d c m ⟨v3,rfl,rfl⟩;obtain⟨n,j,rfl⟩:=jL m;have p:=g n (zqb j);subst eB;show tIfS _ _ _ _ [some (.ref a),some (.ref l),some (.int most),some (.int n)] c;ext;refine⟨n,rfl,?_⟩
   try ext
   rw[zJ ⋯];refine iteF ⟨false,l,_,rfl,SqB.lst hl,?_⟩
   try ext
   rw[zJ (show¬ (ys.length:Int)<=(n:Int) by omega)];exact trivial
  ·rintro d c ⟨v3,rfl,rfl⟩;symm;exact q
def sp_7:Sp:=λvs H Q _=>E6 λ(a l:Addr)(W:List (List Nat))(ys:List V)(many most:Nat)=>A6 (vs=[.ref a,.ref l,.int many,.int most]) (iB H a W) (H l=some (.lst ys)) (W.length=many) ((∀w∈W,w.length<=most/\∀n∈w,n<ys.length)) (Q (.bl true) H)
theorem ok_7(T:Txt K mg t):FnOk P w K mg base CX0 3 t.a_7 t.d_7 pc' sp_7:=by
 have r:=@ok_o P w K mg base t T;apply T.F_7.ok sc_7
 ·obtain⟨a,l,z,ys,many,most,rfl,⟨y,c,g⟩,hl,v,m,q⟩:=h;refine⟨_,(nJ (mF (PW.pt (lU (kO (lP (mS kU rfl T.z_isinstance (nofun) (nH (pq 0) (nH (jD (v:=.ty "list") rfl T.z_list (nofun) rfl) nI))))) (kN (mB jU (lC T.z_len (pq 0)) (pq 2) (mD _)))))
   (nM (nV lF))
   mE)
   (nJ (lJ yD rfl (mT (pq 0)) (mP (i:=4) sc_7.nd rfl (Or.inl rfl))
   (nM (mF (kO (lP (nS r hr.mo T.F_o (nH (pq 4) (nH (pq 1) (nH (pq 3) nI))))))
   (nM (nV lF))
   mE)))
   (nM (nV lF)))),?_⟩
  show tSeq _ _ _ [some (.ref a),some (.ref l),some (.int many),some (.int most),none] H;have o:=mU g;right;refine⟨_,_,_,_,rfl,.ty (.lst c),rfl,T.h_q,?_⟩
  try ext
  refine⟨false,a,_,rfl,SqB.lst c,?_⟩
  try ext
  rw[zqe,o,v];rw[zM rfl];refine iteF ?_;subst e1;refine st λN1 e1=>lN λB eB=>?_;simp only[iSeq];ext;refine⟨false,⟨_,SqB.lst c⟩,?_⟩;refine jP (g:=nX 4) (tb:=B) (λi f b=>∃(d:Option V),f=[some (.ref a),some (.ref l),some (.int many),some (.int most),d]/\b=H) ⟨none,rfl,rfl⟩ (λ_ _ _ _⟨_,_,e⟩=>by rw[e];exact SqB.lst c) ?_ ?_
  ·rintro i x f b u ⟨d,rfl,rfl⟩;obtain⟨p,ep,rfl⟩:=jL u;obtain⟨j,k,n⟩:=kB g ep;obtain⟨l1,l2⟩:=m j (zqb k);subst eB;show tIfS _ _ _ _ [some (.ref a),some (.ref l),some (.int many),some (.int most),some (.ref p)] b;ext;exact⟨p,l,j,ys,most,rfl,n,hl,l1,l2,_,rfl,iteF rfl⟩
  ·rintro f b ⟨d,rfl,rfl⟩;symm;exact q
def sp_z(t:Adr):Sp:=λvs H Q _=>E2 λ(e:Addr)(od:Option Addr)=>A3 (vs=[.ref e]) (H e=some (iF e (.ref t.a_d) od)) (Q (.bl true) H)
theorem Mz{K:Frag}{C:Addr}{v:Value}(h:PySem.W.mroIn K C v=some true):(PySem.W.clsIn K C).isSome=true:=by
 unfold PySem.W.mroIn at h;cases e:PySem.W.clsIn K C with
 |none=>rw[e]at h;cases h
 |some c=>rfl
theorem ok_z(T:Txt K mg t):bQ P w K mg base 2 t.a_z t.d_z ["_law_e"] (sp_z t):=by
 refine T.F_z.okA sc_z (λvs H Q E h=>?_) (λcdv A outer s H vs Q E k h=>?_)
 ·obtain⟨e,od,rfl,_⟩:=h;rfl
 ·obtain⟨e,od,rfl,f,q⟩:=h;refine⟨_,(nJ (mF (PW.pt (lU (lP (mS kU rfl T.z_isinstance (nofun) (nH (pq 0) (nH (fY (v:=.ref t.a_1d) rfl T.m_1d rfl) nI)))) (kN (lP (mS kU rfl T.z_isinstance (nofun) (nH (pq 0) (nH (fY (v:=.ref t.a_1f) rfl T.m_1f rfl) nI)))))))
   (nM (nV lF))
   mE)
   (nJ (mF (PW.pt (lU (lP (mS kU rfl T.z_isinstance (nofun) (nH (pq 0) (nH (fY (v:=.ref t.a_1h) rfl T.m_1h rfl) nI)))) (kN (lP (mS kU rfl T.z_isinstance (nofun) (nH (pq 0) (nH (fY (v:=.ref t.a_1l) rfl T.m_1l rfl) nI)))))))
   (nM (nV lF))
   mE)
   (nM (nV (Bv (mS kU rfl T.z_isinstance (nofun) (nH (pq 0) (nH (fY (v:=.ref t.a_1a) rfl T.m_1a rfl) nI))) (Bw (mS kU rfl T.z_isinstance (nofun) (nH (pq 0) (nH (jD (v:=.ty "ValueError") rfl T.z_ValueError (nofun) rfl) nI))))))))),?_⟩
  show tSeq _ _ _ [some (.ref e)] H;have a:∀{c:V}{d:Bool}{b:VK},Gh c=true->kitOne K (.ref t.a_d) (clsV c)=some d->b (.bl d) H->rIsi K [.ref e,c] H b:=λg j i=>⟨_,_,_,_,rfl,.exc f ⟨T.h_t,T.h_u,T.h_v,T.h_z,T.e_tk,T.h_w,T.h_x,Mz T.h_w⟩,g,j,i⟩;right;refine a rfl T.y_1d ?_
  try ext
  refine a rfl T.y_1f ⟨_,rfl,iteF ?_⟩;left;refine a rfl T.y_1h ?_
  try ext
  refine a rfl T.y_1l ⟨_,rfl,iteF ?_⟩;symm;refine a rfl T.y_1a ?_
  try ext
  refine a rfl T.h_y ?_
  try ext
  exact q
def wI(w:List Nat):LI':=w.map λn=>((n:Nat):Int)
def wD(w:List Nat):PyData:=.tuple ((wI w).map PyData.int)
theorem Zx(w:List Nat):wV w=(wI w).map V.int:=by
 unfold wV wI;rw[yW];rfl
theorem wD_t(w:List Nat):tT 4 (wD w)=true:=by
 show((wI w).map PyData.int).all (tT 3)=true;rw[uI];intro d a;obtain⟨i,_,rfl⟩:=oZ.mp a;rfl
theorem My:∀{w w':List Nat},wI w=wI w'->w=w'
 |[],[],_=>rfl
 |[],_:: _,h=>by cases h
 |_:: _,[],h=>by cases h
 |a:: w,b:: w',h=>by
  have c:=List.head_eq_of_cons_eq h;have d:=List.tail_eq_of_cons_eq h;rw[My (w:=w) (w':=w') d,nF.mp c]
theorem Mx{w w':List Nat}(h:wD w=wD w'):w=w':=by
 unfold wD at h;rw[PyData.tuple.injEq]at h;have inj:∀{l c:LI'},l.map PyData.int=c.map PyData.int->l=c:=by
  intro l
  induction l with
  |nil=>intro c h;cases c with
   |nil=>rfl
   |cons=>cases h
  | cons a l d=>intro c h;cases c with
   |nil=>cases h
   |cons b c =>
    rw[zO,zO,xQ,PyData.int.injEq]at h;rw[h.1,d h.2]
 exact My (inj h)
theorem fD{K:Frag}{H:Hp}{p:Addr}{w:List Nat}(h:H p=some (.tup (wV w))):Dt K H (.ref p) (wD w):=by
 rw[Zx]at h;exact Dt.intsB (b:=true) (SqB.tup h)
theorem Mw(m d:Nat):HT.sIx m d (some (-1))=m-1:=by
 show(if(-1:Int)<0 then((-1:Int)+(m:Int)).toNat else min (-1:Int).toNat m)=m-1;rw[zF ∅];omega
theorem Zw{w:List Nat}{n:Nat}:cutV (wV (w++[n])) none (some (-1))=wV w:=by
 unfold cutV wV;rw[HT.sIx_none,oG,Mw,zqe,yA,yX];simp only[List.length_cons,List.length_nil];rw[show w.length+(0+1)-1-0=w.length by omega,List.take_append_of_le_length (by rw[zqe];exact zE _),yJ (by rw[zqe];exact zE _)]
theorem Mv{w:List Nat}{n:Nat}:¬ (HT.sIx (wV (w++[n])).length 0 none=0/\HT.sIx (wV (w++[n])).length (wV (w++[n])).length (some (-1))=(wV (w++[n])).length):=by
 rintro⟨_,h⟩;rw[Mw]at h;unfold wV at h;rw[zqe,yA]at h;simp only[List.length_cons,List.length_nil]at h;omega
def K2(kn md:Addr)(Hs H:Hp):Prop:=∀c o,c≠kn->c≠md->Hs c=some o->H c=some o
structure Kw(K:Frag)(d:Nat)(ss:List Dd)(W:List (List Nat))(kn md:Addr)(Hs:Hp)(kvs:List (PyData×V))(mvs:List (Key×V))(H:Hp):Prop where
 k:K2 kn md Hs H
 D:DTr K H kn kvs
 e:(vT kvs (wD [])).isSome=true
 w:∀w v,vT kvs (wD w)=some v->∃p,v=.ref p/\DdAt K H p (mX d ss w)
 m:H md=some (.dK mvs)
 v:∀(j:Nat) v,vI mvs (j:Int)=some v->∃p,v=.ref p/\DdAt K H p (mX d ss (W.getD j []))
theorem Kw.up{K:Frag}{d:Nat}{ss:List Dd}{g:List (List Nat)}{f b:Addr}{j H H':Hp}{kvs:List (PyData×V)}{i:List (Key×V)}(h:Kw K d ss g f b j kvs i H)(s:Same H H'):Kw K d ss g f b j kvs i H':=
 ⟨λc o k l e=>s _ _ (h.k c o k l e),h.D.up s,h.e,λw v e=>let ⟨p,e1,a⟩:=h.w w v e;⟨p,e1,a.up s⟩,s _ _ h.m,λw v e=>let ⟨p,e1,a⟩:=h.v w v e;⟨p,e1,a.up s⟩⟩
theorem Kw.ne{K:Frag}{d:Nat}{ss:List Dd}{c:List (List Nat)}{b a:Addr}{g H:Hp}{kvs:List (PyData×V)}{f:List (Key×V)}(h:Kw K d ss c b a g kvs f H):a≠b:=λz=>by
 obtain⟨xs,e,_⟩:=h.D.ex;rw[←z,h.m]at e;cases e
theorem Kw.put{K:Frag}{d:Nat}{ss:List Dd}{k:List (List Nat)}{a b:Addr}{m H H':Hp}{kvs:List (PyData×V)}{l:List (Key×V)}(h:Kw K d ss k a b m kvs l H){w:List Nat}{r:Addr}(hr:DdAt K H r (mX d ss w))(g:∀c,c≠a->H' c=H c)(D:DTr K H' a (pT kvs (wD w) (.ref r))):Kw K d ss k a b m (pT kvs (wD w) (.ref r)) l H':=by
 have tk:TK K H H':=Aa h.D λc o u e=>by rw[g c u];exact e
 refine⟨λc o i n e=>by rw[g c i];exact h.k c o i n e,D,?_,λw' v e=>?_,by rw[g b h.ne];exact h.m,λj v e=>let ⟨p,e1,f⟩:=h.v j v e;⟨p,e1,f.tk tk⟩⟩
 ·rw[Fy];split
  ·rfl
  ·exact h.e
 ·rw[Fy]at e;split at e
  ·next q =>
   cases e;rw[Mx q];exact⟨r,rfl,hr.tk tk⟩
  ·obtain⟨p,e1,f⟩:=h.w w' v e;exact⟨p,e1,f.tk tk⟩
theorem Kw.set{K:Frag}{d:Nat}{ss:List Dd}{g:List (List Nat)}{i b:Addr}{m H:Hp}{kvs:List (PyData×V)}{a:List (Key×V)}(h:Kw K d ss g i b m kvs a H){k:Nat}{r:Addr}(hr:DdAt K H r (mX d ss (g.getD k [])))(u:vI a (k:Int)=none):Kw K d ss g i b m kvs (a++[(Sum.inl (k:Int),.ref r)]) (upd H b (.dK (a++[(Sum.inl (k:Int),.ref r)]))):=by
 have tk:TK K H (upd H b (.dK (a++[(Sum.inl (k:Int),.ref r)]))):=TK.off h.m (λ_ z=>by cases z) (λ_ _ z=>by cases z) λc x=>nO x;refine⟨λc o n l e=>by rw[nO l];exact h.k c o n l e,DTr.tk h.D tk (nO (zT h.ne)),h.e,λw v e=>let ⟨p,e1,f⟩:=h.w w v e;⟨p,e1,f.tk tk⟩,nN,λj v e=>?_⟩;rw[Dv u]at e;split at e
 ·next q =>
  cases e;rw[nF.mp q];exact⟨r,rfl,hr.tk tk⟩
 ·obtain⟨p,e1,f⟩:=h.v j v e;exact⟨p,e1,f.tk tk⟩
def sp_2(K:Frag):Sp:=λvs H Q _=>E6 λ(a l:Addr)(W:List (List Nat))(qs:LA)(ms:List Dd)(d:Nat)=>A8 (vs=[.ref a,.ref l,.int d]) (iB H a W) (H l=some (.lst (qs.map V.ref))) (Paired (DdS K H) qs ms) (kS d ms) (W.length<=201) ((∀w∈W,w.length<=200/\∀n∈w,n<ms.length)) (∀r ps H',Same H H'->H r=none->H' r=some (.lst (ps.map V.ref))->Paired (DdAt K H') ps (W.map (mX d (ms.map nQ)))->Q (.ref r) H')
def PrR(W:List (List Nat))(c:Addr)(k:Nat)(y:V)(H:Hp):Prop:=∃p,y=.ref p/\p≠c/\H p=some (.tup [.int ((W.getD k []).length:Nat),.int (k:Nat)])
theorem Mu{b:List (List Nat)}{c:Addr}{H:Hp}:∀{ys:List V}{n0:Nat},(∀(j:Nat) y,ys[j]?=some y->PrR b c (n0+j) y H)->∃zs:List (Addr×Nat),ys=zs.map (λz=>V.ref z.1)/\zs.map (·.2)=List.range' n0 ys.length/\∀z∈zs,H z.1=some (.tup [.int ((b.getD z.2 []).length:Nat),.int (z.2:Nat)])
 |[],_,_=>⟨[],rfl,rfl,λ_ h=>(by cases h)⟩
 | y:: ys,n0,h=>by
  obtain⟨p,e1,_,i⟩:=h 0 y rfl;obtain⟨zs,f,k,d⟩:=Mu (ys:=ys) (n0:=n0+1) λj g e=>by
   have:=h (j+1) g (by simpa using e)
   rwa[show n0+(j+1)=n0+1+j by omega]at this
  refine⟨(p,n0):: zs,by rw[e1,f];rfl,?_,λz a=>?_⟩
  ·rw[zO,k,zR,List.range'_succ]
  ·rcases xL.mp a with rfl|a
   ·exact i
   ·exact d z a
def prD(W:List (List Nat))(z:Addr×Nat):V×PyData:=(V.ref z.1,.tuple [.int ((W.getD z.2 []).length:Nat),.int (z.2:Nat)])
theorem ok_2(T:Txt K mg t):FnOk P w K mg base CX0 6 t.a_2 t.d_2 pg' (sp_2 K):=by
 have h9:=@ok_c P w K mg base t T;have q1:=@ok_6 P w K mg base t T;apply T.F_2.ok sc_2
 ·have S:=hr.units;obtain⟨a,l,g,g1,ms,d,rfl,⟨l1,c7,h2⟩,hl,c4,D,q6,o8,o7⟩:=h;refine⟨_,(nJ (nU (i:=3) sc_2.nd rfl (Or.inl rfl) (Hh S (kQ nI) (nS h9 hr.mo T.F_c (nH (mQ nI) (nH (pq 1) (nH (pq 2) nI))))))
   (nJ (nU (i:=4) sc_2.nd rfl (Or.inr rfl) Ua)
   (nJ (lJ yD rfl (mT (mS (Vu (N:=201) Jk S) rfl T.z_sorted (nofun) (nH (lE (sc:=nP s_2) (N:=N_2) (fr:=[("_law_words",0)]) (te:=(tTup (mH (tCB (eT K) (mH (tOp (rIxB K) (tVar 1) (tVar 0)) tNil)) (mH (tVar 0) tNil)))) rfl rfl (nofun) rfl (nofun) (lG rfl T.z_range (nH (lC T.z_len (pq 0)) nI)) (λ_ _ _ m7=>(kQ (nH (lC T.z_len (mG ix_B (pv 1) (pv 0) (λ_ _=>rfl))) (nH (pv 0) nI))))) nI))) (gO rfl (kP (mP (i:=5) sc_2.nd rfl (Or.inl rfl)) (kP (mP (i:=6) sc_2.nd rfl (Or.inl rfl)) gN)))
   (nJ (nU (i:=7) sc_2.nd rfl (Or.inl rfl) (lK jX rfl T.z_tuple (nofun) (nH (mG ix_B (pq 0) (pq 6) (λ_ _=>rfl)) nI)))
   (nJ (mF (PW.pt (Ft (mB (aI S) (pq 7) (pq 3) rfl) (Fu (mB (Rh S) (cD sl_B (pq 7) bN (eG (fF fG nK))) (pq 3) rfl))))
   (nM (jS (nS q1 hr.mo T.F_6 (nH (mG (ix_T S) (pq 3) (cD sl_B (pq 7) bN (eG (fF fG nK))) (λ_ _=>rfl)) (nH (mG ix_B (pq 1) (mG ix_B (pq 7) (fF fG nK) (λ_ _=>rfl)) (λ_ _=>rfl)) nI))) (iE (pq 3) (pq 7) (cM S))))
   mE)
   (nJ (mF (mB (aI S) (pq 7) (pq 3) rfl)
   (nM (jS (nS h9 hr.mo T.F_c (nH (pq 7) (nH (pq 1) (nH (pq 2) nI)))) (iE (pq 3) (pq 7) (cM S))))
   mE)
   (nM (jS (mG (ix_T S) (pq 3) (pq 7) (λ_ _=>rfl)) (iE (pq 4) (pq 6) Vz)))))))
   (nM (nV (lE (sc:=nP s_2) (N:=N_2) (fr:=[("_law_made",4)]) (te:=(tOp Jx (tVar 1) (tVar 0))) rfl rfl (nofun) rfl (nofun) (lG rfl T.z_range (nH (lC T.z_len (pq 0)) nI)) (λ_ _ _ m7=>(mG ix_I (pv 1) (pv 0) (λ_ _=>rfl))))))))),?_⟩
  show tSeq _ _ _ [some (.ref a),some (.ref l),some (.int d),none,none,none,none,none] H;have n7:=D.1;have j4:=mU h2;refine st λN1 e1=>?_;simp only[Cp];ext;intro f j8;have l6:Same H (upd H f (lD f [])):=Same.new j8;have g7:(upd H f (lD f [])) f=some (lD f []):=nN;generalize upd H f (lD f [])=d3 at*
  refine⟨zY _,λb3 i4=>?_⟩;have W:Same d3 (upd d3 b3 (.tup [])):=Same.new i4;have ep:(upd d3 b3 (.tup [])) b3=some (.tup (wV [])):=nN;generalize upd d3 b3 (.tup [])=O at*
  refine⟨zY _,λb1 c5=>?_⟩;have e6:Same O (upd O b1 (.lst [])):=Same.new c5;have j9:(upd O b1 (.lst [])) b1=some (.lst (wV [])):=nN;generalize upd O b1 (.lst [])=j1 at*
  have d2:=(l6.trans W).trans e6;refine⟨false,b1,l,[],g1,ms,d,rfl,SqB.lst j9,d2 _ _ hl,Paired.mapP c4 λ_ _ z=>z.up d2,D,zY _,λ_ h=>(by cases h),λd4 o2 h1 k6=>?_⟩;have c8:=e6.trans h1;refine⟨b3,wD [],rfl,wD_t [],fD (c8 _ _ ep),c8 _ _ (W _ _ g7),λa4 g6 j6=>?_⟩;have d6:∀c o,H c=some o->c≠f:=λc o e z=>by rw[z,j8]at e;cases e
  have f0:Same H a4:=λc o e=>by rw[g6 c (d6 c o e)];exact h1 _ _ (d2 _ _ e)
  have j2:TK K o2 a4:=TK.off (c8 _ _ (W _ _ g7)) (λ_ z=>by cases z) (λ_ _ z=>by cases z) g6;have k9:DdAt K a4 d4 (mX d (ms.map nQ) []):=k6.tk j2;clear j2 k6 c8 h1 d2 e6 j9 c5 W ep i4 l6 g7 g6;subst e1;refine st λN1 e1=>?_;simp only[Jy];ext;intro C g2;have d0:Same a4 (upd a4 C (.dK [])):=Same.new g2;have Z:(upd a4 C (.dK [])) C=some (.dK []):=nN;generalize upd a4 C (.dK [])=q8 at*
  have c0:=f0.trans d0;have p9:H C=none:=Aj f0 g2;have i8:∀c o,H c=some o->c≠C:=λc o e z=>by rw[z,p9]at e;cases e
  have f5:=j6.up d0;have j0:=k9.up d0;subst e1;refine st λN1 e1=>lN λB eB=>?_;simp only[iSeq];ext;refine mK λr1 p5=>?_;simp only[mY];ext;refine⟨false,a,_,rfl,SqB.lst (c0 _ _ c7),?_⟩
  try ext
  rw[zqe,j4];refine⟨⋯,⋯,λc l4=>?_⟩;rw[zS];refine jG (len:=g.length) (PrR g c) l4 ⋯ (λ_ _ _ _⟨p,e,n,h⟩m2=>⟨p,e,n,m2 _ _ n h⟩) ?_ ?_
  ·intro k k4 zs U R a0 g8 f9;obtain⟨u,b0⟩:∃u,g[k]?=some u:=⟨_,zqd U⟩;obtain⟨a3,b4⟩:∃a3,l1[k]?=some a3:=⟨_,zqd ⋯⟩;obtain⟨w',b5,f8⟩:=kB h2 b4;rw[b0]at b5;cases b5;subst p5;show tTup _ [some (.int (0+(k:Int))),some (.ref a)] k4 g8;ext;refine jC (i:=k) (R _ _ (c0 _ _ c7)) (by rw[zH,b4];rfl) ⋯ ?_;refine⟨false,a3,_,rfl,SqB.lst (R _ _ (c0 _ _ f8)),?_⟩
   try ext
   refine⟨by show 2<=sizeLine;decide,λp e2=>?_⟩;have g9:g.getD k []=u:=by rw[zqc,b0];rfl
   refine f9 _ _ (Same.new e2) ⟨p,rfl,(λz=>by rw[z,a0]at e2;cases e2),?_⟩;rw[nN,g9,zqe,rP]
  ·intro k4 ys R k5 f4 k8;obtain⟨zs,rfl,b6,e5⟩:=Mu (n0:=0) (by simpa using k8);rw[f4]at b6;have n0:zs.length=g.length:=by simpa using f4
   refine⟨c,zs.map (prD g),0,[.int 0],rfl,by rw[zqe];omega,SqL.of (by rw[k5,yW];rfl),λq f3=>?_,λd8 q7 L ss f6 l5 X _=>?_⟩
   ·obtain⟨z,G,rfl⟩:=oZ.mp f3;exact⟨rfl,rfl,Dt.tup (SqT.of (e5 z G)) (.cons (.int _) (.cons (.int _) .nil))⟩
   obtain⟨srt,a7,rfl⟩:=Em X;have h4:=(c0.trans R).trans ss;have g3:∀z∈srt,L z.1=some (.tup [.int ((g.getD z.2 []).length:Nat),.int (z.2:Nat)]):=λz G=>ss _ _ (e5 z (a7.mem_iff.mp G));have p2:(srt.map (·.2)).Nodup:=((a7.map _).nodup_iff).mpr (by rw[b6];exact List.nodup_range');have o3:∀k,k<g.length->k∈srt.map (·.2):=λk U=>((a7.map _).mem_iff).mpr (by rw[b6];exact List.mem_range'.mpr ⟨k,U,⋯⟩);have m5:∀z∈srt,z.2<g.length:=λz G=>by
    have:z.2∈zs.map (·.2):=oZ.mpr ⟨z,a7.mem_iff.mp G,rfl⟩;rw[b6]at this;obtain⟨j,M,e⟩:=List.mem_range'.mp this;omega
   have k1:=(f5.up R).up ss;have i5:=(j0.up R).up ss;have k7:=ss _ _ (R _ _ Z);have c5:∀w v,vT [(wD [],V.ref d4)] (wD w)=some v->∃p,v=.ref p/\DdAt K L p (mX d (ms.map nQ) w):=λw v e=>by
    by_cases q:wD []=wD w
    ·rw[jI q]at e;cases e;rw[←Mx q];exact⟨d4,rfl,i5⟩
    ·rw[jJ q]at e;cases e
   have k0:Kw K d (ms.map nQ) g f C L [(wD [],.ref d4)] [] L:=⟨λ_ _ _ _ e=>e,k1,by rw[jI rfl];rfl,c5,k7,λj v e=>by cases e⟩;have m9:d8≠f:=λz=>by
    obtain⟨xs,e,_⟩:=(f5.up R).ex;rw[←z,f6]at e;cases e
   have o5:d8≠C:=λz=>by rw[z,R _ _ Z]at f6;cases f6
   have n1:∀p xs,L p=some (.tup xs)->p≠f:=λp xs e z=>by
    obtain⟨ys,b7,_⟩:=k0.D.ex;rw[←z,e]at b7;cases b7
   have n6:∀p xs,L p=some (.tup xs)->p≠C:=λp xs e z=>by
    have:=k0.m;rw[←z,e]at this;cases this
   clear k1 i5 k7 f5 j0 Z d0 f0 k9 j6 g2 X k5 k8 f4 b6 e5 l4 R ss c0;refine⟨false,d8,rfl,⟨_,SqB.lst l5⟩,?_⟩;refine jP (g:=gTup K 2 (kC (nX 5) (kC (nX 6) gNil))) (tb:=B) (λi e3 a5=>∃(e9 e4 d1:Option V)(kvs:List (PyData×V))(I:List (Key×V)),e3=[some (.ref a),some (.ref l),some (.int d),some (.ref f),some (.ref C),e9,e4,d1]/\Kw K d (ms.map nQ) g f C L kvs I a5/\kvs.length<=1+2*i/\I.length<=i/\(∀j:Nat,(vI I (j:Int)).isSome=true->j∈(srt.take i).map (·.2))/\∀z∈srt.take i,(vI I (z.2:Int)).isSome=true) ⟨none,none,none,_,[],rfl,k0,by simp,by simp,λj h=>(by cases h),λz G=>by simp at G⟩ (λ_ _ _ _⟨_,_,_,_,_,_,Y,_⟩=>SqB.lst (Y.k _ _ m9 o5 l5)) ?_ ?_
   ·rintro i y e3 a5 i7 ⟨e9,e4,d1,kvs,I,rfl,Y,o6,m6,e8,e0⟩;rw[yW]at i7;obtain⟨⟨p,k⟩,a0,rfl⟩:=jL i7;have G:=zqb a0;have U:k<g.length:=m5 _ G;have hi:i<201:=by have:=(zqa a0).1;have:=a7.length_eq;omega
    have hsz:1000<=sizeLine:=∅
    have n5:=Y.k p _ (n1 p _ (g3 _ G)) (n6 p _ (g3 _ G)) (g3 _ G);refine⟨p,[.int ((g.getD k []).length:Nat),.int (k:Nat)],rfl,SqT.of n5,rfl,_,[.int k],rfl,_,[],rfl,rfl,?_⟩;have c6:vI I (k:Int)=none:=by
     cases q:vI I (k:Int) with
     |none=>rfl
     |some v =>
      have b2:=e8 k (by rw[q];rfl);obtain⟨j,M⟩:=xW b2;have q2:j<i:=by have:=(zqa M).1;simp at this;omega
      rw[zH,wC q2,←zH]at M;have c3:(srt.map (·.2))[i]?=some k:=by rw[zH,a0];rfl
      have:=(sQ (zqa M).1 p2).mp (M.trans c3.symm);omega
    obtain⟨u,b0⟩:∃u,g[k]?=some u:=⟨_,zqd U⟩;obtain⟨a3,b4⟩:∃a3,l1[k]?=some a3:=⟨_,zqd ⋯⟩;obtain⟨w',b5,f8⟩:=kB h2 b4;rw[b0]at b5;cases b5;have g9:g.getD k []=u:=by rw[zqc,b0];rfl
    obtain⟨h8,d7⟩:=o8 u (zqb b0);have c1:∀{H' J g5}{b:Addr}{o:HO},Kw K d (ms.map nQ) g f C L J g5 H'->H b=some o->H' b=some o:=λk' e=>k'.k _ _ (d6 _ _ e) (i8 _ _ e) (h4 _ _ e);have j3:∀{H' J g5},Kw K d (ms.map nQ) g f C L J g5 H'->Same H H':=λk' b o e=>c1 k' e;subst eB;show tSeq _ _ _ [some (.ref a),some (.ref l),some (.int d),some (.ref f),some (.ref C),some (.int ((g.getD k []).length:Nat)),some (.int k),d1] a5;refine st λh5 c3=>?_;ext;refine jC (i:=k) (c1 Y c7) (by rw[zH,b4];rfl) rfl ?_;refine⟨a3,wV u,rfl,.inl ⟨SqL.of (c1 Y f8),λq f3=>?_⟩⟩;have b8:=Same.new (o:=.tup (wV u)) f3;have a8:(upd a5 q (.tup (wV u))) q=some (.tup (wV u)):=nN;have a1:=Y.up b8;generalize upd a5 q (.tup (wV u))=a2 at*
    have i2:∀{H':Hp}{J:List (PyData×V)},DTr K H' f J->H' q=some (.tup (wV u))->q≠f:=λm8 e z=>by
     obtain⟨xs,b7,_⟩:=m8.ex;rw[←z,e]at b7;cases b7
    subst c3;refine st λh5 c3=>?_;have g4:∀J H',Kw K d (ms.map nQ) g f C L J I H'->J.length<=2+2*i->H' q=some (.tup (wV u))->h5 [some (.ref a),some (.ref l),some (.int d),some (.ref f),some (.ref C),some (.int ((g.getD k []).length:Nat)),some (.int k),some (.ref q)] H':=by
     intro J H' k' r4 a9;subst c3;refine st λp1 n4=>?_;have l0:∀c2 O r,Kw K d (ms.map nQ) g f C L c2 I O->c2.length<=3+2*i->O q=some (.tup (wV u))->vT c2 (wD u)=some r->p1 [some (.ref a),some (.ref l),some (.int d),some (.ref f),some (.ref C),some (.int ((g.getD k []).length:Nat)),some (.int k),some (.ref q)] O:=by
      intro c2 O r k2 l2 p8 N;subst n4;simp only[tAsg,gSub];ext;obtain⟨pr,rfl,d9⟩:=k2.w _ _ N;refine fV k2.D (wD_t _) (fD p8) N ?_
      try ext
      refine⟨C,I,k,rfl,rfl,k2.m,c6,⋯,?_⟩;have k3:=k2.set (k:=k) (by rw[g9];exact d9) c6;refine⟨c2,_,k3,⋯,by rw[yA];simp;omega,λj M=>?_,λz l8=>?_⟩
      ·rw[Dv c6]at M;rw[yY,a0,yX,oW];split at M
       ·next f2=>refine .inr ?_;rw[nF.mp f2];simp
       ·exact .inl (e8 j M)
      ·rw[Dv c6];split
       ·rfl
       ·next f2 =>
        rw[yY,a0]at l8;rcases oW.mp l8 with h|h
        ·exact e0 z h
        ·exact absurd (by rw[show z=(p,k) by simpa using h]) f2
     ext;refine cY k'.D (wD_t _) (fD a9) ?_;cases N:vT J (wD u) with
     |some r =>
      try ext
      exact l0 J H' r k' ⋯ a9 N
     |none =>
      try ext
      rw[zF (by rfl)];refine⟨true,q,l,u,g1,ms,d,rfl,SqB.tup a9,c1 k' hl,Paired.mapP c4 λ_ _ z=>z.up (j3 k'),D,h8,d7,λr O W n8=>?_⟩;simp only[gSub];ext;have k2:=k'.up W;refine⟨f,J,q,wD u,rfl,rfl,k2.D,wD_t _,fD (W _ _ a9),⋯,λj1 _ l3 n9=>?_⟩;exact l0 _ j1 (.ref r) (k2.put n8 l3 n9) (yC (Cr _ _ _) ⋯) (by rw[l3 q (i2 k2.D (W _ _ a9))];exact W _ _ a9) (by rw[Fy,zF rfl])
    ext;refine cY a1.D (wD_t _) (fD a8) ?_;cases N:vT kvs (wD u) with
    |some r =>
     try ext
     exact g4 kvs a2 a1 ⋯ a8
    | none =>
     try ext
     rw[zF (by rfl)];obtain⟨F,n,rfl⟩:∃F n,u=F++[n]:=by
      cases u with
      |nil=>have:=a1.e;rw[N]at this;cases this
      |cons x xs=>exact⟨_,_,(List.dropLast_concat_getLast (List.cons_ne_nil x xs)).symm⟩
     have j7:seqO true (cutV (wV (F++[n])) none (some (-1)))=.tup (wV F):=by rw[Zw];rfl
     refine⟨true,q,_,rfl,SqB.tup a8,λ_=>Mv,λf7 m3=>?_⟩;rw[j7];have c9:=Same.new (o:=.tup (wV F)) m3;have p7:(upd a2 f7 (.tup (wV F))) f7=some (.tup (wV F)):=nN;have e7:=a1.up c9;generalize upd a2 f7 (.tup (wV F))=h3 at*
     refine cY e7.D (wD_t F) (fD p7) ?_;cases ev2:vT kvs (wD F) with
     |none=>exact⟨_,rfl,iteF (g4 kvs h3 e7 ⋯ (c9 _ _ a8))⟩
     |some r =>
      refine⟨_,rfl,iteT ?_⟩;refine⟨true,q,_,rfl,SqB.tup (c9 _ _ a8),λ_=>Mv,λh0 m1=>?_⟩;rw[j7];have m0:=Same.new (o:=.tup (wV F)) m1;have p6:(upd h3 h0 (.tup (wV F))) h0=some (.tup (wV F)):=nN;have b9:=e7.up m0;have i1:=m0 _ _ (c9 _ _ a8);generalize upd h3 h0 (.tup (wV F))=q4 at*
      obtain⟨pr,rfl,d9⟩:=b9.w _ _ ev2;refine fV b9.D (wD_t F) (fD p6) ev2 ?_;refine⟨true,q,_,_,_,rfl,rfl,SqB.tup i1,(show atI (wV (F++[n])) (-1)=some (V.int (n:Nat)) by unfold wV;rw[yX];exact Op _ _),?_⟩;have l9:=d7 n (yP _ (.head _));obtain⟨m,Z⟩:∃m,ms[n]?=some m:=⟨_,zqd l9⟩;obtain⟨o4,h6⟩:∃q,g1[n]?=some q:=⟨_,zqd (by rw[mU c4];exact l9)⟩;obtain⟨q5,l7,n3⟩:=kB c4 h6;rw[Z]at l7;cases l7;have lt:F.length<=201:=by rw[yA]at h8;omega
      have j5:∀j∈F,j<ms.length:=λj M=>d7 j (xI _ M);obtain⟨_,a6,_⟩:=D.word lt j5;have X:=D.pr m (zqb Z);refine jC (i:=n) (c1 b9 hl) (by rw[zH,h6];rfl) rfl ?_;refine⟨pr,o4,_,m,d,rfl,d9.s,n3.up (j3 b9),n7,a6.sq,X.sq,a6.len,X.len,a6.pos,X.pos,a6.bm,X.bm,a6.bt,X.bt,a6.bu,X.bu,λr2 q3 i0 h7=>?_⟩;rw[D.step lt j5 Z]at h7;simp only[gSub];ext;have d5:=b9.up i0;have g0:=i0 _ _ i1;refine⟨f,kvs,q,wD (F++[n]),rfl,rfl,d5.D,wD_t _,fD g0,⋯,λo9 _ i6 n2=>?_⟩;exact g4 _ o9 (d5.put h7 i6 n2) (yC (Cr _ _ _) ⋯) (by rw[i6 q (i2 d5.D g0)];exact g0)
   ·rintro e3 a5 ⟨e9,e4,d1,kvs,I,rfl,Y,o6,m6,e8,e0⟩;symm;refine mK λB eB=>?_;simp only[mY];ext;have f1:Same H a5:=λb o e=>Y.k _ _ (d6 _ _ e) (i8 _ _ e) (h4 _ _ e);refine⟨false,a,_,rfl,SqB.lst (f1 _ _ c7),?_⟩
    try ext
    rw[zqe,j4];refine⟨⋯,⋯,λi9 i3=>?_⟩;rw[zS];refine jG (len:=g.length) (DdR K i9 (g.map (mX d (ms.map nQ)))) i3 ⋯ DdR.mono ?_ ?_
    ·intro k a2 q9 U b8 m4 g8 f9;have a1:=Y.up b8;obtain⟨z,G,o1⟩:=oZ.mp (o3 k U);have r3:srt.length=g.length:=by rw[a7.length_eq];exact n0
     have b2:=e0 z (by rw[zqe,zqe,yJ (zE _)];exact G);rw[o1]at b2;cases N:vI I (k:Int) with
     |none=>rw[N]at b2;cases b2
     |some v =>
      obtain⟨p,rfl,p0⟩:=a1.v k v N;subst eB;show tOp _ _ _ [some (.int (0+(k:Int))),some (.ref C)] a2 g8;ext;refine⟨C,I,k,.ref p,rfl,by rw[rP],a1.m,N,?_⟩;refine f9 _ _ (Same.refl _) ⟨p,_,rfl,?_,DdAt.tk p0 (Er m4)⟩;rw[zH,zqd U,zqc,zqd U];rfl
    ·intro a2 r0 b8 q0 p4 o0;obtain⟨ps,rfl,p3⟩:=Ja (by rw[p4,zqe]) o0;exact o7 i9 ps a2 (f1.trans b8) (Aj f1 i3) q0 p3
def keyT(R:List Dd):List (PyData×V):=R.map λx=>(dat x,V.bl true)
theorem Mt{x:Dd}:∀{R:List Dd},(vT (keyT R) (dat x))=if x∈R then some (.bl true) else none
 |[]=>rfl
 | y:: R=>by
  show vT ((dat y,V.bl true):: keyT R) (dat x)=_
  by_cases h:y=x
  ·rw[jI (by rw[h]),zF (by rw[h];exact .head _)]
  ·rw[jJ (λq=>h (fU.mp q)),Mt]
   by_cases a:x∈R
   ·rw[zF a,zF (.tail _ a)]
   ·rw[zD a,zD (λq=>by rcases xL.mp q with q|q;exact h q.symm;exact a q)]
theorem Zv{x:Dd}{R:List Dd}(h:x∉R):pT (keyT R) (dat x) (.bl true)=keyT (R++[x]):=by
 unfold pT;rw[Mt,zD h];unfold keyT;rw[yX];rfl
def sp_y(K:Frag):Sp:=λvs H Q _=>E7 λ(a l:Addr)(tb:Tb)(qs:LA)(ms:List Dd)(d most:Nat)=>A10 (vs=[.ref a,.ref l,.int d,.int most]) (iB H a (tb.map (·.2))) (H l=some (.lst (qs.map V.ref))) (Paired (DdS K H) qs ms) (kS d ms) (most<=200) (tb.length=most+1) ((tb.map (·.1)).Nodup) ((∀y∈tb,WdOk d (ms.map nQ) y/\y.2.length<=most)) (∀H',Same H H'->Q (.bl true) H')
theorem ok_y(T:Txt K mg t):FnOk P w K mg base CX0 7 t.a_y t.d_y pd' (sp_y K):=by
 have b7:=@ok_7 P w K mg base t T;have a7:=@ok_2 P w K mg base t T;apply T.F_y.ok sc_y
 ·have a3:=hr.units;obtain⟨a,l,tb,a8,ms,d,most,rfl,U,hl,S,D,b4,a4,nd,C,a6⟩:=h;refine⟨_,(nJ (mF (kO (lP (nS b7 hr.mo T.F_7 (nH (pq 0) (nH (pq 1) (nH (nR lH (pq 3) nK) (nH (pq 3) nI)))))))
   (nM (nV lF))
   mE)
   (nJ (nU (i:=4) sc_y.nd rfl (Or.inl rfl) Hi)
   (nJ (lJ yD rfl (mT (nS a7 hr.mo T.F_2 (nH (pq 0) (nH (pq 1) (nH (pq 2) nI))))) (mP (i:=5) sc_y.nd rfl (Or.inl rfl))
   (nM (jS lF (iE (pq 4) (pq 5) (cM a3)))))
   (nM (nV (dW kK (mS Vq rfl T.z_len (nofun) (nH (pq 4) nI)) (nR lH (pq 3) nK) (mD _))))))),?_⟩
  show tSeq _ _ _ [some (.ref a),some (.ref l),some (.int d),some (.int most),none,none] H;have lq:=mU S;have u:∀w∈tb.map (·.2),w.length<=most/\∀n∈w,n<ms.length:=λw f=>by
   obtain⟨y,p,rfl⟩:=oZ.mp f;refine⟨(C y p).2,λn I=>?_⟩;have:=(C y p).1.2 n I
   rwa[zqe]at this
  have b5:(tb.map (·.2)).map (mX d (ms.map nQ))=tb.map (·.1):=by
   rw[yW];exact xS λy p=>(C y p).1.1.symm
  right;refine⟨a,l,tb.map (·.2),_,most+1,most,rfl,U,hl,by rw[zqe,a4],λw f=>⟨(u w f).1,λn I=>by rw[zqe,lq];exact(u w f).2 n I⟩,_,rfl,iteF ?_⟩;left;simp only[Cq]
  try ext
  intro b N X;have m:Same H (upd H b (lD b [])):=Same.new N;generalize upd H b (lD b [])=b9 at*
  subst e1;refine st λN1 e1=>lN λB eB=>?_;simp only[iSeq];ext;refine⟨a,l,tb.map (·.2),a8,ms,d,rfl,U.up m,m _ _ hl,Paired.mapP S λ_ _ z=>z.up m,D,by rw[zqe];omega,λw f=>⟨yC (u w f).1 b4,(u w f).2⟩,λr ps b1 R b0 Y v=>?_⟩;rw[b5]at v;have b3:=mU v;rw[zqe]at b3;have a9:r≠b:=λz=>by
   obtain⟨xs,e,_⟩:=X.ex;rw[←z,b0]at e;cases e
  have M:=X.up R;refine⟨false,r,rfl,⟨_,SqB.lst Y⟩,?_⟩;refine jP (g:=nX 5) (tb:=B) (λi J g=>∃(F:Option V),J=[some (.ref a),some (.ref l),some (.int d),some (.int most),some (.ref b),F]/\KX b b1 g/\DTr K g b (keyT ((tb.map (·.1)).take i))) ⟨none,rfl,λ_ _ _ e=>e,M⟩ (λ_ _ _ _⟨_,_,k3,_⟩=>SqB.lst (k3 _ _ a9 Y)) ?_ ?_
  ·rintro i y J g a5 ⟨F,rfl,k3,G⟩;obtain⟨q,L,rfl⟩:=jL a5;obtain⟨x,W,b2⟩:=kB v L;have a1:=DdAt.tk b2 (Aa M k3);have hi:i<201:=by have:=(zqa L).1;omega
   have hsz:1000<=sizeLine:=∅
   have nx:x∉(tb.map (·.1)).take i:=λh=>by
    obtain⟨j,k⟩:=xW h;have b6:j<i:=by have:=(zqa k).1;simp at this;omega
    rw[wC b6]at k;have:=(sQ (zqa k).1 nd).mp (k.trans W.symm);omega
   have a0:(keyT ((tb.map (·.1)).take i)).length<=i:=by unfold keyT;rw[zqe,yG];omega
   subst eB;show tAsg _ _ _ [some (.ref a),some (.ref l),some (.int d),some (.int most),some (.ref b),some (.ref q)] g;simp only[tAsg,gSub];ext;refine⟨b,_,q,dat x,rfl,rfl,G,kH x,DdAt.dt a1,⋯,λb8 a2 _ Z=>?_⟩;rw[Zv nx]at Z;refine⟨λc o O e=>a2 c o O (k3 c o O e),?_⟩;rw[yY,W];exact Z
  ·rintro J g ⟨F,rfl,k3,G⟩;symm;refine⟨b,_,rfl,G,?_⟩
   try ext
   have a0:(keyT ((tb.map (·.1)).take (ps.map V.ref).length)).length=most+1:=by
    unfold keyT;rw[zqe,zqe,yG,zqe];omega
   rw[a0,zM ⋯];exact a6 g (fX (m.trans R) N k3)
theorem Zu{M:LM}{ts:LI'}{U:Int}(e:0<U):canD (canD M ts U).1 (canD M ts U).2.1 (canD M ts U).2.2=canD M ts U:=by
 obtain⟨c,g,e1,f,a⟩:=Ei (ts:=ts) e;have d:canD M (lR (redU U ts) (redT U ts)) (redU U ts)=canD M (redT U ts) (redU U ts):=(Kk a (Cong.rest a _)).symm;have b:canD M (smul c (redT U ts)) (c*redU U ts)=canD M (redT U ts) (redU U ts):=bE a g;rw[←e1,←f]at b;exact d.trans b.symm
theorem kS.can{d:Nat}{ms:List Dd}(h:kS d ms){w:List Nat}(hl:w.length<=201)(c:∀n∈w,n<ms.length){x:Dd}(b:x=mX d (ms.map nQ) w):canD x.1 x.2.1 x.2.2=x:=by
 obtain⟨_,j,F,rfl,a,f⟩:=h;have i:=Ef a (λs g=>(f s g).1);obtain⟨R,_,_,ts,_,e⟩:=Fx i w.length w rfl hl c;rw[←b]at e;rw[e];exact Zu a.u0
section
variable {tt:TOx} {fr:List (Str×Nat)} {σ:St} {a:Addr} {H:Hp} {Q:VK}
theorem Zt{b:Bool}{l:Addr}{xs:List V}(P:Nat->List V->Hp->Prop)(F:H a=none)(e:SqB b K H l xs)(m:xs.length<=1000)(z:P 0 [] (upd H a (.lst [])))
  (hl:∀i zs c,P i zs c->zs.length<=i)(mono:∀i zs c d,P i zs c->jO a c d->P i zs d)
  (k:∀i x c zs,xs[i]?=some x->Same H c->c a=some (.lst zs)->P i zs c->∀C:Option V->Hp->Prop,
   (∀y d,Same c d->P (i+1) (zs++[y]) d->C (some y) d)->(∀d,Same c d->P (i+1) zs d->C none d)->tt (some x:: lV fr σ) c C)
  (D:∀c ys,Same H c->c a=some (.lst ys)->P xs.length ys c->Q (.ref a) c):kL (Its K b l) (nX 0) tt 1 fr σ a H Q:=by
 refine aB xs.length P F m z hl mono (λi c hi s=>Its.go (e.up s) (x:=xs[i]) (by simp[hi])) (λc s=>Its.stop (e.up s) (zE _)) ?_ D;intro i c zs hi f g p ys x r u j C q n;obtain⟨e1,v⟩:=Its.yld (e.up f) j;subst e1
 match ys,u with
 |[o],_=>exact⟨⟨[some x],rfl,rfl⟩,k i x r zs v f g p C q n⟩
end
theorem Zs{fr:List (Str×Nat)}{q:St}{a:Addr}{H:Hp}{Q:VK}{b:Bool}{l:Addr}{ns:LI'}(o:H a=none)(f:SqB b K H l (ns.map V.int))(g:ns.length<=1000)
  (m:∀c,Same H c->c a=some (.lst [])->Q (.ref a) c):kL (Its K b l) (nX 0) (hJ (tNot (tB (kJ sp_h [] E0 (mH (tVar 0) tNil)))) (tVar 0)) 1 fr q a H Q:=by
 refine Zt (λ_ zs _=>zs=[]) o f (by rw[zqe];exact g) rfl (λi zs c p=>by rw[p];exact zY _) (λ_ _ _ _ r _=>r) ?_ (λc ys d e p=>m c d (by rw[e,p]));intro i x c zs k d u p C v j;obtain⟨n,y,rfl⟩:=jY k;simp only[hJ];ext;exact⟨n,rfl,_,rfl,iteF (j c (Same.refl _) p)⟩
def sp_e(K:Frag):Sp:=λvs H Q _=>E3 λ(p:Addr)(x:Dd)(d:Nat)=>A7 (vs=[.ref p,.int d]) (DdS K H p x) (kI d x) (Pr d x) (canD x.1 x.2.1 x.2.2=x) ((d=2\/d=3)) (∀H',Same H H'->Q (.bl true) H')
theorem ok_e(T:Txt K mg t):FnOk P w K mg base CX0 3 t.a_e t.d_e pu' (sp_e K):=by
 have a0:=@ok_h P w K mg base t T;have c6:=@ok_m P w K mg base t T;apply T.F_e.ok sc_e
 ·have b3:=hr.units;obtain⟨p,⟨M,ts,u⟩,d,rfl,a5,f,pr,c8,d2,c2⟩:=h;refine⟨_,(nJ (mF (PW.pt (lU (kO (lP (mS kU rfl T.z_isinstance (nofun) (nH (pq 0) (nH (jD (v:=.ty "tuple") rfl T.z_tuple (nofun) rfl) nI))))) (lU (mB jU (lC T.z_len (pq 0)) nK (mD _)) (lU (kO (lP (nS a0 hr.mo T.F_h (nH (nY (pq 0)) nI)))) (kN (mB fZ (nY (pq 0)) nK (mD _)))))))
   (nM (nV lF))
   mE)
   (nJ (mF (PW.pt (lU (kO (lP (mS kU rfl T.z_isinstance (nofun) (nH (nY (pq 0)) (nH (jD (v:=.ty "tuple") rfl T.z_tuple (nofun) rfl) nI))))) (lU (kO (lP (mS kU rfl T.z_isinstance (nofun) (nH (nY (pq 0)) (nH (jD (v:=.ty "tuple") rfl T.z_tuple (nofun) rfl) nI))))) (kN (mB jU (lC T.z_len (nY (pq 0))) (pq 1) (mD _))))))
   (nM (nV lF))
   mE)
   (nJ (lJ yD rfl (mT (nR eN (lK hZ rfl T.z_list (nofun) (nH (nY (pq 0)) nI)) (mQ (nH (nY (pq 0)) nI)))) (mP (i:=2) sc_e.nd rfl (Or.inl rfl))
   (nJ (mF (PW.pt (lU (kO (lP (mS kU rfl T.z_isinstance (nofun) (nH (pq 2) (nH (jD (v:=.ty "tuple") rfl T.z_tuple (nofun) rfl) nI))))) (kN (mB jU (lC T.z_len (pq 2)) (pq 1) (mD _)))))
   (nM (nV lF))
   mE)
   (nM (mF (mB iW (lC T.z_len (hX (xs:=["_law_number"]) (fr:=[]) (g:=(nX 0)) (tt:=(hJ (tNot (tB (kJ (sp_h) [] E0 (mH (tVar 0) tNil)))) (tVar 0))) (jW (sc:=nP As) (N:=N_e) rfl rfl (nofun)) rfl (mT (pq 2)) (λ_ _ _ a2=>(iH (N:=["_law_number"]) (i:=0) a2 rfl (nofun))) (λ_ _ _ a2=>(Gc (kO (lP (nS a0 hr.mo T.F_h (nH (pv 0) nI)))) (pv 0))))) nK (mD _))
   (nM (nV lF))
   mE))))
   (nM (nV (dW (Ph b3) (nS c6 hr.mo T.F_m (nH (nY (pq 0)) (nH (nY (pq 0)) (nH (nY (pq 0)) nI)))) (pq 0) (mD _))))))),?_⟩
  show tSeq _ _ _ [some (.ref p),some (.int d),none] H;obtain⟨G,b,j,v,o⟩:=id a5;have isT:∀{a:Addr}{xs:List V}{c:VK}{H:Hp},SqT K H a xs->c (.bl true) H->rIsi K [.ref a,.ty "tuple"] H c:=λj v=>⟨_,_,_,_,rfl,.tupS j,rfl,T.k_tt,v⟩;right;refine isT j ?_
  try ext
  have D:∀{H':Hp}{c:VK},Same H H'->c (.ref G) H'->rIxB K (.ref p) (.int 0) H' c:=λs q=>⟨true,p,_,_,_,rfl,rfl,lY s _ _ j,rfl,q⟩;have I:∀{H':Hp}{c:VK},Same H H'->c (.ref b) H'->rIxB K (.ref p) (.int 1) H' c:=λs q=>⟨true,p,_,_,_,rfl,rfl,lY s _ _ j,rfl,q⟩;have J:∀{H':Hp}{c:VK},Same H H'->c (.int u) H'->rIxB K (.ref p) (.int 2) H' c:=λs q=>⟨true,p,_,_,_,rfl,rfl,lY s _ _ j,rfl,q⟩;have b9:0<u:=pr.pos;obtain⟨g,N,O⟩:=id v;refine⟨true,p,_,rfl,j,_,_,rfl,rfl,_,rfl,iteF (J (Same.refl _) ⟨u,rfl,_,rfl,iteF (J (Same.refl _) ?_)⟩)⟩
  try ext
  rw[zJ ⋯]
  try refine iteF ?_
  left;refine D (Same.refl _) (isT N ?_)
  try ext
  refine I (Same.refl _) (isT o ⟨_,rfl,iteF (D (Same.refl _) ⟨true,G,_,rfl,N,?_⟩)⟩)
  try ext
  have S:g.length=d:=by
   have:=pr.sq.1;have l2:=O.1;omega
  rw[zqe,S,zM rfl];refine iteF ?_;have b4:∀(i:Nat) y,(g.map V.ref++[V.ref b])[i]?=some y->∃r ns,y=.ref r/\SqT K H r ((ns:LI').map V.int)/\ns.length=d:=λi y e=>by
   rw[List.getElem?_append]at e;split at e
   ·obtain⟨r,a3,rfl⟩:=jL e;obtain⟨n,X⟩:∃n,M[i]?=some n:=⟨_,zqd (by have:=(zqa a3).1;rw[←O.1];exact this)⟩;exact⟨r,n,rfl,O.2 i r n a3 X,pr.sq.2 n (zqb X)⟩
   ·rw[List.getElem?_singleton]at e;split at e
    ·cases e;exact⟨b,ts,rfl,o,pr.len⟩
    ·cases e
  subst e1;refine st λN1 e1=>lN λB eB=>?_;simp only[iSeq];ext;refine D (Same.refl _) ⟨true,G,_,rfl,N,λl1 c9=>?_⟩;have a1:=Same.new (o:=.lst (g.map V.ref)) c9;have a8:(upd H l1 (.lst (g.map V.ref))) l1=some (.lst (g.map V.ref)):=nN;generalize upd H l1 (.lst (g.map V.ref))=W at*
  refine I a1 ⟨by show 1<=sizeLine;decide,λl2 b8=>?_⟩;have Z:=Same.new (o:=.lst [V.ref b]) b8;have c0:(upd W l2 (.lst [V.ref b])) l2=some (.lst [V.ref b]):=nN;generalize upd W l2 (.lst [V.ref b])=a6 at*
  have hsz:1000<=sizeLine:=∅
  refine⟨l1,l2,_,_,rfl,rfl,Z _ _ a8,c0,by rw[zqe,S];simp only[List.length_cons,List.length_nil];omega,λz b7=>?_⟩;have a9:=Same.new (o:=.lst (g.map V.ref++[V.ref b])) b7;have a7:(upd a6 z (.lst (g.map V.ref++[V.ref b]))) z=some (.lst (g.map V.ref++[V.ref b])):=nN;generalize upd a6 z (.lst (g.map V.ref++[V.ref b]))=b5 at*
  have a4:=(a1.trans Z).trans a9;refine⟨false,z,rfl,⟨_,SqB.lst a7⟩,?_⟩;refine jP (g:=nX 2) (tb:=B) (λi R l=>∃v2:Option V,R=[some (.ref p),some (.int d),v2]/\Same b5 l) ⟨none,rfl,Same.refl _⟩ (λ_ _ _ _⟨_,_,m⟩=>SqB.lst (m _ _ a7)) ?_ ?_
  ·rintro i y R l c1 ⟨v2,rfl,m⟩;obtain⟨r,ns,rfl,c4,c5⟩:=b4 i y c1;have x:=lY (a4.trans m) _ _ c4;subst eB;show tSeq _ _ _ [some (.ref p),some (.int d),some (.ref r)] l;refine st λd1 c7=>?_;ext;refine isT x ⟨_,rfl,iteF ⟨true,r,_,rfl,x,?_⟩⟩
   try ext
   rw[zqe,c5,zM rfl];refine iteF ?_;subst c7;ext;refine Hq λC d0 b6 b1=>?_;simp only[iSeq];ext;refine⟨true,⟨_,(x:SqB true K l r _)⟩,λb0 b2=>?_⟩;subst b6;subst b1;refine Zs b2 (x:SqB true K l r _) ⋯ λY F L=>?_;refine⟨false,b0,_,rfl,SqB.lst L,?_⟩
   try ext
   exact iteF (m.trans F)
  ·rintro R l ⟨v2,rfl,m⟩;have k:=a4.trans m;symm;have c3:jK u:=by
    have j:((2^1000:Nat):Int)=2^1000:=nofun
    have v:u<2^1000:=pr.bu;have o:u.natAbs<2^1000:=⋯
    exact zP o (yS ∅ ∅)
   refine D k (I k (J k ?_));refine⟨true,true,true,G,b,M,ts,u,rfl,MatB.up v k,lY k _ _ o,by have:M.length=d:=pr.sq.1;omega,by have:ts.length=d:=pr.len;omega,b9,c3,λr Y F U=>?_⟩;have L:canD M ts u=(M,ts,u):=c8;rw[L]at U;exact Qi 4 ∅ (DdAt.dt U) (dS (a5.up (k.trans F))) (gF 4 _ (kH _)) (gF 4 _ (kH _)) (b:=true) (by simp) (c2 Y (k.trans F))
def sp_u(K:Frag):Sp:=λvs H Q _=>E5 λ(l:Addr)(os:LA)(xs:List Dd)(d most:Nat)=>A9 (vs=[.ref l,.int d,.int most]) (H l=some (.lst (os.map V.ref))) (Paired (DdS K H) os xs) ((d=2\/d=3)) ((∀x∈xs,kI d x/\Pr d x/\canD x.1 x.2.1 x.2.2=x)) (xs.length<=most) (most<=200) ((xs.Pairwise λp q=>lx (fl (dat p)) (fl (dat q))=true)) (∀H',Same H H'->Q (.bl true) H')
theorem ok_u(T:Txt K mg t):FnOk P w K mg base CX0 4 t.a_u t.d_u pj' (sp_u K):=by
 have O:=@ok_e P w K mg base t T;apply T.F_u.ok sc_u
 ·have G:=hr.units;obtain⟨l,r,xs,d,most,rfl,hl,j,N,v,X,Y,F,M⟩:=h;refine⟨_,(nJ (mF (PW.pt (lU (kO (lP (mS kU rfl T.z_isinstance (nofun) (nH (pq 0) (nH (jD (v:=.ty "list") rfl T.z_list (nofun) rfl) nI))))) (kN (mB iW (lC T.z_len (pq 0)) (pq 2) (mD _)))))
   (nM (nV lF))
   mE)
   (nJ (lJ yD rfl (lG rfl T.z_range (nH (lC T.z_len (pq 0)) nI)) (mP (i:=3) sc_u.nd rfl (Or.inl rfl))
   (nM (mF (PW.pt (lU (kO (lP (nS O hr.mo T.F_e (nH (mG ix_B (pq 0) (pq 3) (λ_ _=>rfl)) (nH (pq 1) nI))))) (kN (PW.pt (Ft (mB iW (pq 3) nK (mD _)) (Fu (mB (Uy G) (mG ix_B (pq 0) (nR iK (pq 3) nK) (λ_ _=>rfl)) (mG ix_B (pq 0) (pq 3) (λ_ _=>rfl)) (mD _))))))))
   (nM (nV lF))
   mE)))
   (nM (nV lF)))),?_⟩
  show tSeq _ _ _ [some (.ref l),some (.int d),some (.int most),none] H;have lo:=mU j;right;refine⟨_,_,_,_,rfl,.ty (.lst hl),rfl,T.h_q,?_⟩
  try ext
  refine⟨false,l,_,rfl,SqB.lst hl,?_⟩
  try ext
  rw[zqe,lo,zJ (show¬ (xs.length:Int) > (most:Int) by omega)];refine iteF ?_;subst e1;refine st λN1 e1=>lN λB eB=>?_;simp only[mY];ext;refine⟨false,l,_,rfl,SqB.lst hl,?_⟩
  try ext
  rw[zqe,lo];refine⟨⋯,⋯,?_⟩;rw[zS];refine gD (g:=nX 3) (tb:=B) (λi p c=>∃v3,p=[some (.ref l),some (.int d),some (.int most),v3]/\Same H c) ⟨none,rfl,Same.refl _⟩ ?_ ?_
  ·rintro k p c J ⟨v3,rfl,b⟩;obtain⟨x,o⟩:∃x,xs[k]?=some x:=⟨_,zqd J⟩;obtain⟨q,g⟩:∃q,r[k]?=some q:=⟨_,zqd ⋯⟩;obtain⟨L,e,u⟩:=kB j g;rw[o]at e;cases e;obtain⟨f,pr,R⟩:=v x (zqb o);subst eB;show tIfS _ _ _ _ [some (.ref l),some (.int d),some (.int most),some (.int (0+(k:Int)))] c;ext;refine jC (i:=k) (b _ _ hl) (by rw[zH,g];rfl) ⋯ ?_;refine⟨q,x,d,rfl,u.up b,f,pr,R,N,λS I=>?_⟩;have a:=b.trans I;refine⟨_,rfl,iteF ?_⟩;cases k with
   |zero=>exact a
   | succ k =>
    rw[zF (zM ⋯)];obtain⟨m,n⟩:∃x,xs[k]?=some x:=⟨_,zqd ⋯⟩;obtain⟨W,y⟩:∃q,r[k]?=some q:=⟨_,zqd ⋯⟩;obtain⟨L,e,D⟩:=kB j y;rw[n]at e;cases e;obtain⟨C,U,V⟩:=v m (zqb n);refine jC (i:=k) (a _ _ hl) (by rw[zH,y];rfl) ⋯ ?_;refine jC (i:=k+1) (a _ _ hl) (by rw[zH,g];rfl) ⋯ ?_;have lt:lx (fl (dat m)) (fl (dat x))=true:=by
     obtain⟨k1,k2⟩:=zqa n;obtain⟨k3,z⟩:=zqa o;have:=oU.mp F k (k+1) k1 k3 (uG k)
     rwa[k2,z]at this
    refine⟨dat m,dat x,kH _,kH _,En C f,dS (D.up a),dS (u.up a),?_⟩;rw[lt];exact⟨false,rfl,iteF a⟩
  ·rintro p c ⟨v3,rfl,b⟩;symm;exact M c b
theorem Zr{d:Nat}{x:Dd}{w:List Nat}{tb:Tb}{ks:Dd×Nat}{y:Dd×List Nat}(h:y∈tb):y∈nxt d x w tb ks:=by
 unfold nxt;split
 ·exact h
 ·exact xI _ h
theorem Mr{d:Nat}{ss:List Dd}{x:Dd}{w:List Nat}:∀(l:List (Dd×Nat))(tb:Tb),(∀k∈l,ss[k.2]?=some k.1)->(x,w)∈tb->ND d ss tb->ND d ss (l.foldl (nxt d x w) tb)
 |[],_,_,_,h=>h
 |k:: l,tb,hl,a,h=>Mr l _ (λk' b=>hl k' (zU _ b)) (Zr a) (Es h a (hl k yE))
theorem Mq{d:Nat}{ss:List Dd}:∀(n i:Nat)(tb:Tb),ND d ss tb->ND d ss (mL d ss n i tb)
 |0,_,_,h=>h
 | n+1,i,tb,h=>by
  unfold mL;split
  ·refine Mq n (i+1) _ ?_;unfold jB;cases e:tb[i]? with
   |none=>exact h
   |some b=>exact Mr _ _ (λk a=>(Xj a).2) (zqb e) h
  ·exact h
theorem Zq{d:Nat}{ss:List Dd}{N:Nat}:ND d ss (tab d ss N):=Mq N 0 _ ⟨by simp,λy a=>by rw[List.mem_singleton.mp a];exact Nat.zero_lt_one,λy a=>by rw[oN.mp a];exact⟨rfl,λk b=>by cases b⟩⟩
def lenT(tb:Tb):List (PyData×V):=tb.map λy=>(dat y.1,V.int (y.2.length:Nat))
theorem Mp{x:Dd}{w:List Nat}:∀{tb:Tb},(tb.map (·.1)).Nodup->(x,w)∈tb->vT (lenT tb) (dat x)=some (.int (w.length:Nat))
 |[],_,h=>by cases h
 |y:: tb,nd,h=>by
  show vT ((dat y.1,V.int (y.2.length:Nat)):: lenT tb) (dat x)=_;rcases xL.mp h with rfl|h
  ·rw[jI rfl]
  ·have a:=rN.mp nd;have b:y.1≠x:=λe=>a.1 (by show y.1∈_;rw[e];exact oZ.mpr ⟨(x,w),h,rfl⟩);rw[jJ (λq=>b (fU.mp q)),Mp a.2 h]
theorem Mo{x:Dd}:∀{tb:Tb},x∉tb.map (·.1)->vT (lenT tb) (dat x)=none
 |[],_=>rfl
 |y:: tb,h=>by
  show vT ((dat y.1,V.int (y.2.length:Nat)):: lenT tb) (dat x)=_;rw[jJ (λq=>h (by rw[←fU.mp q];exact .head _)),Mo (λq=>h (.tail _ q))]
theorem Zp{y:Dd×List Nat}{tb:Tb}(h:y.1∉tb.map (·.1)):pT (lenT tb) (dat y.1) (.int (y.2.length:Nat))=lenT (tb++[y]):=by
 unfold pT;rw[Mo h];unfold lenT;rw[yX];rfl
def sp_n(K:Frag):Sp:=λvs H Q _=>E9 λ(l a lm:Addr)(os qs:LA)(srt:Tb)(ms:List Dd)(d most:Nat)=>A12 (vs=[.ref l,.ref a,.ref lm,.int d,.int most]) (H l=some (.lst (os.map V.ref))) (Paired (DdS K H) os (srt.map (·.1))) (iB H a (srt.map (·.2))) (H lm=some (.lst (qs.map V.ref))) (Paired (DdS K H) qs ms) (kS d ms) (Told d (ms.map nQ) srt) ((∀y∈srt.map (·.1),kI d y/\Pr d y/\nQ y=y)) (srt.length<=most) (most<=200) (∀H',Same H H'->Q (.bl true) H')
theorem ok_n(T:Txt K mg t):FnOk P w K mg base CX0 7 t.a_n t.d_n pa' (sp_n K):=by
 have h6:=@ok_u P w K mg base t T;have h5:=@ok_7 P w K mg base t T;have j4:=@ok_2 P w K mg base t T;have g6:=@ok_c P w K mg base t T;have j9:=@ok_6 P w K mg base t T;apply T.F_n.ok sc_n
 ·have a0:=hr.units;obtain⟨l,a,v,b4,f4,srt,ms,d,most,rfl,hl,a8,c8,c3,c5,D,o,pr,h8,e5,i4⟩:=h;refine⟨_,(nJ (mF (PW.pt (lU (kO (lP (nS h6 hr.mo T.F_u (nH (pq 0) (nH (pq 3) (nH (pq 4) nI)))))) (kN (kO (lP (nS h5 hr.mo T.F_7 (nH (pq 1) (nH (pq 2) (nH (lC T.z_len (pq 0)) (nH (pq 4) nI))))))))))
   (nM (nV lF))
   mE)
   (nJ (mF (mB (Bd a0) (nS j4 hr.mo T.F_2 (nH (pq 1) (nH (pq 2) (nH (pq 3) nI)))) (pq 0) (mD _))
   (nM (nV lF))
   mE)
   (nJ (nU (i:=5) sc_n.nd rfl (Or.inl rfl) Hi)
   (nJ (lJ yD rfl (lG rfl T.z_range (nH (lC T.z_len (pq 0)) nI)) (mP (i:=6) sc_n.nd rfl (Or.inl rfl))
   (nM (jS (lC T.z_len (mG ix_B (pq 1) (pq 6) (λ_ _=>rfl))) (iE (pq 5) (mG ix_B (pq 0) (pq 6) (λ_ _=>rfl)) (cM a0)))))
   (nJ (mF (mB jU (Rf (T:= "") PySem.F.plainAttrs_dict PySem.F.slot_dict_get PySem.F.type_dict_get (Rc a0) (pq 5) (nH (nS g6 hr.mo T.F_c (nH (mQ nI) (nH (pq 2) (nH (pq 3) nI)))) nI)) nK (mD _))
   (nM (nV lF))
   mE)
   (nJ (lJ yD rfl (mT (pq 0)) (mP (i:=7) sc_n.nd rfl (Or.inl rfl))
   (nM (lJ yD rfl (mT (pq 2)) (mP (i:=8) sc_n.nd rfl (Or.inl rfl))
   (nJ (nU (i:=9) sc_n.nd rfl (Or.inl rfl) (nS j9 hr.mo T.F_6 (nH (pq 7) (nH (pq 8) nI))))
   (nM (mF (PW.pt (lU (mB (aI a0) (pq 9) (pq 5) rfl) (kN (mB iW (mG (ix_T a0) (pq 5) (pq 9) (λ_ _=>rfl)) (nR lH (mG (ix_T a0) (pq 5) (pq 7) (λ_ _=>rfl)) nK) (mD _)))))
   (nM (nV lF))
   mE))))))
   (nM (nV lF)))))))),?_⟩
  show tSeq _ _ _ [some (.ref l),some (.ref a),some (.ref v),some (.int d),some (.int most),none,none,none,none,none] H;have lo:b4.length=srt.length:=by have:=mU a8;rwa[zqe]at this
  have lq:=mU c5;have nd:(srt.map (·.1)).Nodup:=o.nd;have c1:∀y∈srt,WdOk d (ms.map nQ) y/\y.2.length<srt.length:=λy G=>by
   have N:=o.p.mem_iff.mp G;have b0:ND d (ms.map nQ) (tab d (ms.map nQ) 201):=Zq;exact⟨b0.2.2 y N,by rw[o.p.length_eq];exact b0.2.1 y N⟩
  have b1:∀w∈srt.map (·.2),w.length<=most/\∀n∈w,n<ms.length:=λw Z=>by
   obtain⟨y,G,rfl⟩:=oZ.mp Z;obtain⟨N,b0⟩:=c1 y G;refine⟨⋯,λn a5=>?_⟩;have:=N.2 n a5
   rwa[zqe]at this
  have h2:∀x∈srt.map (·.1),kI d x/\Pr d x/\canD x.1 x.2.1 x.2.2=x:=λx Y=>by
   obtain⟨y,G,rfl⟩:=oZ.mp Y;obtain⟨N,b0⟩:=c1 y G;obtain⟨j1,i8,_⟩:=pr y.1 Y;exact⟨j1,i8,D.can (by have:=o.len;omega) (λn a5=>by have:=N.2 n a5;rwa[zqe]at this) N.1⟩
  have f5:(srt.map (·.2)).map (mX d (ms.map nQ))=srt.map (·.1):=by
   rw[yW];exact xS λy G=>(c1 y G).1.1.symm
  have d6:(srt.map (·.1)).Pairwise λp q=>lx (fl (dat p)) (fl (dat q))=true:=Yg (f:=dat) nd (λx _ y _ e=>fU.mp e) (λx Y y G=>En (pr x Y).1 (pr y G).1) (List.pairwise_map.mpr o.o);right;refine⟨l,b4,srt.map (·.1),d,most,rfl,hl,a8,D.1,h2,by rw[zqe];exact h8,e5,d6,λk6 C=>⟨_,rfl,iteF ?_⟩⟩;refine⟨false,l,_,rfl,SqB.lst (C _ _ hl),?_⟩
  try ext
  refine⟨a,v,srt.map (·.2),_,b4.length,most,by rw[zqe],c8.up C,C _ _ c3,by rw[zqe,lo],λw Z=>⟨(b1 w Z).1,λn a5=>by rw[zqe,lq];exact(b1 w Z).2 n a5⟩,_,rfl,iteF ?_⟩;have d5:=C _ _ hl;have b8:=c8.up C;have d1:=C _ _ c3;have d9:=Paired.mapP a8 λ_ _ z=>DdS.up z C;have c4:=Paired.mapP c5 λ_ _ z=>DdS.up z C;left;refine⟨a,v,srt.map (·.2),f4,ms,d,rfl,b8,d1,c4,D,by rw[zqe];omega,λw Z=>⟨yC (b1 w Z).1 e5,(b1 w Z).2⟩,λr ps a2 I i5 f9 d0=>?_⟩;rw[f5]at d0;have b7:=Paired.mapP d9 λ_ _ z=>DdS.up z I;refine Ab f9 (Paired.mapP d0 λ_ _ z=>DdAt.s z) (I _ _ d5) b7 rfl ⟨_,rfl,iteF ?_⟩;have f0:=C.trans I;have a7:=I _ _ d5;have h0:=b8.up I;have e2:=I _ _ d1;have d7:=Paired.mapP c4 λ_ _ z=>DdS.up z I;clear d9 c4 d5 b8 d1 d0 f9 i5 C I f5 d6;subst e1;refine st λN1 e1=>?_;simp only[Cq];ext;intro f d2 a9;have U:Same a2 (upd a2 f (lD f [])):=Same.new d2;generalize upd a2 f (lD f [])=h9 at*
  have c6:∀{b o},a2 b=some o->b≠f:=λ{b o}e w=>by rw[w,d2]at e;cases e
  obtain⟨f6,f2,d3⟩:=h0;have k4:f6.length=srt.length:=by have:=mU d3;rwa[zqe]at this
  subst e1;refine st λN1 e1=>lN λB eB=>?_;simp only[mY];ext;refine⟨false,l,_,rfl,SqB.lst (U _ _ a7),?_⟩
  try ext
  rw[zqe,lo];refine⟨⋯,⋯,?_⟩;rw[zS];refine gD (g:=nX 6) (tb:=B) (λi u g=>∃R,u=[some (.ref l),some (.ref a),some (.ref v),some (.int d),some (.int most),some (.ref f),R,none,none,none]/\KX f h9 g/\DTr K g f (lenT (srt.take i))) ⟨none,rfl,λ_ _ _ e=>e,a9⟩ ?_ ?_
  ·rintro k u g g9 ⟨R,rfl,S,a1⟩;obtain⟨y,W⟩:∃y,srt[k]?=some y:=⟨_,zqd g9⟩;obtain⟨q,b2⟩:∃q,b4[k]?=some q:=⟨_,zqd ⋯⟩;obtain⟨i1,b3⟩:∃q,f6[k]?=some q:=⟨_,zqd ⋯⟩;obtain⟨k7,d8,g3⟩:=kB b7 b2;obtain⟨w',e0,i2⟩:=kB d3 b3;rw[zH,W]at d8 e0;cases d8;cases e0;have L:∀{b o},a2 b=some o->g b=some o:=λe=>S _ _ (c6 e) (U _ _ e);have j3:=DdS.tk (g3.up U) (Aa a9 S);have hsz:1000<=sizeLine:=∅
   have nx:y.1∉(srt.take k).map (·.1):=λh=>by
    rw[List.map_take]at h;obtain⟨j,b5⟩:=xW h;have k0:j<k:=by have:=(zqa b5).1;simp at this;omega
    rw[wC k0]at b5;have:=(sQ (zqa b5).1 nd).mp (b5.trans (show some y.1=(srt.map (·.1))[k]? by rw[zH,W];rfl));omega
   have k3:(lenT (srt.take k)).length<=k:=by unfold lenT;rw[zqe,yG];omega
   subst eB;show tAsg _ _ _ [some (.ref l),some (.ref a),some (.ref v),some (.int d),some (.int most),some (.ref f),some (.int (0+(k:Int))),none,none,none] g;simp only[tAsg,gSub];ext;refine jC (i:=k) (L f2) (by rw[zH,b3];rfl) ⋯ ?_;refine⟨false,i1,_,rfl,SqB.lst (L i2),?_⟩
   try ext
   refine jC (i:=k) (L a7) (by rw[zH,b2];rfl) ⋯ ?_;rw[zqe];refine⟨f,_,q,dat y.1,rfl,rfl,a1,kH _,dS j3,⋯,λj2 i9 _ f3=>?_⟩;rw[Zp nx]at f3;refine⟨λc o f7 e=>i9 c o f7 (S c o f7 e),?_⟩;rw[yY,W];exact f3
  ·rintro u g ⟨R,rfl,S,a1⟩;rw[rG]at a1;have L:∀{b o},a2 b=some o->g b=some o:=λe=>S _ _ (c6 e) (U _ _ e);have tk:=Aa (K:=K) a9 S;have j7:=Paired.mapP b7 λ_ _ z=>DdS.tk (DdS.up z U) tk;have f1:=Paired.mapP d7 λ_ _ z=>DdS.tk (DdS.up z U) tk;have h1:=L a7;have e9:=L e2;have j6:Same H g:=λb o e=>L (f0 _ _ e);clear eB B tk S U d2 a9 c6 d3 f2 d7 b7 L a7 e2 f0 hl c3 c8 a8 c5;have val:∀{x w},(x,w)∈srt->vT (lenT srt) (dat x)=some (.int (w.length:Nat)):=λh=>Mp nd h;left;simp only[tBMR];ext;refine⟨⟨_,a1⟩,?_⟩;refine⟨zY _,λa4 g7=>?_⟩;have c2:Same g (upd g a4 (.lst [])):=Same.new g7;have b3:(upd g a4 (.lst [])) a4=some (.lst (wV [])):=nN;generalize upd g a4 (.lst [])=j2 at*
   refine⟨false,a4,v,[],f4,ms,d,rfl,SqB.lst b3,c2 _ _ e9,Paired.mapP f1 λ_ _ z=>DdS.up z c2,D,zY _,λ_ h=>(by cases h),λj5 e3 h3 g1=>?_⟩;have O:=c2.trans h3;have es:vT (lenT srt) (dat (mX d (ms.map nQ) []))=some (.int 0):=val (w:=[]) (o.p.mem_iff.mpr Xf);refine⟨f,_,j5,dat (mX d (ms.map nQ) []),rfl,rfl,a1.up O,kH _,DdAt.dt g1,?_⟩;rw[es];refine⟨0,0,rfl,rfl,false,rfl,iteF ?_⟩;have e7:=O _ _ h1;have e6:=O _ _ e9;have i0:=Paired.mapP j7 λ_ _ z=>DdS.up z O;have g2:=Paired.mapP f1 λ_ _ z=>DdS.up z O;have h7:=a1.up O;have i7:=j6.trans O;subst e1;refine st λN1 e1=>lN λB eB=>?_;simp only[iSeq];ext;refine⟨false,⟨_,SqB.lst e7⟩,?_⟩;refine jP (g:=nX 7) (tb:=B) (λi u a6=>∃c7 J F,u=[some (.ref l),some (.ref a),some (.ref v),some (.int d),some (.int most),some (.ref f),R,c7,J,F]/\Same e3 a6) ⟨_,_,_,rfl,Same.refl _⟩ (λ_ _ _ _⟨_,_,_,_,a3⟩=>SqB.lst (a3 _ _ e7)) ?_ ?_
   ·rintro i y u a6 W ⟨c7,J,F,rfl,a3⟩;obtain⟨q,b2,rfl⟩:=jL W;obtain⟨x,g8,Y⟩:=kB i0 b2;obtain⟨z,g4,rfl⟩:=jL g8;have c9:=zqb g4;obtain⟨_,M,g5⟩:=pr z.1 (oZ.mpr ⟨z,c9,rfl⟩);subst eB;show tFor _ _ _ _ [some (.ref l),some (.ref a),some (.ref v),some (.int d),some (.int most),some (.ref f),R,some (.ref q),J,F] a6;refine lN λB eB=>?_;simp only[iSeq];ext;refine⟨false,⟨_,SqB.lst (a3 _ _ e6)⟩,?_⟩;refine jP (g:=nX 8) (tb:=B) (λj u b6=>∃J F,u=[some (.ref l),some (.ref a),some (.ref v),some (.int d),some (.int most),some (.ref f),R,some (.ref q),J,F]/\Same e3 b6) ⟨_,_,rfl,a3⟩ (λ_ _ _ _⟨_,_,_,V⟩=>SqB.lst (V _ _ e6)) ?_ ?_
    ·rintro j y u b6 W ⟨J,F,rfl,V⟩;obtain⟨e4,j0,rfl⟩:=jL W;obtain⟨m,g0,i6⟩:=kB g2 j0;have f8:=zqb g0;have X:=D.pr m f8;subst eB;show tSeq _ _ _ [some (.ref l),some (.ref a),some (.ref v),some (.int d),some (.int most),some (.ref f),R,some (.ref q),some (.ref e4),F] b6;refine st λk1 j8=>?_;ext;refine⟨q,e4,_,m,d,rfl,Y.up V,i6.up V,D.1,M.sq,X.sq,M.len,X.len,M.pos,X.pos,M.bm,X.bm,M.bt,X.bt,M.bu,X.bu,λr2 k2 h4 c0=>?_⟩;rw[Ld M.pos X.pos g5]at c0;obtain⟨w',i3,k5⟩:=Zy (yC o.l ∅) z (o.p.mem_iff.mp c9) (nQ m) (oZ.mpr ⟨m,f8,rfl⟩);have e8:=val (o.p.mem_iff.mpr i3);have v2:=val (x:=z.1) (w:=z.2) c9;have b9:=V.trans h4;have d4:=h7.up b9;subst j8;ext;refine cY d4 (kH _) (DdAt.dt c0) ?_;rw[e8];refine⟨_,rfl,iteF ?_⟩;refine fV d4 (kH _) (DdAt.dt c0) e8 (fV d4 (kH _) (dS (Y.up b9)) v2 ?_)
     try ext
     rw[zJ ⋯];exact iteF b9
    ·rintro u b6 ⟨J,F,rfl,V⟩;exact⟨_,_,_,rfl,V⟩
   ·rintro u a6 ⟨c7,J,F,rfl,a3⟩;symm;exact i4 a6 (i7.trans a3)
theorem Zo(T:Txt K mg t):XGt K t.a_d "apart" := ⟨⟨T.h_t,T.h_u,T.h_v,T.h_z,T.e_tk,T.h_w,T.h_x,Mz T.h_w⟩,T.h_o,T.h_d⟩
section
open PySem.Spec PyProof.Rows
variable {X:Cx} {e:Expr} {f:Str} {pos:Pos} {te:TE} {C:Addr}
def tXg(C:Addr)(f:Str)(te:TE):TE:=λσ H Q=>te σ H λy H1=>∃p dx v,y=.ref p/\H1 p=some (iF p (.ref C) (some dx))/\H1 dx=some (XDct dx f v)/\Q v H1
theorem Zn(g:XGt X.K C f)(k:PE X e te)(D:attributeBase e f X.env (eval e X.env)=eval e X.env):PE X (.Attribute e f pos) (tXg C f te):=by
 intro i s F H Q I h;refine Fi D (thn (k i s F H _ I h) ?_);rintro u c ⟨x,b,a,m,p,z,v,y,ep,j,q⟩;subst y;obtain rfl:u=Value.ref p:=m;obtain⟨⟨o,k1,k2,k3,l⟩,_⟩:=(show mI X.prog X.w b c.heap _ (iF _ _ _) from a.hok _ _ ep);obtain⟨⟨J,u,n,G,d⟩,_⟩:=(show mI X.prog X.w b c.heap _ (XDct _ _ _) from a.hok _ _ j);obtain⟨od,r,hl⟩:=Fm n;exact Uf g.F g.na g.hd a.kIn ⟨k1,k2,k3,by rw[l z rfl];exact r⟩ (by rw[hl,G]) (Fj d) ⟨v,b,a.tok _,d,q⟩
end
theorem Mn{H:Hp}{g:Addr}{d:Nat}{ms:List Dd}{srt:Tb}{Q:VK}(h:GrpF K t H g d ms srt)(k:Q (.int d) H):∃a fs,H g=some (.ins t.a_b a fs)/\fs.lookup (Str.ofString "axes")=none/\sp_a K t [.ref g] H Q E0:=by
 obtain⟨a,f,lo,c,e,b,_⟩:=id h.ex;exact⟨a,_,b,rfl,g,d,ms,srt,rfl,h,k⟩
theorem Zm{H:Hp}{g:Addr}{d:Nat}{ms:List Dd}{srt:Tb}{Q:VK}(h:GrpF K t H g d ms srt)(l2:srt.length<=200)(k:∀l b H',Same H H'->H l=none->H' l=some (.lst (b.map V.ref))->Paired (λp(x:Dd×List Nat)=>H' p=some (.lst (x.2.map λn=>V.int (n:Nat)))) b srt->Q (.ref l) H'):∃a fs,H g=some (.ins t.a_b a fs)/\fs.lookup (Str.ofString "words")=none/\sp_9 K t [.ref g] H Q E0:=by
 obtain⟨a,i,lo,e,f,c,_⟩:=id h.ex;exact⟨a,_,c,rfl,g,d,ms,srt,rfl,h,l2,k⟩
theorem ok_1j(T:Txt K mg t):FnOk P w K mg base CX0 17 t.a_1j t.d_1j pz' (Gf K):=by
 have j9:=@ok_i P w K mg base t T;have j8:=@ok_w P w K mg base t T;have c0:=@ok_1 P w K mg base t T;have k7:=@ok_0 P w K mg base t T;have i6:bQ P w K mg base 2 t.a_z t.d_z ["_law_e"] (sp_z t):=ok_z T;have i4:=@ok_y P w K mg base t T;have j1:=@ok_h P w K mg base t T;have d5:=@ok_a P w K mg base t T;have k6:=@ok_8 P w K mg base t T;have h7:=@ok_5 P w K mg base t T;have h5:=@ok_9 P w K mg base t T;have g0:=@ok_n P w K mg base t T;apply T.F_1j.ok sc_1j
 ·have d6:=hr.units;obtain⟨a,ns,rfl,e2,l0,l6,f1⟩:=h;refine⟨_,(nJ (jS (nS j9 hr.mo T.F_i (nH (pq 0) nI)) (Rt rfl (kP (mP (i:=1) sc_1j.nd rfl (Or.inl rfl)) (kP (mP (i:=2) sc_1j.nd rfl (Or.inl rfl)) gN))))
   (nJ (nU (i:=3) sc_1j.nd rfl (Or.inl rfl) (nS j8 hr.mo T.F_w (nH (pq 0) (nH nK nI))))
   (nJ (nU (i:=4) sc_1j.nd rfl (Or.inl rfl) (nR lH nK (nS c0 hr.mo T.F_1 (nH (pq 3) (nH (mG ix_B (mQ (nH nK (nH nK (nH nK (nH nK nI))))) (nS c0 hr.mo T.F_1 (nH (pq 3) (nH nK nI))) (λ_ _=>rfl)) nI)))))
   (nJ (nU (i:=5) sc_1j.nd rfl (Or.inl rfl) (lK hZ rfl T.z_list (nofun) (nH (pq 2) nI)))
   (nJ (mF (mB kK (nS c0 hr.mo T.F_1 (nH (pq 3) (nH nK nI))) nK (mD _))
   (nM (nU (i:=5) sc_1j.nd rfl (Or.inl rfl) (lK jX rfl T.z_tuple (nofun) (nH (pq 2) nI))))
   mE)
   (nJ (nU (i:=6) sc_1j.nd rfl (Or.inl rfl) Bx)
   (nJ (nU (i:=7) sc_1j.nd rfl (Or.inl rfl) Bx)
   (nJ (nU (i:=8) sc_1j.nd rfl (Or.inl rfl) lF)
   (nJ (Pi (i:=9) rfl rfl rfl sc_1j.nd rfl rfl rfl T.m_d (λ_ _ _ Z =>
   (nM (nU (i:=6) sc_1j.nd rfl (Or.inl rfl) (Uk (C:=t.a_b) (T.mk_b) k7 hr.mo rfl T.m_b T.b_0 .nil Z (nH (pq 1) (nH (pq 5) (nH (pq 4) nI))))))) (λ_ =>
   (nJ (nU (i:=7) sc_1j.nd rfl (Or.inl rfl) (Zn (Zo T) (pv 9) rfl))
   (nM (nU (i:=8) sc_1j.nd rfl (Or.inl rfl) (Pe i6 ((hr.a.mark _).mono ⋯) rfl T.F_z.m T.F_z.kp T.F_z.b .nil (nH (pq 9) nI)))))))
   (nJ (mF (mB (Bd d6) (lK hZ rfl T.z_list (nofun) (nH (pq 5) nI)) (pq 2) (mD _))
   (nM (nV lF))
   mE)
   (nJ (mF (mB Nj (pq 6) Bx (mD _))
   (nM (nV (Bv (pq 8) (Bw (nS i4 hr.mo T.F_y (nH (pq 7) (nH (pq 2) (nH (pq 1) (nH (pq 4) nI)))))))))
   mE)
   (nJ (mF (PW.pt (lU (kO (lP (nS j1 hr.mo T.F_h (nH (cC (C:=t.a_b) (pq 6) T.cl_b T.me_a d5 hr.mo T.b_a .nil fJ) nI)))) (lU (mB jU (cC (C:=t.a_b) (pq 6) T.cl_b T.me_a d5 hr.mo T.b_a .nil fJ) (pq 1) (mD _)) (kN (mB (Bd d6) (cC (C:=t.a_b) (pq 6) T.cl_b T.me_8 k6 hr.mo T.b_8 .nil fJ) (pq 2) (mD _))))))
   (nM (nV lF))
   mE)
   (nM (nV (nS g0 hr.mo T.F_n (nH (cC (C:=t.a_b) (pq 6) T.cl_b T.me_5 h7 hr.mo T.b_5 .nil fJ) (nH (cC (C:=t.a_b) (pq 6) T.cl_b T.me_9 h5 hr.mo T.b_9 .nil fJ) (nH (pq 2) (nH (pq 1) (nH (pq 4) nI)))))))))))))))))))),?_⟩
  show tSeq _ _ _ [some (.ref a),none,none,none,none,none,none,none,none,none] H;right;refine⟨a,ns,rfl,e2,λr l c ms d L l8 X k2 f8 a5 j e4 Z e8 d0 d3 e3 f2=>?_⟩;obtain⟨F,d9,d8,c9⟩:=Yw e4 Z e8 d0 d3 e3 f2;have D:kS d ms:=⟨e4,e3,F,d9,d8,c9⟩;clear f2 Z e8 d0 d3 c9 d8 d9 F;refine⟨false,r,_,rfl,SqB.lst f8,rfl,_,_,rfl,_,_,rfl,rfl,?_⟩;have c5:=Paired.mapP j λ_ _ z=>DdAt.s z;clear j f8;left;refine⟨a,ns,1,rfl,Ac e2 k2,∅,λf f7 e0 b9 b8=>?_⟩;have e5:BxOk 100 (bxF ns 1):=fW (k:=1);generalize bxF ns 1=b1 at*
  left;refine⟨by show 4<=sizeLine;decide,λp j=>?_⟩;have a7:=Same.new (o:=.lst [V.int 12,V.int 60,V.int 60,V.int 200]) j;have ep:(upd f7 p (.lst [V.int 12,V.int 60,V.int 60,V.int 200])) p=some (.lst [V.int 12,V.int 60,V.int 60,V.int 200]):=nN;have i5:p≠f:=λz=>by rw[z,b8]at j;cases j
  generalize upd f7 p (.lst [V.int 12,V.int 60,V.int 60,V.int 200])=j0 at*;refine⟨f,4,b1,100,rfl,a7 _ _ b8,e5,∅,∅,∅,λi7 b4 f0=>?_⟩;obtain⟨i0,a0⟩:=mM (many:=4) e5 ∅;generalize tkB b1 4=a1 at*
  generalize tkV b1 4=f3 at*;obtain⟨k,j7,i2⟩:∃k:Nat,f3=(k:Int)/\k<4:=⟨f3.toNat,⋯,⋯⟩;obtain⟨g,f6,d2⟩:∃g:Int,[V.int 12,V.int 60,V.int 60,V.int 200][k]?=some (.int g)/\1<=g/\g<=200:=by
   match k,i2 with
   |0,_=>exact⟨_,rfl,∅,∅⟩
   |1,_=>exact⟨_,rfl,∅,∅⟩
   |2,_=>exact⟨_,rfl,∅,∅⟩
   |3,_=>exact⟨_,rfl,∅,∅⟩
  have e9:i7 p=some (.lst [V.int 12,V.int 60,V.int 60,V.int 200]):=by rw[b4 p i5];exact ep
  refine⟨false,p,_,_,_,rfl,rfl,SqB.lst e9,jH f6 j7,?_⟩;refine⟨f,g,a1,101,rfl,f0,a0,∅,d2.1,⋯,λY d1 a9=>?_⟩;obtain⟨g9,b7⟩:=mM (many:=g) a0 d2.1;generalize tkB a1 g=c8 at*
  generalize tkV a1 g=d7 at*;have k5:KX f j0 Y:=λb x S e=>by rw[d1 b S,b4 b S];exact e
  have W:Same X Y:=fX (e0.trans a7) b9 k5
  try ext
  obtain⟨most,g1,g8,a6⟩:∃m:Nat,1+d7=(m:Int)/\1<=m/\m<=200:=⟨(1+d7).toNat,⋯,⋯,⋯⟩;rw[g1];have f4:=W _ _ a5;have g4:=Paired.mapP c5 λ_ _ z=>DdS.up z W;have l7:X f=none:=b9;left;refine⟨false,l,_,rfl,SqB.lst f4,λI O=>?_⟩;have b2:=Same.new (o:=.lst (c.map V.ref)) O;have e7:(upd Y I (.lst (c.map V.ref))) I=some (.lst (c.map V.ref)):=nN;have e6:I≠f:=λz=>by rw[z,a9]at O;cases O
  generalize upd Y I (.lst (c.map V.ref))=i3 at*;subst e1;refine st λN1 e1=>?_;have f5:∀b u i,Same X i->SqB b K i u (c.map V.ref)->N1 [some (.ref a),some (.int d),some (.ref l),some (.ref f),some (.int most),some (.ref u),none,none,none,none] i:=by
   intro b u i C b5;have N:=C _ _ a5;have J:=Paired.mapP c5 λ_ _ z=>DdS.up z C;clear b2 e7 O e6 g4 f4 W k5 d1 a9 b7 g9 f0 b4 e9 f6 i0 a0 b8 j ep e0 a7;left;left;left;subst e1;refine st λN1 e1=>?_;simp only[tTry,Ih,tXg];ext;intro x l4 nx h0 ne;obtain⟨h9,h3⟩:=Yb (C:=t.a_b) nx h0 ne;refine Ya (most:=most) D h3 h9 b5 J g8 a6 nx (λ_ v G R g5=>?_) λhl srt G R i8 o pr=>⟨rfl,?_⟩
   ·obtain⟨tb,⟨a8,g7,j3⟩,g6,h2,g3⟩:=g5;refine⟨T.h_f,λe h1=>?_⟩;have b3:=Same.new (o:=iF e (.ref t.a_d) (some v)) h1;have c6:(upd G e (iF e (.ref t.a_d) (some v))) e=some (iF e (.ref t.a_d) (some v)):=nN;generalize upd G e (iF e (.ref t.a_d) (some v))=b0 at*
    have f9:=R.trans b3;refine⟨_,rfl,e,v,.ref a8,rfl,c6,b3 _ _ g7,e,some v,rfl,c6,?_⟩;show N1 [some (.ref a),some (.int d),some (.ref l),some (.ref f),some (.int most),some (.ref u),some .non,some (.ref a8),some (.bl true),none] b0;left;refine⟨b,u,_,rfl,b5.up f9,λq a3=>?_⟩;have M:=Same.new (o:=.lst (c.map V.ref)) a3;have b6:(upd b0 q (.lst (c.map V.ref))) q=some (.lst (c.map V.ref)):=nN;generalize upd b0 q (.lst (c.map V.ref))=k8 at*
    have n:=f9.trans M;have y:=Paired.mapP J λ_ _ z=>DdS.up z n;refine Ab b6 y (n _ _ N) y rfl ⟨_,rfl,iteF ?_⟩;left;refine⟨a8,l,tb,c,ms,d,most,rfl,(j3.up b3).up M,n _ _ N,y,D,a6,g6,h2,g3,λc3 c1=>?_⟩;exact f1 c3
   ·show N1 [some (.ref a),some (.int d),some (.ref l),some (.ref f),some (.int most),some (.ref u),some (.ref x),some .non,some (.bl false),none] G;left;refine⟨b,u,_,rfl,b5.up R,λq a3=>?_⟩;have M:=Same.new (o:=.lst (c.map V.ref)) a3;have b6:(upd G q (.lst (c.map V.ref))) q=some (.lst (c.map V.ref)):=nN;generalize upd G q (.lst (c.map V.ref))=k8 at*
    have n:=R.trans M;have y:=Paired.mapP J λ_ _ z=>DdS.up z n;refine Ab b6 y (n _ _ N) y rfl ⟨_,rfl,iteF ?_⟩;have U:=i8.up M;left;rw[zJ (show¬ (V.ref x=V.non) by intro z;cases z)];refine iteF ?_;left;simp only[Bq];ext;refine Mn U ⟨_,rfl,_,rfl,iteF ?_⟩;refine Mn U ⟨_,_,rfl,rfl,_,by show V.bl (!decide ((d:Int)=d))=_;rw[zM rfl];rfl,iteF ?_⟩;refine Yc U λm0 gs c3 c1 l2 h6 k1=>?_;have a2:=n.trans c1;refine Ab h6 k1 (a2 _ _ N) (Paired.mapP J λ_ _ z=>DdS.up z a2) rfl ⟨_,rfl,iteF ?_⟩;have d4:=U.up c1;symm;simp only[Bq];ext;refine Yd d4 λg2 j6 l1 c7 l9 j4 k4=>?_;refine Zm (d4.up c7) o.len λh4 k0 m1 a4 l3 j5 k3=>?_;have c4:=a2.trans (c7.trans a4);refine⟨g2,h4,l,j6,c,srt,ms,d,most,rfl,a4 _ _ j4,Paired.mapP (Ye k4) λ_ _ z=>DdS.up z a4,⟨k0,j5,Ep k3⟩,c4 _ _ N,Paired.mapP J λ_ _ z=>DdS.up z c4,D,o,pr,by rw[o.p.length_eq];exact hl,a6,λi9 k9=>?_⟩;exact f1 i9
  ext;refine⟨f,2,c8,102,rfl,b2 _ _ a9,b7,∅,∅,∅,λi i1 m2=>?_⟩;have c2:KX f i3 i:=λb x S e=>by rw[i1 b S];exact e
  have C:Same X i:=fX (W.trans b2) b9 c2;obtain⟨l5,_⟩:=mM (many:=2) b7 ∅;generalize tkV c8 2=j2 at*
  refine⟨j2,1,rfl,rfl,_,rfl,?_⟩;split
  ·refine⟨l,_,rfl,.inl ⟨SqL.of (C _ _ a5),λlt h8=>?_⟩⟩;exact f5 true lt _ (C.trans (Same.new h8)) (SqB.tup nN)
  ·exact f5 false I i C (SqB.lst (c2 _ _ e6 e7))
end
theorem us1{a:Type}{us:List a}(h:us.length=1):∃a0,us=[a0]:=match us,h with|[a0],_=>⟨a0,rfl⟩
theorem us2{b:Type}{us:List b}(h:us.length=2):∃a0 a,us=[a0,a]:=match us,h with|[a0,a],_=>⟨a0,a,rfl⟩
theorem us3{c:Type}{us:List c}(h:us.length=3):∃a0 a b,us=[a0,a,b]:=match us,h with|[a0,a,b],_=>⟨a0,a,b,rfl⟩
theorem us4{d:Type}{us:List d}(h:us.length=4):∃a0 b c a,us=[a0,b,c,a]:=match us,h with|[a0,b,c,a],_=>⟨a0,b,c,a,rfl⟩
theorem us5{e:Type}{us:List e}(h:us.length=5):∃a0 d b c a,us=[a0,d,b,c,a]:=match us,h with|[a0,d,b,c,a],_=>⟨a0,d,b,c,a,rfl⟩
abbrev caG(K:Frag)(C:Addr):Prop:=findIn K (.ref C) "__class__"=some (some (.builtin "object.__class__"))
abbrev nG(K:Frag)(x:Str)(f:Addr):Prop:=nsIn K mainGlobals x=some (some (.ref f))
local macro_rules | `(tactic| walk_at "1")=>`(tactic| (intro _ _ _ _ _ _ us hl; obtain ⟨_,hh⟩:=us1 hl; subst hh; rfl))
local macro_rules | `(tactic| walk_at "2")=>`(tactic| (intro _ _ _ _ _ _ us hl; obtain ⟨_,_,hh⟩:=us2 hl; subst hh; rfl))
theorem txt_mk{K:Frag}{h:Heap}{g0:MT}(X:K.In h)(a:h.Ns mainGlobals g0)
  {d n g k o b c a2 m D b2 b6 a8 x G w b5 I V a0 N r b9 b3 O a7 j l i f Z T W a3 p a4 a1 U a6 b7 Y b0 J F C y b8 a9 q a5 P S L b1 u M z:Addr}{t7 u5 n9 n4 j4 x7 t8 r7 w6 k8 v1 j6 s6 r4 r2 u4 u7 w1 y2 o6 p0 i7 s9 s4 m6 m2 y3 q6 v6 o3 q8 y1 k1 v5 m4 t6 o0 z7 q0 s8 m0 y8 t4 o5 y7 j1 m1 t9 h5 w0:FuncData}
  {e:Addr}{t2 i8:Option Addr}{p8:Array (Option Value)}{j7 z5 m9 k4 h2 w5:Value}
  {f5:Addr}{i4:Value}{r5:Option Addr}{m7:Nat}{p9:Array (Option Value)}{t:Tok}
  {i0:Tok}
  (l9:nG K "CrystalError" d)
  (n5:nG K "NoPlace" n)
  (p2:nG K "NoDeed" g)
  (v0:nG K "NoNumber" k)
  (v7:nG K "NoText" o)
  (n2:nG K "TooMany" b)
  (p7:nG K "Group" c)
  (h7:nG K "copied" a2)
  (f6:Fun K "copied" "copied" s_17 a2 t7)
  (z9:findIn K (.ref b) "__init__"=some (some (.ref m)))
  (h0:Fun K "__init__" "TooMany.__init__" s_3 m u5)
  (r0:nG K "divisor" D)
  (g2:Fun K "divisor" "divisor" s_14 D n9)
  (l0:nG K "place" b2)
  (d1:Fun K "place" "place" s_18 b2 n4)
  (p6:nG K "rest_place" b6)
  (c8:Fun K "rest_place" "rest_place" aY b6 j4)
  (s1:nG K "still_rows" a8)
  (c7:Fun K "still_rows" "still_rows" aZ a8 x7)
  (l5:nG K "dot" x)
  (d7:Fun K "dot" "dot" s_1k x t8)
  (z3:nG K "turned" G)
  (e8:Fun K "turned" "turned" s_1b G r7)
  (z6:nG K "without" w)
  (c3:Fun K "without" "without" s_16 w w6)
  (k0:nG K "determinant" b5)
  (g5:Fun K "determinant" "determinant" s_4 b5 k8)
  (m8:nG K "joined" I)
  (e9:Fun K "joined" "joined" s_15 I v1)
  (l4:nG K "deed" V)
  (c5:Fun K "deed" "deed" s_1g V j6)
  (h3:nG K "still" a0)
  (d4:Fun K "still" "still" s_1e a0 s6)
  (u0:nG K "moved" N)
  (e6:Fun K "moved" "moved" s_1c N r4)
  (h8:nG K "behind" r)
  (c2:Fun K "behind" "behind" s_19 r r2)
  (o8:nG K "rest" b9)
  (f2:Fun K "rest" "rest" s_1i b9 u4)
  (z2:nG K "check_most" b3)
  (f1:Fun K "check_most" "check_most" Du b3 u7)
  (h9:nG K "check_axes" O)
  (f3:Fun K "check_axes" "check_axes" Dr O w1)
  (i2:nG K "closed" a7)
  (c1:Fun K "closed" "closed" s_12 a7 y2)
  (ad:findIn K (.ref c) "__init__"=some (some (.ref e)))
  (h6:K.lookup e=some ⟨j7,t2,.func (fnOf "__init__" "Group.__init__" (iL s_0) (jF s_0) (nP s_0) (.ref f5) z5 m9 k4 i8 h2 w5),p8⟩)
  (z4:K.lookup f5=some ⟨i4,r5,.seq #[.int 200 t] m7,p9⟩)
  (p5:codeIn K h2 "Group.__init__"=true)
  (o1:keepIn K (.ref e)=true)
  (aa:findIn K (.ref c) "axes"=some (some (.ref j)))
  (f4:Fun K "axes" "Group.axes" Dq j o6)
  (ac:findIn K (.ref c) "makers"=some (some (.ref l)))
  (g6:Fun K "makers" "Group.makers" s_8 l p0)
  (z8:findIn K (.ref c) "members"=some (some (.ref i)))
  (c9:Fun K "members" "Group.members" s_5 i i7)
  (ab:findIn K (.ref c) "words"=some (some (.ref f)))
  (d3:Fun K "words" "Group.words" s_9 f s9)
  (p3:nG K "_law_box" Z)
  (g8:Fun K "_law_box" "_law_box" Dp Z s4)
  (y9:nG K "_law_take" T)
  (e4:Fun K "_law_take" "_law_take" s_1 T m6)
  (q7:nG K "_law_whole" W)
  (f9:Fun K "_law_whole" "_law_whole" Do W m2)
  (q4:nG K "_law_common" a3)
  (d9:Fun K "_law_common" "_law_common" Dm a3 y3)
  (s2:nG K "_law_still" p)
  (c0:Fun K "_law_still" "_law_still" Az p q6)
  (q2:nG K "_law_times" a4)
  (g4:Fun K "_law_times" "_law_times" Ay a4 v6)
  (p4:nG K "_law_sixty" a1)
  (f0:Fun K "_law_sixty" "_law_sixty" Dl a1 o3)
  (k3:nG K "_law_signed" U)
  (c6:Fun K "_law_signed" "_law_signed" Ax U q8)
  (x6:nG K "_law_free" a6)
  (f8:Fun K "_law_free" "_law_free" Aw a6 y1)
  (m5:nG K "_law_rows" b7)
  (e2:Fun K "_law_rows" "_law_rows" s_13 b7 k1)
  (w7:nG K "_law_based" Y)
  (d0:Fun K "_law_based" "_law_based" Av Y v5)
  (n6:nG K "_law_rest" b0)
  (g1:Fun K "_law_rest" "_law_rest" cU b0 m4)
  (x4:nG K "_law_low" J)
  (e7:Fun K "_law_low" "_law_low" s_11 J t6)
  (k9:nG K "_law_maker" F)
  (d2:Fun K "_law_maker" "_law_maker" Au F o0)
  (l2:nG K "_law_spot" C)
  (d5:Fun K "_law_spot" "_law_spot" s_10 C z7)
  (n3:nG K "_law_makers" y)
  (g7:Fun K "_law_makers" "_law_makers" At y q0)
  (s5:nG K "_law_product" b8)
  (e0:Fun K "_law_product" "_law_product" s_6 b8 s8)
  (r9:nG K "_law_walked" a9)
  (d8:Fun K "_law_walked" "_law_walked" Dk a9 m0)
  (k5:nG K "_law_is_word" q)
  (g9:Fun K "_law_is_word" "_law_is_word" Dj q y8)
  (t0:nG K "_law_only" a5)
  (h1:Fun K "_law_only" "_law_only" Di a5 t4)
  (l1:nG K "_law_all_walked" P)
  (g3:Fun K "_law_all_walked" "_law_all_walked" s_2 P o5)
  (j0:nG K "_law_are_words" S)
  (e5:Fun K "_law_are_words" "_law_are_words" s_7 S y7)
  (p1:nG K "_law_apart" L)
  (c4:Fun K "_law_apart" "_law_apart" Dh L j1)
  (r6:nG K "_law_is_deed" b1)
  (d6:Fun K "_law_is_deed" "_law_is_deed" As b1 m1)
  (r3:nG K "_law_rising" u)
  (f7:Fun K "_law_rising" "_law_rising" Dg u t9)
  (o7:nG K "_law_closed" M)
  (e3:Fun K "_law_closed" "_law_closed" Df M h5)
  (v4:nG K "law" z)
  (b4:Fun K "law" "law" s_1j z w0)
  (n0:nsIn K mainGlobals "MOST_MEMBERS"=some (some (.int 200 i0)))
  (o2:nsIn K mainGlobals "any"=some none)
  (l7:nsIn K mainGlobals "sum"=some none)
  (i1:nsIn K mainGlobals "zip"=some none)
  (i6:nsIn K mainGlobals "enumerate"=some none)
  (r1:nsIn K mainGlobals "range"=some none)
  (s3:nsIn K mainGlobals "len"=some none)
  (t5:nsIn K mainGlobals "abs"=some none)
  (z1:nsIn K mainGlobals "isinstance"=some none)
  (y0:nsIn K mainGlobals "int"=some none)
  (w9:nsIn K mainGlobals "bool"=some none)
  (o9:nsIn K mainGlobals "list"=some none)
  (u1:nsIn K mainGlobals "tuple"=some none)
  (v9:nsIn K mainGlobals "sorted"=some none)
  (t3:nsIn K mainGlobals "dict"=some none)
  (u3:nsIn K mainGlobals "ValueError"=some none)
  (y6:kitOne K (.type "list") (.type "list")=some true)
  (u2:PySem.W.excIn K n [.type "ValueError",.type "Exception",.type "BaseException",.type "object"] "ValueError.__new__"=true)
  (i9:PySem.W.excIn K g [.type "ValueError",.type "Exception",.type "BaseException",.type "object"] "ValueError.__new__"=true)
  (y4:L2.Cls K c)
  (m3:L2.Mk K c e)
  (u8:L2.Meth K c "members" i)
  (s0:findIn K (.ref c) "dimension"=some none)
  (j8:findIn K (.ref c) "given"=some none)
  (l8:findIn K (.ref c) "ordered"=some none)
  (v8:findIn K (.ref c) "shortest"=some none)
  (q3:findIn K (.ref c) "numbers"=some none)
  (k2:L2.Meth K c "makers" l)
  (r8:kitOne K (.type "int") (.type "list")=some false)
  (z0:kitOne K (.type "int") (.type "tuple")=some false)
  (x5:L2.XIn K b d m)
  (u9:L2.XSt K b "apart")
  (q1:PySem.W.exmOne K (.ref b) (.ref b)=some true)
  (n1:PySem.W.excIn K k [.type "ValueError",.type "Exception",.type "BaseException",.type "object"] "ValueError.__new__"=true)
  (q9:PySem.W.exmOne K (.ref b) (.ref d)=some true)
  (n8:findIn K (.ref b) "__getattribute__"=some (some (.builtin "BaseException.__getattribute__")))
  (i3:findIn K (.ref b) "__getattr__"=some none)
  (k6:caG K b)
  (j5:PySem.W.mroIn K b (.type "object")=some true)
  (t1:PySem.W.mroIn K b (.type "BaseException")=some true)
  (o4:kitOne K (.ref b) (.type "ValueError")=some true)
  (u6:kitOne K (.ref b) (.ref k)=some false)
  (i5:kitOne K (.ref b) (.ref g)=some false)
  (j2:kitOne K (.ref b) (.ref b)=some true)
  (x0:kitOne K (.ref b) (.ref n)=some false)
  (w2:kitOne K (.ref b) (.ref o)=some false)
  (x3:PySem.W.specialIn K (.builtin "object.__class__") "__get__"=some (some (.builtin "getset_descriptor.__get__")))
  (x2:PySem.W.takesIn K (.builtin "object.__class__")=some true)
  (s7:findIn K (.ref b) "apart"=some none)
  (j9:PySem.W.hasDictIn K b=true)
  (l3:L2.Meth K c "words" f)
  (j3:L2.Meth K c "axes" j)
  (w4:kitOne K (.ref b) (.ref d)=some true)
  (q5:kitOne K (.type "tuple") (.type "tuple")=some true)
  (w3:kitOne K (.type "int") (.type "int")=some true)
  (k7:kitOne K (.type "int") (.type "bool")=some false)
  :∃x1,Txt K g0 x1:=by
 have h4:=h0.binds (ps:=pv') (by walk_at "2");have R:=Ux (st:=s_0) (ds:=[.int 200 t]) h6 p5 o1 z4;have x8:=R.bindsA (ps:=pm') λ_ _ _ _ _ _ _ us hl=>by obtain⟨_,_,_,_,rfl⟩:=us4 hl;exact⟨_,rfl,rfl⟩
 have x9:=R.binds (ps:=pm') λ_ _ _ _ _ _ _ us hl=>by obtain⟨_,_,_,rfl⟩:=us3 (pI hl);exact⟨_,rfl,rfl⟩
 have w8:=f4.binds (ps:=pC') (by walk_at "1");have n7:=g6.binds (ps:=pC') (by walk_at "1");have y5:=c9.binds (ps:=pC') (by walk_at "1");have l6:=d3.binds (ps:=pC') (by walk_at "1");obtain⟨_,_,_,_,_,_,_,_,_,rfl,_,_⟩:=id b4.ex;exact⟨⟨a2,m,D,b2,b6,a8,x,G,w,b5,I,V,a0,N,r,b9,b3,O,a7,e,j,l,i,f,Z,T,W,a3,p,a4,a1,U,a6,b7,Y,b0,J,F,C,y,b8,a9,q,a5,P,S,L,b1,u,M,z,_,_,_,_,_,_,_,_,_,_,_,_,_,_,_,_,_,_,_,_,_,_,_,_,_,_,_,_,_,_,_,_,_,_,_,_,_,_,_,_,_,_,_,_,_,_,_,_,_,_,_,d,n,g,k,o,b,c,t⟩,⟨⟨f6,yU X a h7,f6.binds (λ_ _ _ _ _ _ us hl=>by obtain⟨_,rfl⟩:=us1 hl;rfl)⟩,h0,h4,⟨g2,yU X a r0,g2.binds (λ_ _ _ _ _ _ us hl=>by obtain⟨_,_,rfl⟩:=us2 hl;rfl)⟩,⟨d1,yU X a l0,d1.binds (λ_ _ _ _ _ _ us hl=>by obtain⟨_,_,rfl⟩:=us2 hl;rfl)⟩,⟨c8,yU X a p6,c8.binds (λ_ _ _ _ _ _ us hl=>by obtain⟨_,rfl⟩:=us1 hl;rfl)⟩,⟨c7,yU X a s1,c7.binds (λ_ _ _ _ _ _ us hl=>by obtain⟨_,rfl⟩:=us1 hl;rfl)⟩,⟨d7,yU X a l5,d7.binds (λ_ _ _ _ _ _ us hl=>by obtain⟨_,_,rfl⟩:=us2 hl;rfl)⟩,⟨e8,yU X a z3,e8.binds (λ_ _ _ _ _ _ us hl=>by obtain⟨_,rfl⟩:=us1 hl;rfl)⟩,⟨c3,yU X a z6,c3.binds (λ_ _ _ _ _ _ us hl=>by obtain⟨_,_,_,rfl⟩:=us3 hl;rfl)⟩,⟨g5,yU X a k0,g5.binds (λ_ _ _ _ _ _ us hl=>by obtain⟨_,rfl⟩:=us1 hl;rfl)⟩,⟨e9,yU X a m8,e9.binds (λ_ _ _ _ _ _ us hl=>by obtain⟨_,_,rfl⟩:=us2 hl;rfl)⟩,⟨c5,yU X a l4,c5.binds (λ_ _ _ _ _ _ us hl=>by obtain⟨_,_,_,rfl⟩:=us3 hl;rfl)⟩,⟨d4,yU X a h3,d4.binds (λ_ _ _ _ _ _ us hl=>by obtain⟨_,rfl⟩:=us1 hl;rfl)⟩,⟨e6,yU X a u0,e6.binds (λ_ _ _ _ _ _ us hl=>by obtain⟨_,_,rfl⟩:=us2 hl;rfl)⟩,⟨c2,yU X a h8,c2.binds (λ_ _ _ _ _ _ us hl=>by obtain⟨_,_,rfl⟩:=us2 hl;rfl)⟩,⟨f2,yU X a o8,f2.binds (λ_ _ _ _ _ _ us hl=>by obtain⟨_,rfl⟩:=us1 hl;rfl)⟩,⟨f1,yU X a z2,f1.binds (λ_ _ _ _ _ _ us hl=>by obtain⟨_,rfl⟩:=us1 hl;rfl)⟩,⟨f3,yU X a h9,f3.binds (λ_ _ _ _ _ _ us hl=>by obtain⟨_,_,rfl⟩:=us2 hl;rfl)⟩,⟨c1,yU X a i2,c1.binds (λ_ _ _ _ _ _ us hl=>by obtain⟨_,_,_,rfl⟩:=us3 hl;rfl)⟩,R,x9,x8,f4,w8,g6,n7,c9,y5,d3,l6,⟨g8,yU X a p3,g8.binds (λ_ _ _ _ _ _ us hl=>by obtain⟨_,_,rfl⟩:=us2 hl;rfl)⟩,⟨e4,yU X a y9,e4.binds (λ_ _ _ _ _ _ us hl=>by obtain⟨_,_,rfl⟩:=us2 hl;rfl)⟩,⟨f9,yU X a q7,f9.binds (λ_ _ _ _ _ _ us hl=>by obtain⟨_,rfl⟩:=us1 hl;rfl)⟩,⟨d9,yU X a q4,d9.binds (λ_ _ _ _ _ _ us hl=>by obtain⟨_,_,rfl⟩:=us2 hl;rfl)⟩,⟨c0,yU X a s2,c0.binds (λ_ _ _ _ _ _ us hl=>by obtain⟨_,rfl⟩:=us1 hl;rfl)⟩,⟨g4,yU X a q2,g4.binds (λ_ _ _ _ _ _ us hl=>by obtain⟨_,_,rfl⟩:=us2 hl;rfl)⟩,⟨f0,yU X a p4,f0.binds (λ_ _ _ _ _ _ us hl=>by obtain⟨_,_,rfl⟩:=us2 hl;rfl)⟩,⟨c6,yU X a k3,c6.binds (λ_ _ _ _ _ _ us hl=>by obtain⟨_,_,rfl⟩:=us2 hl;rfl)⟩,⟨f8,yU X a x6,f8.binds (λ_ _ _ _ _ _ us hl=>by obtain⟨_,_,rfl⟩:=us2 hl;rfl)⟩,⟨e2,yU X a m5,e2.binds (λ_ _ _ _ _ _ us hl=>by obtain⟨_,_,_,rfl⟩:=us3 hl;rfl)⟩,⟨d0,yU X a w7,d0.binds (λ_ _ _ _ _ _ us hl=>by obtain⟨_,_,rfl⟩:=us2 hl;rfl)⟩,⟨g1,yU X a n6,g1.binds (λ_ _ _ _ _ _ us hl=>by obtain⟨_,_,_,rfl⟩:=us3 hl;rfl)⟩,⟨e7,yU X a x4,e7.binds (λ_ _ _ _ _ _ us hl=>by obtain⟨_,_,_,rfl⟩:=us3 hl;rfl)⟩,⟨d2,yU X a k9,d2.binds (λ_ _ _ _ _ _ us hl=>by obtain⟨_,_,_,_,_,rfl⟩:=us5 hl;rfl)⟩,⟨d5,yU X a l2,d5.binds (λ_ _ _ _ _ _ us hl=>by obtain⟨_,_,rfl⟩:=us2 hl;rfl)⟩,⟨g7,yU X a n3,g7.binds (λ_ _ _ _ _ _ us hl=>by obtain⟨_,rfl⟩:=us1 hl;rfl)⟩,⟨e0,yU X a s5,e0.binds (λ_ _ _ _ _ _ us hl=>by obtain⟨_,_,rfl⟩:=us2 hl;rfl)⟩,⟨d8,yU X a r9,d8.binds (λ_ _ _ _ _ _ us hl=>by obtain⟨_,_,_,rfl⟩:=us3 hl;rfl)⟩,⟨g9,yU X a k5,g9.binds (λ_ _ _ _ _ _ us hl=>by obtain⟨_,_,_,rfl⟩:=us3 hl;rfl)⟩,⟨h1,yU X a t0,h1.binds (λ_ _ _ _ _ _ us hl=>by obtain⟨_,rfl⟩:=us1 hl;rfl)⟩,⟨g3,yU X a l1,g3.binds (λ_ _ _ _ _ _ us hl=>by obtain⟨_,_,_,rfl⟩:=us3 hl;rfl)⟩,⟨e5,yU X a j0,e5.binds (λ_ _ _ _ _ _ us hl=>by obtain⟨_,_,_,_,rfl⟩:=us4 hl;rfl)⟩,⟨c4,yU X a p1,c4.binds (λ_ _ _ _ _ _ us hl=>by obtain⟨_,_,_,_,rfl⟩:=us4 hl;rfl)⟩,⟨d6,yU X a r6,d6.binds (λ_ _ _ _ _ _ us hl=>by obtain⟨_,_,rfl⟩:=us2 hl;rfl)⟩,⟨f7,yU X a r3,f7.binds (λ_ _ _ _ _ _ us hl=>by obtain⟨_,_,_,rfl⟩:=us3 hl;rfl)⟩,⟨e3,yU X a o7,e3.binds (λ_ _ _ _ _ _ us hl=>by obtain⟨_,_,_,_,_,rfl⟩:=us5 hl;rfl)⟩,⟨b4,yU X a v4,b4.binds (λ_ _ _ _ _ _ us hl=>by obtain⟨_,rfl⟩:=us1 hl;rfl)⟩,yT X a o2,yT X a l7,yT X a i1,yT X a i6,yT X a r1,yT X a s3,yT X a t5,yT X a z1,yT X a y0,yT X a w9,yT X a o9,yT X a u1,yT X a v9,yT X a t3,yT X a u3,yU X a l9,yU X a n5,yU X a p2,yU X a v0,yU X a v7,yU X a n2,yU X a p7,⟨_,yU X a n0,_,rfl⟩,y6,u2,i9,y4,m3,u8,s0,j8,l8,v8,q3,k2,r8,z0,x5,u9,q1,n1,q9,n8,i3,k6,j5,t1,o4,u6,i5,j2,x0,w2,x3,x2,s7,j9,l3,j3,w4,q5,w3,k7,λs v=>.of_eq rfl⟩⟩
end Cw
end
open PySem PySem.W PyProof.Rows
/-! Names that the head would else lay equations under: the proof wants none of them. -/
namespace PySem.W.Fast
local macro_rules|`(command|include $x)=>`(def $x:ident:=Nat)|`(command|include $x $y $z*)=>`(def $x:ident:=Nat
include $y $z*)
include tw14778067216362889383 tw58002931555768275 tw17557022315304475945 tw4325303888847535965 tw9668621238106047278 tw4841302562737341747 tw7655678464303777610 tw66232704647739524 tw5306909625837100841 tw16515204560073380494 tw8671055105485136186 tw5081966245306739619 tw13628880491534828934 tw16055779544437797448 tw12070973412007347840 tw4702882533877668143 tw8097197927155778499 tw2513149879926894191 tw15102911320840672194 tw6599400870723499427 tw13868047165434840495 tw12406954889393647573 tw18193451877287375809 tw3586648276379045246 tw13216579451578799267 tw7093314456407302026 tw3711517185425503984 tw6822782579630097281 tw7019067203697709339 tw13654068470009480670 tw11122589849502567301 tw10203350783703475651 tw11945569476673637582 tw1304494102413084659 tw10989551389460509791 tw10269759103717282487 tw15136028037083372380 tw12672659463319077554 tw18078418811686205455 tw3520444022004095277 tw8191728726755739372 tw10086840900337176179 tw442667561348467779 tw15122687477918727118 tw225985619737772451 tw16574158225214278137 tw8755878162366302584 tw9761618781638682046 tw2566006045107810349 tw10802631553038844162 tw5073990480649687879 tw14669488746989018975 tw3848177027352433804 tw5758882837141385512 tw11388031836559304862 tw498823187253059503 tw17880597308933348295 tw17392758576582515126 tw14769041205961857406 tw9204812667495977283 tw595049355621143824 tw11231651925559110662 tw6655004638568366231 tw9092901084604041073 tw9423052098678401740 tw16301740640524274998 tw931069573941012681 tw1069829637922823837 tw3656057936860675956 tw16478802658032828948 tw15053391665417475800 tw8891787712207036871 tw16843746707425209337 tw13424998887815486194 tw6875989294564924768 tw3420170812237864143 tw5412643490980973278 tw7247045303868751157 tw3628773392723361846 tw7982810094388326122 tw371584268959275733 tw1457158596555802019 tw13876788477265425175 tw15332606480095894289 tw2936246815426961713 tw12961842619221346163 tw8904005672516486226 tw2182649358584893537 tw16925718907941019751 tw1905287875509349271 tw4477638011451007951 tw12180133036591479554 tw5374724016601489385 tw487302190995118650 tw6855144688570425867 tw2998887952665483740 tw16826001922914558623 tw15084095023580995923 tw18141768766248480789 tw2458476131696824537 tw7762977407994654543 tw9548502580681383601 tw5637155896091177354 tw17670500332199946962 tw16890006195887013738 tw9980735705076362334 tw11088907010471124574 tw9516238196483610952 tw9542973211978935204 tw1340556124262380117 tw5896110205385566432 tw8835454495400376448 tw16249042409169447747 tw14707490183818901259 tw5941642603656971325 tw11621475349687105632 tw5281871826458276349 tw6489292834351652737 tw6379667571402616294 tw12276775080114184607 tw8863308619107528477 tw1196259812345809310 tw11681149081583844028 tw3157553656960732620 tw2639310066015105940 tw7836678312189568132 tw15986773732529483578 tw7882246330576115020 tw11777288987347701796 tw4401487719439058236 tw11081316418417157256 tw12897927429428437763 tw11887917454507711180 tw4372159349580710287 tw1225284599811661880 tw17420402329020102000 tw14552497200507188725 tw4262739334064581700 tw418539442619012926 tw13734926217209072996 tw3268679966416630644 tw13499376462227139106 tw1436181857064922430 tw7005996236775113070 tw16561661307472598224 tw6579309349474229666 tw11514464856209679633 tw13544826974842972277 tw930983870248166930 tw15115467075104715536 tw3743398144295162053 tw14162287170413565384 tw17826069396412982855 tw12487233775917783382 tw114340939471536349 tw16323990355532291619 tw4920226957909516225 tw13464420983364305696 tw13315448017239753035 tw14536807524396884062 tw17104228024867475679 tw5550995480150091603 tw8265176368089512092 tw733628302635213883 tw18141916179174290460 tw2977507004394786302 tw14386925462904764117 tw10483536641103588349 tw12609288717110916280 tw1258284456876768682 tw5224886445030175868 tw5426616353994570870 tw8762083717981233431 tw5066961130593150995 tw4053267523828441819 tw6542609983069403803 tw13351236688235151906 tw7944405290332725038 tw4230624950121397391 tw15028105485083818882 tw15485246595410521150 tw5809821930197097950 tw1887125320822557599 tw130178071437292606 tw15508102843528433112 tw1059621795697099434 tw7530143514028321486 tw15617328392221824053 tw17183534179842695214 tw12285670076095273049 tw18142037593379153980 tw13361353184567568877 tw2994234622556887998 tw5332135643860712746 tw15257150162479415486 tw4702762772505099146 tw17371331514672754364 tw13477868650878212298 tw2987984257571708255 tw15282335235343839025 tw13702780194276638395 tw9736848760666202254 tw12450404427492767523 tw395591529708984239 tw18359309635678714305 tw8687392807273983904 tw2530847402038622425 tw8616196052239631589 tw3597995463166326720 tw4450688574933863089 tw4484827499499702488 tw313861850118343289 tw16537750448231016279 tw5737825566316048852 tw11980457559961385563 tw16461061856796120760 tw17095173325848296984 tw12899153260382425571 tw3337671046313685365 tw15977176811597210637 tw1537806897628619154 tw7263267359743184981 tw1091399532155147028 tw9434528757604796224 tw4701666012346005087 tw14661190278450779923 tw9506636522931276925 tw15636048460737341740 tw3547397108970447667 tw4002390626917739230 tw2525002605659357100 tw10864869682784577412 tw6201271397993833772 tw16173999810727596911 tw15652463351082941463 tw4093269566337858018 tw17532988089850529429 tw16192317131143360899 tw13390494253267838907 tw16015814963381804898 tw3390279998504865900 tw5048892895291889337 tw16822276421293813806 tw15632398493084335871 tw537287321169483491 tw12998297402564375099 tw12607348308584660690 tw173730603432774159 tw16405224665013727818 tw4365103956805638839 tw16229455850250732929 tw18192618083784982155 tw18313318120785617303 tw10802323886282990400 tw11426882548421606480 tw16055250869028019134 tw5647945705244609232 tw14301648174409141534 tw7712353365072700362 tw3576272098475457859 tw5652699972584228666 tw5151137660939242819 tw6260917233381469709 tw6034426169883861367 tw485794345638675183 tw2696905327015747345 tw12945613288185176025 tw5086417071425703326 tw7162955140376763859 tw8111810825880871184 tw10245672094095895433 tw16713344928470416621 tw16480651289111022630 tw17629406442016191871 tw16713568060572901441 tw9451811323790488140 tw13639765082051123875 tw11892632286462057380 tw3288855027895139049 tw8707524710699567103 tw9270404653476303517 tw2857537631820074950 tw8974691192139174123 tw17715483652997987856 tw14738530226630615911 tw12994322948819198288 tw12195961318056078135 tw11067496011987022613 tw4128925492968391824 tw15307900094603121063 tw11559736930658140775 tw6842320985937228852 tw2869317292671260624 tw11893674162694872771 tw9665297837566089106 tw11628745103348374585 tw1335244881647769789 tw16405192230499482320 tw6062530004361497100 tw6734861338371561318 tw3492561051532943025 tw17471593042736928054 tw2333671135736132742 tw8302619117807569766 tw1476403633146842512 tw14103184640179799617 tw4442258198862563216 tw8557849446139137750 tw5991631144379995286 tw1770417686812624199 tw11699406813029370338 tw15931064103845888865 tw8498969092679029038 tw14318786375091095812 tw4676855145661564752 tw8682872041714398444 tw4555967675649032809 tw1205355262729639273 tw9520248481730213557 tw11914825998577588246 tw12230363347564130238 tw9723268281714500401 tw7412780918210312280 tw1711278426746829901 tw17367090470459027488 tw5975957907577579766 tw2551836743873780453 tw2405670206068304846 tw6491749112180502184 tw1563282200946673206 tw4031245990483746218 tw7751134568739838543 tw3652032149361333162 tw3912719460098491116 tw18352452822838586480 tw6460903158837936925 tw1932418773348134384 tw8117892423624887443 tw6743057565613500351 tw10450807886249832011 tw17996617760656695228 tw16842410404329555093 tw11330426622447844524 tw13815206178843736057 tw15140417109524390566 tw1859674297239865369 tw2643798779338253121 tw9430848353218440650 tw2491233822098792247 tw5791871634186022726 tw12167402841369312371 tw17903006673526042220 tw422254162588955219 tw1375088586742867383 tw7226994282916290493 tw12441307756564642171 tw10597641408954602255 tw15152537416283902637 tw1851280117878815511 tw6634956166971336345 tw5575068347039166355 tw7109210995076890973 tw3922059429029141587 tw18417969337211517805 tw1308627532899942169 tw4690260819779917159 tw8579194826029146123 tw3702174068643224456 tw16964873543577348363 tw16171678182181147579 tw5682107309317647538 tw7857921597036769049 tw12715081294570534102 tw13051046619574734712 tw4177417820910329770 tw1277440688409371496 tw8932592132500437930 tw13326366701443455409 tw10285612824786150074 tw17863924055886492455 tw9943883950179546208 tw4776379818260330878 tw1667373423792079388 tw9537243863488870070 tw12587469428867699280 tw9914780076307315123 tw6290206044462858789 tw10859562260243045828 tw6720038073642832186 tw16031755102282336151 tw2271008500002655398 tw10383245317517187063 tw17885287177398757674 tw17075000693090330 tw1679903127751861566 tw6401088467274806801 tw14645380678879291699 tw451616497729351365 tw1102844449159654698 tw16838333209679689614 tw12959279231892659900 tw13670664407508993715 tw9580906161980338459 tw17889022757454657728 tw594703638684550183 tw1753024440354796315
end PySem.W.Fast
set_option maxRecDepth 100000 in
set_option maxHeartbeats 0 in
theorem PySem.Challenge.cw_crystalwords_k41_whole_closed_holds : PySem.Challenge.rw_crystalwords_k41_whole_closed.Holds := by
 w_on; o_law; k_head; (case hw=>w_witness2)
 k_fill
 refine L2.walkB (l:=PySem.Challenge.rw_crystalwords_k41_whole_closed) (k:=17) (x := "_law_script") rfl rfl ⟨rfl,by decide,by decide⟩ (λ w h Y=>PySem.W.kIn_of Y) ?F
 case F =>
  intro w mg fa h KX G hmg
  have T:∃ t,Cw.Txt (L2.KOf KX) mg t:=by
   dsimp only [L2.KOf]
   refine' Cw.txt_mk KX G ?n_1a ?n_1h ?n_1d ?n_1f ?n_1l ?n_d ?n_b ?n_17 ?F_17 ?n_3 ?F_3 ?n_14 ?F_14 ?n_18 ?F_18 ?n_q ?F_q ?n_s ?F_s ?n_1k ?F_1k ?n_1b ?F_1b ?n_16 ?F_16 ?n_4 ?F_4 ?n_15 ?F_15 ?n_1g ?F_1g ?n_1e ?F_1e ?n_1c ?F_1c ?n_19 ?F_19 ?n_1i ?F_1i ?n_t ?F_t ?n_r ?F_r ?n_12 ?F_12 ?n_0 ?l_0 ?t_Group___init__ ?c_0 ?k_0 ?n_a ?F_a ?n_8 ?F_8 ?n_5 ?F_5 ?n_9 ?F_9 ?n_w ?F_w ?n_1 ?F_1 ?n_h ?F_h ?n_f ?F_f ?n_l ?F_l ?n_j ?F_j ?n_v ?F_v ?n_g ?F_g ?n_x ?F_x ?n_13 ?F_13 ?n_p ?F_p ?n_m ?F_m ?n_11 ?F_11 ?n_k ?F_k ?n_10 ?F_10 ?n_i ?F_i ?n_6 ?F_6 ?n_c ?F_c ?n_o ?F_o ?n_z ?F_z ?n_2 ?F_2 ?n_7 ?F_7 ?n_y ?F_y ?n_e ?F_e ?n_u ?F_u ?n_n ?F_n ?n_1j ?F_1j ?n_MOST_MEMBERS ?y_any ?y_sum ?y_zip ?y_enumerate ?y_range ?y_len ?y_abs ?y_isinstance ?y_int ?y_bool ?y_list ?y_tuple ?y_sorted ?y_dict ?y_ValueError ?q_q ?q_e ?q_i ?q_j ?q_k ?q_0 ?q_5 ?q_l ?q_7 ?q_6 ?q_8 ?q_1 ?q_r ?q_s ?q_9 ?q_a ?q_f ?q_b ?q_ym ?q_t ?q_u ?q_v ?q_w ?q_x ?q_y ?q_c ?q_m ?q_g ?q_h ?q_n ?q_z ?q_10 ?q_o ?q_d ?q_2 ?q_4 ?q_3 ?q_11 ?q_p ?q_12
   (case n_1a | n_1h | n_1d | n_1f | n_1l | n_d | n_b | n_17 | n_14 | n_18 | n_q | n_s | n_1k | n_1b | n_16 | n_4 | n_15 | n_1g | n_1e | n_1c | n_19 | n_1i | n_t | n_r | n_12 | n_w | n_1 | n_h | n_f | n_l | n_j | n_v | n_g | n_x | n_13 | n_p | n_m | n_11 | n_k | n_10 | n_i | n_6 | n_c | n_o | n_z | n_2 | n_7 | n_y | n_e | n_u | n_n | n_1j=>show _=_; k_is)
   (case n_3 | n_0 | l_0 | t_Group___init__ | c_0 | k_0 | n_a | n_8 | n_5 | n_9 | n_MOST_MEMBERS | y_any | y_sum | y_zip | y_enumerate | y_range | y_len | y_abs | y_isinstance | y_int | y_bool | y_list | y_tuple | y_sorted | y_dict | y_ValueError | q_5 | q_l | q_7 | q_6 | q_8 | q_t | q_u | q_v | q_w | q_x | q_z | q_10 | q_o | q_d=>show _=_; k_is)
   (case F_17 | F_3 | F_14 | F_18 | F_q | F_s | F_1k | F_1b | F_16 | F_4 | F_15 | F_1g | F_1e | F_1c | F_19 | F_1i | F_t | F_r | F_12 | F_a | F_8 | F_5 | F_9 | F_w | F_1 | F_h | F_f | F_l | F_j | F_v | F_g | F_x | F_13 | F_p | F_m | F_11 | F_k | F_10 | F_i | F_6 | F_c | F_o | F_z | F_2 | F_7 | F_y | F_e | F_u | F_n | F_1j=>refine' L2.fun_mk ?l ?c ?k; (case l=>k_is); (case c=>k_is); (case k=>k_is))
   (case q_q | q_r | q_s | q_y | q_c | q_m | q_g | q_h | q_n | q_3 | q_11 | q_p | q_12=>kit_is)
   (case q_e | q_i | q_b=>k_exc)
   (case q_j | q_k=>exact ⟨by k_is,by k_is,by k_is,by k_is⟩)
   (case q_0 | q_1 | q_2 | q_4=>exact ⟨by k_is,by k_is,by k_is⟩)
   (case q_9=>exact ⟨by kernel_rfl,by k_is,by kernel_rfl,by kernel_rfl⟩)
   (case q_a=>exact ⟨by k_is,by kernel_rfl,by k_is⟩)
   (case q_f | q_ym=>kts_exm)
  obtain ⟨t,T⟩:=T
  have e0:=hmg.symm.trans T.F_1j.m
  cases e0
  exact ⟨t.d_1j,T.bl,λ base kb nb=>Cw.ok_1j T⟩
#print axioms PySem.Challenge.cw_crystalwords_k41_whole_closed_holds