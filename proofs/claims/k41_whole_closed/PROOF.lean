import PyProof.Rows.All
import Wide.All
import OpenK.AllK
import Wide.FinOn
import Lean
import PyProof.EqAt
import PyProof.EqKinds
import PyProof.TupleCall
import PySem.Challenge.RW_crystalwords_k41_whole_closed
set_option Elab.async false
set_option linter.all false
set_option compiler.extract_closed false
set_option genSizeOf false
set_option bootstrap.genMatcherCode false
set_option maxRecDepth 100000
local macro_rules | `(⋯)=>`(by omega)
local macro_rules | `(∅)=>`(by decide)
local macro_rules | `(nofun)=>`(by decide +kernel)
local macro_rules | `(tactic| ext)=>`(tactic| walk_at "r")
noncomputable section
theorem dLe{d k:Nat}(h:d=2\/d=3)(g:3≤k):d≤k:=by
 rcases h with h|h<;>rw[h]
 ·exact Nat.le_trans (by decide) g
 ·exact g
theorem eLe{x d k:Nat}(e:x=d)(h:d=2\/d=3)(g:3≤k):x≤k:=by rw[e];exact dLe h g
theorem eLt{x y k:Nat}(e:x=y)(g:k<y):k<x:=by rw[e];exact g
theorem iNn{x:Int}(h:0<x):¬x<0:=Int.not_lt.mpr (Int.le_of_lt h)
local macro_rules | `(tactic| omega)=>`(tactic| first | (with_reducible first | assumption | exact Int.ne_of_gt (by assumption) | exact iNn (by assumption) | exact Int.le_of_lt (by assumption) | exact eLt (by assumption) (by assumption) | exact dLe (by assumption) (by decide) | exact eLe (by assumption) (by assumption) (by decide) | exact Nat.le_trans (by assumption) (by decide) | exact Nat.lt_of_lt_of_le (by assumption) (by decide) | exact Nat.lt_of_le_of_lt (by assumption) (by decide) | exact Nat.le_trans (Nat.le_of_lt (by assumption)) (by decide) | exact Nat.le_of_lt (by assumption)) | decide | lia | omega +splitDisjunctions)
abbrev SP':=List Int×Int
abbrev LI':=List Int
abbrev PN:=List (PySem.Addr×PySem.Obj)
abbrev VP:=PySem.Value->PySem.Shared->Prop
abbrev LW:=List PySem.Value
abbrev LA:=List PySem.Addr
abbrev MT:=PySem.Str->Option PySem.Value
def zA:=@PySem.wpAny_bind
def zB:=@PySem.wpAny_pure
def zC:=@PySem.Heap.get?_push_of_some
def zD:=@if_neg
def zE:=@Nat.le_refl
def zF:=@if_pos
def zG:=@PyProof.Rows.wpS_bind
def zH:=@List.getElem?_map
def zI:=@PyProof.Rows.wpS_pure
def zJ:=@decide_eq_false
def zK:=@PySem.Heap.lt_size
def zL:=@Array.length_toList
def zM:=@decide_eq_true
def zN:=@Bool.and_eq_true
def zO:=@List.map_cons
def zP:=@Nat.lt_of_lt_of_le
def zQ:=@PySem.Heap.get?_push_size
def zR:=@List.length_cons
def zS:=@Int.toNat_natCast
def zT:=@Ne.symm
def zU:=@List.mem_cons_of_mem
def zV:=@List.size_toArray
def zW:=@Nat.ne_of_lt
def zX:=@List.getElem?_append_right
def zY:=@Nat.zero_le
def zZ:=@Option.some.inj
def yA:=@List.length_append
def yB:=@List.getElem?_append_left
def yC:=@Nat.le_trans
def yD:=@PySem.PassesOwn.never
def yE:=@List.mem_cons_self
def yF:=@List.mem_of_getElem?
def yG:=@List.length_take
def yH:=@Bool.false_ne_true
def yI:=@Array.getElem?_toList
def yJ:=@List.take_of_length_le
def yK:=@List.append_assoc
def yL:=@Array.toList_append
def yM:=@List.length_map
def yN:=@PySem.wpAny_holding
def yO:=@LawfulBEq.eq_of_beq
def yP:=@List.mem_append_right
def yQ:=@PySem.wpAny_mono
def yR:=@PySem.F.excBase_ValueError
def yS:=@Nat.pow_le_pow_right
def yT:=@PySem.W.mg_none_of
def yU:=@PySem.W.mg_of
def yV:=@List.all_cons
def yW:=@List.map_map
def yX:=@List.map_append
def yY:=@List.take_add_one
def yZ:=@Nat.lt_irrefl
def xA:=@PySem.Heap.get?_update_self
def xB:=@PySem.wpAny_field
def xC:=@List.getElem?_range
def xD:=@PySem.wpAny_newObj_type
def xE:=@List.lookup_cons
def xF:=@PySem.wpAny_call_entry
def xG:=@PyProof.Rows.mulOk_of_bits
def xH:=@PyProof.Rows.wpS_forRange
def xI:=@List.mem_append_left
def xJ:=@PySem.Heap.get?_update_other
def xK:=@Int.natAbs_mul
def xL:=@PySem.W.kia_one
def xM:=@List.mem_cons
def xN:=@List.getElem?_eq_getElem
def xO:=@PySem.wpAny_callSpecial?_slot
def xP:=@PySem.Heap.size_push
def xQ:=@List.cons.injEq
def xR:=@List.getElem?_set_self
def xS:=@List.map_congr_left
def xT:=@of_decide_eq_true
def xU:=@List.take_append_drop
def xV:=@PyProof.Rows.callWith_type1
def xW:=@List.getElem?_of_mem
def xX:=@Int.fmod_eq_emod_of_nonneg
def xY:=@PySem.Heap.SameBut.update
def xZ:=@List.length_zipWith
def wA:=@List.cons_lt_cons_iff
def wB:=@List.getElem?_zipWith
def wC:=@PySem.wpAny_Call_Name_kw
def wE:=@List.getElem?_take_of_lt
def wF:=@PySem.wpAny_standAt
def wG:=@Nat.mul_le_mul_right
def wH:=@PySem.W.looks_findIn
def wJ:=@PySem.wpAny_rule
def wK:=@PySem.wpAny_seqItems
def wL:=@PySem.F.plainAttrs_list
def wM:=@PySem.F.slot_dict_keyiterator_next
def wN:=@PyProof.Rows.wpS_mono
def wO:=@List.append_nil
def wP:=@List.getElem_of_mem
def wQ:=@Nat.zero_add
def wR:=@Int.mul_pos
def wS:=@List.zipWith_cons_cons
def wT:=@PyProof.Rows.wpS_modify
def wU:=@PySem.Obj.data_mapFields
def wW:=@Nat.mul_le_mul
def wX:=@Nat.lt_of_le_of_lt
def wY:=@PySem.W.Looks.here
def wZ:=@Int.add_zero
def vA:=@congrArg
def vB:=@PySem.F.type_list_append
def vC:=@List.foldl_cons
def vD:=@PySem.F.slot_list_append
def vE:=@Int.mul_comm
def vF:=@PySem.wpAny_attempt
def vG:=@List.eq_nil_of_length_eq_zero
def vH:=@PySem.wpAny_typeNameOfWhole_keyiter
def vJ:=@PySem.mem_of_lookup
def vK:=@List.getElem_mem
def vL:=@PySem.wpAny_setField
def vM:=@PySem.wpAny_isInstance
def vN:=@Nat.sub_self
def vO:=@PySem.wpAny_setField_rec
def vP:=@List.zip_cons_cons
def vQ:=@List.getElem?_drop
def vR:=@List.getElem?_eq_none
def vS:=@List.perm_append_comm
def vU:=@PySem.wpAny_passesOwn
def vV:=@PySem.F.slot_tuple_iterator_next
def vW:=@List.foldl_append
def vX:=@Int.natAbs_add_le
def vY:=@List.getElem?_set_ne
def vZ:=@List.drop_eq_getElem_cons
def uA:=@PySem.codeAny_call_builtin
def uB:=@List.mem_or_eq_of_mem_set
def uC:=@PySem.Calls.evalArgs_plain
def uD:=@List.eraseIdx_append_of_length_le
def uE:=@Int.zero_mul
def uF:=@PySem.wpAny_typeNameOf_keyiter
def uG:=@Nat.lt_succ_self
def uH:=@List.zipIdx_cons
def uI:=@Int.le_of_lt
def uJ:=@PySem.wpAny_typeOf
def uK:=@List.all_eq_true
def uL:=@Nat.lt_or_ge
def uM:=@List.replicate_succ
def uN:=@PySem.wpAny_call
def uO:=@List.of_mem_zip
def uP:=@PySem.wpAny_tupleItemsOf
def uQ:=@PySem.wpAny_loadPart'
def uR:=@List.forIn_cons
def uS:=@PySem.wpAny_pyIter_tuple
def uT:=@List.find?_cons
def uU:=@PyProof.Rows.subscriptTail_builtinR
def uV:=@Int.fmod_nonneg_of_pos
def uW:=@Array.toList_push
def uX:=@PySem.wpAny_truthy_bool
def uY:=@PySem.wpAny_loadPart_at
def uZ:=@List.length_range
def tD:=@PyProof.Rows.wpS_get
def tE:=@Nat.add_zero
def tF:=@List.Pairwise.sublist
def tG:=@Nat.le_of_lt
def tH:=@PySem.Obj.isFreed_of_fields
def tI:=@PySem.codeAny_mono
def tJ:=@List.nodup_nil
def tK:=@PyProof.Rows.pairsOf_toList
def tL:=@List.length_drop
def tM:=@PySem.IntMulOk.of_left
def tN:=@List.getElem_map
def tO:=@PySem.Around.under_plainId
def tP:=@Array.toList_reverse
def tQ:=@List.ext_getElem
def tR:=@List.eraseIdx_of_length_le
def tS:=@PyProof.Rows.listUpdate_at
def tU:=@List.getD_eq_getElem?_getD
def tV:=@Nat.pow_add
def tW:=@Nat.le_succ
def tX:=@PySem.W.looks_mroIn
def tY:=@List.filterMap_cons
def tZ:=@PySem.codeAny_builtin
def sD:=@PySem.wpAny_execs_nil
def sE:=@PySem.Calls.call_function_entry
def sF:=@of_decide_eq_false
def sG:=@PySem.W.callWith_K
def sH:=@PyProof.Rows.pairsOf_size
def sI:=@List.mem_of_mem_eraseIdx
def sJ:=@Nat.pow_succ
def sK:=@Int.fmod_lt_of_pos
def sL:=@Nat.ne_of_gt
def sN:=@Nat.le_of_eq
def sO:=@List.pairwise_singleton
def sQ:=@PySem.wpAny_dictEntries
def sT:=@List.drop_sublist
def sU:=@PySem.wpAny_pyIter_list
def sV:=@List.flatten_cons
def sW:=@List.getElem?_inj
def sZ:=@PySem.Calls.callWith_builtin
def rA:=@PyProof.Rows.seqEpoch_at
def rB:=@List.drop_eq_nil_of_le
def rC:=@PySem.W.cellsFrom_some
def rD:=@PySem.wpAny_onRaise
def rE:=@Nat.add_assoc
def rF:=@PySem.W.any_some
def rG:=@List.take_length
def rH:=@List.Perm.append_left
def rJ:=@PySem.isSubtype_tuple_tuple
def rK:=@List.getElem?_reverse
def rL:=@List.contains_iff_mem
def rM:=@PyProof.Rows.get?_update_seq
def rN:=@List.nodup_cons
def rO:=@List.length_eraseIdx
def rP:=@List.getElem?_zipIdx
def rQ:=@PySem.W.hideAll_none
def rR:=@Nat.mul_comm
def rS:=@PySem.wpAny_updateSeq_pair
def rT:=@Int.zero_add
def rV:=@PySem.F.slot_zip_next
def rW:=@PySem.W.plainGet_of
def rX:=@PySem.Heap.get?_update_ne
def rY:=@PySem.W.looks_clsIn
def rZ:=@PySem.W.hideAll_get
def qB:=@Array.size_map
def qC:=@Int.mul_le_mul
def qD:=@PySem.wpAny_newTuple
def qE:=@PyProof.Rows.wpS_lift
def qF:=@PySem.wpAny_loadPart
def qG:=@PySem.wpAny_letGo
def qH:=@List.getElem_range
def qI:=@Array.size_extract
def qJ:=@PySem.Code.quiet_builtin
def qK:=@PyProof.Rows.assignInOrder_cons
def qL:=@PySem.W.of_hideAll
def qM:=@Int.lt_of_le_of_lt
def qN:=@PySem.W.isNs_of_in
def qO:=@PySem.plainId_quiet
def qP:=@PySem.wpAny_newList
def qQ:=@List.take_add
def qR:=@Nat.mul_assoc
def qT:=@List.any_cons
def qU:=@PySem.PassesOwn.leaving
def qV:=@Option.isSome_map
def qW:=@Nat.le_of_succ_le
def qX:=@List.reverse_perm
def qZ:=@List.nodup_append
def pC:=@Nat.lt_succ_of_lt
def pE:=@PySem.W.kitx_list
def pF:=@PySem.Obj.cls_mapFields
def pG:=@Nat.succ.inj
def pH:=@Nat.mul_lt_mul''
def pI:=@Int.dvd_refl
def pJ:=@PySem.W.Looks.ld
def pK:=@Nat.succ_mul
def pL:=@PySem.wpAny_pyHash_int
def pM:=@PySem.wpAny_forIn_list
def pN:=@PySem.W.kat_cons
def pO:=@Nat.le_add_right
def pQ:=@List.nil_append
def pR:=@Nat.two_pow_pos
def pS:=@Nat.min_eq_left
def pU:=@PySem.wpAny_dictEpoch
def pV:=@PySem.pushCells_keeps
def pW:=@PySem.Heap.Ns.of_isNs
def pY:=@PySem.W.kat_yes
def pZ:=@Array.Perm.refl
def oA:=@Nat.not_lt_zero
def oB:=@Int.mul_one
def oC:=@PySem.seqIndex_of
def oE:=@List.take_zero
def oF:=@PySem.W.kat_no
def oG:=@PySem.wpAny_bindName
def oH:=@List.drop_zero
def oJ:=@PySem.isSubtype_stop
def oK:=@List.drop_drop
def oM:=@PySem.call_meets
def oN:=@Int.mul_zero
def oO:=@PySem.wpAny_mkText
def oP:=@List.mem_singleton
def oQ:=@PySem.seqIndex_neg
def oR:=@Int.one_mul
def oS:=@beq_iff_eq
def oU:=@List.pairwise_iff_getElem
def oV:=@beq_eq_false_iff_ne
def oW:=@List.mem_append
def oX:=@Array.getElem?_eq_some_iff
def oY:=@List.mem_range
def oZ:=@List.not_lt
def nA:=@Int.ofNat_inj
def nB:=@List.mem_filterMap
def nD:=@List.mem_map
def nE:=@List.pairwise_append
def nF:=@List.getElem?_eq_some_iff
namespace L2
open PySem PySem.Spec PyProof.Rows
open PySem.W (Frag)
abbrev Key:=Sum Int Str
def bH:Key->Value->Bool
 |.inl k,v=>Value.isInt k v
 |.inr x,v=>Value.isStrOf x v
def keyH(w:World):Key->Int
 |.inl k=>hashInt k
 |.inr x=>hashStr w x
theorem iU:∀{k:Key}{v:Value},bH k v=true->(∃i t,k=Sum.inl i/\v=Value.int i t)\/(∃x t,k=Sum.inr x/\v=Value.str x t)
 |.inl i,v,h=>by
  obtain⟨t,e⟩:=Value.isInt_shape (k:=i) (v:=v) h;exact .inl ⟨i,t,rfl,e⟩
 |.inr x,v,h=>by
  obtain⟨t,e⟩:=Value.isStrOf_shape (x:=x) (v:=v) h;exact .inr ⟨x,t,rfl,e⟩
theorem Mn(i:Int)(t:Tok):bH (.inl i) (.int i t)=true:=by simp[bH,Value.isInt]
theorem Mm(a b:Int):decide ((Sum.inl a:Key)=Sum.inl b)=(a == b):=by
 by_cases e:a=b
 ·subst e;simp
 ·have h:¬ (Sum.inl a:Key)=Sum.inl b:=λq=>e (Sum.inl.inj q);rw[zJ h];exact(oV.mpr e).symm
theorem Ml(a b:Str):decide ((Sum.inr a:Key)=Sum.inr b)=decide (a=b):=by
 by_cases e:a=b
 ·subst e;simp
 ·have h:¬ (Sum.inr a:Key)=Sum.inr b:=λq=>e (Sum.inr.inj q);rw[zJ h,zJ e]
theorem Mj(a:Int)(b:Str):decide ((Sum.inl a:Key)=Sum.inr b)=false:=zJ (λq=>nomatch q)
theorem Mi(a:Str)(b:Int):decide ((Sum.inr a:Key)=Sum.inl b)=false:=zJ (λq=>nomatch q)
def Bz(prog:Program)(w:World):PySem.KeyKind prog w Key where
 is:=bH
 hash:=keyH w
 inj:=λv a b ha hb=>by
  rcases iU ha with⟨i,t,rfl,rfl⟩|⟨x,t,rfl,rfl⟩
  ·rcases iU hb with⟨j,u,rfl,e⟩|⟨y,u,rfl,e⟩
   ·injection e with e1 _;rw[e1]
   ·exact nomatch e
  ·rcases iU hb with⟨j,u,rfl,e⟩|⟨y,u,rfl,e⟩
   ·exact nomatch e
   ·injection e with e1 _;rw[e1]
 byValue:=λk v h=>by
  rcases iU h with⟨i,t,rfl,rfl⟩|⟨x,t,rfl,rfl⟩ <;> rfl
 pyHash:=λhv h=>by
  rcases iU hv with⟨i,t,rfl,rfl⟩|⟨x,t,rfl,rfl⟩
  ·exact pL h
  ·exact wpAny_pyHash_str h
 eqBool:=λhu hv h=>by
  rcases iU hu with⟨i,t,rfl,rfl⟩|⟨x,t,rfl,rfl⟩
  ·rcases iU hv with⟨j,u,rfl,rfl⟩|⟨y,u,rfl,rfl⟩
   ·rw[Mm]at h;exact wpAny_eqBool_int h
   ·rw[Mj]at h;exact SeqAt.EqAt.int_str i t y u _ _ _ _ h
  ·rcases iU hv with⟨j,u,rfl,rfl⟩|⟨y,u,rfl,rfl⟩
   ·rw[Mi]at h;exact SeqAt.EqAt.str_int x t j u _ _ _ _ h
   ·rw[Ml]at h;exact wpAny_eqBool_str h
 «strs»:=λk x t v h=>by
  rcases iU h with⟨i,u,rfl,e⟩|⟨y,u,rfl,e⟩
  ·exact nomatch e
  ·injection e with e1 _;subst e1;cases v <;> rfl
theorem Fw(prog:Program)(w:World)(i:Int)(t:Tok):(Bz prog w).is (.inl i) (.int i t)=true:=Mn i t
inductive V where
 |non|bl(b:Bool)|int(i:Int)|str(x:Str)|byt(b:Array UInt8)|flt(b:UInt64)|ref(a:Addr)|ty(n:String)
 deriving DecidableEq
def RelV:V->Value->Prop
 |.non,u=>u=Value.none
 |.bl b,u=>u=Value.bool b
 |.int i,u=>∃t,u=Value.int i t
 |.str x,u=>∃t,u=Value.str x t
 |.byt b,u=>∃t,u=Value.bytes b t
 |.flt b,u=>∃t,u=Value.float b t
 |.ref a,u=>u=Value.ref a
 |.ty n,u=>u=Value.type n
abbrev Vals:List V->LW->Prop:=Paired RelV
theorem Vals.length{xs:List V}{us:LW}(r:Vals xs us):xs.length=us.length:=Paired.length r
theorem Vals.get:∀{xs:List V}{us:LW}{i:Nat}{x:V},Vals xs us->xs[i]?=some x->∃u,us[i]?=some u/\RelV x u
 |_,_,_,_,.nil,e=>by simp at e
 |_,_,0,_,.cons r _,e=>by simp at e;subst e;exact⟨_,rfl,r⟩
 |_,_,i+1,x,.cons _ b,e=>by
  obtain⟨u,a,c⟩:=Vals.get (i:=i) (x:=x) b (by simpa using e);exact⟨u,by simpa using a,c⟩
theorem Vals.set{x:V}{u:Value}(r:RelV x u):∀{xs:List V}{us:LW}(i:Nat),Vals xs us->Vals (xs.set i x) (us.set i u)
 |_,_,_,.nil=>.nil
 |_,_,0,.cons _ t=>.cons r t
 |_,_,i+1,.cons q t=>.cons q (Vals.set r i t)
theorem Vals.append:∀{xs ys:List V}{us a:LW},Vals xs us->Vals ys a->Vals (xs++ys) (us++a)
 |_,_,_,_,.nil,s=>s
 |_,_,_,_,.cons r b,s=>.cons r (Vals.append b s)
theorem Vals.take:∀{xs:List V}{us:LW}(n:Nat),Vals xs us->Vals (xs.take n) (us.take n)
 |_,_,0,_=>.nil
 |_,_,_+1,.nil=>.nil
 |_,_,n+1,.cons r t=>.cons r (Vals.take n t)
theorem Vals.drop:∀{xs:List V}{us:LW}(n:Nat),Vals xs us->Vals (xs.drop n) (us.drop n)
 |_,_,0,r=>r
 |_,_,_+1,.nil=>.nil
 |_,_,n+1,.cons _ t=>Vals.drop n t
theorem Vals.none_of:∀{xs:List V}{us:LW}{i:Nat},Vals xs us->xs[i]?=none->us[i]?=none:=λ{xs us i}r e=>by
 have a:=r.length;have b:xs.length<=i:=List.getElem?_eq_none_iff.mp e;exact List.getElem?_eq_none_iff.mpr ⋯
def RelO:Option V->Option Value->Prop
 |some v,some u=>RelV v u
 |none,none=>True
 |_,_=>False
def KV{κ:Type}:List (κ×V)->List (κ×Value)->Prop:=Paired λ(p:κ×V)(q:κ×Value)=>p.1=q.1/\RelV p.2 q.2
def kV:Key->V
 |.inl i=>.int i
 |.inr x=>.str x
inductive HO where
  |lst(xs:List V)
  |tup(xs:List V)
  |dK(kvs:List (Key×V))|dT(kvs:List (List Key×V))
  |set(S:Int->Bool)(n:Nat)
  |ins(C dx:Addr)(fs:List (Str×V))
  |own(x:Addr)
  |xd(fs:List (Str×V))
  |met(f x:Addr)
  |rng(lo hi:Int)
  |frz(o:Obj)(u:HO)
  |tbl(ps:Array Value)
  |ext(φ:Heap->Prop)
abbrev Hp:=Addr->Option HO
def upd(H:Hp)(a:Addr)(o:HO):Hp:=λb=>if b=a then some o else H b
theorem nN{H:Hp}{a:Addr}{o:HO}:upd H a o a=some o:=by unfold upd;rw[zF rfl]
theorem nO{H:Hp}{a b:Addr}{o:HO}(h:b≠a):upd H a o b=H b:=by unfold upd;rw[zD h]
theorem lI{H:Hp}{a b:Addr}{o:HO}(h:H a=some o)(h':H b=none):a≠b:=by
 intro e;subst e;rw[h]at h';cases h'
section
variable (P:Program) (w:World)
def mI(H:Hp)(h:Heap)(a:Addr):HO->Prop
 |.lst xs=>xs.length<=sizeLine/\∃(its:LW)(n:Nat),Vals xs its/\h.get? a=some {cls:=.type "list",data:=.seq its.toArray n}
 |.tup xs=>xs.length<=sizeLine/\∃its:LW,Vals xs its/\IsTup h a its.toArray
 |.dK kvs=>kvs.length<=sizeLine/\(a == sysModules)=false/\∃vs,KV kvs vs/\h.DictOf (Bz P w) a vs
 | .dT kvs=>kvs.length<=sizeLine/\(a == sysModules)=false/\∃xs:List (List Key×Addr×Value),
   Paired (λ(p:List Key×V)(q:List Key×Addr×Value)=>p.1=q.1/\H q.2.1=some (.tup (p.1.map kV))/\RelV p.2 q.2.2) kvs xs /\
   ∃o es ep,h.get? a=some o/\o.ExactDict/\o.data=.dict es ep/\es.toList=xs.map (entryOfKey (tupleKind (Bz P w)))/\(xs.map (·.1)).Nodup
 |.set S n=>h.SetOf (intKind P w) a S n
 | .ins C dx fs=>H dx=some (.own a)/\fs.length<=1000/\dx≠a/\h.get? a=some (PySem.W.instObj C dx) /\
   ∃mA,h.Ns1 dx mA/\(∀f,RelO (fs.lookup f) (mA f))/\PySem.Within mA (fs.map (·.1))
 |.own _=>∃o,h.get? a=some o
 |.xd fs=>∃mA,h.Ns1 a mA/\∀f,RelO (fs.lookup f) (mA f)
 |.rng lo hi=>∃t u v,h.get? a=some {cls:=.type "range",data:=.fields #[.int lo t,.int hi u,.int 1 v]}
 |.frz o u=>h.get? a=some o/\mI H h a u
 |.tbl ps=>h.get? a=some {cls:=.none,data:=.fields ps}
 |.met f x=>h.get? a=some (PySem.W.methodObj (.ref f) (.ref x))
 |.ext φ=>φ h/\(∃o,h.get? a=some o)/\∀h1 h2:Heap,φ h1->(∀o,h1.get? a=some o->h2.get? a=some o)->φ h2
def HOk(H:Hp)(h:Heap):Prop:=∀a o,H a=some o->mI P w H h a o
end
section
variable {P:Program} {w:World} {H H':Hp} {h h':Heap} {a:Addr} {o:HO}
theorem mI.lt(x:mI P w H h a o):a<h.objs.size:=by
 cases o with
 |lst xs=>obtain⟨_,_,_,_,e⟩:=x;exact zK e
 |tup xs=>obtain⟨_,_,_,p⟩:=x;exact p.lt
 |dK kvs=>obtain⟨_,_,_,_,o,_,_,e,_⟩:=x;exact zK e
 |dT kvs=>obtain⟨_,_,_,_,o,_,_,e,_⟩:=x;exact zK e
 |set d n=>obtain⟨o,_,_,_,e,_⟩:=x;exact zK e
 |ins C g fs=>obtain⟨_,_,_,e,_⟩:=x;exact zK e
 |own y=>obtain⟨_,e⟩:=x;exact zK e
 |xd fs=>obtain⟨_,⟨_,_,_,e,_⟩,_⟩:=x;exact zK e
 |rng lo hi=>obtain⟨_,_,_,e⟩:=x;exact zK e
 |frz c u=>obtain⟨e,_⟩:=x;exact zK e
 |tbl ps=>exact zK (show h.get? a=some _ from x)
 |met f y=>exact zK (show h.get? a=some _ from x)
 |ext b=>obtain⟨_,⟨_,e⟩,_⟩:=x;exact zK e
theorem Paired.mapP{d g:Type}{F i:d->g->Prop}:∀{e:List d}{c:List g},Paired F e c->(∀a b,F a b->i a b)->Paired i e c
 |_,_,.nil,_=>.nil
 |_,_,.cons r j,f=>.cons (f _ _ r) (Paired.mapP j f)
theorem mI.stay(x:mI P w H h a o)(k:∀b u,(b=a\/H b=some (.own a))->h.get? b=some u->h'.get? b=some u)
  (t:∀b,H b=some (.own a)->H' b=some (.own a))(l:∀b xs,H b=some (.tup xs)->H' b=some (.tup xs)):mI P w H' h' a o:=by
 induction o with
 |lst xs=>obtain⟨z,its,n,r,e⟩:=x;exact⟨z,its,n,r,k _ _ (.inl rfl) e⟩
 |tup xs=>obtain⟨z,its,r,g,e,c⟩:=x;exact⟨z,its,r,g,k _ _ (.inl rfl) e,c⟩
 |dK kvs=>obtain⟨z,y,vs,r,g,es,ep,e,c⟩:=x;exact⟨z,y,vs,r,g,es,ep,k _ _ (.inl rfl) e,c⟩
 |dT kvs =>
  obtain⟨z,y,xs,r,g,es,ep,e,c⟩:=x;exact⟨z,y,xs,Paired.mapP r λp q z=>⟨z.1,l _ _ z.2.1,z.2.2⟩,g,es,ep,k _ _ (.inl rfl) e,c⟩
 |set G n=>obtain⟨g,es,ep,i,e,c⟩:=x;exact⟨g,es,ep,i,k _ _ (.inl rfl) e,c⟩
 |ins C I fs =>
  obtain⟨d,z,ne,e,j,⟨od,es,ep,D,c⟩,r⟩:=x;exact⟨t _ d,z,ne,k _ _ (.inl rfl) e,j,⟨od,es,ep,k _ _ (.inr d) D,c⟩,r⟩
 |own y=>obtain⟨g,e⟩:=x;exact⟨g,k _ _ (.inl rfl) e⟩
 |xd fs=>obtain⟨j,⟨od,es,ep,e,c⟩,r⟩:=x;exact⟨j,⟨od,es,ep,k _ _ (.inl rfl) e,c⟩,r⟩
 |rng lo hi=>obtain⟨i,u,v,e⟩:=x;exact⟨i,u,v,k _ _ (.inl rfl) e⟩
 |frz g u m=>obtain⟨e,q⟩:=x;exact⟨k _ _ (.inl rfl) e,m q⟩
 |tbl ps =>
  have e:h.get? a=some {cls:=.none,data:=.fields ps}:=x;show h'.get? a=some {cls:=.none,data:=.fields ps};exact k a _ (.inl rfl) e
 |met f y =>
  have e:h.get? a=some (PySem.W.methodObj (.ref f) (.ref y)):=x;show h'.get? a=some (PySem.W.methodObj (.ref f) (.ref y));exact k a _ (.inl rfl) e
 |ext F=>obtain⟨p,⟨o,e⟩,st⟩:=x;exact⟨st _ _ p λo q=>k _ _ (.inl rfl) q,⟨o,k _ _ (.inl rfl) e⟩,st⟩
theorem HOk.lt(x:HOk P w H h)(e:H a=some o):a<h.objs.size:=(x a o e).lt
theorem HOk.fresh(x:HOk P w H h)(e:h.objs.size<=a):H a=none:=by
 cases q:H a with
 |none=>rfl
 |some u=>exact absurd (zP (x.lt q) e) (yZ _)
theorem HOk.kept(x:HOk P w H h)(k:∀b u,h.get? b=some u->h'.get? b=some u):HOk P w H h':=λa o e =>
 (x a o e).stay (λb u _ q=>k b u q) (λ_ q=>q) λ_ _ q=>q
theorem HOk.laid(x:HOk P w H h)(k:∀b u,h.get? b=some u->h'.get? b=some u)(g:h.objs.size<=a)(new:mI P w (upd H a o) h' a o):HOk P w (upd H a o) h':=λb u e=>by
 have d:=x.fresh g
 by_cases f:b=a
 ·subst f;rw[nN]at e;cases e;exact new
 ·rw[nO f]at e;exact(x b u e).stay (λc v _ q=>k c v q) (λc q=>by rw[nO (lI q d)];exact q) λc xs q=>by rw[nO (lI q d)];exact q
end
def Rd(H:Hp)(a:Addr)(u:HO):Prop:=H a=some u\/∃o,H a=some (.frz o u)
theorem Rd.ok{P:Program}{w:World}{H:Hp}{h:Heap}{a:Addr}{u:HO}(r:Rd H a u)(x:HOk P w H h):mI P w H h a u:=by
 rcases r with r|⟨o,r⟩
 ·exact x a u r
 ·obtain⟨_,q⟩:=x a _ r;exact q
def Mut:Option HO->Prop
 |some (.lst _)=>True
 |some (.dK _)=>True
 |some (.dT _)=>True
 |some (.set _ _)=>True
 |some (.ins _ _ _)=>True
 |some (.ext _)=>True
 |_=>False
section
variable {P:Program} {w:World} {H:Hp} {h h':Heap} {x e:Addr} {o':HO}
theorem HOk.write(ok:HOk P w H h)(d:Mut (H x))(l:e=x\/H e=some (.own x))(k:∀b u,b≠e->h.get? b=some u->h'.get? b=some u)(m:∃u,h'.get? e=some u)
  (new:mI P w (upd H x o') h' x o'):HOk P w (upd H x o') h':=λb u q=>by
 have j:∀c y,H c=some (.own y)->c≠x:=λc y r z=>by subst z;rw[r]at d;exact d
 have o:∀c xs,H c=some (.tup xs)->c≠x:=λc xs r z=>by subst z;rw[r]at d;exact d
 by_cases g:b=x
 ·subst g;rw[nN]at q;cases q;exact new
 ·rw[nO g]at q
  by_cases f:b=e
  ·have i:H b=some (.own x):=by
    rcases l with z|z
    ·exact absurd (f.trans z) g
    ·rw[f];exact z
   rw[q]at i;cases i;obtain⟨v,n⟩:=m;exact⟨v,by rw[f];exact n⟩
  ·refine(ok b u q).stay (λc v a r=>k c v ?_ r) (λc r=>by rw[nO (j c b r)];exact r) λc xs r=>by rw[nO (o c xs r)];exact r
   rcases a with rfl|a
   ·exact f
   ·rintro rfl;rcases l with z|z
    ·exact j c b a z
    ·rw[a]at z;cases z;exact g rfl
end
structure Un(fs ex:LA)(H H':Hp)(h h':Heap):Prop where
 keep:∀b o,h.get? b=some o->H b=none->b∉fs->b∉ex->h'.get? b=some o
 slot:∀b o,h.get? b=some o->H b=none->b∈fs->b∉ex->∃sl,h'.get? b=some {o with slots:=sl}
 free:∀b o,h.get? b=some o->H b=none->b∉ex->H' b=none
 there:∀b o,h.get? b=some o->b∉ex->∃o',h'.get? b=some o'
 tups:∀b xs,H b=some (.tup xs)->H' b=some (.tup xs)
 frzs:∀b o u,H b=some (.frz o u)->H' b=some (.frz o u)
 tbls:∀b ps,H b=some (.tbl ps)->∃more,H' b=some (.tbl (ps++more))
section
variable {fs fs' ex ex':LA} {H H1 H2:Hp} {h h1 h2 h':Heap} {a x e:Addr} {o:HO}
theorem Un.any(u:Un fs ex H H1 h h1){b:Addr}{c:Obj}(q:h.get? b=some c)(n:H b=none)(d:b∉ex):∃g,h1.get? b=some {c with slots:=g}:=by
 by_cases f:b∈fs
 ·exact u.slot b c q n f d
 ·exact⟨c.slots,u.keep b c q n f d⟩
theorem Un.trans(a:Un fs ex H H1 h h1)(b:Un fs ex H1 H2 h1 h2):Un fs ex H H2 h h2 where
 keep:=λc f q n g d=>b.keep c f (a.keep c f q n g d) (a.free c f q n d) g d
 slot:=λc f q n g d=>by
  obtain⟨p,e1⟩:=a.slot c f q n g d;obtain⟨m,i⟩:=b.slot c _ e1 (a.free c f q n d) g d;exact⟨m,i⟩
 free:=λc f q n d=>by
  obtain⟨j,e1⟩:=a.there c f q d;exact b.free c j e1 (a.free c f q n d) d
 there:=λc f q d=>by
  obtain⟨j,e1⟩:=a.there c f q d;exact b.there c j e1 d
 tups:=λc xs q=>b.tups c xs (a.tups c xs q)
 frzs:=λc f xs q=>b.frzs c f xs (a.frzs c f xs q)
 tbls:=λc ps q=>by
  obtain⟨k,e1⟩:=a.tbls c ps q;obtain⟨l,i⟩:=b.tbls c _ e1;exact⟨k++l,by rw[i,Array.append_assoc]⟩
theorem Un.kept(k:∀b u,h.get? b=some u->h'.get? b=some u):Un fs ex H H h h':=
 ⟨λb c q _ _ _=>k b c q,λb c q _ _ _=>⟨c.slots,k b c q⟩,λ_ _ _ n _=>n,λb c q _=>⟨c,k b c q⟩,λ_ _ q=>q,λ_ _ _ q=>q,λ_ ps q=>⟨#[],by rw[q];simp⟩⟩
theorem Un.refl:Un fs ex H H h h:=Un.kept λ_ _ q=>q
theorem Un.laid(k:∀b u,h.get? b=some u->h'.get? b=some u)(d:h.objs.size<=a)(c:H a=none):Un fs ex H (upd H a o) h h' where
 keep:=λb u q _ _ _=>k b u q
 slot:=λb u q _ _ _=>⟨u.slots,k b u q⟩
 free:=λb u q n _=>by rw[nO (zW (zP (zK q) d))];exact n
 there:=λb u q _=>⟨u,k b u q⟩
 tups:=λb xs q=>by rw[nO (lI q c)];exact q
 frzs:=λb u xs q=>by rw[nO (lI q c)];exact q
 tbls:=λb ps q=>⟨#[],by rw[nO (lI q c),q];simp⟩
theorem Un.write(c:Mut (H x))(l:e=x\/H e=some (.own x))(k:∀b u,b≠e->h.get? b=some u->h'.get? b=some u)(j:∃u,h'.get? e=some u):Un fs ex H (upd H x o) h h':=by
 have f:∀b,H b=none->b≠x:=λb n z=>by subst z;rw[n]at c;exact c
 have i:∀b,H b=none->b≠e:=λb n z=>by
  subst z;rcases l with r|r
  ·exact f b n r
  ·rw[n]at r;cases r
 have d:∀b u,H b=some u->¬ Mut (some u)->b≠x:=λb u q nm z=>by subst z;rw[q]at c;exact nm c
 refine⟨λb u q n _ _=>k b u (i b n) q,λb u q n _ _=>⟨u.slots,k b u (i b n) q⟩,λb u q n _=>by rw[nO (f b n)];exact n,λb u q _=>?_,
  λb xs q=>by rw[nO (d b _ q λz=>z)];exact q,λb u xs q=>by rw[nO (d b _ q λz=>z)];exact q,λb ps q=>⟨#[],by rw[nO (d b _ q λz=>z),q];simp⟩⟩
 by_cases g:b=e
 ·subst g;exact j
 ·exact⟨u,k b u g q⟩
end
def trk(h:Heap)(H:Hp):LA:=(List.range h.objs.size).filter λa=>(H a).isSome
def hidT(h:Heap)(H:Hp):Heap:=PySem.W.hideAll h (trk h H)
theorem Mh(h:Heap)(H:Hp):(hidT h H).objs.size=h.objs.size:=PySem.W.hideAll_size _ _
theorem Mg{h:Heap}{H:Hp}{b:Addr}{o:Obj}(e:h.get? b=some o)(n:H b=none):(hidT h H).get? b=some o:=
 rZ _ e λa=>by
  have q:(H b).isSome=true:=(List.mem_filter.mp a).2;rw[n]at q;simp at q
theorem Mf{h:Heap}{H:Hp}{b:Addr}{o:Obj}(e:(hidT h H).get? b=some o):h.get? b=some o/\H b=none:=by
 have a:h.get? b=some o:=qL (trk h H) e;refine⟨a,?_⟩;cases q:H b with
 |none=>rfl
 |some x =>
  have c:b∈trk h H:=List.mem_filter.mpr ⟨oY.mpr (zK a),by simp[q]⟩;have z:(hidT h H).get? b=none:=rQ (trk h H) c;rw[z]at e;cases e
def Me(g h:Heap)(L:Addr):PN:=(List.range h.objs.size).filterMap λa=>if a=L\/(g.get? a).isSome=true then none else(h.get? a).map λo=>(a,o)
def rest(g h:Heap)(L d:Addr):PN:=(Me g h L).filter λp=>decide (p.1≠d)
structure Mod(K:Frag)(mg:MT)(base:Heap):Prop where
 kin:K.In base
 glob:base.Ns mainGlobals mg
 blt:∃mb,base.Ns builtinsNs mb/\∀x:Str,x≠"__name__" -> mb x=bootBuiltins x
 nolimit:base.NoLimit
structure Cx where
 prog:Program
 w:World
 K:Frag
 mg:MT
 base:Heap
 A:Around
 N:List Str
 s₀:Shared
 H₀:Hp
 env:Env
 outer:List Env
 stack:List Env
 ex:LA
 fn:Str->Bool
 calm:Bool
 pn:PN
 xe:VP
def frs(l:List Env):LA:=l.filterMap (·.frame)
abbrev Cx.fs(X:Cx):LA:=frs X.outer
def Vis(sc:Scope)(x:Str):Prop:=sc.names.lookup x=some .local\/sc.names.lookup x=some .cell\/sc.names.lookup x=some .free
def Loc(sc:Scope)(x:Str):Prop:=sc.names.lookup x=some .local\/sc.names.lookup x=some .cell
def Look(env:Env)(h:Heap)(m:MT)(x:Str)(u:Value):Prop:=
 (env.kindOf x=some .local/\m x=some u)\/((env.kindOf x=some .cell\/env.kindOf x=some .free)/\∃c,env.cells.lookup x=some c/\h.IsCell c (some u))
structure Cx.Ok(X:Cx):Prop where
 mod:Mod X.K X.mg X.base
 kind:X.env.scope.kind=.function
 glob:X.env.globals=mainGlobals
 blt:X.env.builtins=builtinsNs
 above:X.s₀.heap.objs.size<=X.env.locals
 inj:∀x y c,X.env.cells.lookup x=some c->X.env.cells.lookup y=some c->x=y
 has:∀x,(X.env.kindOf x=some .cell\/X.env.kindOf x=some .free)->∃c,X.env.cells.lookup x=some c
 cab:∀x c,X.fn x=true->X.env.cells.lookup x=some c->X.s₀.heap.objs.size<=c
 hd:X.calm=true->X.A.handled=none
 frames:X.A.frames=some X.stack
 stk:X.stack=X.outer\/(X.stack=X.env:: X.outer/\X.env.frame=some X.env.locals)
 exf:∀b∈X.ex,b≠X.env.locals/\∀x c,X.env.cells.lookup x=some c->c≠b
 bs:∀b o,X.base.get? b=some o->X.s₀.heap.get? b=some o/\X.H₀ b=none
 bsz:X.base.objs.size<=X.s₀.heap.objs.size
 noex:∀b o,X.base.get? b=some o->b∉X.ex
 exfs:∀b∈X.ex,b∉X.fs
 funs:X.s₀.heap.FunFrames X.base X.outer
 frf:∀b∈X.fs,X.H₀ b=none
structure Inv(X:Cx)(pins:PN)(σ:List (Option V))(H:Hp)(s:Shared):Prop where
 ok:X.Ok
 os:s.os=X.s₀.os
 bare:AllBare s.gens
 base:Un X.fs X.ex X.H₀ H X.s₀.heap s.heap
 loc:∃m,s.heap.Ns X.env.locals m/\∀(i:Nat)(x:Str)(v:V),X.N[i]?=some x->σ[i]?=some (some v)->Vis X.env.scope x->∃u,RelV v u/\Look X.env s.heap m x u
 cell:∀x c,X.env.cells.lookup x=some c->∃v,s.heap.IsCell c v
 free:H X.env.locals=none
 freeC:∀x c,X.env.cells.lookup x=some c->H c=none
 pin:∀p∈X.pn++pins,s.heap.get? p.1=some p.2/\H p.1=none/\p.1≠X.env.locals/\p.1∉X.fs/\∀v,p.2.data≠.cell v
 hok:HOk X.prog X.w H s.heap
 len:σ.length=X.N.length
section
variable {X:Cx} {pins:PN} {σ:List (Option V)} {H H':Hp} {s:Shared} {h':Heap}
theorem Cx.Ok.nofr(ok:X.Ok){b:Addr}{o:Obj}(e:X.base.get? b=some o):b∉X.fs:=λa=>by
 have:=(ok.funs.mem a).1;rw[e]at this;cases this
theorem Inv.bs(I:Inv X pins σ H s):∀b o,X.base.get? b=some o->s.heap.get? b=some o/\H b=none:=λb o e =>
 ⟨I.base.keep b o (I.ok.bs b o e).1 (I.ok.bs b o e).2 (I.ok.nofr e) (I.ok.noex b o e),I.base.free b o (I.ok.bs b o e).1 (I.ok.bs b o e).2 (I.ok.noex b o e)⟩
theorem Inv.bk(I:Inv X pins σ H s):∀b o,X.base.get? b=some o->s.heap.get? b=some o:=λb o e=>(I.bs b o e).1
theorem Inv.mod(I:Inv X pins σ H s):Mod X.K X.mg X.base:=I.ok.mod
theorem Inv.kIn(I:Inv X pins σ H s):X.K.In s.heap:=I.ok.mod.kin.keeps I.bk
theorem Inv.lt(I:Inv X pins σ H s):X.env.locals<s.heap.objs.size:=let ⟨_,a,_⟩:=I.loc;a.lt
theorem Inv.sz(I:Inv X pins σ H s):X.s₀.heap.objs.size<=s.heap.objs.size:=yC I.ok.above (tG I.lt)
theorem Inv.nofs(I:Inv X pins σ H s){a:Addr}(h:s.heap.objs.size<=a):a∉X.fs:=λc=>by
 obtain⟨_,o,b,_⟩:=I.ok.funs.mem c;exact absurd (zP (zK b) (yC I.sz h)) (yZ _)
theorem Inv.cne(I:Inv X pins σ H s):∀x c,X.env.cells.lookup x=some c->c≠X.env.locals:=λx c e z=>by
 obtain⟨v,o,b,a⟩:=I.cell x c e;obtain⟨m,⟨g,es,ep,d,f,_⟩,_⟩:=I.loc;rw[z,d]at b;cases b;rw[f]at a;cases a
theorem Inv.funs(I:Inv X pins σ H s):s.heap.FunFrames X.base X.outer:=by
 have all:∀(l:List Env),(∀b∈frs l,b∈X.fs)->X.s₀.heap.FunFrames X.base l->s.heap.FunFrames X.base l:=by
  intro l
  induction l with
  |nil=>intro _ _;trivial
  |cons env r g =>
   intro f hl;obtain⟨m,⟨L,o,a,i,k,j⟩,hr⟩:=hl;have c:L∈X.fs:=f L (by unfold frs;rw[tY,a];exact yE);obtain⟨n,e⟩:=I.base.slot L o k (I.ok.frf L c) c λz=>I.ok.exfs L z c;exact⟨m,⟨L,_,a,i,e,j⟩,g (λb d=>f b (by unfold frs;rw[tY,a];exact zU _ d)) hr⟩
 exact all X.outer (λ_ d=>d) I.ok.funs
theorem Inv.stack(I:Inv X pins σ H s):s.heap.FunFrames X.base X.stack:=by
 rcases I.ok.stk with e|⟨e,b⟩
 ·rw[e];exact I.funs
 ·rw[e];obtain⟨m,a,_⟩:=I.loc;refine .cons (by rw[I.ok.kind];decide) b a ?_ I.funs;exact Heap.get?_none_of_le (yC I.ok.bsz I.ok.above)
theorem Inv.stkSub(I:Inv X pins σ H s):∀b∈frs X.stack,b∈X.env.locals:: X.fs:=λb a=>by
 rcases I.ok.stk with e|⟨e,c⟩
 ·rw[e]at a;exact zU _ a
 ·rw[e]at a;unfold frs at a;rw[tY,c]at a;exact a
theorem Inv.stkFree(I:Inv X pins σ H s):∀b∈frs X.stack,H b=none:=λb a=>by
 rcases xM.mp (I.stkSub b a) with e|a
 ·rw[e];exact I.free
 ·obtain⟨_,o,c,_⟩:=I.ok.funs.mem a;exact I.base.free b o c (I.ok.frf b a) λz=>I.ok.exfs b z a
theorem Inv.step{g':Array GenState}{t':Nat}{d':Drawn}{ch:LA}(I:Inv X pins σ H s)
  (w:∀b∈ch,(b∈X.ex\/X.s₀.heap.objs.size<=b)/\b≠X.env.locals/\(∀x c,X.env.cells.lookup x=some c->c≠b)/\∀p∈X.pn++pins,p.1≠b)
  (G:∀b o,b≠X.env.locals->b∉X.fs->b∉ch->s.heap.get? b=some o->H b=none->h'.get? b=some o)
  (K:∀b o,b≠X.env.locals->b∈X.fs->b∉ch->s.heap.get? b=some o->H b=none->∃J,h'.get? b=some {o with slots:=J})(D:∀b o,b∉ch->s.heap.get? b=some o->H b=none->H' b=none)
  (there:∀b o,b∉ch->s.heap.get? b=some o->∃t,h'.get? b=some t)
  (Z:∀b xs,H b=some (.tup xs)->H' b=some (.tup xs))(U:∀b o u,H b=some (.frz o u)->H' b=some (.frz o u))(a1:∀b ps,H b=some (.tbl ps)->∃more,H' b=some (.tbl (ps++more)))
  (ns:∀m,s.heap.Ns X.env.locals m->h'.Ns X.env.locals m)(S:HOk X.prog X.w H' h')(Y:AllBare g'):
  Inv X pins σ H' {s with heap:=h',gens:=g',drawn:=d',toks:=t'}:=by
 have N:∀b o,X.s₀.heap.get? b=some o->b≠X.env.locals:=λb o e=>zW (zP (zK e) I.ok.above);have C:∀b o,X.s₀.heap.get? b=some o->b∉X.ex->b∉ch:=λb o e a f=>by
  rcases(w b f).1 with z|z
  ·exact a z
  ·exact absurd (zP (zK e) z) (yZ _)
 have O:∀x c,X.env.cells.lookup x=some c->∀v,s.heap.IsCell c v->h'.IsCell c v:=λx c e v⟨o,g,F⟩=>by
  have y:c∉ch:=λz=>(w c z).2.2.1 x c e rfl
  by_cases M:c∈X.fs
  ·obtain⟨J,q⟩:=K c o (I.cne x c e) M y g (I.freeC x c e);exact⟨_,q,F⟩
  ·exact⟨o,G c o (I.cne x c e) M y g (I.freeC x c e),F⟩
 refine⟨I.ok,I.os,Y,⟨λb o e n f a=>?_,λb o e n f a=>?_,λb o e n a=>?_,λb o e a=>?_,λb xs e=>Z b xs (I.base.tups b xs e),λb o xs e=>U b o xs (I.base.frzs b o xs e),λb ps e=>?_⟩,?_,λx c e=>?_,?_,λx c e=>?_,λp L=>?_,S,I.len⟩
 ·exact G b o (N b o e) f (C b o e a) (I.base.keep b o e n f a) (I.base.free b o e n a)
 ·obtain⟨J,e1⟩:=I.base.slot b o e n f a;obtain⟨a2,j⟩:=K b _ (N b o e) f (C b o e a) e1 (I.base.free b o e n a);exact⟨a2,j⟩
 ·obtain⟨t,e1⟩:=I.base.there b o e a;exact D b t (C b o e a) e1 (I.base.free b o e n a)
 ·obtain⟨t,e1⟩:=I.base.there b o e a;exact there b t (C b o e a) e1
 ·obtain⟨W,e1⟩:=I.base.tbls b ps e;obtain⟨a0,j⟩:=a1 b _ e1;exact⟨W++a0,by rw[j,Array.append_assoc]⟩
 ·obtain⟨m,R,hl⟩:=I.loc;refine⟨m,ns m R,λi x v e1 j T=>?_⟩;obtain⟨u,r,l⟩:=hl i x v e1 j T;refine⟨u,r,?_⟩;rcases l with l|⟨k,c,e,z⟩
  ·exact .inl l
  ·exact .inr ⟨k,c,e,O x c e _ z⟩
 ·obtain⟨v,z⟩:=I.cell x c e;exact⟨v,O x c e v z⟩
 ·obtain⟨m,⟨o,_,_,g,_⟩,_⟩:=I.loc;exact D _ o (λz=>(w _ z).2.1 rfl) g I.free
 ·obtain⟨v,o,g,F⟩:=I.cell x c e;exact D c o (λz=>(w c z).2.2.1 x c e rfl) g (I.freeC x c e)
 ·obtain⟨e,n,ne,P,d⟩:=I.pin p L;have y:p.1∉ch:=λz=>(w p.1 z).2.2.2 p L rfl;exact⟨G p.1 p.2 ne P y e n,D p.1 p.2 y e n,ne,P,d⟩
theorem Inv.un{t':Nat}(I:Inv X pins σ H s)(u:Un X.fs [] H H' s.heap h')(g:HOk X.prog X.w H' h'):Inv X pins σ H' {s with heap:=h',toks:=t'}:=by
 obtain⟨m,⟨o,es,ep,c,r⟩,_⟩:=id I.loc;obtain⟨p,k⟩:=u.any c I.free (by simp);exact I.step (g':=s.gens) (d':=s.drawn) (ch:=[]) (λ_ z=>nomatch z) (λb o _ a _ e n=>u.keep b o e n a (by simp)) (λb o _ a _ e n=>u.slot b o e n a (by simp)) (λb o _ e n=>u.free b o e n (by simp)) (λb o _ e=>u.there b o e (by simp)) u.tups u.frzs u.tbls (λq l=>by
  obtain⟨t,f,i,d,j⟩:=l;rw[c]at d;cases d;exact⟨_,f,i,k,j⟩) g I.bare
theorem Inv.call{g':Array GenState}{t':Nat}{d':Drawn}{ch:LA}(I:Inv X pins σ H s)(u:Un (frs X.stack) ch H H' s.heap h')(k:HOk X.prog X.w H' h')(v:AllBare g')
  (f:∀b∈ch,(b∈X.ex\/X.s₀.heap.objs.size<=b)/\b≠X.env.locals/\(∀x c,X.env.cells.lookup x=some c->c≠b)/\∀p∈X.pn++pins,p.1≠b):
  Inv X pins σ H' {s with heap:=h',gens:=g',drawn:=d',toks:=t'}:=by
 obtain⟨m,⟨o,es,ep,g,r⟩,_⟩:=id I.loc;obtain⟨y,d⟩:=u.any g I.free λz=>(f _ z).2.1 rfl;exact I.step (ch:=ch) f (λb o d q a e n=>u.keep b o e n (λz=>(xM.mp (I.stkSub b z)).elim d q) a) (λb o _ _ a e n=>u.any e n a) (λb o a e n=>u.free b o e n a) (λb o a e=>u.there b o e a) u.tups u.frzs u.tbls (λC w=>by
  obtain⟨D,j,l,i,t⟩:=w;rw[g]at i;cases i;exact⟨_,j,l,d,t⟩) k v
theorem Inv.turned{t':Nat}{a:Addr}(I:Inv X pins σ H s)(k:∀b o,b≠a->s.heap.get? b=some o->h'.get? b=some o)(j:H a=none)(g:a≠X.env.locals)
  (l:a∈X.ex\/X.s₀.heap.objs.size<=a)(y:∀x c,X.env.cells.lookup x=some c->c≠a)(i:∀p∈X.pn++pins,p.1≠a):Inv X pins σ H {s with heap:=h',toks:=t'}:=by
 have f:∀b u,H b=some u->b≠a:=λb u e z=>by rw[z,j]at e;cases e
 refine I.step (g':=s.gens) (d':=s.drawn) (ch:=[a]) (λb C=>?_) (λb o _ _ d e _=>k b o (λz=>d (by simp[z])) e) (λb o _ _ d e _=>⟨o.slots,k b o (λz=>d (by simp[z])) e⟩) (λ_ _ _ _ n=>n)
  (λb o d e=>⟨o,k b o (λz=>d (by simp[z])) e⟩) (λ_ _ e=>e) (λ_ _ _ e=>e) (λb ps e=>⟨#[],by rw[e];simp⟩) (λm w=>?_) (λb u e=>?_) I.bare
 ·have e:b=a:=by simpa using C
  subst e;exact⟨l,g,y,i⟩
 ·obtain⟨o,es,ep,t,r⟩:=w;exact⟨o,es,ep,k _ o (zT g) t,r⟩
 ·refine(I.hok b u e).stay (λc v d q=>k c v ?_ q) (λ_ q=>q) λ_ _ q=>q;rcases d with z|z
  ·rw[z];exact f b u e
  ·exact f c _ z
theorem Inv.tok(I:Inv X pins σ H s)(t:Nat):Inv X pins σ H {s with toks:=t}:=I.un (h':=s.heap) (t':=t) Un.refl I.hok
theorem Inv.kept{t':Nat}(I:Inv X pins σ H s)(k:∀b u,s.heap.get? b=some u->h'.get? b=some u):Inv X pins σ H {s with heap:=h',toks:=t'}:=I.un (Un.kept k) (I.hok.kept k)
theorem Inv.laid{a:Addr}{o:HO}{t':Nat}(I:Inv X pins σ H s)(k:∀b u,s.heap.get? b=some u->h'.get? b=some u)(c:s.heap.objs.size<=a)(new:mI X.prog X.w (upd H a o) h' a o):
  Inv X pins σ (upd H a o) {s with heap:=h',toks:=t'}:=I.un (Un.laid k c (I.hok.fresh c)) (I.hok.laid k c new)
theorem Inv.write{x e:Addr}{o:HO}{t':Nat}(I:Inv X pins σ H s)(d:Mut (H x))(c:e=x\/H e=some (.own x))(k:∀b u,b≠e->s.heap.get? b=some u->h'.get? b=some u)(a:∃u,h'.get? e=some u)
  (new:mI X.prog X.w (upd H x o) h' x o):Inv X pins σ (upd H x o) {s with heap:=h',toks:=t'}:=I.un (Un.write d c k a) (I.hok.write d c k a new)
theorem Inv.pins_of{a:PN}(I:Inv X pins σ H s)(h:∀p∈a,s.heap.get? p.1=some p.2/\H p.1=none/\p.1≠X.env.locals/\p.1∉X.fs/\∀v,p.2.data≠.cell v):Inv X a σ H s:=
 ⟨I.ok,I.os,I.bare,I.base,I.loc,I.cell,I.free,I.freeC,λp b=>(oW.mp b).elim (λz=>I.pin p (xI _ z)) (h p),I.hok,I.len⟩
theorem By{N:List Str}(c:N.Nodup){i j:Nat}{x:Str}(a:N[i]?=some x)(b:N[j]?=some x):i=j:=by
 obtain⟨e,e1⟩:=nF.mp a;obtain⟨f,d⟩:=nF.mp b;exact(List.getElem_inj c).mp (e1.trans d.symm)
theorem Fv{M:Model}{A:Around}{E:VP}{i:Nat}{x:Str}{v:V}{u:Value}{Q:Unit->Shared->Prop}(I:Inv X pins σ H s)(a2:X.N.Nodup)(hi:X.N[i]?=some x)(l:Loc X.env.scope x)(r:RelV v u)
  (h:∀S,Inv X pins (σ.set i (some v)) H S->(∃a,Heap.SameBut a s.heap S.heap/\(a=X.env.locals\/X.env.cells.lookup x=some a))->Q () S)(a9:X.fn x=true\/X.env.scope.names.lookup x=some .local:=by first|exact .inl rfl|exact .inr rfl|assumption):wpAny M A (storeName X.env x u) Q E s:=by
 obtain⟨m,G,hl⟩:=id I.loc;have b0:(X.env.scope.kind == .class || (X.env.scope.kind == .module && X.env.locals != X.env.globals))=false:=by rw[I.ok.kind];rfl
 have W:i<σ.length:=by rw[I.len];exact(nF.mp hi).1
 have cne:=I.cne;have a0:∀{a:Addr}{h':Heap},(∃o,s.heap.get? a=some o/\H a=none)->Heap.SameBut a s.heap h'->HOk X.prog X.w H h':=λ{a h'}a8 f b b6 e=>by
  obtain⟨_,_,Z⟩:=a8;refine(I.hok b b6 e).stay (λc w' g q=>(f.2 c ?_).trans q) (λ_ q=>q) λ_ _ q=>q;rintro rfl;rcases g with rfl|g
  ·rw[Z]at e;cases e
  ·rw[Z]at g;cases g
 rcases l with w|w
 ·refine wpAny_storeName_local w G (λh' b1 f=>?_) b0;obtain⟨b4,_,_,a5,_⟩:=id G;refine h _ ⟨I.ok,I.os,I.bare,⟨λb o e n D l=>?_,λb o e n D l=>?_,I.base.free,λb o e l=>?_,I.base.tups,I.base.frzs,I.base.tbls⟩,⟨_,b1,λj y L e1 t K=>?_⟩,λy c e=>?_,I.free,I.freeC,λp O=>?_,a0 ⟨b4,a5,I.free⟩ f,by simpa using I.len⟩ ⟨_,f,.inl rfl⟩
  ·exact(f.2 b (zW (zP (zK e) I.ok.above))).trans (I.base.keep b o e n D l)
  ·obtain⟨R,e1⟩:=I.base.slot b o e n D l;exact⟨R,(f.2 b (zW (zP (zK e) I.ok.above))).trans e1⟩
  ·obtain⟨P,e1⟩:=I.base.there b o e l;exact⟨P,(f.2 b (zW (zP (zK e) I.ok.above))).trans e1⟩
  ·by_cases C:j=i
   ·subst C;rw[hi]at e1;cases e1;rw[xR W]at t;cases t;exact⟨u,r,.inl ⟨w,by simp⟩⟩
   ·rw[vY (zT C)]at t;obtain⟨N,U,q⟩:=hl j y L e1 t K;refine⟨N,U,?_⟩;rcases q with⟨k,e⟩|⟨k,c,e,z⟩
    ·refine .inl ⟨k,?_⟩;have:y≠x:=λe=>C (By a2 e1 (e ▸ hi));simp[this,e]
    ·exact .inr ⟨k,c,e,z.sameBut f (cne y c e)⟩
  ·obtain⟨w',z⟩:=I.cell y c e;exact⟨w',z.sameBut f (cne y c e)⟩
  ·obtain⟨e,n,ne,T,d⟩:=I.pin p O;exact⟨(f.2 p.1 ne).trans e,n,ne,T,d⟩
 ·have J:X.fn x=true:=by
   rcases a9 with z|z
   ·exact z
   ·rw[z]at w;cases w
  obtain⟨c,g⟩:=I.ok.has x (.inl w);obtain⟨w',z⟩:=I.cell x c g;refine wpAny_storeName_cell I.ok.kind w g z (λh' a3 f=>?_);obtain⟨a1,Y,b3⟩:=id z;refine h {s with heap:=h'} ⟨I.ok,I.os,I.bare,⟨λb o e n D l=>?_,λb o e n D l=>?_,I.base.free,λb o e l=>?_,I.base.tups,I.base.frzs,I.base.tbls⟩,⟨m,G.sameBut f (zT (cne x c g)),λj y L e1 t K=>?_⟩,λy F e=>?_,I.free,I.freeC,λp O=>?_,a0 ⟨a1,Y,I.freeC x c g⟩ f,by simpa using I.len⟩ ⟨c,f,.inr g⟩
  ·exact(f.2 b (zW (zP (zK e) (I.ok.cab x c J g)))).trans (I.base.keep b o e n D l)
  ·obtain⟨R,e1⟩:=I.base.slot b o e n D l;exact⟨R,(f.2 b (zW (zP (zK e) (I.ok.cab x c J g)))).trans e1⟩
  ·obtain⟨P,e1⟩:=I.base.there b o e l;exact⟨P,(f.2 b (zW (zP (zK e) (I.ok.cab x c J g)))).trans e1⟩
  ·by_cases C:j=i
   ·subst C;rw[hi]at e1;cases e1;rw[xR W]at t;cases t;exact⟨u,r,.inr ⟨.inl w,c,g,a3⟩⟩
   ·rw[vY (zT C)]at t;obtain⟨N,U,q⟩:=hl j y L e1 t K;refine⟨N,U,?_⟩;rcases q with q|⟨k,F,e,b2⟩
    ·exact .inl q
    ·refine .inr ⟨k,F,e,b2.sameBut f ?_⟩;rintro rfl;exact C (By a2 e1 (I.ok.inj _ _ _ e g ▸ hi))
  ·by_cases a4:F=c
   ·subst a4;exact⟨_,a3⟩
   ·obtain⟨a6,a7⟩:=I.cell y F e;exact⟨a6,a7.sameBut f a4⟩
  ·obtain⟨e,n,ne,T,d⟩:=I.pin p O;refine⟨(f.2 p.1 ?_).trans e,n,ne,T,d⟩;intro q;rw[q,Y]at e;have b5:a1=p.2:=zZ e;exact d w' (by rw[←b5];exact b3)
theorem fE{M:Model}{A:Around}{E:VP}{i:Nat}{x:Str}{v:V}{u:Value}{Q:Unit->Shared->Prop}(I:Inv X pins σ H s)(c:X.N.Nodup)(hi:X.N[i]?=some x)(b:Loc X.env.scope x)(r:RelV v u)
  (h:∀a,Inv X pins (σ.set i (some v)) H a->Q () a)(d:X.fn x=true\/X.env.scope.names.lookup x=some .local:=by first|exact .inl rfl|exact .inr rfl|assumption):wpAny M A (storeName X.env x u) Q E s:=
 Fv I c hi b r (λa e _=>h a e) d
theorem Inv.call'{a:Shared}{ch:LA}(I:Inv X pins σ H s)(f:a.os=s.os)(u:Un (frs X.stack) ch H H' s.heap a.heap)(d:HOk X.prog X.w H' a.heap)(g:AllBare a.gens)
  (j:∀b∈ch,(b∈X.ex\/X.s₀.heap.objs.size<=b)/\b≠X.env.locals/\(∀x c,X.env.cells.lookup x=some c->c≠b)/\∀p∈X.pn++pins,p.1≠b):Inv X pins σ H' a:=by
 obtain⟨h',g',d',t',i⟩:=a;have e:i=s.os:=f;subst e;exact I.call (g':=g') (t':=t') (d':=d') u d g j
end
abbrev XK:=Value->Option Addr->Hp->Prop
abbrev St:=List (Option V)
abbrev VK:=V->Hp->Prop
abbrev TE:=St->Hp->VK->Prop
abbrev TT:=St->Hp->(Bool->Hp->Prop)->Prop
abbrev TA:=St->Hp->(List V->Hp->Prop)->Prop
structure Ends where
 nx:St->Hp->Prop
 rt:VK
 bk:St->Hp->Prop:=λ_ _=>False
 ct:St->Hp->Prop:=λ_ _=>False
abbrev TS:=Ends->St->Hp->Prop
def EP(X:Cx)(pins:PN)(σ:St)(Q:VK)(u:Value)(s':Shared):Prop:=∃v H',Inv X pins σ H' s'/\RelV v u/\Q v H'
def TP(X:Cx)(pins:PN)(σ:St)(Q:Bool->Hp->Prop)(b:Bool)(s':Shared):Prop:=∃H',Inv X pins σ H' s'/\Q b H'
def AP(X:Cx)(pins:PN)(σ:St)(Q:List V->Hp->Prop)(us:LW)(s':Shared):Prop:=∃vs H',Inv X pins σ H' s'/\Vals vs us/\Q vs H'
def SP(X:Cx)(pins:PN)(D:Ends)(f:Flow)(s':Shared):Prop:=
 match f with
 |.next=>∃σ' H',Inv X pins σ' H' s'/\D.nx σ' H'
 |.brk=>∃σ' H',Inv X pins σ' H' s'/\D.bk σ' H'
 |.cont=>∃σ' H',Inv X pins σ' H' s'/\D.ct σ' H'
 |.ret u=>∃v σ' H',Inv X pins σ' H' s'/\RelV v u/\D.rt v H'
def PE(X:Cx)(e:Expr)(t:TE):Prop:=
 ∀(pins:PN)(s:Shared)(σ:St)(H:Hp)(Q:VK),Inv X pins σ H s->t σ H Q->wpAny (model X.prog X.w) X.A (eval e X.env) (EP X pins σ Q) X.xe s
def PT(X:Cx)(e:Expr)(t:TT):Prop:=
 ∀(pins:PN)(s:Shared)(σ:St)(H:Hp)(Q:Bool->Hp->Prop),Inv X pins σ H s->t σ H Q->wpAny (model X.prog X.w) X.A (isTrue e X.env (eval e X.env)) (TP X pins σ Q) X.xe s
def PW(X:Cx)(e:Expr)(t:TT):Prop:=
 ∀(whole:Sem Value)(pins:PN)(s:Shared)(σ:St)(H:Hp)(Q:Bool->Hp->Prop),Inv X pins σ H s->t σ H Q->wpAny (model X.prog X.w) X.A (isTrue e X.env whole) (TP X pins σ Q) X.xe s
theorem PW.pt{X:Cx}{e:Expr}{t:TT}(h:PW X e t):PT X e t:=h _
def PA(X:Cx)(es:List Expr)(t:TA):Prop:=
 ∀(pos:Pos)(pins:PN)(s:Shared)(σ:St)(H:Hp)(Q:List V->Hp->Prop),Inv X pins σ H s->t σ H Q->wpAny (model X.prog X.w) X.A (spliced (backTo pos (starEach es X.env))) (AP X pins σ Q) X.xe s
def PS(X:Cx)(st:Stmt)(t:TS):Prop:=
 ∀(pins:PN)(s:Shared)(σ:St)(H:Hp)(D:Ends),Inv X pins σ H s->t D σ H->wpAny (model X.prog X.w) X.A (exec st X.env) (SP X pins D) X.xe s
def PSs(X:Cx)(st:List Stmt)(t:TS):Prop:=
 ∀(pins:PN)(s:Shared)(σ:St)(H:Hp)(D:Ends),Inv X pins σ H s->t D σ H->wpAny (model X.prog X.w) X.A (execs st X.env) (SP X pins D) X.xe s
theorem thn{b:Type}{c:Sem b}{Q d:b->Shared->Prop}{M:Model}{A:Around}{E:VP}{s:Shared}(h:wpAny M A c Q E s)(e:∀a s,Q a s->d a s):wpAny M A c d E s:=yQ h e λ_ _ x=>x
section
variable {X:Cx}
def tVar(i:Nat):TE:=λσ H Q=>∃v,σ[i]?=some (some v)/\Q v H
def tC(v:V):TE:=λ_ H Q=>Q v H
theorem Md{i:Nat}{x:Str}{p:Pos}(k:X.N[i]?=some x)(q:Vis X.env.scope x)(b:(x == ("__debug__" :Str))=false:=by decide)(j:(x == ("__classdict__" :Str))=false:=by decide):PE X (.Name x p) (tVar i):=by
 intro t s n H Q I h;obtain⟨v,e,h⟩:=h;obtain⟨m,o,hl⟩:=I.loc;obtain⟨u,r,l⟩:=hl i x v k e q;have d:EP X t n Q u s:=⟨v,H,I,r,h⟩;rcases l with⟨a,w⟩|⟨a,c,f,g⟩
 ·exact wpAny_Name (wpAny_loadName_local I.ok.kind a o w d) b
 ·rcases a with a|a
  ·exact wpAny_Name (wpAny_loadName_cell I.ok.kind a f g d) b
  ·exact wpAny_Name (wpAny_loadName_free I.ok.kind a f g d j) b
theorem nK{i j a}:PE X (.Constant (.int i) j a) (tC (.int i)):=λ_ _ _ H _ I h=>wpAny_Constant_int ⟨.int i,H,I.tok _,⟨_,rfl⟩,h⟩
theorem lF{b j a}:PE X (.Constant (.bool b) j a) (tC (.bl b)):=λ_ _ _ H _ I h=>Constant_bool ⟨.bl b,H,I,rfl,h⟩
theorem Bx{j a}:PE X (.Constant .none j a) (tC .non):=λ_ _ _ H _ I h=>Constant_none ⟨.non,H,I,rfl,h⟩
theorem iJ{x j a}:PE X (.Constant (.str x) j a) (tC (.str x)):=λ_ _ _ H _ I h=>Calls.Constant_str ⟨.str x,H,I.tok _,⟨_,rfl⟩,h⟩
def Gl(X:Cx)(x:Str):Prop:=X.env.kindOf x=some .globalImplicit
theorem iV{E:VP}{d:PN}{s:Shared}{a:St}{H:Hp}{x:Str}{u:Value}{b:Pos}{Q:VP}(I:Inv X d a H s)(e:Gl X x)(f:X.mg x=some u)(h:Q u s)
  (c:(x == ("__debug__" :Str))=false:=by decide):wpAny (model X.prog X.w) X.A (eval (.Name x b) X.env) Q E s:=
 Calls.Name_function_global I.ok.kind e (Calls.loadGlobal_global (by rw[I.ok.glob];exact I.mod.glob.keeps I.bk) f h) c
theorem gL{E:VP}{g:PN}{s:Shared}{a:St}{H:Hp}{x:Str}{u:Value}{c:Pos}{Q:VP}(I:Inv X g a H s)(i:Gl X x)(j:X.mg x=none)(f:bootBuiltins x=some u)(h:Q u s)
  (b:x≠"__name__" := by decide)(d:(x == ("__debug__" :Str))=false:=by decide):wpAny (model X.prog X.w) X.A (eval (.Name x c) X.env) Q E s:=by
 obtain⟨l,e,k⟩:=I.mod.blt;exact Calls.Name_function_global I.ok.kind i (Calls.loadGlobal_builtin (by rw[I.ok.glob];exact I.mod.glob.keeps I.bk) j (by rw[I.ok.blt];exact e.keeps I.bk) ((k x b).trans f) h) d
theorem fY{x:Str}{v:V}{u:Value}{c:Pos}(a:Gl X x)(b:X.mg x=some u)(r:RelV v u)(d:(x == ("__debug__" :Str))=false:=by decide):PE X (.Name x c) (tC v):=
 λ_ _ _ H _ I h=>iV I a b ⟨v,H,I,r,h⟩ d
theorem jD{x:Str}{v:V}{u:Value}{b:Pos}(e:Gl X x)(f:X.mg x=none)(d:bootBuiltins x=some u)(r:RelV v u)(a:x≠"__name__" := by decide)(c:(x == ("__debug__" :Str))=false:=by decide):PE X (.Name x b) (tC v):=
 λ_ _ _ H _ I h=>gL I e f d ⟨v,H,I,r,h⟩ a c
variable {a b:Expr} {ta tb:TE} {pos:Pos}
def tB(t:TE):TT:=λσ H Q=>t σ H λx H1=>∃c,x=.bl c/\Q c H1
theorem lP{e:Expr}{c:TE}(h:PE X e c)(m:∀f,isTrue e X.env f=(do let v ←f;standAt e.pos;holding [v] (truthy v)):=by intro _;rfl):PT X e (tB c):=by
 intro j s g H Q I i;refine isTrue_plain (thn (h j s g H _ I i) λv o⟨x,l,n,r1,k⟩=>?_) (m _);obtain⟨d,rfl,q⟩:=k;cases r1;exact uX ⟨l,n,q⟩
variable {tA tB':TT} {rest:List Expr}
def tAnd(t u:TT):TT:=λσ H Q=>t σ H λc H1=>if c=true then u σ H1 Q else Q false H1
def tOr(t u:TT):TT:=λσ H Q=>t σ H λc H1=>if c=true then Q true H1 else u σ H1 Q
def tNot(t:TT):TT:=λσ H Q=>t σ H λc H1=>Q (!c) H1
theorem Fu(d:PT X a tA):PW X (.BoolOp .And [a] pos) tA:=by
 intro i g s f H Q I h;refine isTrue_and (thn (d g s f H Q I h) λc j e=>?_);cases c with
 |true=>exact isTrue_and_nil e
 |false=>exact e
theorem kN(d:PT X a tA):PW X (.BoolOp .Or [a] pos) tA:=by
 intro i g s f H Q I h;refine isTrue_or (thn (d g s f H Q I h) λc j e=>?_);cases c with
 |false=>exact isTrue_or_nil e
 |true=>exact e
theorem Ft(l:PT X a tA)(m:PW X (.BoolOp .And (b:: rest) pos) tB'):PW X (.BoolOp .And (a:: b:: rest) pos) (tAnd tA tB'):=by
 intro j f s e H Q I h;refine isTrue_and (thn (l f s e H _ I h) λc k⟨d,i,g⟩=>?_);cases c with
 |true=>exact m j f k e d Q i g
 |false=>exact⟨d,i,g⟩
theorem lU(l:PT X a tA)(m:PW X (.BoolOp .Or (b:: rest) pos) tB'):PW X (.BoolOp .Or (a:: b:: rest) pos) (tOr tA tB'):=by
 intro j f s e H Q I h;refine isTrue_or (thn (l f s e H _ I h) λc k⟨d,i,g⟩=>?_);cases c with
 |true=>exact⟨d,i,g⟩
 |false=>exact m j f k e d Q i g
theorem kO(f:PT X a tA):PT X (.UnaryOp .Not a pos) (tNot tA):=by
 intro g s d H Q I h;exact isTrue_not (f g s d H (λc e=>Q (!c) e) I h)
def Mc(ta tb:TE):TE:=λσ H Q=>ta σ H λx H1=>∃c,x=.bl c/\if c=true then tb σ H1 Q else Q (.bl false) H1
def tOrV(ta tb:TE):TE:=λσ H Q=>ta σ H λx H1=>∃c,x=.bl c/\if c=true then Q (.bl true) H1 else tb σ H1 Q
def Mb(ta:TE):TE:=λσ H Q=>ta σ H λx H1=>∃c,x=.bl c/\Q (.bl (!c)) H1
theorem Bw{op}{c:TE}(h:PE X a c):PE X (.BoolOp op [a] pos) c:=λf s e H Q I d=>BoolOp_one (h f s e H Q I d)
theorem Bv(k:PE X a ta)(l:PE X (.BoolOp .And (b:: rest) pos) tb):PE X (.BoolOp .And (a:: b:: rest) pos) (Mc ta tb):=by
 intro g s f H Q I h;refine BoolOp_and (thn (k g s f H _ I h) λv j⟨x,e,i,r1,d⟩=>?_);obtain⟨c,rfl,d⟩:=d;cases r1;refine uX ?_;cases c with
 |true=>exact l g j f e Q i d
 |false=>exact⟨.bl false,e,i,rfl,d⟩
theorem Ma(f:PE X a ta):PE X (.UnaryOp .Not a pos) (Mb ta):=by
 intro i s g H Q I h;refine UnaryOp_ (thn (f i s g H _ I h) λv k⟨x,e,j,r1,d⟩=>?_);obtain⟨c,rfl,d⟩:=d;cases r1;exact not_of (uX ⟨.bl (!c),e,j,rfl,d⟩)
def tIf(t:TT)(ta tb:TE):TE:=λσ H Q=>t σ H λc H1=>if c=true then ta σ H1 Q else tb σ H1 Q
theorem Nz{c:Expr}(l:PT X c tA)(m:PE X a ta)(n:PE X b tb):PE X (.IfExp c a b pos) (tIf tA ta tb):=by
 intro f s e H Q I h;refine wpAny_IfExp (thn (l f s e H _ I h) λd g⟨i,k,j⟩=>?_);cases d with
 |true=>exact m f g e i Q k j
 |false=>exact n f g e i Q k j
end
def SqL(K:Frag)(H:Hp)(a:Addr)(xs:List V):Prop:=
 Rd H a (.lst xs) \/
  ∃(o:Obj)(its:Array Value)(n:Nat),K.lookup a=some o/\o.cls=.type "list" /\ o.dict=none/\o.data=.seq its n/\its.size<=sizeLine/\Vals xs its.toList
def SqT(K:Frag)(H:Hp)(a:Addr)(xs:List V):Prop:=
 Rd H a (.tup xs) \/
  ∃(o:Obj)(its:Array Value)(n:Nat),K.lookup a=some o/\o.cls=.type "tuple" /\ o.data=.seq its n/\its.size<=sizeLine/\Vals xs its.toList
def absV:Value->Option V
 |.none=>some .non
 |.bool b=>some (.bl b)
 |.int i _=>some (.int i)
 |.str x _=>some (.str x)
 |.bytes b _=>some (.byt b)
 |.float b _=>some (.flt b)
 |.ref a=>some (.ref a)
 |.type n=>some (.ty n)
 |_=>none
theorem RelV.abs{x:V}{u:Value}(r:RelV x u):absV u=some x:=by
 cases x with
 |non=>cases r;rfl
 |bl _=>cases r;rfl
 |int _=>obtain⟨t,rfl⟩:=r;rfl
 |str _=>obtain⟨t,rfl⟩:=r;rfl
 |byt _=>obtain⟨t,rfl⟩:=r;rfl
 |flt _=>obtain⟨t,rfl⟩:=r;rfl
 |ref _=>cases r;rfl
 |ty _=>cases r;rfl
theorem RelV.inj{x y:V}{u:Value}(r:RelV x u)(q:RelV y u):x=y:=zZ (r.abs.symm.trans q.abs)
theorem Vals.inj:∀{xs ys:List V}{us:LW},Vals xs us->Vals ys us->xs=ys
 |_,_,_,.nil,.nil=>rfl
 |_,_,_,.cons r a,.cons b t'=>by rw[r.inj b,Vals.inj a t']
section
variable {X:Cx} {pins:PN} {σ:St} {H:Hp} {s:Shared} {a:Addr} {xs ys:List V}
theorem SqL.of{K:Frag}(h:H a=some (.lst xs)):SqL K H a xs:=.inl (.inl h)
theorem SqT.of{K:Frag}(h:H a=some (.tup xs)):SqT K H a xs:=.inl (.inl h)
theorem Inv.list(I:Inv X pins σ H s)(h:SqL X.K H a xs):∃its:LW,Vals xs its/\PlainL s.heap a its.toArray/\xs.length<=sizeLine:=by
 rcases h with h|⟨o,its,n,f,b,c,d,g,r⟩
 ·obtain⟨z,its,n,r,e⟩:=h.ok I.hok;exact⟨its,r,⟨_,n,e,rfl,rfl,rfl⟩,z⟩
 ·refine⟨its.toList,r,⟨o,n,I.kIn a o f,b,c,by simpa using d⟩,?_⟩;have e:=r.length;simp only[Array.length_toList]at e;omega
theorem Inv.tuple(I:Inv X pins σ H s)(h:SqT X.K H a xs):∃its:LW,Vals xs its/\IsTup s.heap a its.toArray/\xs.length<=sizeLine:=by
 rcases h with h|⟨o,its,n,c,b,d,f,r⟩
 ·obtain⟨z,its,r,p⟩:=h.ok I.hok;exact⟨its,r,p,z⟩
 ·refine⟨its.toList,r,⟨o,I.kIn a o c,b,n,by simpa using d⟩,?_⟩;have e:=r.length;simp only[Array.length_toList]at e;omega
theorem Inv.list_inj(I:Inv X pins σ H s)(h:SqL X.K H a xs)(h':SqL X.K H a ys):xs=ys:=by
 obtain⟨its,r,⟨o,n,e,_,_,d⟩,_⟩:=I.list h;obtain⟨its',f,⟨i,g,b,_,_,d'⟩,_⟩:=I.list h';rw[e]at b;cases b;rw[d]at d';injection d' with c _;have:its=its':=by simpa using vA Array.toList c
 subst this;exact r.inj f
theorem Inv.tuple_inj(I:Inv X pins σ H s)(h:SqT X.K H a xs)(h':SqT X.K H a ys):xs=ys:=by
 obtain⟨its,r,⟨o,e,_,n,d⟩,_⟩:=I.tuple h;obtain⟨its',f,⟨i,b,_,g,d'⟩,_⟩:=I.tuple h';rw[e]at b;cases b;rw[d]at d';injection d' with c _;have:its=its':=by simpa using vA Array.toList c
 subst this;exact r.inj f
end
abbrev Cx.wish(X:Cx)(E:VP):Cx:={X with xe:=E}
abbrev Cx.nox(X:Cx):Cx:=X.wish λ_ _=>False
theorem Cx.Ok.wish{X:Cx}(ok:X.Ok)(E:VP):(X.wish E).Ok:=
 ⟨ok.mod,ok.kind,ok.glob,ok.blt,ok.above,ok.inj,ok.has,ok.cab,ok.hd,ok.frames,ok.stk,ok.exf,ok.bs,ok.bsz,ok.noex,ok.exfs,ok.funs,ok.frf⟩
theorem Cx.Ok.unwish{X:Cx}{E:VP}(ok:(X.wish E).Ok):X.Ok:=
 ⟨ok.mod,ok.kind,ok.glob,ok.blt,ok.above,ok.inj,ok.has,ok.cab,ok.hd,ok.frames,ok.stk,ok.exf,ok.bs,ok.bsz,ok.noex,ok.exfs,ok.funs,ok.frf⟩
section
variable {X:Cx} {pins:PN} {σ:St} {H:Hp} {s:Shared} {E:VP}
theorem Inv.wish(I:Inv X pins σ H s)(E:VP):Inv (X.wish E) pins σ H s:=⟨I.ok.wish E,I.os,I.bare,I.base,I.loc,I.cell,I.free,I.freeC,I.pin,I.hok,I.len⟩
theorem Inv.unwish(I:Inv (X.wish E) pins σ H s):Inv X pins σ H s:=⟨I.ok.unwish,I.os,I.bare,I.base,I.loc,I.cell,I.free,I.freeC,I.pin,I.hok,I.len⟩
theorem SP.unwish{D:Ends}{f:Flow}{b:Shared}(h:SP (X.wish E) pins D f b):SP X pins D f b:=by
 cases f with
 |next=>obtain⟨a,H',I,q⟩:=h;exact⟨a,H',I.unwish,q⟩
 |brk=>obtain⟨a,H',I,q⟩:=h;exact⟨a,H',I.unwish,q⟩
 |cont=>obtain⟨a,H',I,q⟩:=h;exact⟨a,H',I.unwish,q⟩
 |ret u=>obtain⟨v,a,H',I,r,q⟩:=h;exact⟨v,a,H',I.unwish,r,q⟩
theorem PSs.nox{st:List Stmt}{a:TS}(h:PSs X.nox st a):PSs X st a:=λpins s σ H D I b =>
 yQ (h pins s σ H D (I.wish _) b) (λ_ _ q=>q.unwish) λ_ _ z=>False.elim z
end
section
variable {X:Cx} {st:Stmt} {rest:List Stmt} {t u:TS} {e:Expr} {te:TE} {pos:Pos}
def Ny:TS:=λD σ H=>D.nx σ H
def tSeq(t u:TS):TS:=λD σ H=>t {D with nx:=u D} σ H
theorem mE:PSs X [] Ny:=λ_ _ a H _ I h=>sD ⟨a,H,I,h⟩
theorem nJ(d:PS X st t)(i:PSs X rest u):PSs X (st:: rest) (tSeq t u):=by
 intro a s c H D I h;refine wpAny_execs_cons (thn (d a s c H {D with nx:=u D} I h) λf b q=>?_);cases f with
 |next =>
  obtain⟨g,H',j,q⟩:=q;exact i a b g H' D j q
 |ret v=>exact q
 |brk=>exact q
 |cont=>exact q
theorem nM(a:PS X st t):PSs X [st] t:=by
 intro c s b H D I h;refine wpAny_execs_cons (thn (a c s b H D I h) λf d q=>?_);cases f with
 |next=>exact sD q
 |ret v=>exact q
 |brk=>exact q
 |cont=>exact q
theorem Inv.quiet{b:PN}{a:St}{H:Hp}{s:Shared}(I:Inv X b a H s):interactive X.env=false:=by simp[interactive,I.ok.kind]
def Fs(te:TE):TS:=λD σ H=>te σ H λ_ H1=>D.nx σ H1
theorem gM(g:PE X e te)(d:swapsWith e none pos.line X.env=pure false:=by rfl):PS X (.Expr e pos) (Fs te):=by
 intro c s a H D I h;exact wpAny_Expr_any (thn (g c s a H _ I h) λv j⟨x,b,i,r1,f⟩=>⟨a,b,i,f⟩) I.quiet d
def tRet(te:TE):TS:=λD σ H=>te σ H D.rt
theorem nV(f:PE X e te):PS X (.Return (some e) pos) (tRet te):=by
 intro c s a H D I h;exact wpAny_Return_some (thn (f c s a H _ I h) λv i⟨x,b,g,r1,d⟩=>⟨x,a,b,g,r1,d⟩)
def t_U:TS:=λD _ H=>D.rt .non H
def tIfS(c:TT)(t u:TS):TS:=λD σ H=>c σ H λb H1=>if b=true then t D σ H1 else u D σ H1
theorem mF{c:Expr}{a b:List Stmt}{j:TT}(n:PT X c j)(o:PSs X a t)(p:PSs X b u):PS X (.If c a b pos) (tIfS j t u):=by
 intro g s f H D I h;refine wpAny_If (thn (n g s f H _ I h) λd i⟨l,m,k⟩=>?_);cases d with
 |true=>exact o g i f l D m k
 |false=>exact p g i f l D m k
def Nx:TS:=λ_ _ _=>False
theorem Nw{a:List Stmt}:PSs X a Nx:=λ_ _ _ _ _ _ h=>h.elim
end
abbrev TG:=V->St->Hp->(St->Hp->Prop)->Prop
abbrev TGs:=List V->St->Hp->(St->Hp->Prop)->Prop
def PG(X:Cx)(target:Expr)(t:TG):Prop:=
 ∀(pins:PN)(s:Shared)(σ:St)(H:Hp)(v:V)(u:Value)(Q:St->Hp->Prop),Inv X pins σ H s->RelV v u->t v σ H Q ->
  wpAny (model X.prog X.w) X.A (assign target X.env u) (λ_ s'=>∃σ' H',Inv X pins σ' H' s'/\Q σ' H') X.xe s
def PGs(X:Cx)(ts:List Expr)(t:TGs):Prop:=
 ∀(pins:PN)(s:Shared)(σ:St)(H:Hp)(vs:List V)(us:LW)(Q:St->Hp->Prop),Inv X pins σ H s->Vals vs us->t vs σ H Q ->
  wpAny (model X.prog X.w) X.A (assignInOrder ((assignEach ts X.env).map (·.2)) us) (λ_ s'=>∃σ' H',Inv X pins σ' H' s'/\Q σ' H') X.xe s
abbrev TSet:=V->V->V->Hp->(Hp->Prop)->Prop
def PSet(X:Cx)(t:TSet):Prop:=
 ∀(pins:PN)(s:Shared)(σ:St)(H:Hp)(o i v:V)(ov iv u:Value)(Q:Hp->Prop),Inv X pins σ H s->RelV o ov->RelV i iv->RelV v u->t o i v H Q ->
  wpAny (model X.prog X.w) X.A (setItem ov iv u) (λ_ s'=>∃H',Inv X pins σ H' s'/\Q H') X.xe s
abbrev TIp:=V->V->Hp->VK->Prop
def PIp(X:Cx)(op:Operator)(t:TIp):Prop:=
 ∀(pins:PN)(s:Shared)(σ:St)(H:Hp)(x y:V)(v u:Value)(Q:VK),Inv X pins σ H s->RelV x v->RelV y u->t x y H Q ->
  wpAny (model X.prog X.w) X.A (inplaceOp op v u) (EP X pins σ Q) X.xe s
section
variable {X:Cx} {pos:Pos}
def nX(i:Nat):TG:=λv σ H Q=>Q (σ.set i (some v)) H
theorem mP{i:Nat}{x:Str}(b:X.N.Nodup)(hi:X.N[i]?=some x)(a:Loc X.env.scope x)(c:X.fn x=true\/X.env.scope.names.lookup x=some .local:=by first|exact .inl rfl|exact .inr rfl|assumption):PG X (.Name x pos) (nX i):=by
 intro g s e H v u Q I r h;exact wpAny_assign_Name (fE I b hi a r (λf d=>⟨_,H,d,h⟩) c)
def gNil:TGs:=λvs σ H Q=>vs=[]/\Q σ H
def kC(t:TG)(u:TGs):TGs:=λvs σ H Q=>∃v r,vs=v:: r/\t v σ H λσ' H'=>u r σ' H' Q
theorem gN:PGs X [] gNil:=by
 intro b s a H vs us Q I r h;obtain⟨e,h⟩:=h;subst e;cases r;exact assignInOrder_nil ⟨a,H,I,h⟩
theorem kP{e:Expr}{es:List Expr}{a:TG}{u:TGs}(i:PG X e a)(m:PGs X es u)
  (k:(assignEach (e:: es) X.env).map (·.2)=assign e X.env:: (assignEach es X.env).map (·.2):=by rfl):PGs X (e:: es) (kC a u):=by
 intro b s f H vs us Q I r h;obtain⟨v,o,e1,h⟩:=h;subst e1;cases r with
 |cons r j =>
  rw[k];refine qK (thn (i b s f H _ _ _ I r h) λ_ d⟨g,c,n,l⟩=>?_);exact m b d g c _ _ Q n j l
def gTup(K:Frag)(n:Nat)(t:TGs):TG:=λv σ H Q=>∃a xs,v=.ref a/\SqT K H a xs/\xs.length=n/\t xs σ H Q
theorem gO{es:List Expr}{k:Nat}{f:TGs}{n:Nat}(l:X.calm=true)(h:PGs X es f)
  (q:(assignEach es X.env).length=n:=by rfl)(t:(assignEach es X.env).findIdx? (·.1)=none:=by rfl):PG X (.Tuple es k pos) (gTup X.K n f):=by
 intro i s g H v u Q I r c;obtain⟨a,xs,e1,p,hl,c⟩:=c;subst e1;cases r;obtain⟨its,d,m,x⟩:=I.tuple p;refine assign_Tuple_tuple (I.ok.hd l) m (by simp[q,←hl,d.length]) t λh' j=>?_;have w:Inv X i g H {s with heap:=h'}:=I.kept (t':=s.toks) λb o e=>j b o (zW (zK e)) e;exact h i _ g H xs _ Q w (by simpa using d) c
def gSub(to ti:TE)(t:TSet):TG:=λv σ H Q=>to σ H λo H1=>ti σ H1 λi H2=>t o i v H2 λH3=>Q σ H3
theorem iE{o i:Expr}{g e:TE}{f:TSet}(G:PE X o g)(hi:PE X i e)(t:PSet X f)
  (q:∀v,assign (.Subscript o i pos) X.env v=(do
   let a ←holding [v] (eval o X.env)
   let b ←holding [v,a] (eval i X.env)
   standAt pos
   holding [v,a,b] (setItem a b v)
   release [v,a,b] []):=by intro _;rfl):PG X (.Subscript o i pos) (gSub g e f):=by
 intro d s c H v u Q I r h;rw[q];refine zA (yN (thn (G d s c H _ I h) λa n⟨x,l,z,r1,w⟩=>?_));refine zA (yN (thn (hi d n c l _ z w) λb j⟨y,k,D,r2,m⟩=>?_));refine zA (wF (zA (yN (thn (t d j c k x y v a b u _ D r1 r2 r m) λ_ J⟨C,F,p⟩=>?_))));exact wpAny_release ⟨c,C,F,p⟩
def tAsg(te:TE)(g:TG):TS:=λD σ H=>te σ H λx H1=>g x σ H1 D.nx
theorem jS{a e:Expr}{te:TE}{g:TG}(n:PE X e te)(k:PG X a g)(j:swapsWithSole [a] e pos.line X.env=pure false:=by rfl)(i:swappedStores [a] e X.env=pure none:=by rfl)
  (f:(assignEach [a] X.env).map (·.2)=[assign a X.env]:=by rfl):PS X (.Assign [a] e pos) (tAsg te g):=by
 intro c s b H D I h;refine wpAny_Assign_stores (thn (n c s b H _ I h) λv d⟨x,m,o,r1,l⟩=>?_) j i;rw[f];exact thn (k c d b m x v _ o r1 l) λ_ p q=>q
theorem nU{i:Nat}{x:Str}{e:Expr}{te:TE}{a:Pos}(c:X.N.Nodup)(hi:X.N[i]?=some x)(b:Loc X.env.scope x)(n:PE X e te)(k:swapsWith e (some (.Name x a)) pos.line X.env=pure false:=by rfl)(f:X.fn x=true\/X.env.scope.names.lookup x=some .local:=by first|exact .inl rfl|exact .inr rfl|assumption):
  PS X (.Assign [.Name x a] e pos) (tAsg te (nX i)):=by
 intro j s d H D I h;refine wpAny_Assign_Name (thn (n j s d H _ I h) λv p⟨y,m,o,r1,l⟩=>?_) k;exact fE o c hi b r1 (λq g=>⟨_,m,g,l⟩) f
def tPar(i j:Nat)(ta:TA):TS:=λD σ H=>ta σ H λvs H1=>∃v w,vs=[v,w]/\D.nx ((σ.set i (some v)).set j (some w)) H1
theorem Nv{i j:Nat}{x y:Str}{a b:Expr}{t:TA}{g n pt:Pos}{k k2 m}(R:X.calm=true)(C:X.N.Nodup)(hi:X.N[i]?=some x)(P:X.N[j]?=some y)(M:i≠j)
  (z:X.env.scope.names.lookup x=some .local)(G:X.env.scope.names.lookup y=some .local)(N:PA X [a,b] t)
  (Z:swappedStores [.Tuple [.Name x g,.Name y n] k pt] (.Tuple [a,b] k2 m) X.env=pure (some [x,y]))
  (S:swapsWithSole [.Tuple [.Name x g,.Name y n] k pt] (.Tuple [a,b] k2 m) pos.line X.env=pure false:=by rfl):
  PS X (.Assign [.Tuple [.Name x g,.Name y n] k pt] (.Tuple [a,b] k2 m) pos) (tPar i j t):=by
 intro u s F H D I h;rw[exec_Assign_arm];refine zA (wF ?_);rw[S];refine zA (zB ?_);rw[zD ∅];refine zA (Tuple_ (thn (N _ u s F H _ I h) λus c⟨vs,r,T,r1,l⟩=>?_));obtain⟨v,w,e1,l⟩:=l;subst e1;obtain⟨f,d,rfl,V,W⟩:∃f d,us=[f,d]/\RelV v f/\RelV w d:=by
  cases r1 with
  | cons p q =>
   cases q with
   |cons K U =>
    cases U;exact⟨_,_,rfl,p,K⟩
 refine xD ?_ (by show 2<=sizeLine;decide);have Y:Inv X u F r {c with heap:=c.heap.push {cls:=.type "tuple",data:=.seq [f,d].toArray}}:=T.kept (t':=c.toks) λb o e=>zC _ e;rw[Z];refine zA (zB ?_);show wpAny (model X.prog X.w) X.A (do rule "assign.swapped-stores";let items ←unpackItems (.ref c.heap.objs.size) 2 none;assignInOrder [λv=>bindName X.env y v,λv=>bindName X.env x v] items.reverse;pure Flow.next) _ _ _;refine zA (wJ (zA (unpackItems_tuple (items:=#[f,d]) (I.ok.hd R) (IsTup.new c.heap _) λh' O=>?_)));have a0:=Y.kept (h':=h') (t':=c.toks) λb o e=>O b o (zW (zK e)) e;show wpAny _ _ (assignInOrder [λv=>bindName X.env y v,λv=>bindName X.env x v] [d,f] >>= λ_=>pure Flow.next) _ _ _;refine zA (qK (oG (fE a0 C P (.inl G) W (λa1 L=>?_) (.inr G))));refine qK (oG (fE L C hi (.inl z) V (λa2 J=>assignInOrder_nil (zB ?_)) (.inr z)));rw[List.set_comm _ _ (zT M)]at J;exact⟨_,r,J,l⟩
def tAug(i:Nat)(te:TE)(ti:TIp):TS:=λD σ H=>∃x,σ[i]?=some (some x)/\te σ H λy H1=>ti x y H1 λz H2=>D.nx (σ.set i (some z)) H2
theorem Fr{i:Nat}{x:Str}{e:Expr}{te:TE}{op:Operator}{f:TIp}{T:Pos}(L:X.N.Nodup)(hi:X.N[i]?=some x)(d:Loc X.env.scope x)(C:PE X e te)(S:PIp X op f)(G:X.fn x=true\/X.env.scope.names.lookup x=some .local:=by first|exact .inl rfl|exact .inr rfl|assumption):
  PS X (.AugAssign (.Name x T) op e pos) (tAug i te f):=by
 intro b s g H D I h;obtain⟨v,e1,h⟩:=h;obtain⟨m,j,hl⟩:=I.loc;have n:Vis X.env.scope x:=by rcases d with k|k;exact .inl k;exact .inr (.inl k)
 obtain⟨u,r,l⟩:=hl i x v hi e1 n;refine wpAny_AugAssign_Name ?_;have go:wpAny (model X.prog X.w) X.A (eval e X.env) (λw U=>wpAny (model X.prog X.w) X.A (inplaceOp op u w) (λr q=>wpAny (model X.prog X.w) X.A (storeName X.env x r) (λ_=>SP X b D .next) X.xe q) X.xe U) X.xe s:=by
  refine thn (C b s g H _ I h) λw F⟨y,p,O,r1,N⟩=>?_;refine thn (S b F g p v y u w _ O r r1 N) λz V⟨W,o,P,r2,t⟩=>?_;exact fE P L hi d r2 (λY R=>⟨_,o,R,t⟩) G
 rcases l with⟨a,J⟩|⟨a,c,K,M⟩
 ·exact wpAny_loadName_local I.ok.kind a j J go
 ·rcases a with a|a
  ·exact wpAny_loadName_cell I.ok.kind a K M go
  ·rcases d with k|k
   ·have:X.env.scope.names.lookup x=some .free:=a;rw[k]at this;cases this
   ·have:X.env.scope.names.lookup x=some .free:=a;rw[k]at this;cases this
def ipI(f:Int->Int->Int):TIp:=λx y H Q=>∃i j,x=.int i/\y=.int j/\Q (.int (f i j)) H
theorem Fq:PIp X .Add (ipI λi j=>i+j):=by
 intro d s c H x y v u Q I r1 r2 h;obtain⟨i,j,e1,a,q⟩:=h;subst e1;subst a;obtain⟨b,rfl⟩:=r1;obtain⟨t',rfl⟩:=r2;exact iadd_int ⟨.int _,H,I.tok _,⟨_,rfl⟩,q⟩
def Fp(c:TT)(tb:TS):TS:=λD σ H=>∃W:Nat->St->Hp->Prop,(∃m,W m σ H)/\∀m σ H,W m σ H ->
 c σ H λb H1=>if b=true then∃N:St->Hp->Prop,(∀σ' H',N σ' H'->∃m',m'<m/\W m' σ' H')/\tb {D with nx:=N,ct:=N,bk:=D.nx} σ H1 else D.nx σ H1
theorem Bu{c:Expr}{body:List Stmt}{w:TT}{tb:TS}(t:PassesOwn (model X.prog X.w) X.A X.env X.xe)(K:PT X c w)(S:PSs X body tb):PS X (.While c body [] pos) (Fp w tb):=by
 intro l s L H D I h;obtain⟨z,⟨M,J⟩,O⟩:=h;refine wpAny_While (codeAny_whileLoop (λn R=>∃y H',Inv X l y H' R/\z n y H') ?_ M ⟨L,H,I,J⟩);rintro n G ⟨i,r,P,C⟩;refine vU t (thn (K l G i r _ P (O n i r C)) λb F⟨q,x,e⟩=>?_);cases b with
 | true =>
  obtain⟨N,u,e⟩:=e;rw[zF rfl];refine vU t (thn (S l F i q _ x e) λf T g=>?_);cases f with
  |next =>
   obtain⟨a,d,p,o⟩:=g;obtain⟨j,m,k⟩:=u a d o;exact⟨j,m,a,d,p,k⟩
  |cont =>
   obtain⟨a,d,p,o⟩:=g;obtain⟨j,m,k⟩:=u a d o;exact⟨j,m,a,d,p,k⟩
  |brk=>exact g
  |ret v=>exact g
 |false =>
  rw[zD yH];exact sD ⟨i,q,x,e⟩
end
structure It where
 go:Nat->Hp->Prop
 yld:Nat->Hp->V->Hp->Prop
 stop:Nat->Hp->Prop
def FpOk(X:Cx)(pins:PN)(H:Hp)(b:Addr):Prop:=
 H b=none/\b≠X.env.locals/\b∉X.fs/\(b∈X.ex\/X.s₀.heap.objs.size<=b)/\(∀x c,X.env.cells.lookup x=some c->c≠b)/\∀p∈X.pn++pins,p.1≠b
theorem Inv.fpOk{X:Cx}{d:PN}{f:St}{H H':Hp}{s:Shared}{b:Addr}(I:Inv X d f H s)(a:s.heap.objs.size<=b)(g:H' b=none):FpOk X d H' b:=by
 refine⟨g,sL (zP I.lt a),I.nofs a,.inr (yC I.sz a),λx c e z=>?_,λp i z=>?_⟩
 ·obtain⟨v,q⟩:=I.cell x c e;exact absurd (zP q.lt (by rw[z];exact a)) (yZ _)
 ·exact absurd (zP (zK (I.pin p i).1) (by rw[z];exact a)) (yZ _)
structure Turn(P:Program)(w:World)(K:Frag)(tg:Expr)(J:It)(fp:LA)(it:Addr)(tn:Nat->Heap->Prop):Prop where
 mem:it∈fp
 obj:∀i h,tn i h->∀b∈fp,∃o,h.get? b=some o/\∀v,o.data≠.cell v
 keep:∀i h h',tn i h->(∀b∈fp,∀o,h.get? b=some o->h'.get? b=some o)->tn i h'
 item:∀(X:Cx),X.prog=P->X.w=w->X.K=K->X.calm=true->∀(i:Nat)(pins:PN)(s:Shared)(σ:St)(H:Hp)(E:VP),Inv X pins σ H s->(∀b∈fp,FpOk X pins H b)->tn i s.heap->J.go i H ->
  wpAny (model P w) X.A (pyNext (.ref it)) (λr s1=>∃u,r=some u /\
   wpAny (model P w) X.A (letOwnedTupleGo tg (.ref it) u) (λ_ s2=>∃x H',Inv X pins σ H' s2/\RelV x u/\J.yld i H x H'/\tn (i+1) s2.heap/\∀b∈fp,H' b=none) E s1) E s
 done:∀(X:Cx),X.prog=P->X.w=w->X.K=K->X.calm=true->∀(i:Nat)(pins:PN)(s:Shared)(σ:St)(H:Hp)(E:VP),Inv X pins σ H s->(∀b∈fp,FpOk X pins H b)->tn i s.heap->J.stop i H ->
  wpAny (model P w) X.A (pyNext (.ref it)) (λr s1=>r=none/\Inv X pins σ H s1) E s
 self:∀(A:Around)(i:Nat)(s:Shared)(Q:VP)(E:VP),tn i s.heap->Q (.ref it) s->wpAny (model P w) A (pyIter (.ref it)) Q E s
abbrev TI:=St->Hp->(It->Hp->Prop)->Prop
def PIE(X:Cx)(pins:PN)(σ:St)(tg:Expr)(R:It->Hp->Prop)(itv:Value)(s2:Shared):Prop:=
 ∃(it:Addr)(fp:LA)(tn:Nat->Heap->Prop)(J:It)(H':Hp),itv=.ref it/\Inv X pins σ H' s2/\Turn X.prog X.w X.K tg J fp it tn/\tn 0 s2.heap/\(∀b∈fp,FpOk X pins H' b)/\R J H'
def PI(X:Cx)(tg iter:Expr)(wi:TI):Prop:=
 ∀(pins:PN)(s:Shared)(σ:St)(H:Hp)(R:It->Hp->Prop),Inv X pins σ H s->wi σ H R ->
  wpAny (model X.prog X.w) X.A (eval iter X.env) (λv s1=>wpAny (model X.prog X.w) X.A (pyIter v) (PIE X pins σ tg R) X.xe s1) X.xe s
theorem Bt {M:Model}{A:Around}{E:VP}{s:Shared}{c:Expr}{b:Addr}{u:Value}{o:Obj}{n:String}{vs:Array Value}{Q:Unit->Shared->Prop}(g:s.heap.get? b=some o)(d:o.cls=.type n)(f:o.data=.fields vs)
    (e:["enumerate","zip","dict_itemiterator","dict_reverseitemiterator","odict_iterator","itertools.zip_longest","itertools.pairwise"].contains n=false)(a:Q () s):wpAny M A (letOwnedTupleGo c (.ref b) u) Q E s:=by
  unfold letOwnedTupleGo;cases c <;> first
    |exact zB a
    |(cases u <;> first
        |exact zB a
        | (refine zA (wpAny_load g ?_)
           rw[d,f];show wpAny M A (if(["enumerate","zip","dict_itemiterator","dict_reverseitemiterator","odict_iterator","itertools.zip_longest","itertools.pairwise"].contains n && vs[0]? == some (rawInt _))=true then _ else _) Q E s;rw[zD (by intro h;rw[e,Bool.false_and]at h;cases h)];exact zB a))
def Itl(K:Frag)(a:Addr):It:=
 ⟨λi H=>∃xs x,SqL K H a xs/\xs[i]?=some x,λi H x H'=>H'=H/\∀xs,SqL K H a xs->xs[i]?=some x,λi H=>∃xs,SqL K H a xs/\xs.length<=i⟩
def Itt(K:Frag)(a:Addr):It:=
 ⟨λi H=>∃xs x,SqT K H a xs/\xs[i]?=some x,λi H x H'=>H'=H/\∀xs,SqT K H a xs->xs[i]?=some x,λi H=>∃xs,SqT K H a xs/\xs.length<=i⟩
def Itr(lo:Int)(n:Nat):It:=⟨λi _=>i<n,λi H x H'=>H'=H/\x=.int (lo+i),λi _=>n<=i⟩
theorem Nu{P:Program}{w:World}{K:Frag}{R:Expr}(a f:Addr):Turn P w K R (Itl K a) [f] f (λi h=>h.IsListIter f a i) where
 mem:=by simp
 obj:=λi h st b g=>by
  have e:b=f:=by simpa using g
  subst e;obtain⟨o,e,c,d⟩:=st;exact⟨o,e,λv z=>by rw[d]at z;cases z⟩
 keep:=λi h h' st k=>st.at λo e=>k f (by simp) o e
 item:=by
  intro X q J r N i M s O H E I j st D;subst q J r;obtain⟨xs,x,l,t⟩:=D;obtain⟨its,G,p,Y⟩:=I.list l;obtain⟨u,V,S⟩:=G.get t;obtain⟨y,m,W,C,n,F⟩:=j f (by simp);refine wpAny_pyNext_list_item st p.isList (x:=u) (by simpa using V) λh' L a0=>?_;have U:Inv X M O H {s with heap:=h'}:=I.turned (t':=s.toks) (λb o g e=>(a0.2 b g).trans e) y m C n F;obtain⟨o,e,c,d⟩:=id L;exact⟨u,rfl,Bt (s:={s with heap:=h'}) e c d ∅ ⟨x,H,U,S,⟨rfl,λys T=>by rw[I.list_inj T l];exact t⟩,L,λb g=>(j b g).1⟩⟩
 done:=by
  intro X q J r N i M s O H E I j st D;subst q J r;obtain⟨xs,l,t⟩:=D;obtain⟨its,G,p,Y⟩:=I.list l;obtain⟨y,m,W,C,n,F⟩:=j f (by simp);have hl:=G.length;exact wpAny_pyNext_list_end (I.ok.hd N) st p.isList (by simp;omega) λh' Z=>⟨rfl,I.turned (t':=s.toks) (λb o g e=>Z b o g e) y m C n F⟩
 self:=λ_ _ _ _ _ st h=>wpAny_pyIter_listiter st h
theorem Nt{P:Program}{w:World}{K:Frag}{R:Expr}(a f:Addr):Turn P w K R (Itt K a) [f] f (λi h=>h.IsTupleIter f a i) where
 mem:=by simp
 obj:=λi h st b g=>by
  have e:b=f:=by simpa using g
  subst e;obtain⟨o,e,c,d⟩:=st;exact⟨o,e,λv z=>by rw[d]at z;cases z⟩
 keep:=λi h h' st k=>st.at λo e=>k f (by simp) o e
 item:=by
  intro X q J r N i M s O H E I j st D;subst q J r;obtain⟨xs,x,l,t⟩:=D;obtain⟨its,G,p,Y⟩:=I.tuple l;obtain⟨u,V,S⟩:=G.get t;obtain⟨y,m,W,C,n,F⟩:=j f (by simp);refine wpAny_pyNext_tuple_item st (show s.heap.IsTuple a its.toArray from p) (x:=u) (by simpa using V) λh' L a0=>?_;have U:Inv X M O H {s with heap:=h'}:=I.turned (t':=s.toks) (λb o g e=>(a0.2 b g).trans e) y m C n F;obtain⟨o,e,c,d⟩:=id L;exact⟨u,rfl,Bt (s:={s with heap:=h'}) e c d ∅ ⟨x,H,U,S,⟨rfl,λys T=>by rw[I.tuple_inj T l];exact t⟩,L,λb g=>(j b g).1⟩⟩
 done:=by
  intro X q J r N i M s O H E I j st D;subst q J r;obtain⟨xs,l,t⟩:=D;obtain⟨its,G,p,Y⟩:=I.tuple l;obtain⟨y,m,W,C,n,F⟩:=j f (by simp);have hl:=G.length;exact wpAny_pyNext_tuple_end (I.ok.hd N) st (show s.heap.IsTuple a its.toArray from p) (by simp;omega) λh' Z=>⟨rfl,I.turned (t':=s.toks) (λb o g e=>Z b o g e) y m C n F⟩
 self:=λ_ _ _ _ _ st h=>wpAny_pyIter_tupleiter st h
theorem Nr{P:Program}{w:World}{K:Frag}{G:Expr}(a:Addr)(lo:Int)(n:Nat):Turn P w K G (Itr lo n) [a] a (λi h=>IsRangeIter h a (lo+(i:Nat)*1) ((n:Int)-(i:Nat)) 1) where
 mem:=by simp
 obj:=λi h st b c=>by
  have e:b=a:=by simpa using c
  subst e;exact⟨_,st,λv z=>by
   have L:Data.fields _=Data.cell v:=z;cases L⟩
 keep:=λi h h' st k=>k a (by simp) _ st
 item:=by
  intro X j u l m i y s C H E I d st r;subst j u l;obtain⟨p,f,N,q,g,t⟩:=d a (by simp);have D:=Walks.range (prog:=X.prog) (w:=X.w) (I.ok.hd m) a lo 1 n;refine D.item i s _ _ r st λv h' tk J x O=>?_;obtain⟨F,rfl⟩:=J;have M:Inv X y C H {s with heap:=h',toks:=tk}:=I.turned (λb o c e=>O b o (by simpa using c) e) p f q g t;refine⟨_,rfl,Bt (s:={s with heap:=h',toks:=tk}) (n:= "range_iterator") x rfl rfl ∅ ⟨.int (lo+i),H,M,⟨F,?_⟩,⟨rfl,rfl⟩,x,λb c=>(d b c).1⟩⟩;rw[oB]
 done:=by
  intro X j u l m i y s C H E I d st r;subst j u l;obtain⟨p,f,N,q,g,t⟩:=d a (by simp);exact wpAny_pyNext_range_end (I.ok.hd m) st (by have:n<=i:=r;omega) λh' R=>⟨rfl,I.turned (t':=s.toks) (λb o c e=>R b o c e) p f q g t⟩
 self:=λ_ _ _ _ _ st h=>wpAny_pyIter_rangeiter st h
section
variable {X:Cx} {tg:Expr}
theorem Nq{d:PN}{c:St}{H:Hp}{s:Shared}{R:It->Hp->Prop}{E:VP}{lo hi:Int}{a u v:Tok}{tk:Nat}(I:Inv X d c H s)(i:-(2^62)<=lo)(l:lo<2^62)(g:-(2^62)<=hi)(m:hi<2^62)
  (q:R (Itr lo (hi-lo).toNat) H):wpAny (model X.prog X.w) X.A (pyIter (.ref s.heap.objs.size)) (PIE X d c tg R) E {s with heap:=s.heap.push {cls:=.type "range",data:=.fields #[.int lo a,.int hi u,.int 1 v]},toks:=tk}:=by
 refine wpAny_pyIter_range (IsRange.new ..) (small_one i l g m) ?_;have f:Inv X d c H {s with heap:=s.heap.push {cls:=.type "range",data:=.fields #[.int lo a,.int hi u,.int 1 v]},toks:=tk}:=I.kept λb o e=>zC _ e;refine⟨(s.heap.push {cls:=.type "range",data:=.fields #[.int lo a,.int hi u,.int 1 v]}).objs.size,[(s.heap.push {cls:=.type "range",data:=.fields #[.int lo a,.int hi u,.int 1 v]}).objs.size],_,_,H,rfl,
  f.kept (t':=tk) λb o e=>zC _ e,Nr _ lo (hi-lo).toNat,?_,λb k=>?_,q⟩
 ·have e1:lo+((0:Nat):Int)*1=lo:=by simp
  have j:(((hi-lo).toNat:Nat):Int)-((0:Nat):Int)=Builtin.Range.rangeSize lo hi 1:=by rw[rangeSize_one];split <;> omega
  show IsRangeIter _ _ (lo+((0:Nat):Int)*1) ((((hi-lo).toNat:Nat):Int)-((0:Nat):Int)) 1;rw[e1,j];exact zQ _ rfl
 ·have e:b=(s.heap.push {cls:=.type "range",data:=.fields #[.int lo a,.int hi u,.int 1 v]}).objs.size:=by simpa using k
  subst e;exact f.fpOk (zE _) (f.hok.fresh (zE _))
def mY(ta:TA):TI:=λσ H R=>ta σ H λvs H1=>∃j:Int,vs=[.int j]/\-(2^62)<=j/\j<2^62/\R (Itr 0 j.toNat) H1
theorem lG{a:Expr}{d:TA}{p c:Pos}(m:Gl X "range")(n:X.mg "range"=none)(f:PA X [a] d)(l:starEach [a] X.env=[(false,eval a X.env)]:=by rfl):PI X tg (.Call (.Name "range" p) [a] [] c) (mY d):=by
 intro k s g H R I h;refine Call_ (gL I m n boot_range (xV (thn (f c k s g H _ I h) λus u⟨vs,w,t,r1,b⟩=>?_) l rfl));obtain⟨j,e,b,o,q⟩:=b;subst e;cases r1 with
 |cons r i =>
  cases i;obtain⟨v,rfl⟩:=r;exact call_range_1 (Nq t ⋯ ⋯ b o (by simpa using q))
def tFor(wi:TI)(g:TG)(tb:TS):TS:=λD σ H=>wi σ H λJ H1=>∃W:Nat->Nat->St->Hp->Prop,(∃m,W 0 m σ H1)/\∀i m σ H,W i m σ H ->
 (J.stop i H/\D.nx σ H)\/(J.go i H/\∃N:St->Hp->Prop,(∀σ' H',N σ' H'->∃m',m'<m/\W (i+1) m' σ' H')/\∀x H',J.yld i H x H'->g x σ H' λσ2 H2=>tb {D with nx:=N,ct:=N,bk:=D.nx} σ2 H2)
def dU(fp:LA)(h:Heap):PN:=fp.filterMap λb=>(h.get? b).map λo=>(b,o)
theorem bI{a:LA}{h:Heap}{b:Addr}{o:Obj}(c:b∈a)(e:h.get? b=some o):(b,o)∈dU a h:=nB.mpr ⟨b,c,by rw[e];rfl⟩
theorem Np{a:LA}{h:Heap}{p:Addr×Obj}(c:p∈dU a h):p.1∈a/\h.get? p.1=some p.2:=by
 obtain⟨b,d,e⟩:=nB.mp c;cases q:h.get? b with
 |none=>rw[q]at e;cases e
 |some o =>
  rw[q]at e;have f:(b,o)=p:=zZ e;subst f;exact⟨d,q⟩
theorem Inv.pinned{a:PN}{f:St}{H:Hp}{s:Shared}{c:LA}(I:Inv X a f H s)(l:∀b∈c,FpOk X a H b)(n:∀b∈c,∃o,s.heap.get? b=some o/\∀v,o.data≠.cell v):Inv X (a++dU c s.heap) f H s:=
 I.pins_of λp q=>(oW.mp q).elim (λz=>I.pin p (yP _ z)) λz=>by
  obtain⟨g,e⟩:=Np z;obtain⟨j,m,k,_⟩:=l p.1 g;obtain⟨o,i,d⟩:=n p.1 g;rw[e]at i;cases i;exact⟨e,j,m,k,d⟩
theorem Inv.unpinned{b pl:PN}{a:St}{H:Hp}{s:Shared}(I:Inv X (b++pl) a H s):Inv X b a H s:=I.pins_of λp c=>I.pin p (yP _ (xI _ c))
theorem lJ{K:Expr}{body:List Stmt}{R:TI}{g:TG}{tb:TS}{b3:Pos}(w:PassesOwn (model X.prog X.w) X.A X.env X.xe)(S:X.calm=true)(hi:PI X tg K R)(c5:PG X tg g)(k:PSs X body tb)
  (c4:∀x,foldedSetIterable K X.env x=pure x:=by intro _;rfl):PS X (.For tg K body [] b3) (tFor R g tb):=by
 intro p s U H D I h;refine wpAny_For (thn (hi p s U H _ I h) λv d8 a5=>thn a5 λd9 d7 c9=>?_) c4;obtain⟨d6,z,P,e0,a8,e,d4,T,d5,W,L,⟨c1,b5⟩,c3⟩:=c9;subst e
 -- what stays true of the iterator's objects through the loop
 have G:∀{H':Hp},(∀b∈z,H' b=none)->∀b∈z,FpOk X p H' b:=λa3 b k=>⟨a3 b k,(W b k).2⟩;refine codeAny_forLoop_any (λn Y=>∃i y H',Inv X p y H' Y/\P i Y.heap/\(∀b∈z,H' b=none)/\L i n y H') ?_ c1 ⟨0,U,a8,d4,d5,λb k=>(W b k).1,b5⟩;rintro n a1 ⟨i,t,C,a0,Z,M,a7⟩;rcases c3 i n t C a7 with⟨stop,d0⟩|⟨go,N,b8,step⟩
 ·refine vU w (thn (T.done X rfl rfl rfl S i p a1 t C X.xe a0 (G M) Z stop) λr c2⟨hr,a4⟩=>?_);subst hr;exact sD ⟨t,C,a4,d0⟩
 ·refine vU w (thn (T.item X rfl rfl rfl S i p a1 t C X.xe a0 (G M) Z go) λr c2⟨u,hr,a9⟩=>?_);subst hr;refine vU w (thn a9 λ_ V⟨x,O,d3,c8,b2,F,d2⟩=>?_);have b0:=d3.pinned (G d2) (T.obj _ _ F);refine vU w (thn (c5 _ V t O x u _ b0 c8 (step x O b2)) λ_ b1⟨d1,b6,c6,c7⟩=>?_);refine vU w (thn (k _ b1 d1 b6 _ c6 c7) λf J l=>?_);have a2:∀{c:St}{a:Hp},Inv X (p++dU z V.heap) c a J->N c a->∃m,m<n/\∃i y H',Inv X p y H' J/\P i J.heap/\(∀b∈z,H' b=none)/\L i m y H':=λ{c a}j q=>by
   obtain⟨a6,b7,c0⟩:=b8 c a q;refine⟨a6,b7,i+1,c,a,j.unpinned,T.keep _ _ _ F λb k o e=>(j.pin (b,o) (yP _ (yP _ (bI k e)))).1,λb k=>?_,c0⟩;obtain⟨o,e,d⟩:=T.obj _ _ F b k;exact(j.pin (b,o) (yP _ (yP _ (bI k e)))).2.1
  cases f with
  |next=>obtain⟨c,a,j,q⟩:=l;exact a2 j q
  |cont=>obtain⟨c,a,j,q⟩:=l;exact a2 j q
  |brk=>obtain⟨c,a,j,l⟩:=l;exact⟨c,a,j.unpinned,l⟩
  |ret v=>obtain⟨b4,c,a,j,b9,l⟩:=l;exact⟨b4,c,a,j.unpinned,b9,l⟩
end
theorem No{K:Frag}{a:Addr}{xs:List V}{g:TG}{tb:TS}{D:Ends}{b:St}{H:Hp}(c:Nat->St->Hp->Prop)(t:c 0 b H)(hl:∀i b H,i<=xs.length->c i b H->SqL K H a xs)
  (u:∀i x b H,xs[i]?=some x->c i b H->g x b H λk j=>tb {D with nx:=c (i+1),ct:=c (i+1),bk:=D.nx} k j)(r:∀b H,c xs.length b H->D.nx b H):
  ∃d:Nat->Nat->St->Hp->Prop,(∃m,d 0 m b H)/\∀i m b H,d i m b H ->
   ((Itl K a).stop i H/\D.nx b H)\/((Itl K a).go i H/\∃N:St->Hp->Prop,(∀f H',N f H'->∃l,l<m/\d (i+1) l f H')/\∀x H',(Itl K a).yld i H x H'->g x b H' λk j=>tb {D with nx:=N,ct:=N,bk:=D.nx} k j):=by
 refine⟨λi m b H=>m=xs.length-i/\i<=xs.length/\c i b H,⟨xs.length,by simp,zY _,t⟩,?_⟩;rintro i m b H ⟨rfl,hi,p⟩;have q:=hl i b H hi p
 by_cases n:i<xs.length
 ·refine .inr ⟨⟨xs,xs[i],q,by simp[n]⟩,c (i+1),λf H' o=>⟨xs.length-(i+1),⋯,rfl,n,o⟩,λx H' y=>?_⟩;obtain⟨e,y⟩:=y;subst e;exact u i x b _ (y xs q) p
 ·have e:i=xs.length:=⋯
  subst e;exact .inl ⟨⟨xs,q,zE _⟩,r b H p⟩
theorem Nn{K:Frag}{a:Addr}{xs:List V}{g:TG}{tb:TS}{D:Ends}{b:St}{H:Hp}(c:Nat->St->Hp->Prop)(t:c 0 b H)(hl:∀i b H,i<=xs.length->c i b H->SqT K H a xs)
  (u:∀i x b H,xs[i]?=some x->c i b H->g x b H λk j=>tb {D with nx:=c (i+1),ct:=c (i+1),bk:=D.nx} k j)(r:∀b H,c xs.length b H->D.nx b H):
  ∃d:Nat->Nat->St->Hp->Prop,(∃m,d 0 m b H)/\∀i m b H,d i m b H ->
   ((Itt K a).stop i H/\D.nx b H)\/((Itt K a).go i H/\∃N:St->Hp->Prop,(∀f H',N f H'->∃l,l<m/\d (i+1) l f H')/\∀x H',(Itt K a).yld i H x H'->g x b H' λk j=>tb {D with nx:=N,ct:=N,bk:=D.nx} k j):=by
 refine⟨λi m b H=>m=xs.length-i/\i<=xs.length/\c i b H,⟨xs.length,by simp,zY _,t⟩,?_⟩;rintro i m b H ⟨rfl,hi,p⟩;have q:=hl i b H hi p
 by_cases n:i<xs.length
 ·refine .inr ⟨⟨xs,xs[i],q,by simp[n]⟩,c (i+1),λf H' o=>⟨xs.length-(i+1),⋯,rfl,n,o⟩,λx H' y=>?_⟩;obtain⟨e,y⟩:=y;subst e;exact u i x b _ (y xs q) p
 ·have e:i=xs.length:=⋯
  subst e;exact .inl ⟨⟨xs,q,zE _⟩,r b H p⟩
theorem Nm{lo:Int}{n:Nat}{g:TG}{tb:TS}{D:Ends}{a:St}{H:Hp}(b:Nat->St->Hp->Prop)(r:b 0 a H)
  (t:∀i a H,i<n->b i a H->g (.int (lo+i)) a H λk j=>tb {D with nx:=b (i+1),ct:=b (i+1),bk:=D.nx} k j)(q:∀a H,b n a H->D.nx a H):
  ∃c:Nat->Nat->St->Hp->Prop,(∃m,c 0 m a H)/\∀i m a H,c i m a H ->
   ((Itr lo n).stop i H/\D.nx a H)\/((Itr lo n).go i H/\∃N:St->Hp->Prop,(∀d H',N d H'->∃l,l<m/\c (i+1) l d H')/\∀x H',(Itr lo n).yld i H x H'->g x a H' λk j=>tb {D with nx:=N,ct:=N,bk:=D.nx} k j):=by
 refine⟨λi m a H=>m=n-i/\i<=n/\b i a H,⟨n,by simp,zY _,r⟩,?_⟩;rintro i m a H ⟨rfl,hi,p⟩
 by_cases f:i<n
 ·refine .inr ⟨f,b (i+1),λd H' o=>⟨n-(i+1),⋯,rfl,f,o⟩,λx H' y=>?_⟩;obtain⟨e,y⟩:=y;subst e y;exact t i a _ f p
 ·have e:i=n:=⋯
  subst e;exact .inl ⟨zE _,q a H p⟩
abbrev R2:=V->V->Hp->VK->Prop
def OpR(X:Cx)(f:Value->Value->Sem Value)(r:R2):Prop:=
 ∀(pins:PN)(s:Shared)(σ:St)(H:Hp)(x y:V)(v u:Value)(Q:VK),Inv X pins σ H s->RelV x v->RelV y u->r x y H Q ->
  wpAny (model X.prog X.w) X.A (f v u) (EP X pins σ Q) X.xe s
def UnR(X:Cx)(f:Value->Sem Value)(r:V->Hp->VK->Prop):Prop:=
 ∀(pins:PN)(s:Shared)(σ:St)(H:Hp)(x:V)(v:Value)(Q:VK),Inv X pins σ H s->RelV x v->r x H Q ->
  wpAny (model X.prog X.w) X.A (f v) (EP X pins σ Q) X.xe s
def kD(X:Cx)(f:Value)(r:List V->Hp->VK->Prop):Prop:=
 ∀(pins:PN)(s:Shared)(σ:St)(H:Hp)(xs:List V)(us:LW)(Q:VK),Inv X pins σ H s->Vals xs us->r xs H Q ->
  wpAny (model X.prog X.w) X.A (call f us) (EP X pins σ Q) X.xe s
def tOp(r:R2)(ta tb:TE):TE:=λσ H Q=>ta σ H λx H1=>tb σ H1 λy H2=>r x y H2 Q
def tUn(r:V->Hp->VK->Prop)(ta:TE):TE:=λσ H Q=>ta σ H λx H1=>r x H1 Q
def rI(C:Int->Int->Prop)(g:Int->Int->V):R2:=λx y H Q=>∃i j,x=.int i/\y=.int j/\C i j/\Q (g i j) H
def rI0(g:Int->Int->V):R2:=λx y H Q=>∃i j,x=.int i/\y=.int j/\Q (g i j) H
def rU(g:Int->V):V->Hp->VK->Prop:=λx H Q=>∃i,x=.int i/\Q (g i) H
section
variable {X:Cx} {a b c:Expr} {ta tb tc:TE} {pos:Pos}
theorem binT(l:PE X a ta)(t:PE X b tb){i:PN}{s:Shared}{d:St}{H:Hp}{R:V->V->Hp->Prop}(I:Inv X i d H s)
  (h:ta d H λx j=>tb d j λy e=>R x y e){Q:VP}{f:Value->Value->Sem Value}
  (n:∀v u g x y e,Inv X i d e g->RelV x v->RelV y u->R x y e->wpAny (model X.prog X.w) X.A (f v u) Q X.xe g):
  wpAny (model X.prog X.w) X.A (eval a X.env) (λv m=>wpAny (model X.prog X.w) X.A (eval b X.env) (λu q=>wpAny (model X.prog X.w) X.A (f v u) Q X.xe q) X.xe m) X.xe s:=by
 refine thn (l i s d H _ I h) λv k⟨x,j,w,r1,p⟩=>?_;refine thn (t i k d j _ w p) λu g⟨y,e,o,r2,r⟩=>?_;exact n v u g x y e o r1 r2 r
theorem nR{op:Operator}{r:R2}(k:OpR X (binaryOp op) r)(e:PE X a ta)(n:PE X b tb):PE X (.BinOp a op b pos) (tOp r ta tb):=by
 intro l s f H Q I h;exact wpAny_BinOp (binT e n I h λv u j x y m i d g q=>k l j f m x y v u Q i d g q)
theorem fF{op:UnaryOp}{r:V->Hp->VK->Prop}(j:UnR X (unaryOp op) r)(i:PE X a ta):PE X (.UnaryOp op a pos) (tUn r ta):=by
 intro e s d H Q I h;exact UnaryOp_ (thn (i e s d H _ I h) λv f⟨x,g,l,r1,k⟩=>j e f d g x v Q l r1 k)
theorem opI{f:Value->Value->Sem Value}{C:Int->Int->Prop}{g:Int->Int->Int}
  (l:∀(i j:Int)(d u:Tok)(s:Shared)(Q:VP)(E:VP),C i j->Q (.int (g i j) s.toks) {s with toks:=s.toks+1}->wpAny (model X.prog X.w) X.A (f (.int i d) (.int j u)) Q E s):
  OpR X f (rI C λi j=>.int (g i j)):=by
 intro o s n H x y v u Q I k m h;obtain⟨i,j,rfl,rfl,e,q⟩:=h;obtain⟨d,rfl⟩:=k;obtain⟨t',rfl⟩:=m;exact l i j d t' s _ _ e ⟨.int (g i j),H,I.tok _,⟨_,rfl⟩,q⟩
theorem opI0{f:Value->Value->Sem Value}{g:Int->Int->Int}
  (k:∀(i j:Int)(d u:Tok)(s:Shared)(Q:VP)(E:VP),Q (.int (g i j) s.toks) {s with toks:=s.toks+1}->wpAny (model X.prog X.w) X.A (f (.int i d) (.int j u)) Q E s):
  OpR X f (rI0 λi j=>.int (g i j)):=by
 intro n s m H x y v u Q I e l h;obtain⟨i,j,rfl,rfl,q⟩:=h;obtain⟨d,rfl⟩:=e;obtain⟨t',rfl⟩:=l;exact k i j d t' s _ _ ⟨.int (g i j),H,I.tok _,⟨_,rfl⟩,q⟩
theorem opB0{f:Value->Value->Sem Value}{g:Int->Int->Bool}
  (k:∀(i j:Int)(d u:Tok)(s:Shared)(Q:VP)(E:VP),Q (.bool (g i j)) s->wpAny (model X.prog X.w) X.A (f (.int i d) (.int j u)) Q E s):
  OpR X f (rI0 λi j=>.bl (g i j)):=by
 intro n s m H x y v u Q I e l h;obtain⟨i,j,rfl,rfl,q⟩:=h;obtain⟨d,rfl⟩:=e;obtain⟨t',rfl⟩:=l;exact k i j d t' s _ _ ⟨.bl (g i j),H,I,rfl,q⟩
def CPow(i j:Int):Prop:=0<=j/\j<=1000000/\i.natAbs<2^64
def CMul(i j:Int):Prop:=(-(2^64)<i/\i<2^64)\/(-(2^64)<j/\j<2^64)
theorem CMul.ok{i j:Int}(h:CMul i j):IntMulOk i j:=by
 rcases h with⟨d,e⟩|⟨d,e⟩
 ·exact .of_left (intBits_le_64 d e)
 ·exact .of_right (intBits_le_64 d e)
theorem lH:OpR X (binaryOp .Add) (rI0 λi j=>.int (i+j)):=opI0 λ_ _ _ _ _ _ _ q=>add_int q
theorem iK:OpR X (binaryOp .Sub) (rI0 λi j=>.int (i-j)):=opI0 λ_ _ _ _ _ _ _ q=>sub_int q
theorem jT:OpR X (binaryOp .Mod) (rI (λ_ j=>j≠0) λi j=>.int (i.fmod j)):=opI λ_ _ _ _ _ _ _ d q=>mod_int' d q
theorem Bs:OpR X (binaryOp .Pow) (rI CPow λi j=>.int (i^j.toNat)):=opI λ_ _ _ _ _ _ _ d q=>pow_int_small d.1 d.2.1 d.2.2 q
theorem unI{f:Value->Sem Value}{g:Int->Int}
  (j:∀(i:Int)(d:Tok)(s:Shared)(Q:VP)(E:VP),Q (.int (g i) s.toks) {s with toks:=s.toks+1}->wpAny (model X.prog X.w) X.A (f (.int i d)) Q E s):
  UnR X f (rU λi=>.int (g i)):=by
 intro l s k H x v Q I e h;obtain⟨i,rfl,q⟩:=h;obtain⟨d,rfl⟩:=e;exact j i d s _ _ ⟨.int (g i),H,I.tok _,⟨_,rfl⟩,q⟩
theorem fG:UnR X (unaryOp .USub) (rU λi=>.int (-i)):=unI λ_ _ _ _ _ q=>neg_int q
theorem Nl{f:PN}{d:St}{H:Hp}{s:Shared}{Q:VK}{k k':Bool}(I:Inv X f d H s)(q:Q (.bl k) H)(e:k=k'):EP X f d Q (.bool k') s:=by
 subst e;exact⟨.bl k,H,I,rfl,q⟩
theorem fZ:OpR X (compareOp .Lt) (rI0 λi j=>.bl (decide (i<j))):=opB0 λ_ _ _ _ _ _ _ q=>lt_int q
theorem iW:OpR X (compareOp .Gt) (rI0 λi j=>.bl (decide (j<i))):=opB0 λ_ _ _ _ _ _ _ q=>gt_int q
theorem Fo:OpR X (compareOp .GtE) (rI0 λi j=>.bl (decide (j<=i))):=opB0 λ_ _ _ _ _ _ _ q=>ge_int q
theorem Nk:OpR X (compareOp .Is) (λx y H Q=>y=.non/\Q (.bl (decide (x=.non))) H):=by
 intro i s g H x y v u Q I d e h;obtain⟨rfl,q⟩:=h;cases e;refine is_none_gen (Nl I q ?_);cases x <;> first
  |(cases d;rfl)
  |(obtain⟨f,rfl⟩:=d;rfl)
theorem mD(b:Expr){op:CmpOp}(h:op≠.In:=by decide)(d:op≠.NotIn:=by decide):behindInMarks op b=false:=by
 have e1:(op == CmpOp.In)=false:=by cases op <;> first|rfl|exact absurd rfl h
 have e:(op == CmpOp.NotIn)=false:=by cases op <;> first|rfl|exact absurd rfl d
 cases b <;> simp[behindInMarks,e1,e]
theorem dW{op:CmpOp}{r:R2}(k:OpR X (compareOp op) r)(e:PE X a ta)(o:PE X b tb)(m:behindInMarks op b=false):PE X (.Compare a [op] [b] pos) (tOp r ta tb):=by
 intro l s f H Q I h;exact wpAny_Compare1 (binT e o I h λv u j x y n i d g q=>k l j f n x y v u Q i d g q) m
def bJ(t:TE):TT:=λσ H Q=>t σ H λx H'=>∃k,x=.bl k/\Q k H'
theorem mB{op:CmpOp}{r:R2}(G:OpR X (compareOp op) r)(p:PE X a ta)(J:PE X b tb)(q:behindInMarks op b=false):PT X (.Compare a [op] [b] pos) (bJ (tOp r ta tb)):=by
 intro d s f H Q I h;refine wpAny_isTrue_Compare1 (thn (p d s f H _ I h) λv n⟨x,l,w,r1,t⟩=>thn (J d n f l _ w t) λu i⟨y,j,D,r2,m⟩ =>
  thn (G d i f j x y v u _ D r1 r2 m) λc K⟨z,C,F,g,k,e,o⟩=>?_) q
 subst e;cases g;exact uX ⟨C,F,o⟩
theorem dX:(sizeLine:Nat)<2^63:=by rw[sizeLine_eq];decide
theorem jM{x:V}{us:LW}(r:Vals [x] us):∃u,us=[u]/\RelV x u:=by
 cases r with
 |cons r1 r2=>cases r2;exact⟨_,rfl,r1⟩
theorem dY:kD X (.builtin "abs") (λxs H Q=>∃i,xs=[.int i]/\Q (.int (if i<0 then -i else i)) H):=by
 intro f s e H xs us Q I r h;obtain⟨i,rfl,q⟩:=h;obtain⟨u,rfl,d,rfl⟩:=jM r;exact call_abs_int λu tk=>⟨.int (if i<0 then -i else i),H,I.tok _,⟨_,rfl⟩,q⟩
theorem Fn:kD X (.type "int") (λxs H Q=>(∃i,xs=[.int i]/\Q (.int i) H)\/∃k,xs=[.bl k]/\Q (.int (if k then 1 else 0)) H):=by
 intro f s e H xs us Q I r h;rcases h with⟨i,rfl,q⟩|⟨k,rfl,q⟩
 ·obtain⟨u,rfl,d,rfl⟩:=jM r;exact call_int_int ⟨.int i,H,I,⟨_,rfl⟩,q⟩
 ·obtain⟨u,rfl,r1⟩:=jM r;cases r1;exact call_int_bool ⟨.int (if k then 1 else 0),H,I.tok _,⟨_,rfl⟩,q⟩
end
structure ObjM(h:Heap)(x dx C:Addr)(mA:MT):Prop where
 obj:h.get? x=some (PySem.W.instObj C dx)
 ns:h.Ns1 dx mA
 ne:dx≠x
theorem Fm{h:Heap}{c:Addr}{b:MT}(n:h.Ns1 c b):∃od,h.get? c=some od/\∀name,PySem.W.lookIn name od=some (b name):=by
 obtain⟨o,es,ep,j,i,f,_,k⟩:=n;refine⟨o,j,λname=>?_⟩;have e:=k name;unfold nsFind findBy at e;rw[←Array.find?_toList]at e;unfold PySem.W.lookIn;rw[i];dsimp only;split
 ·rename_i y q;rw[q]at e;exact vA some e
 ·rename_i q;rw[q]at e;have a:es.toList.any (·.refKey)=false:=by
   rw[List.any_eq_false];intro y l;obtain⟨z,m,d⟩:=f y (Array.mem_toList_iff.mp l);simp[DictEntry.refKey,d]
  have g:¬ es.toList.any (·.refKey)=true:=by rw[a];exact yH
  rw[zD g];exact vA some e
theorem ObjM.look{h:Heap}{x b C:Addr}{a:MT}(I:ObjM h x b C a):∃od,PySem.W.InstAt h x (PySem.W.instObj C b) C (some od)/\∀name,PySem.W.lookIn name od=some (a name):=
 let ⟨od,c,hl⟩:=Fm I.ns
 ⟨od,⟨I.obj,rfl,rfl,c⟩,hl⟩
section
variable {prog:Program} {w:World} {A:Around} {E:VP} {s:Shared} {K:Frag} {x dx C f:Addr} {mA:MT} {name:Str} {v:Value}
theorem Nj{g:Bool}{Q:VP}(X:K.In s.heap)(I:ObjM s.heap x dx C mA)(d:PySem.W.plainGet K C name=true)(hh:PySem.W.hasDictIn K C=true)
  (a:PySem.W.findIn K (.ref C) name=some none)(c:mA name=some v)(b:PySem.W.handedIn v=true)(h:Q v {s with toks:=s.toks+1}):
  wpAny (model prog w) A (getAttr (.ref x) name g) Q E s:=by
 obtain⟨od,e,hl⟩:=I.look;exact PySem.W.get_value X e (rW d).1 (PySem.W.findObj_own hh a rfl (by rw[hl,c])) b h
theorem Ni{pl:Sem Bool}{Q:Value×LW->Shared->Prop}(X:K.In s.heap)(I:ObjM s.heap x dx C mA)(a:PySem.W.plainGet K C name=true)
  (c:PySem.W.findIn K (.ref C) name=some (some (.ref f)))(b:PySem.W.isFn K (.ref f)=true)(d:mA name=none)(h:Q (.ref f,[.ref x]) s):
  wpAny (model prog w) A (getMethod (.ref x) name pl) Q E s:=by
 obtain⟨od,e,hl⟩:=I.look;exact PySem.W.method_fn X e (rW a).1 (rW a).2 c (oS.mp b) (by show(PySem.W.lookIn name od).map (·.isSome)=some false;rw[hl,d];rfl) h
theorem Nh{ns:List Str}{Q:Unit->Shared->Prop}(X:K.In s.heap)(I:ObjM s.heap x dx C mA)
  (n:PySem.W.findIn K (.ref C) "__setattr__"=some (some (.builtin "object.__setattr__")))(o:PySem.W.plainOver K C=true)(i:PySem.W.takerIn K C name=some none)(hh:PySem.W.hasDictIn K C=true)
  (l:PySem.Within mA ns)(hsz:ns.length<=sizeLine)
  (h:∀h',ObjM h' x dx C (λy=>if y=name then some v else mA y)->Heap.SameBut dx s.heap h'->Q () {s with heap:=h',toks:=s.toks+2}):
  wpAny (model prog w) A (setAttr (.ref x) name v) Q E s:=by
 obtain⟨od,c,hl⟩:=I.look;refine PySem.W.set_plain X c n (PySem.W.osa_open (s:={s with toks:=s.toks+1}) (r:=none) X c o i λb=>?_);obtain⟨t,g,p⟩:=rF hh;have e:s.heap.get? x=some ⟨.ref C,some dx,.plain,#[]⟩:=I.obj;refine zA (zB (zA (zA (qF e (zA (wY (s:={s with toks:=s.toks+1}) (rY X g) ?_))))));rw[p];refine zB (a:=some dx) (zA (zB (zA ?_)));refine wpAny_nsSet1 (s:={s with toks:=s.toks+1}) I.ns λh' d a=>?_;obtain⟨u,r,q,m,k,j⟩:=d.count (PySem.Within.cons name v l);refine zA (wpAny_lookBehind m (by rw[k];exact pastItsLine_dict (yC j (by rw[zR];omega))) ?_);exact zB (h _ ⟨(a.2 _ (zT I.ne)).trans I.obj,d,I.ne⟩ a)
theorem Ng{R:Result->Shared->Prop}{vs:LW}{a:List (Str×Value)}(X:K.In s.heap)(c:PySem.W.makesIn K C=true)
  (hi:PySem.W.findIn K (.ref C) "__init__"=some (some (.ref f)))(b:PySem.W.typeIn K (.ref f)=some (.type "function"))
  (h:codeAny (model prog w) (A.under (.builtin "type.__call__" ⟨.ref C:: vs,a⟩)) (.call (.ref f) ⟨.ref (s.heap.objs.size+1):: vs,a⟩) (PySem.W.InitBack (s.heap.objs.size+1) R)
   {s with heap:=(s.heap.push PySem.W.emptyDict).push (PySem.W.instObj C s.heap.objs.size)}):
  codeAny (model prog w) A (.call (.ref C) ⟨vs,a⟩) R s:=by
 obtain⟨hh,g,d,i,j⟩:=s;exact PySem.W.make_core (PySem.W.makes_of X c) (wH X hi) (λe=>PySem.W.bind_fn X e b) (.inl rfl) h
end
def putF(f:Str)(v:V):List (Str×V)->List (Str×V)
 |[]=>[(f,v)]
 |(g,x):: r=>if g=f then(g,v):: r else(g,x):: putF f v r
theorem Fl(f g:Str)(v:V):∀fs:List (Str×V),(putF f v fs).lookup g=if g=f then some v else fs.lookup g
 |[]=>by
  show List.lookup g [(f,v)]=_
  by_cases h:g=f
  ·have a:(g == f)=true:=oS.mpr h;simp only[List.lookup,a,if_pos h]
  ·have a:(g == f)=false:=oV.mpr h;simp only[List.lookup,a,if_neg h]
 | (k,x):: r=>by
  have c:=Fl f g v r;rw[show putF f v ((k,x):: r)=(if k=f then(k,v):: r else(k,x):: putF f v r) from rfl]
  by_cases b:k=f
  ·rw[zF b]
   by_cases h:g=k
   ·have a:(g == k)=true:=oS.mpr h;simp only[List.lookup,a,if_pos (h.trans b)]
   ·have a:(g == k)=false:=oV.mpr h;simp only[List.lookup,a,if_neg (λe:g=f=>h (e.trans b.symm))]
  ·rw[zD b]
   by_cases h:g=k
   ·have a:(g == k)=true:=oS.mpr h;simp only[List.lookup,a,if_neg (λe:g=f=>b (h.symm.trans e))]
   ·have a:(g == k)=false:=oV.mpr h;simp only[List.lookup,a];exact c
theorem Br(f:Str)(v:V):∀fs:List (Str×V),f∈(putF f v fs).map (·.1)/\∀g,g∈fs.map (·.1)->g∈(putF f v fs).map (·.1)
 |[]=>⟨by simp[putF],λg h=>by simp at h⟩
 | (k,x):: r=>by
  obtain⟨b,c⟩:=Br f v r;rw[show putF f v ((k,x):: r)=(if k=f then(k,v):: r else(k,x):: putF f v r) from rfl]
  by_cases a:k=f
  ·rw[zF a];subst a;exact⟨by simp,λg h=>by simpa using h⟩
  ·rw[zD a];refine⟨?_,λg h=>?_⟩
   ·rw[zO];exact zU _ b
   ·rw[zO]at h ⊢;rcases xM.mp h with e|e
    ·exact xM.mpr (.inl e)
    ·exact zU _ (c g e)
theorem Fk(f:Str)(v:V):∀fs:List (Str×V),(putF f v fs).length<=fs.length+1
 |[]=>by simp[putF]
 |(k,x):: r=>by
  have b:=Fk f v r;rw[show putF f v ((k,x):: r)=(if k=f then(k,v):: r else(k,x):: putF f v r) from rfl]
  by_cases a:k=f
  ·rw[zF a,zR,zR];omega
  ·rw[zD a,zR,zR];omega
theorem RelO.some_of{v:V}{o:Option Value}(r:RelO (some v) o):∃u,o=some u/\RelV v u:=by
 cases o with
 |none=>exact(show False from r).elim
 |some u=>exact⟨u,rfl,r⟩
theorem RelO.none_of{o:Option Value}(r:RelO none o):o=none:=by
 cases o with
 |none=>rfl
 |some u=>exact(show False from r).elim
theorem Fj{v:V}{u:Value}(r:RelV v u):PySem.W.handedIn u=true:=by
 cases v with
 |non=>cases(show u=Value.none from r);rfl
 |bl b=>cases(show u=Value.bool b from r);rfl
 |int i=>obtain⟨t,e⟩:=(show∃t,u=Value.int i t from r);cases e;rfl
 |str x=>obtain⟨t,e⟩:=(show∃t,u=Value.str x t from r);cases e;rfl
 |byt b=>obtain⟨t,e⟩:=(show∃t,u=Value.bytes b t from r);cases e;rfl
 |flt b=>obtain⟨t,e⟩:=(show∃t,u=Value.float b t from r);cases e;rfl
 |ref a=>cases(show u=Value.ref a from r);rfl
 |ty n=>cases(show u=Value.type n from r);rfl
section
variable {P:Program} {w:World} {H H':Hp} {h h':Heap} {a C dx:Addr} {fs fs':List (Str×V)}
theorem bK(g:HOk P w H h)(e:H a=some (.ins C dx fs)):∃b,ObjM h a dx C b/\(∀f,RelO (fs.lookup f) (b f))/\PySem.Within b (fs.map (·.1))/\fs.length<=1000/\H dx=some (.own a):=by
 obtain⟨d,z,ne,c,b,n,r,q⟩:=(show mI P w H h a (.ins C dx fs) from g a _ e);exact⟨b,⟨c,n,ne⟩,r,q,z,d⟩
end
structure Cls(K:Frag)(C:Addr):Prop where
 pg:PySem.W.plainGet K C Str.empty=true
 hd:PySem.W.hasDictIn K C=true
 po:PySem.W.plainOver K C=true
 sa:PySem.W.findIn K (.ref C) "__setattr__"=some (some (.builtin "object.__setattr__"))
theorem Cls.get{K:Frag}{C:Addr}(c:Cls K C)(f:Str):PySem.W.plainGet K C f=true:=c.pg
def fH(K:Frag)(C:Addr)(f:Str):Prop:=PySem.W.findIn K (.ref C) f=some none
theorem fH.taker{K:Frag}{C:Addr}{f:Str}(n:fH K C f):PySem.W.takerIn K C f=some none:=by
 unfold PySem.W.takerIn;rw[show PySem.W.findIn K (.ref C) f=some none from n];rfl
structure Meth(K:Frag)(C:Addr)(m:Str)(f:Addr):Prop where
 at_:PySem.W.findIn K (.ref C) m=some (some (.ref f))
 fn:PySem.W.isFn K (.ref f)=true
 kp:PySem.W.keepIn K (.ref f)=true
section
variable {X:Cx} {pins:PN} {σ:St} {H:Hp} {s:Shared} {a C dx:Addr} {fs:List (Str×V)} {f:Str} {v:V} {A:Around} {E:VP}
theorem Nf{b:Bool}{Q:VP}(I:Inv X pins σ H s)(e:H a=some (.ins C dx fs))(c:Cls X.K C)(n:fH X.K C f)(l:fs.lookup f=some v)
  (h:∀u d,Inv X pins σ H d->RelV v u->Q u d):wpAny (model X.prog X.w) A (getAttr (.ref a) f b) Q E s:=by
 obtain⟨i,O,r,_,_,_⟩:=bK I.hok e;obtain⟨u,j,g⟩:=RelO.some_of (v:=v) (o:=i f) (by rw[←l];exact r f);exact Nj I.kIn O (c.get f) c.hd n j (Fj g) (h u _ (I.tok _) g)
theorem Nd{m:Str}{g:Addr}{pl:Sem Bool}{Q:Value×LW->Shared->Prop}(I:Inv X pins σ H s)(e:H a=some (.ins C dx fs))(c:Cls X.K C)(k:Meth X.K C m g)(l:fs.lookup m=none)
  (h:Q (.ref g,[.ref a]) s):wpAny (model X.prog X.w) A (getMethod (.ref a) m pl) Q E s:=by
 obtain⟨d,O,r,_,_,_⟩:=bK I.hok e;have b:d m=none:=RelO.none_of (by rw[←l];exact r m);exact Ni I.kIn O (c.get m) k.at_ k.fn b h
theorem Nc{y:V}{u:Value}{Q:Unit->Shared->Prop}(I:Inv X pins σ H s)(e:H a=some (.ins C dx fs))(c:Cls X.K C)(n:fH X.K C f)(hl:fs.length<1000)(p:RelV y u)
  (h:∀j,Inv X pins σ (upd H a (.ins C dx (putF f y fs))) j->Q () j):wpAny (model X.prog X.w) A (setAttr (.ref a) f u) Q E s:=by
 obtain⟨l,O,r,i,_,k⟩:=bK I.hok e;have w:(fs.map (·.1)).length<=sizeLine:=by rw[yM,sizeLine_eq];omega
 refine Nh I.kIn O c.sa c.po n.taker c.hd i w λh' d F=>h _ ?_;have t:∃o,h'.get? dx=some o:=let ⟨o,_,_,m,_⟩:=d.ns;⟨o,m⟩
 refine I.write (x:=a) (e:=dx) (by rw[e];exact True.intro) (.inr k) (λb q D z=>(F.2 b D).trans z) t ?_;refine⟨by rw[nO O.ne];exact k,?_,O.ne,d.obj,_,d.ns,λg=>?_,λg x=>?_⟩
 ·have:=Fk f y fs;omega
 ·show RelO ((putF f y fs).lookup g) (if g=f then some u else l g);rw[Fl]
  by_cases q:g=f
  ·rw[zF q,zF q];exact p
  ·rw[zD q,zD q];exact r g
 ·by_cases q:g=f
  ·rw[q];exact(Br f y fs).1
  ·refine(Br f y fs).2 g (i g λz=>x ?_);show(if g=f then some u else l g)=none;rw[zD q];exact z
theorem Inv.made(I:Inv X pins σ H s):Inv X pins σ (upd (upd H s.heap.objs.size (.own (s.heap.objs.size+1))) (s.heap.objs.size+1) (.ins C s.heap.objs.size []))
  {s with heap:=(s.heap.push PySem.W.emptyDict).push (PySem.W.instObj C s.heap.objs.size)}:=by
 have e1:(s.heap.push PySem.W.emptyDict).get? s.heap.objs.size=some PySem.W.emptyDict:=zQ s.heap rfl;have d:((s.heap.push PySem.W.emptyDict).push (PySem.W.instObj C s.heap.objs.size)).get? (s.heap.objs.size+1)=some (PySem.W.instObj C s.heap.objs.size):=by
  have:=zQ (s.heap.push PySem.W.emptyDict) (o:=PySem.W.instObj C s.heap.objs.size) rfl
  rwa[xP]at this
 have c:(s.heap.push PySem.W.emptyDict).Ns s.heap.objs.size (λ_=>none):=⟨PySem.W.emptyDict,#[],_,e1,rfl,(λe i=>absurd i (by simp)),λ_=>rfl⟩;have j:=I.laid (a:=s.heap.objs.size) (o:=.own (s.heap.objs.size+1)) (h':=s.heap.push PySem.W.emptyDict) (t':=s.toks) (λb u q=>zC _ q) (zE _) ⟨_,e1⟩;refine j.laid (a:=s.heap.objs.size+1) (o:=.ins C s.heap.objs.size []) (t':=s.toks) (λb u q=>zC _ q) (sN (xP _ _)) ?_;have ne:s.heap.objs.size≠s.heap.objs.size+1:=zW (uG _);refine⟨by rw[nO ne,nN],zY _,ne,d,λ_=>none,(Heap.Ns1.of_empty c).at λo q=>zC _ q,λ_=>True.intro,λy g=>absurd rfl g⟩
theorem Fi{prog:Program}{w:World}{env:Env}{e:Expr}{f:Str}{b:Pos}{s:Shared}{Q:VP}(d:attributeBase e f env (eval e env)=eval e env)
  (h:wpAny (model prog w) A (eval e env) (λo c=>wpAny (model prog w) A (getAttr o f true) Q E c) E s):wpAny (model prog w) A (eval (.Attribute e f b) env) Q E s:=
 Attribute_any_ h (by rw[arm_eval_Attribute,d])
end
def tFld(K:Frag)(ta:TE)(f:Str):TE:=λσ H Q=>ta σ H λx H1=>∃a C dx fs v,x=.ref a/\H1 a=some (.ins C dx fs)/\Cls K C/\fH K C f/\fs.lookup f=some v/\Q v H1
def sFld(K:Frag)(ta tv:TE)(f:Str):TS:=λD σ H=>tv σ H λy H1=>ta σ H1 λx H2=>∃a C dx fs,x=.ref a/\H2 a=some (.ins C dx fs)/\Cls K C/\fH K C f/\fs.length<1000 /\
 D.nx σ (upd H2 a (.ins C dx (putF f y fs)))
section
variable {X:Cx} {o e value:Expr} {f:Str} {pos pos' tpos:Pos} {ta tv:TE}
theorem eE(r:PE X e ta)(t:attributeBase e f X.env (eval e X.env)=eval e X.env):PE X (.Attribute e f pos) (tFld X.K ta f):=by
 intro m s i H Q I h;refine Fi t (thn (r m s i H _ I h) λu y⟨x,p,w,b,a,C,F,fs,v,d,k,c,n,l,q⟩=>?_);subst d;obtain rfl:u=Value.ref a:=b;exact Nf w k c n l λD z j g=>⟨v,p,j,g,q⟩
theorem dZ(r:PE X o ta)(t:PE X value tv)(v:swapsWith value (some (.Attribute o f pos')) pos.line X.env=pure false):PS X (.Assign [.Attribute o f pos'] value pos) (sFld X.K ta tv f):=by
 intro d s b H D I h;refine plainObj_wpAny_Assign_Attribute (thn (t d s b H _ I h) λu m⟨y,j,w,z,q⟩=>thn (r d m b j _ w q) λg K⟨x,L,F,p,a,C,M,fs,J,i,c,n,l,k⟩=>?_) v;subst J;obtain rfl:g=Value.ref a:=p;exact Nc F i c n l z λN G=>⟨b,_,G,k⟩
end
section
variable {X:Cx} {pins:PN} {σ:St} {H:Hp} {s:Shared} {A:Around} {E:VP} {Q:VP} {c:Value} {b:Bool}
inductive TyOf(K:Frag)(H:Hp):V->Value->Prop where
 |non:TyOf K H .non (.type "NoneType")
 |bl (x:Bool):TyOf K H (.bl x) (.type "bool")
 |int (i:Int):TyOf K H (.int i) (.type "int")
 |str (x:Str):TyOf K H (.str x) (.type "str")
 |flt (x:UInt64):TyOf K H (.flt x) (.type "float")
 |lst {a:Addr} {xs:List V} (e:H a=some (.lst xs)):TyOf K H (.ref a) (.type "list")
 |frz {a:Addr} {o:Obj} {xs:List V} (e:H a=some (.frz o (.lst xs))):TyOf K H (.ref a) (.type "list")
 |tup {a:Addr} {xs:List V} (e:H a=some (.tup xs)):TyOf K H (.ref a) (.type "tuple")
 |dK {a:Addr} {kvs:List (Key×V)} (e:H a=some (.dK kvs)):TyOf K H (.ref a) (.type "dict")
 |dT {a:Addr} {kvs:List (List Key×V)} (e:H a=some (.dT kvs)):TyOf K H (.ref a) (.type "dict")
 | ins {a C dx:Addr} {fs:List (Str×V)} (e:H a=some (.ins C dx fs)) (cl:Cls K C) (ha:PySem.W.findIn K (.ref C) "__class__"=some (some (.builtin "object.__class__")))
   (hn:PySem.W.specialIn K (.builtin "object.__class__") "__get__"=some (some (.builtin "getset_descriptor.__get__"))) (htk:PySem.W.takesIn K (.builtin "object.__class__")=some true)
   (hm:PySem.W.mroIn K C (.type "object")=some true):TyOf K H (.ref a) (.ref C)
theorem Nb{x:V}{u f:Value}(I:Inv X pins σ H s)(d:RelV x u)(ty:TyOf X.K H x f)(e:PySem.W.kitOne X.K f c=some b)(h:∀tk,Q (.bool b) {s with toks:=tk}):
  wpAny (model X.prog X.w) A (call (.builtin "isinstance") [u,c]) Q E s:=by
 cases ty with
 |non=>cases(show u=Value.none from d);exact xL PySem.W.kitx_none I.kIn True.intro e (λz=>nomatch z) h
 |bl y=>cases(show u=Value.bool y from d);exact xL PySem.W.kitx_bool I.kIn True.intro e (λz=>nomatch z) h
 |int i=>obtain⟨f,q⟩:=(show∃f,u=Value.int i f from d);cases q;exact xL PySem.W.kitx_int I.kIn True.intro e (λz=>nomatch z) h
 |str y=>obtain⟨f,q⟩:=(show∃f,u=Value.str y f from d);cases q;exact xL PySem.W.kitx_str I.kIn True.intro e (λz=>nomatch z) h
 |flt y=>obtain⟨f,q⟩:=(show∃f,u=Value.float y f from d);cases q;exact xL PySem.W.kitx_float I.kIn True.intro e (λz=>nomatch z) h
 |@lst a xs g =>
  cases(show u=Value.ref a from d);obtain⟨_,_,n,_,j⟩:=(show mI X.prog X.w H s.heap a (.lst xs) from I.hok a _ g);exact xL pE I.kIn ⟨_,j,rfl⟩ e (λz=>nomatch z) h
 |@frz a t xs g =>
  cases(show u=Value.ref a from d);obtain⟨_,_,_,n,_,j⟩:=(show mI X.prog X.w H s.heap a (.frz t (.lst xs)) from I.hok a _ g);exact xL pE I.kIn ⟨_,j,rfl⟩ e (λz=>nomatch z) h
 |@tup a xs g =>
  cases(show u=Value.ref a from d);obtain⟨_,_,_,p⟩:=(show mI X.prog X.w H s.heap a (.tup xs) from I.hok a _ g);obtain⟨o,j,k,_⟩:=p;exact xL PySem.W.kitx_tuple I.kIn ⟨o,j,k⟩ e (λz=>nomatch z) h
 |@dK a kvs g =>
  cases(show u=Value.ref a from d);obtain⟨_,_,vs,_,p⟩:=(show mI X.prog X.w H s.heap a (.dK kvs) from I.hok a _ g);obtain⟨o,es,ep,j,k,_⟩:=p;exact xL PySem.W.kitx_dict I.kIn ⟨o,j,k.1⟩ e (λz=>nomatch z) h
 |@dT a kvs g =>
  cases(show u=Value.ref a from d);obtain⟨_,_,xs,_,o,es,ep,j,k,_⟩:=(show mI X.prog X.w H s.heap a (.dT kvs) from I.hok a _ g);exact xL PySem.W.kitx_dict I.kIn ⟨o,j,k.1⟩ e (λz=>nomatch z) h
 |@ins a C G fs g l m r v w =>
  cases(show u=Value.ref a from d);obtain⟨F,O,_⟩:=bK I.hok g;obtain⟨od,D,_⟩:=O.look;exact xL (PySem.W.kitx_own (l.get _) l.hd m r v w) I.kIn D e (λz=>nomatch z) h
end
structure Room(k:Nat)(A:Around):Prop where
 hd:A.handled=none
 dp:A.depth+3*k+5<recursionLimit
 un:A.units+16*k+200<cLine
theorem Room.mono{j k:Nat}{A:Around}(r:Room k A)(h:j<=k):Room j A:=⟨r.hd,by have:=r.dp;omega,by have:=r.un;omega⟩
theorem Room.mo{j k:Nat}{A:Around}(r:Room k A)(h:j<=k:=by first|decide|omega):Room j A:=r.mono h
theorem Room.deeper{k:Nat}{A:Around}(r:Room (k+1) A)(env:Env):Room k (A.deeper env):=
 ⟨r.hd,by have:=r.dp;show A.depth+1+3*k+5<_;omega,by have:=r.un;show A.units+3+16*k+200<_;omega⟩
theorem Na{A:Around}{C:Addr}{us:LW}{a:List (Str×Value)}:(A.under (.builtin "type.__call__" ⟨.ref C:: us,a⟩)).depth=A.depth+1:=by
 first|rfl|simp[Around.under,Code.weight,Code.isCreation,Code.isGuard,Code.isCaller,Code.frames,Code.isFrame,guardIds]
theorem Oz{A:Around}{C:Addr}{us:LW}{a:List (Str×Value)}:(A.under (.builtin "type.__call__" ⟨.ref C:: us,a⟩)).units=A.units+1:=by
 first|rfl|simp[Around.under,Code.cUnits,Code.frames,Code.isFrame]
theorem Room.make{k:Nat}{A:Around}(r:Room (k+1) A)(C:Addr)(us:LW)(a:List (Str×Value)):Room k (A.under (.builtin "type.__call__" ⟨.ref C:: us,a⟩)):=
 ⟨r.hd,by have:=r.dp;rw[Na];omega,by have:=r.un;rw[Oz];omega⟩
theorem Room.depth{k:Nat}{A:Around}(r:Room k A):A.depth<recursionLimit:=by have:=r.dp;omega
theorem Room.units{k:Nat}{A:Around}(r:Room k A):A.units+64<cLine:=by have:=r.un;omega
def tNil:TA:=λ_ H Q=>Q [] H
def mH(ta:TE)(tr:TA):TA:=λσ H Q=>ta σ H λx H1=>tr σ H1 λxs H2=>Q (x:: xs) H2
section
variable {X:Cx} {e:Expr} {es:List Expr} {te:TE} {t:TA} {pos:Pos}
theorem nI:PA X [] tNil:=λ_ _ _ _ H Q I h=>Calls.spliced_nil ⟨[],H,I,.nil,h⟩
theorem nH(d:PE X e te)(hr:PA X es t)(i:starEach (e:: es) X.env=(false,eval e X.env):: starEach es X.env:=by rfl):PA X (e:: es) (mH te t):=by
 intro pos b s a H Q I h;rw[i];show wpAny _ _ (spliced ((false,eval e X.env):: backTo pos (starEach es X.env))) _ _ s;refine Calls.spliced_cons (thn (d b s a H _ I h) λu c⟨x,k,m,r1,g⟩=>?_);exact thn (hr pos b c a k _ m g) λus n⟨xs,j,f,r2,l⟩=>⟨x:: xs,j,f,.cons r1 r2,l⟩
def tTup(t:TA):TE:=λσ H Q=>t σ H λxs H1=>xs.length<=sizeLine/\∀p,H1 p=none->Q (.ref p) (upd H1 p (.tup xs))
def tLst(t:TA):TE:=λσ H Q=>t σ H λxs H1=>xs.length<=sizeLine/\∀p,H1 p=none->Q (.ref p) (upd H1 p (.lst xs))
theorem kQ{k}(h:PA X es t):PE X (.Tuple es k pos) (tTup t):=by
 intro j s g H Q I f;refine wpAny_Tuple_spliced (thn (h pos j s g H _ I f) λus a⟨xs,c,d,r,z,q⟩=>⟨by rw[←r.length];exact z,?_⟩);have i:c a.heap.objs.size=none:=d.hok.fresh (zE _);refine⟨.ref a.heap.objs.size,upd c a.heap.objs.size (.tup xs),d.laid (t':=a.toks) (λb u e=>zC _ e) (zE _) ?_,rfl,q _ i⟩;exact⟨z,us,r,⟨_,zQ _ rfl,rfl,_,rfl⟩⟩
theorem mQ(h:PA X es t):PE X (.List es pos) (tLst t):=by
 intro j s g H Q I f;refine wpAny_List_spliced (thn (h pos j s g H _ I f) λus a⟨xs,c,d,r,z,q⟩=>⟨by rw[←r.length];exact z,?_⟩);have i:c a.heap.objs.size=none:=d.hok.fresh (zE _);refine⟨.ref a.heap.objs.size,upd c a.heap.objs.size (.lst xs),d.laid (t':=a.toks) (λb u e=>zC _ e) (zE _) ?_,rfl,q _ i⟩;exact⟨z,us,0,r,zQ _ rfl⟩
end
abbrev Sp:=List V->Hp->VK->XK->Prop
abbrev CXT:=List Env->Hp->Shared->XK->VP
structure Env0(P:Program)(w:World)(K:Frag)(mg:MT)(base:Heap)(A:Around)(outer:List Env)(s:Shared)(H:Hp):Prop where
 frames:A.frames=some outer
 mod:Mod K mg base
 bs:∀b o,base.get? b=some o->s.heap.get? b=some o/\H b=none
 bsz:base.objs.size<=s.heap.objs.size
 funs:s.heap.FunFrames base outer
 frf:∀b∈frs outer,H b=none
 hok:HOk P w H s.heap
 bare:AllBare s.gens
def CE(outer:List Env)(P:Program)(w:World)(H:Hp)(s:Shared)(Q:VK)(u:Value)(s':Shared):Prop:=
 ∃v H',s'.os=s.os/\AllBare s'.gens/\Un (frs outer) [] H H' s.heap s'.heap/\HOk P w H' s'.heap/\RelV v u/\Q v H'
def CR(CX:CXT)(outer:List Env)(P:Program)(w:World)(H:Hp)(s:Shared)(Q:VK)(E:XK)(r:Result)(s':Shared):Prop:=
 match r with
 |.ok (.ret u)=>CE outer P w H s Q u s'
 |.ok _=>False
 |.error e=>CX outer H s E e s'
structure FnOk(P:Program)(w:World)(K:Frag)(mg:MT)(base:Heap)(CX:CXT)(k:Nat)(f:Addr)(fd:FuncData)(ps:List Str)(sp:Sp):Prop where
 len:∀vs H Q E,sp vs H Q E->vs.length=ps.length
 run:∀(A:Around)(outer:List Env)(s:Shared)(H:Hp)(args:Args)(us:LW)(vs:List V)(Q:VK)(E:XK),Room k A->Env0 P w K mg base A outer s H->BindsTo s fd args (ps.zip us)->Vals vs us->sp vs H Q E ->
  codeAny (model P w) A (.call (.ref f) args) (CR CX outer P w H s Q E) s
theorem Env0.make{P:Program}{w:World}{K:Frag}{a:MT}{base:Heap}{A:Around}{outer:List Env}{s:Shared}{H:Hp}(e:Env0 P w K a base A outer s H)(C:Addr)(us:LW)(b:List (Str×Value)):
  Env0 P w K a base (A.under (.builtin "type.__call__" ⟨.ref C:: us,b⟩)) outer s H:=⟨by first|exact e.frames|(simpa [Around.under,Code.envs,Code.isFrame,pushEnvs]using e.frames),e.mod,e.bs,e.bsz,e.funs,e.frf,e.hok,e.bare⟩
section
variable {X:Cx} {pins:PN} {σ:St} {H:Hp} {s s':Shared}
theorem Inv.env0(I:Inv X pins σ H s):Env0 X.prog X.w X.K X.mg X.base X.A X.stack s H:=
 ⟨I.ok.frames,I.ok.mod,I.bs,yC I.ok.bsz I.sz,I.stack,I.stkFree,I.hok,I.bare⟩
theorem Inv.after{Q:VK}{u:Value}(I:Inv X pins σ H s)(h:CE X.stack X.prog X.w H s Q u s'):EP X pins σ Q u s':=by
 obtain⟨v,H',f,i,un,e,r,q⟩:=h;obtain⟨hh,g,d,a,c⟩:=s';obtain rfl:c=s.os:=f;exact⟨v,H',I.call (h':=hh) (g':=g) (d':=d) (t':=a) (ch:=[]) un e i (λb z=>absurd z (by simp)),r,q⟩
end
def kJ(sp:Sp)(dvs:List V)(E:XK)(t:TA):TE:=λσ H Q=>t σ H λvs H1=>sp (vs++dvs) H1 Q E
def Bq(C:Addr)(m:Str)(sp:Sp)(dvs:List V)(E:XK)(ta:TE)(t:TA):TE:=λσ H Q=>ta σ H λx H1=>∃a dx fs,x=.ref a/\H1 a=some (.ins C dx fs)/\fs.lookup m=none /\
 t σ H1 λvs H2=>sp (x:: (vs++dvs)) H2 Q E
def lT(K:Frag)(fd:FuncData)(ps:List Str)(ds:LW):Prop:=
 ∀(s:Shared)(us:LW),K.In s.heap->(us++ds).length=ps.length->BindsTo s fd ⟨us,[]⟩ (ps.zip (us++ds))
theorem lT.all{K:Frag}{a:FuncData}{ps:List Str}(h:∀us:LW,us.length=ps.length->bindArgs a ⟨us,[]⟩=pure (ps.zip us)):lT K a ps []:=λs us _ hl=>by
 rw[wO]at hl ⊢;exact .of_eq (h us hl)
def eF(CX:CXT)(X:Cx)(E:XK):Prop:=∀(pins:PN)(σ:St)(H:Hp)(s:Shared)(e:Value)(s':Shared),Inv X pins σ H s->CX X.stack H s E e s'->X.xe e s'
section
variable {X:Cx} {CX:CXT} {k:Nat} {f C:Addr} {fd:FuncData} {ps:List Str} {sp:Sp} {dvs:List V} {ds:LW} {E:XK} {x m:Str} {p pos apos:Pos} {e o:Expr} {es:List Expr} {ta:TE} {t:TA}
theorem Fh{c:PN}{b:St}{H:Hp}{s:Shared}{Q:VK}{us:LW}{vs:List V}(F:FnOk X.prog X.w X.K X.mg X.base CX k f fd ps sp)(hr:Room k X.A)(j:lT X.K fd ps ds)(g:Vals dvs ds)(d:eF CX X E)
  (I:Inv X c b H s)(r:Vals vs us)(h:sp (vs++dvs) H Q E):wpAny (model X.prog X.w) X.A (call (.ref f) us) (EP X c b Q) X.xe s:=by
 have r2:Vals (vs++dvs) (us++ds):=r.append g;have hl:(us++ds).length=ps.length:=by rw[←r2.length];exact F.len _ _ _ _ h
 refine uN (tI (F.run X.A X.stack s H ⟨us,[]⟩ (us++ds) (vs++dvs) Q E hr I.env0 (j s us I.kIn hl) r2 h) λr i a=>?_);cases r with
 |error e=>exact d c b H s e i I a
 |ok fl =>
  cases fl with
  |ret u=>exact I.after a
  |next=>exact False.elim a
  |brk=>exact False.elim a
  |cont=>exact False.elim a
theorem bL(F:FnOk X.prog X.w X.K X.mg X.base CX k f fd ps sp)(hr:Room k X.A)(n:Gl X x)(u:X.mg x=some (.ref f))(y:PySem.W.keepIn X.K (.ref f)=true)(w:lT X.K fd ps ds)(g:Vals dvs ds)(b:eF CX X E)
  (c:PA X (e:: es) t)(j:(x == ("__debug__" :Str))=false:=by decide)(v:starEach (e:: es) X.env=(false,eval e X.env):: starEach es X.env:=by rfl)(i:(backTo pos (starEach es X.env)).any (·.1)=false:=by rfl):
  PE X (.Call (.Name x p) (e:: es) [] pos) (kJ sp dvs E t):=by
 intro l s d H Q I h;refine wC (iV I n u ?_ j);refine sG (h₀:=X.base) I.ok.mod.kin y (thn (c pos l s d H _ I h) λus z⟨vs,D,a,r,q⟩=>⟨a.kIn,?_⟩) v i;exact Fh F hr w g b a r q
theorem cC{pl:Sem Bool}(D:PE X o ta)(c:Cls X.K C)(g:Meth X.K C m f)(F:FnOk X.prog X.w X.K X.mg X.base CX k f fd ps sp)(hr:Room k X.A)(G:lT X.K fd ps ds)(w:Vals dvs ds)(i:eF CX X E)
  (j:eval (.Call (.Attribute o m apos) [] [] pos) X.env=(do
   let d ←eval o X.env
   standAt apos.atName
   let (f,first) ←holding [d] (getMethod d m pl)
   callWith pos f first (backTo pos (starEach [] X.env)) (backToKw pos (keywordEach [] X.env))):=by rfl):
  PE X (.Call (.Attribute o m apos) [] [] pos) (Bq C m sp dvs E ta tNil):=by
 intro z s v H Q I h;refine PySem.W.methodCall_KW (pl:=pl) (thn (D z s v H _ I h) λu J⟨x,K,b,n,a,L,fs,r,y,l,q⟩=>?_) j;subst r;obtain rfl:u=Value.ref a:=n;refine Nd b y c g l ?_;exact PySem.W.callWith_K0 (first:=[.ref a]) b.kIn g.kp (Fh (us:=[.ref a]) (vs:=[.ref a]) F hr G w i b (.cons rfl .nil) q)
structure Mk(K:Frag)(C f:Addr):Prop where
 makes:PySem.W.makesIn K C=true
 init:PySem.W.findIn K (.ref C) "__init__"=some (some (.ref f))
 fn:PySem.W.isFn K (.ref f)=true
 kp:PySem.W.keepIn K (.ref C)=true
end
section
variable {X:Cx} {CX:CXT} {k:Nat} {f C:Addr} {fd:FuncData} {ps ks:List Str} {sp:Sp} {E:XK} {x m:Str} {p pos apos kpos:Pos} {e o:Expr} {es:List Expr} {kws:List Keyword} {te ta:TE} {t tk:TA} {nm:Option Str}
variable {g:LW->LW->LW} {gV:List V->List V->List V}
end
structure nZ(N P:List Str)(sc:Scope):Prop where
 kind:sc.kind=.function
 co:sc.isCoroutine=false
 gen:sc.isGenerator=false
 nd:N.Nodup
 pre:N.take P.length=P
 par:∀x∈P,sc.names.lookup x=some .local\/sc.names.lookup x=some .cell
 nofree:∀y∈sc.names,y.2≠.free
theorem Fg{b:Str->Option NameKind}{x:Str}:∀{binds:List (Str×Value)}{m:MT},(∀v,(x,v)∉binds)->bindL b binds m x=m x
 |[],_,_=>rfl
 | (n,v):: r,m,h=>by
  unfold bindL;rw[Fg λw a=>h w (zU _ a)];split
  ·have:x≠n:=by rintro rfl;exact h v yE
   simp[this]
  ·rfl
theorem Ff{b:Str->Option NameKind}{x:Str}:∀{binds:List (Str×Value)}{m:MT},(∀v,(x,v)∉binds)->bindC b binds m x=m x
 |[],_,_=>rfl
 | (n,v):: r,m,h=>by
  unfold bindC;rw[Ff λw a=>h w (zU _ a)];split
  ·rfl
  ·have:x≠n:=by rintro rfl;exact h v yE
   simp[this]
theorem Fe{a:Str->Option NameKind}{x:Str}{v:Value}:∀{P:List Str}{vs:LW}{i:Nat}{m:MT},P.Nodup->P[i]?=some x->vs[i]?=some v->a x=some .local ->
  bindL a (P.zip vs) m x=some v
 |[],_,_,_,_,h,_,_=>by simp at h
 |_:: _,[],_,_,_,_,h,_=>by simp at h
 |p:: P,w:: vs,0,m,nd,b,c,d=>by
  simp at b c;subst b;subst c;show bindL a ((p,w):: P.zip vs) m p=_;unfold bindL;rw[Fg λv e=>(rN.mp nd).1 (uO e).1,zF d];simp
 |p:: P,w:: vs,i+1,m,nd,b,c,d=>by
  show bindL a ((p,w):: P.zip vs) m x=_;unfold bindL;exact Fe (i:=i) (rN.mp nd).2 (by simpa using b) (by simpa using c) d
theorem Fd{a:Str->Option NameKind}{x:Str}{v:Value}:∀{P:List Str}{vs:LW}{i:Nat}{m:MT},P.Nodup->P[i]?=some x->vs[i]?=some v->a x≠some .local ->
  bindC a (P.zip vs) m x=some v
 |[],_,_,_,_,h,_,_=>by simp at h
 |_:: _,[],_,_,_,_,h,_=>by simp at h
 |p:: P,w:: vs,0,m,nd,b,c,d=>by
  simp at b c;subst b;subst c;show bindC a ((p,w):: P.zip vs) m p=_;unfold bindC;rw[Ff λv e=>(rN.mp nd).1 (uO e).1,zD d];simp
 |p:: P,w:: vs,i+1,m,nd,b,c,d=>by
  show bindC a ((p,w):: P.zip vs) m x=_;unfold bindC;exact Fd (i:=i) (rN.mp nd).2 (by simpa using b) (by simpa using c) d
def jE(N:List Str)(vs:List V):St:=vs.map some++List.replicate (N.length-vs.length) none
def cxOf(CX:CXT)(P:Program)(w:World)(K:Frag)(mg:MT)(base:Heap)(N:List Str)(qual:Str)(scope:Scope)(f:Addr)(cd:Value)(A:Around)(outer:List Env)(s:Shared)(H:Hp)(E:XK):Cx where
 prog:=P
 w:=w
 K:=K
 mg:=mg
 base:=base
 A:=A.deeper (envOfC qual scope s.heap.objs.size f cd)
 N:=N
 s₀:=s
 H₀:=H
 env:=envOfC qual scope s.heap.objs.size f cd
 outer:=outer
 stack:=envOfC qual scope s.heap.objs.size f cd:: outer
 ex:=[]
 calm:=true
 fn:=λ_=>true
 pn:=[]
 xe:=λe s'=>wpAny (model P w) (A.deeper (envOfC qual scope s.heap.objs.size f cd)) (leaving (envOfC qual scope s.heap.objs.size f cd) e) (λ_ s''=>CX outer H s E e s'') (λe' s''=>CX outer H s E e' s'') s'
theorem Fc{sc:Scope}{n:Nat}{x:Str}(h:sc.names.lookup x=some .cell):∃c,(cellsFrom n sc.names []).lookup x=some c:=by
 have q:=rC sc.names n [] (.inl h);exact Option.isSome_iff_exists.mp q
theorem Fb{L:CXT}{P:Program}{w:World}{K:Frag}{F:MT}{base:Heap}{N ps:List Str}{C:Str}{j:Scope}{f:Addr}{t:Value}{A:Around}{outer:List Env}{s G:Shared}{H:Hp}{E:XK}{us:LW}{vs:List V}
  (m:nZ N ps j)(R:A.handled=none)(g:Env0 P w K F base A outer s H)(hl:vs.length=ps.length)(r:Vals vs us)
  (x:InCallC s s.heap.objs.size (bindL (envOfC C j s.heap.objs.size f t).kindOf (ps.zip us) λ_=>none) (cellsFrom (s.heap.objs.size+1) j.names []) (bindC (envOfC C j s.heap.objs.size f t).kindOf (ps.zip us) λ_=>none) G):
  Inv (cxOf L P w K F base N C j f t A outer s H E) [] (jE N vs) H G:=by
 have T:ps.length<=N.length:=by have:=vA List.length m.pre;rw[yG]at this;omega
 obtain⟨o,tk,rfl,M⟩:=x.done;have D:∀b:Addr,b∉(cxOf L P w K F base N C j f t A outer s H E).ex:=λb z=>absurd (show b∈([]:LA) from z) (by simp);refine⟨⟨g.mod,m.kind,rfl,rfl,zE _,λy z c o d=>?_,λy l=>?_,λy c _ h=>?_,λ_=>R,Around.frames_deeper g.frames,.inr ⟨rfl,rfl⟩,λb z=>absurd z (D b),g.bs,g.bsz,λb _ _=>D b,λb z=>absurd z (D b),g.funs,g.frf⟩,
  rfl,g.bare,Un.kept M,⟨_,x.toInCall.ns,λi y v o d U=>?_⟩,λy c h=>⟨_,x.cell y c h⟩,g.hok.fresh (zE _),λy c h=>?_,λp n=>absurd (show p∈([]:PN) from n) (by simp),g.hok.kept M,?_⟩
 ·exact name_of_addr x.apart (vJ o) (vJ d)
 ·have l:j.names.lookup y=some .cell\/j.names.lookup y=some .free:=l;rcases l with l|l
  ·exact Fc l
  ·exact absurd rfl (m.nofree _ (vJ l))
 ·exact tG (x.above y c (vJ h))
 ·have hi:i<vs.length:=by
   unfold jE at d
   by_cases hi:i<vs.length
   ·exact hi
   ·rw[zX (by simpa using hi)]at d;rw[List.getElem?_replicate]at d;split at d <;> cases d
  have O:vs[i]?=some v:=by
   unfold jE at d;rw[yB (by simpa using hi),zH]at d;cases e:vs[i]? with
   |none=>rw[e]at d;cases d
   |some a=>rw[e]at d;cases d;rfl
  obtain⟨u,J,S⟩:=r.get O;have n:ps[i]?=some y:=by
   rw[←m.pre,wE ⋯];exact o
  have I:ps.Nodup:=by rw[←m.pre];exact m.nd.sublist (List.take_sublist _ _)
  refine⟨u,S,?_⟩;rcases m.par y (yF n) with k|k
  ·exact .inl ⟨k,Fe I n J k⟩
  ·obtain⟨c,e⟩:=Fc (n:=s.heap.objs.size+1) k;refine .inr ⟨.inl k,c,e,?_⟩;have q:=x.cell y c e;rw[Fd I n J (by show j.names.lookup y≠_;rw[k];decide)]at q;exact q
 ·exact g.hok.fresh (tG (x.above y c (vJ h)))
 ·unfold jE;show _=N.length;rw[yA,yM,List.length_replicate];omega
theorem Bp{m:CXT}{P:Program}{w:World}{K:Frag}{l:MT}{base:Heap}{k:Nat}{f:Addr}{name d:Str}{L:Arguments}{body:List Stmt}{a:Scope}{F kV T J cdv M a1:Value}{S od:Option Addr}
  {W:Array (Option Value)}{N ps:List Str}{z:Sp}(a5:K.lookup f=some ⟨a1,od,.func (PySem.W.fnOf name d L body a F kV T J S cdv M),W⟩)(a6:PySem.W.codeIn K cdv d=true)(j:nZ N ps a)
  (len:∀vs H Q E,z vs H Q E->vs.length=ps.length)
  (a0:∀(A:Around)(outer:List Env)(s:Shared)(H:Hp)(vs:List V)(Q:VK)(E:XK),Room k (A.deeper (envOfC d a s.heap.objs.size f cdv))->z vs H Q E ->
   ∃t,PSs (cxOf m P w K l base N d a f cdv A outer s H E) body t/\t {nx:=λ_ H'=>Q .non H',rt:=Q} (jE N vs) H):
  FnOk P w K l base m (k+1) f (PySem.W.fnOf name d L body a F kV T J S cdv M) ps z:=by
 refine⟨len,λA outer s H a7 us vs Q E hr i a4 r O=>?_⟩;have hl:=len _ _ _ _ O;have KX:K.In s.heap:=i.mod.kin.keeps λb o e=>(i.bs b o e).1;have X:s.heap.NoLimit:=i.mod.nolimit.keeps λb o e=>(i.bs b o e).1;have Z:∀y∈ps.zip us,a.names.lookup y.1=some .local\/(a.names.lookup y.1=some .cell/\((cellsFrom (s.heap.objs.size+1) a.names []).lookup y.1).isSome=true):=λ⟨n,v⟩a3=>by
  rcases j.par n (uO a3).1 with q|q
  ·exact .inl q
  ·exact .inr ⟨q,rC _ _ _ (.inl q)⟩
 refine codeAny_call_function hr.depth (KX _ _ a5) rfl j.co j.gen rfl (PySem.W.codeRec_of KX a6) (a4 _ _ _ _ ?_);refine wpAny_newFunctionEnv_cells j.kind Z λenv Y G x=>?_;subst Y;refine⟨X.keeps x.toInCall.keep,codeAny_func ?_⟩;obtain⟨t,U,a2⟩:=a0 A outer s H vs Q E (hr.deeper _) O;have I:Inv (cxOf m P w K l base N d a f cdv A outer s H E) [] (jE N vs) H G:=Fb j hr.hd i hl r x;refine yQ (U [] G (jE N vs) H _ I a2) (λfl D g=>?_) λe D g=>g;have R:∀{p:St}{H':Hp}{v:V}{u:Value},Inv (cxOf m P w K l base N d a f cdv A outer s H E) [] p H' D->RelV v u->Q v H'->CE outer P w H s Q u D:=
  λ{p H' v u}c C q=>⟨v,H',c.os,c.bare,c.base,c.hok,C,q⟩
 cases fl with
 |ret u =>
  obtain⟨v,p,H',c,C,q⟩:=g;exact R c C q
 |next =>
  obtain⟨p,H',c,q⟩:=g;exact R (v:=V.non) (u:=Value.none) c rfl q
 |brk =>
  obtain⟨_,_,_,q⟩:=g;exact False.elim q
 |cont =>
  obtain⟨_,_,_,q⟩:=g;exact False.elim q
section
variable {X:Cx} {x:Str} {p pos:Pos} {e:Expr} {es:List Expr} {t:TA} {id T:String} {r:List V->Hp->VK->Prop}
def tCB(r:List V->Hp->VK->Prop)(t:TA):TE:=λσ H Q=>t σ H λvs H1=>r vs H1 Q
theorem mS(d:kD X (.builtin id) r)(l:Gl X x)(m:X.mg x=none)(j:bootBuiltins x=some (.builtin id))(f:PA X (e:: es) t)(g:x≠"__name__" := by decide)(k:(x == ("__debug__" :Str))=false:=by decide)
  (q:starEach (e:: es) X.env=(false,eval e X.env):: starEach es X.env:=by rfl)(i:(backTo pos (starEach es X.env)).any (·.1)=false:=by rfl):PE X (.Call (.Name x p) (e:: es) [] pos) (tCB r t):=by
 intro b s a H Q I h;refine wC (gL I l m j ?_ g k);exact PyProof.Rows.callWith_builtin1 (thn (f pos b s a H _ I h) λus c⟨vs,o,u,r1,n⟩=>d b c a o vs us Q u r1 n) q i
theorem lK(d:kD X (.type T) r)(l:Gl X x)(m:X.mg x=none)(j:bootBuiltins x=some (.type T))(f:PA X (e:: es) t)(g:x≠"__name__" := by decide)(k:(x == ("__debug__" :Str))=false:=by decide)
  (q:starEach (e:: es) X.env=(false,eval e X.env):: starEach es X.env:=by rfl)(i:(backTo pos (starEach es X.env)).any (·.1)=false:=by rfl):PE X (.Call (.Name x p) (e:: es) [] pos) (tCB r t):=by
 intro b s a H Q I h;refine wC (gL I l m j ?_ g k);exact xV (thn (f pos b s a H _ I h) λus c⟨vs,o,u,r1,n⟩=>d b c a o vs us Q u r1 n) q i
end
end L2
namespace HT
open PySem PyProof.Rows
section
open PySem.SeqAt
open PySem.AutoSeq1 (wpAny_loadPart')
open PySem.MeetsSeq PySem.MeetsSeq2 PySem.MeetsSeq3
end
section
variable {prog:Program} {w:World} {A:Around} {E:VP} {s:Shared}
def sIx(n d:Nat):Option Int->Nat
 |none=>d
 |some v=>if v<0 then(v+(n:Int)).toNat else min v.toNat n
theorem sIx_none(n d:Nat):sIx n d none=d:=rfl
theorem sIx_nat(n d k:Nat):sIx n d (some (k:Int))=min k n:=by
 show(if(k:Int)<0 then((k:Int)+(n:Int)).toNat else min (k:Int).toNat n)=min k n;rw[zD ⋯,zS]
theorem Oy(n d:Nat)(b:d<=n)(o:Option Int):sIx n d o<=n:=by
 cases o with
 |none=>exact b
 |some v =>
  show(if v<0 then(v+(n:Int)).toNat else min v.toNat n)<=n
  by_cases a:v<0
  ·rw[zF a];omega
  ·rw[zD a];exact Nat.min_le_right _ _
theorem Fa(v:Int)(n d:Nat):(if v<0 then max (v+(n:Int)) 0 else min v (n:Int))=((sIx n d (some v):Nat):Int):=by
 show(if v<0 then max (v+(n:Int)) 0 else min v (n:Int))=(((if v<0 then(v+(n:Int)).toNat else min v.toNat n):Nat):Int)
 by_cases a:v<0
 ·simp only[if_pos a];omega
 ·simp only[if_neg a];omega
theorem Ox(lo hi:Option Int)(n:Nat):Builtin.Slice.sliceAdjust lo hi 1 (n:Int)=(((sIx n 0 lo:Nat):Int),((sIx n n hi:Nat):Int)):=by
 have a:¬ ((1:Int)<0):=⋯
 unfold Builtin.Slice.sliceAdjust;simp only[a,if_false];refine Prod.ext ?_ ?_
 ·cases lo with
  |none=>rfl
  |some v=>exact Fa v n 0
 ·cases hi with
  |none=>rfl
  |some v=>exact Fa v n n
theorem Ow(i j:Nat):Builtin.Slice.slicePlaces (i:Int) (j:Int) 1=j-i:=by
 unfold Builtin.Slice.slicePlaces;have a:(1:Int) > 0:=⋯
 simp only[a,if_true,Int.ediv_one];split <;> omega
theorem Gz{v:Value}{o:Option Int}{Q:Option Int->Shared->Prop}(p:IsPart v o)(h:Q o s):wpAny (model prog w) A (Builtin.Slice.slicePartIndex v) Q E s:=by
 cases p with
 |none=>exact slicePart_none h
 |int i t=>exact slicePart_int h
theorem Ov{e:Addr}{c a:Value}{lo hi:Option Int}{n:Nat}{Q:Int×Int×Nat->Shared->Prop}(g:s.heap.IsSliceOf e c a .none)(pl:IsPart c lo)(f:IsPart a hi)
  (h:Q (((sIx n 0 lo:Nat):Int),1,sIx n n hi-sIx n 0 lo) s):wpAny (model prog w) A (Builtin.Slice.sliceApplied (.ref e) (pure (n:Int))) Q E s:=by
 obtain⟨i,d,j,b⟩:=id g;unfold Builtin.Slice.sliceApplied Builtin.Slice.sliceFields;refine zA (zA (xB d b (x:=c) rfl (zA (xB d b (x:=a) rfl (zA (xB d b (x:=.none) rfl (zB ?_)))))));refine zA (slicePart_none ?_);show wpAny _ _ (if((1:Int) == 0)=true then _ else _) _ _ s;rw[zD ∅];refine zA (Gz pl (zA (Gz f (zA (zB ?_)))));show wpAny _ _ (match Builtin.Slice.sliceAdjust lo hi 1 (n:Int) with|(lo,hi)=>pure (lo,(1:Int),Builtin.Slice.slicePlaces lo hi 1)) _ _ s;rw[Ox lo hi n];show wpAny _ _ (pure (((sIx n 0 lo:Nat):Int),(1:Int),Builtin.Slice.slicePlaces ((sIx n 0 lo:Nat):Int) ((sIx n n hi:Nat):Int) 1)) _ _ s;rw[Ow];exact zB h
theorem Ou(xs:Array Value)(i k:Nat):((List.range k).filterMap λ(m:Nat)=>xs[((i:Int)+(m:Int)*1).toNat]?).toArray=((xs.toList.drop i).take k).toArray:=by
 have e:(λ(m:Nat)=>xs[((i:Int)+(m:Int)*1).toNat]?)=λm=>xs[i+m]?:=by
  funext m
  have:((i:Int)+(m:Int)*1).toNat=i+m:=⋯
  rw[this]
 rw[e];have:=pick_run xs i k;rw[List.filterMap_map]at this;have a:((λx=>xs[x]?)∘ λx=>i+x)=λm=>xs[i+m]?:=rfl;rw[a]at this;rw[this]
theorem getItem_tuple_cut{c d:Addr}{items:Array Value}{f e:Value}{lo hi:Option Int}{Q:VP}(a:IsTup s.heap c items)(g:s.heap.IsSliceOf d f e .none)(pl:IsPart f lo)(n:IsPart e hi)
  (l:¬ (sIx items.size 0 lo=0/\sIx items.size items.size hi=items.size))
  (h:Q (.ref s.heap.objs.size) {s with heap:=s.heap.push {cls:=.type "tuple",data:=.seq ((items.toList.drop (sIx items.size 0 lo)).take (sIx items.size items.size hi-sIx items.size 0 lo)).toArray}})
  (hsz:items.size<=sizeLine):wpAny (model prog w) A (getItem (.ref c) (.ref d)) Q E s:=by
 have b:sizeOk (.seq ((items.toList.drop (sIx items.size 0 lo)).take (sIx items.size items.size hi-sIx items.size 0 lo)).toArray):=by
  show((items.toList.drop (sIx items.size 0 lo)).take (sIx items.size items.size hi-sIx items.size 0 lo)).toArray.size<=sizeLine;rw[zV,yG,tL,zL];omega
 have u:sIx items.size items.size hi<=items.size:=Oy _ _ (zE _) hi;obtain⟨m,o,j,p⟩:=id g;have i:s.TypeIs (.ref d) "slice" := ⟨m,o,j⟩;unfold getItem
 try with_reducible refine yN ?_
 first|refine zA (zB ?_)|skip
 refine zA (wpAny_sequenceKey a.typeIs ∅ ?_);refine zA (xO (name:=Str.ofString "__getitem__") a.typeIs PyProof.Rows.slot_tuple_getitem
  (xF PyProof.Rows.slot_tuple_getitem a.typeIs entry_tuple_getitem ?_ (args_tuple_getitem _ _)))
 show wpAny _ _ (Builtin.Tuple.tupleItemsOf (.ref c) >>= _) _ _ s;refine zA (tupleItemsOf_ a ?_);refine zA (uJ i ?_);rw[zF ∅];refine zA (Ov g pl n ?_);have k:¬ ((((sIx items.size 0 lo:Nat):Int) == 0 && (1:Int) == 1 && (sIx items.size items.size hi-sIx items.size 0 lo) == items.size)=true):=by
  intro q;rw[zN,zN]at q;have r:((sIx items.size 0 lo:Nat):Int)=0:=yO q.1.1;have t:sIx items.size items.size hi-sIx items.size 0 lo=items.size:=yO q.2;exact l ⟨⋯,⋯⟩
 show wpAny _ _ (if(((sIx items.size 0 lo:Nat):Int) == 0 && (1:Int) == 1 && (sIx items.size items.size hi-sIx items.size 0 lo) == items.size)=true then _ else _) _ _ s;rw[zD k,Ou]
 first
  |exact zA (m:=Builtin.Tuple.tupleExact _) (xD (zB ⟨_,rfl,zB h⟩) b)
  |exact zA (m:=Builtin.Tuple.tupleExact _) (xD (zA (zB (zB ⟨_,rfl,zB h⟩))) b)
  |exact zA (zA (m:=Builtin.Tuple.tupleExact _) (xD (zB (zB ⟨_,rfl,zB h⟩)) b))
  |exact zA (zA (m:=Builtin.Tuple.tupleExact _) (xD (zB ⟨_,rfl,zB h⟩) b))
end
end HT
namespace L2
open PySem PySem.Spec PyProof.Rows
open PySem.W (Frag)
abbrev TO:=St->Hp->(Option Int->Hp->Prop)->Prop
def PO(X:Cx)(e:Option Expr)(t:TO):Prop:=
 ∀(pins:PN)(s:Shared)(σ:St)(H:Hp)(Q:Option Int->Hp->Prop),Inv X pins σ H s->t σ H Q ->
  wpAny (model X.prog X.w) X.A (evalPart e X.env) (λu s'=>∃o H',Inv X pins σ H' s'/\IsPart u o/\Q o H') X.xe s
def Bo:TO:=λ_ H Q=>Q none H
def Bn(t:TE):TO:=λσ H Q=>t σ H λx H1=>∃i,x=.int i/\Q (some i) H1
section
variable {X:Cx} {e:Expr} {te:TE} {lo hi:Option Expr} {tl th:TO} {pos p2:Pos}
theorem bN:PO X none Bo:=by
 intro b s a H Q I h;rw[evalPart_none];exact zB ⟨none,H,I,.none,h⟩
theorem eG(h:PE X e te):PO X (some e) (Bn te):=by
 intro d s b H Q I c;rw[evalPart_some];refine thn (h d s b H _ I c) λu k⟨x,g,j,r1,f⟩=>?_;obtain⟨i,rfl,q⟩:=f;obtain⟨a,rfl⟩:=r1;exact⟨some i,g,j,.int i a,q⟩
def SlR(X:Cx)(r:V->Option Int->Option Int->Hp->VK->Prop):Prop:=
 ∀(pins:PN)(s:Shared)(σ:St)(H:Hp)(x:V)(v vl vu:Value)(lo hi:Option Int)(sl:Addr)(Q:VK),Inv X pins σ H s->RelV x v->s.heap.IsSliceOf sl vl vu .none->IsPart vl lo->IsPart vu hi->r x lo hi H Q ->
  ∃T id,typeLookup (.type T) "__getitem__"=pure (some (.builtin id))/\s.TypeIs v T/\wpAny (model X.prog X.w) X.A (getItem v (.ref sl)) (EP X pins σ Q) X.xe s
def tSl(r:V->Option Int->Option Int->Hp->VK->Prop)(te:TE)(tl th:TO):TE:=λσ H Q=>te σ H λx H1=>tl σ H1 λl H2=>th σ H2 λu H3=>r x l u H3 Q
theorem cD{r:V->Option Int->Option Int->Hp->VK->Prop}(hr:SlR X r)(t:PE X e te)(hl:PO X lo tl)(J:PO X hi th):PE X (.Subscript e (.Slice lo hi none p2) pos) (tSl r te tl th):=by
 intro c s d H Q I h;refine Subscript_ (thn (t c s d H _ I h) λv w⟨x,o,G,r1,F⟩=>?_);refine wpAny_Slice (thn (hl c w d o _ G F) λg m⟨l,n,K,pl,p⟩=>thn (J c m d n _ K p) λf a⟨u,i,L,C,y⟩=>?_);rw[evalPart_none];refine zB ?_;have k:Inv X c d i {a with heap:=a.heap.push {cls:=.type "slice",data:=.fields #[g,f,.none]}}:=L.kept (t':=a.toks) λb M q=>zC _ q;obtain⟨T,id,z,j,D⟩:=hr c {a with heap:=a.heap.push {cls:=.type "slice",data:=.fields #[g,f,.none]}} d i x v g f l u a.heap.objs.size Q k r1 (Heap.IsSliceOf.new ..) pl C y;show wpAny (model X.prog X.w) X.A (subscriptTail e (.Slice lo hi none p2) v (.ref a.heap.objs.size)) (EP X c d Q) X.xe {a with heap:=a.heap.push {cls:=.type "slice",data:=.fields #[g,f,.none]}};exact tail_any (ops:=[.ref a.heap.objs.size,v]) j z D (by with_unfolding_all rfl)
def cutV(xs:List V)(lo hi:Option Int):List V:=(xs.drop (HT.sIx xs.length 0 lo)).take (HT.sIx xs.length xs.length hi-HT.sIx xs.length 0 lo)
theorem Gy(xs:List V)(lo hi:Option Int):(cutV xs lo hi).length<=xs.length:=by
 unfold cutV;rw[yG,tL];omega
def rSlT(K:Frag):V->Option Int->Option Int->Hp->VK->Prop:=λx lo hi H Q=>∃a xs,x=.ref a/\SqT K H a xs /\
 ¬ (HT.sIx xs.length 0 lo=0/\HT.sIx xs.length xs.length hi=xs.length)/\∀p,H p=none->Q (.ref p) (upd H p (.tup (cutV xs lo hi)))
theorem Ot:SlR X (rSlT X.K):=by
 intro u s n H x v o m lo hi t Q I i k pl l h;obtain⟨a,xs,rfl,g,j,q⟩:=h;cases i;obtain⟨its,r,d,f⟩:=I.tuple g;have c:its.toArray.size=xs.length:=by rw[zV];exact r.length.symm
 refine⟨"tuple",_,PyProof.Rows.slot_tuple_getitem.lookup,d.typeIs,?_⟩;refine HT.getItem_tuple_cut d k pl l (by rw[c];exact j) ?_ (by rw[c];exact f);rw[c];refine⟨.ref s.heap.objs.size,_,I.laid (t':=s.toks) (o:=.tup (cutV xs lo hi)) (λb p q=>zC _ q) (zE _) ?_,rfl,q _ (I.hok.fresh (zE _))⟩;exact⟨yC (Gy xs lo hi) f,_,(r.drop (HT.sIx xs.length 0 lo)).take (HT.sIx xs.length xs.length hi-HT.sIx xs.length 0 lo),IsTup.new _ _⟩
end
def ixN(n:Nat)(i:Int):Option Nat:=if 0<=i then(if i<n then some i.toNat else none) else if -(n:Int)<=i then some (i+n).toNat else none
def atI{α:Type}(xs:List α)(i:Int):Option α:=(ixN xs.length i).bind λj=>xs[j]?
theorem Gx{n:Nat}{i:Int}{j:Nat}(h:ixN n i=some j):seqIndex? i n=some j/\j<n/\-(n:Int)<=i/\i<n:=by
 unfold ixN at h
 by_cases b:0<=i
 ·rw[zF b]at h
  by_cases a:i<n
  ·rw[zF a]at h;have e:i.toNat=j:=zZ h;exact⟨by rw[oC b a,e],⋯,⋯,a⟩
  ·rw[zD a]at h;cases h
 ·rw[zD b]at h
  by_cases a:-(n:Int)<=i
  ·rw[zF a]at h;have e:(i+n).toNat=j:=zZ h;exact⟨by rw[oQ ⋯ a,e],⋯,a,⋯⟩
  ·rw[zD a]at h;cases h
theorem Gw{a:Type}{xs:List a}{i:Int}{v:a}(h:atI xs i=some v):∃j,seqIndex? i xs.length=some j/\xs[j]?=some v/\j<xs.length/\-(xs.length:Int)<=i/\i<xs.length:=by
 unfold atI at h;cases e:ixN xs.length i with
 |none=>rw[e]at h;cases h
 |some j =>
  rw[e]at h;obtain⟨c,d,b,f⟩:=Gx e;exact⟨j,c,h,d,b,f⟩
theorem Os{a:Type}{xs:List a}{j:Nat}{v:a}(h:xs[j]?=some v):atI xs (j:Int)=some v:=by
 have b:j<xs.length:=(nF.mp h).1;have e:ixN xs.length (j:Int)=some j:=by
  unfold ixN;rw[zF ⋯,zF ⋯];simp
 unfold atI;rw[e];exact h
theorem Oq{a:Type}(xs:List a)(v:a):atI (xs++[v]) (-1)=some v:=by
 have hl:(xs++[v]).length=xs.length+1:=by simp
 have e:ixN (xs++[v]).length (-1)=some xs.length:=by
  unfold ixN;rw[hl,zD ∅,zF ⋯];congr 1;omega
 unfold atI;rw[e];show(xs++[v])[xs.length]?=some v;simp
def Op(b:Expr):Prop:=∀o i,subscripted b false o i=operate [o,i] (getItem o i)
def IxR(X:Cx)(r:R2):Prop:=
 ∀(value slice:Expr)(pins:PN)(s:Shared)(σ:St)(H:Hp)(x y:V)(v u:Value)(Q:VK),Inv X pins σ H s->RelV x v->RelV y u->r x y H Q ->
  subscripted slice false v u=operate [v,u] (getItem v u)->wpAny (model X.prog X.w) X.A (subscriptTail value slice v u) (EP X pins σ Q) X.xe s
def MtR(X:Cx)(id:String)(r:V->List V->Hp->VK->Prop):Prop:=
 ∀(pins:PN)(s:Shared)(σ:St)(H:Hp)(x:V)(xs:List V)(v:Value)(us:LW)(Q:VK),Inv X pins σ H s->RelV x v->Vals xs us->r x xs H Q ->
  wpAny (model X.prog X.w) X.A (call (.builtin id) (v:: us)) (EP X pins σ Q) X.xe s
section
variable {X:Cx} {a b:Expr} {ta tb:TE} {pos:Pos}
theorem mG{r:R2}(hr:IxR X r)(d:PE X a ta)(m:PE X b tb)(k:Op b):PE X (.Subscript a b pos) (tOp r ta tb):=by
 intro j s e H Q I h;exact Subscript_ (binT d m I h λv u i x y l g c f q=>hr a b j i e l x y v u Q g c f q (k _ _))
def rIxL(K:Frag):R2:=λx y H Q=>∃p xs i v,x=.ref p/\y=.int i/\SqL K H p xs/\atI xs i=some v/\Q v H
def rIxT(K:Frag):R2:=λx y H Q=>∃p xs i v,x=.ref p/\y=.int i/\SqT K H p xs/\atI xs i=some v/\Q v H
theorem Oo:IxR X (rIxL X.K):=by
 intro P M e s g H x y v u Q I t F h l;obtain⟨p,xs,i,z,rfl,rfl,C,n,q⟩:=h;cases t;obtain⟨N,rfl⟩:=F;obtain⟨its,r,pl,R⟩:=I.list C;obtain⟨j,c,D,O,o,K⟩:=Gw n;obtain⟨w,f,G⟩:=r.get D;have hl:=r.length;have L:=dX;have m:EP X e g Q w s:=⟨z,H,I,G,q⟩
 by_cases k:0<=i
 ·have d:i.toNat=j:=by
   rw[oC k K]at c;exact zZ c
  exact item_listR pl.isList k ⋯ (by rw[d];simpa using f) m l
 ·have d:(i+(its.toArray.size:Int)).toNat=j:=by
   rw[oQ ⋯ o]at c;rw[zV,←hl];exact zZ c
  exact uU (x:=w) pl.isList.typeIs slot_list_getitem.lookup
   (wpAny_getItem_list_neg (Q:=λr J=>r=w/\EP X e g Q r J) pl.isList ⋯ (by rw[zV] <;> omega) ⋯ (by rw[d];simpa using f) ⟨rfl,m⟩) l
theorem On:IxR X (rIxT X.K):=by
 intro M G c s d H x y v u Q I g t h m;obtain⟨p,xs,i,z,rfl,rfl,l,f,q⟩:=h;cases g;obtain⟨K,rfl⟩:=t;obtain⟨its,r,pl,N⟩:=I.tuple l;obtain⟨j,e,n,L,J,O⟩:=Gw f;obtain⟨w,k,C⟩:=r.get n;have hl:=r.length;have F:=dX;have o:EP X c d Q w s:=⟨z,H,I,C,q⟩;exact uU (x:=w) pl.typeIs slot_tuple_getitem.lookup
  (getItem_tuple (j:=j) (Q:=λr D=>r=w/\EP X c d Q r D) pl ⋯ ⋯ (by rw[zV,←hl];exact e) (by simpa using k) ⟨rfl,o⟩) m
theorem Om(its:LW)(n j:Nat)(u:Value):Obj.mapSeq (·.setIfInBounds j u) {cls:=.type "list",data:=.seq its.toArray n}={cls:=.type "list",data:=.seq (its.set j u).toArray n}:=by
 simp[Obj.mapSeq]
theorem Inv.lst{d:PN}{c:St}{H:Hp}{s:Shared}{p:Addr}{xs:List V}(I:Inv X d c H s)(h:H p=some (.lst xs)):
  ∃(its:LW)(n:Nat),Vals xs its/\s.heap.get? p=some {cls:=.type "list",data:=.seq its.toArray n}/\xs.length<=sizeLine:=by
 obtain⟨z,its,n,r,e⟩:=I.hok p _ h;exact⟨its,n,r,e,z⟩
theorem Inv.lstUpd{i:PN}{d:St}{H:Hp}{s:Shared}{p:Addr}{xs ys:List V}{its its':LW}{n c:Nat}{f:Obj->Obj}(I:Inv X i d H s)(h:H p=some (.lst xs))
  (l:s.heap.get? p=some {cls:=.type "list",data:=.seq its.toArray n})(g:f {cls:=.type "list",data:=.seq its.toArray n}={cls:=.type "list",data:=.seq its'.toArray c})(r:Vals ys its')(k:ys.length<=sizeLine)(j:Nat):
  Inv X i d (upd H p (.lst ys)) {s with heap:=s.heap.update p f,toks:=j}:=by
 have e:(s.heap.update p f).get? p=some {cls:=.type "list",data:=.seq its'.toArray c}:=by
  rw[xA f l (by rw[g] <;> rfl),g]
 refine I.write (x:=p) (e:=p) (by rw[h];trivial) (.inl rfl) (λb u m q=>(xJ _ _ (zT m)).trans q) ⟨_,e⟩ ?_;exact⟨k,its',c,r,e⟩
def eI:V->V->V->Hp->(Hp->Prop)->Prop:=λo i v H Q=>∃p xs k j,o=.ref p/\i=.int k/\H p=some (.lst xs)/\ixN xs.length k=some j/\Q (upd H p (.lst (xs.set j v)))
theorem cE:PSet X eI:=by
 intro y s C H o i v G L u Q I x w D h;obtain⟨p,xs,k,j,rfl,rfl,g,z,q⟩:=h;cases x;obtain⟨K,rfl⟩:=w;obtain⟨its,n,r,d,F⟩:=I.lst g;obtain⟨c,M,t,f⟩:=Gx z;have hl:=r.length;have J:=dX;have m:Inv X y C (upd H p (.lst (xs.set j v))) {s with heap:=s.heap.update p (Obj.mapSeq (·.setIfInBounds j u))}:=
  I.lstUpd g d (Om its n j u) (r.set D j) (by rw[List.length_set];exact F) s.toks
 by_cases l:0<=k
 ·have e:k.toNat=j:=by
   rw[oC l f]at c;exact zZ c
  exact PySem.W.ki_setAt d l ⋯ (by rw[zV,←hl];exact f) (by rw[e];exact⟨_,m,q⟩)
 ·have e:(k+(its.toArray.size:Int)).toNat=j:=by
   rw[oQ ⋯ t]at c;rw[zV,←hl];exact zZ c
  exact PySem.W.ki_setBack d ⋯ (by rw[zV,←hl];exact t) ⋯ (by rw[e];exact⟨_,m,q⟩)
theorem Ol(lo hi:Option Int)(n:Nat):(sliceBounds lo hi none n).1=((HT.sIx n 0 lo:Nat):Int)/\(sliceBounds lo hi none n).2.1=((HT.sIx n n hi:Nat):Int)/\(sliceBounds lo hi none n).2.2=1:=by
 refine⟨?_,?_,rfl⟩
 ·cases lo with
  |none=>simp[sliceBounds,HT.sIx]
  |some i =>
   simp only[sliceBounds,HT.sIx,Option.getD_none,show(1:Int) > 0 by decide,if_true]
   by_cases h:i<0
   ·simp only[h,if_true] <;> omega
   ·simp only[h,if_false] <;> omega
 ·cases hi with
  |none=>simp[sliceBounds,HT.sIx]
  |some i =>
   simp only[sliceBounds,HT.sIx,Option.getD_none,show(1:Int) > 0 by decide,if_true]
   by_cases h:i<0
   ·simp only[h,if_true] <;> omega
   ·simp only[h,if_false] <;> omega
theorem Oj(its:LW)(lo hi:Option Int):slicePick its.toArray lo hi none=((its.drop (HT.sIx its.length 0 lo)).take (HT.sIx its.length its.length hi-HT.sIx its.length 0 lo)).toArray:=by
 obtain⟨c,d,e⟩:=Ol lo hi its.toArray.size;unfold slicePick;rw[c,d,e];simp only[sliceRange_one,pick_run,List.size_toArray] <;> rfl
def rSlL(K:Frag):V->Option Int->Option Int->Hp->VK->Prop:=λx lo hi H Q=>∃a xs,x=.ref a/\SqL K H a xs/\∀p,H p=none->Q (.ref p) (upd H p (.lst (cutV xs lo hi)))
theorem Oi:SlR X (rSlL X.K):=by
 intro p s l H x v m k lo hi o Q I e i pl j h;obtain⟨a,xs,rfl,d,q⟩:=h;cases e;obtain⟨its,r,c,f⟩:=I.list d;have g:=r.length;refine⟨"list",_,slot_list_getitem.lookup,c.isList.typeIs,?_⟩;refine wpAny_getItem_list_slice c.isList i pl j .none (by simp) ?_ (by rw[List.size_toArray] <;> omega);rw[Oj,←g];refine⟨.ref s.heap.objs.size,_,I.laid (t':=s.toks) (o:=.lst (cutV xs lo hi)) (λb n q=>zC _ q) (zE _) ?_,rfl,q _ (I.hok.fresh (zE _))⟩;exact⟨yC (Gy xs lo hi) f,_,0,(r.drop (HT.sIx xs.length 0 lo)).take (HT.sIx xs.length xs.length hi-HT.sIx xs.length 0 lo),zQ _ rfl⟩
def gP:V->Bool
 |.non=>true
 |.bl _=>true
 |.int _=>true
 |.str _=>true
 |_=>false
def eqV:V->V->Bool
 |.non,.non=>true
 |.bl a,.bl b=>a == b
 |.bl a,.int b=>(if a then 1 else 0) == b
 |.int a,.bl b=>a == (if b then 1 else 0)
 |.int a,.int b=>a == b
 |.str a,.str b=>a == b
 |_,_=>false
theorem Oh{A:Around}{s:Shared}{y x:V}{u v:Value}(e:RelV y u)(c:RelV x v)(g:gP y=true)(f:gP x=true):SeqAt.EqAt A s u v (eqV y x):=by
 cases y with
 |non =>
  cases e;cases x with
  |non=>cases c;exact SeqAt.EqAt.same _
  |bl b=>cases c;exact SeqAt.EqAt.none_bool b
  |int b=>obtain⟨d,rfl⟩:=c;exact SeqAt.EqAt.none_int b d
  |str b=>obtain⟨d,rfl⟩:=c;exact SeqAt.EqAt.none_str b d
  |_=>exact absurd (show false=true from f) yH
 |bl a =>
  cases e;cases x with
  |non=>cases c;exact SeqAt.EqAt.bool_none a
  |bl b=>cases c;exact SeqAt.EqAt.bool_bool a b
  |int b=>obtain⟨d,rfl⟩:=c;exact SeqAt.EqAt.bool_int a b d
  |str b=>obtain⟨d,rfl⟩:=c;exact SeqAt.EqAt.bool_str a b d
  |_=>exact absurd (show false=true from f) yH
 |int a =>
  obtain⟨t',rfl⟩:=e;cases x with
  |non=>cases c;exact SeqAt.EqAt.int_none a t'
  |bl b=>cases c;exact SeqAt.EqAt.int_bool a t' b
  |int b=>obtain⟨d,rfl⟩:=c;exact SeqAt.EqAt.int_int a t' b d
  |str b=>obtain⟨d,rfl⟩:=c;exact SeqAt.EqAt.int_str a t' b d
  |_=>exact absurd (show false=true from f) yH
 |str a =>
  obtain⟨t',rfl⟩:=e;cases x with
  |non=>cases c;exact SeqAt.EqAt.str_none a t'
  |bl b=>cases c;exact SeqAt.EqAt.str_bool a t' b
  |int b=>obtain⟨d,rfl⟩:=c;exact SeqAt.EqAt.str_int a t' b d
  |str b=>obtain⟨d,rfl⟩:=c;exact SeqAt.EqAt.str_str a t' b d
  |_=>exact absurd (show false=true from f) yH
 |_=>exact absurd (show false=true from g) yH
def eqU(x:V)(u:Value):Bool:=match u with
 |.none=>eqV .non x
 |.bool b=>eqV (.bl b) x
 |.int i _=>eqV (.int i) x
 |.str z _=>eqV (.str z) x
 |_=>false
theorem Gv{x y:V}{u:Value}(r:RelV y u)(f:gP y=true):eqU x u=eqV y x:=by
 cases y with
 |non=>cases r;rfl
 |bl b=>cases r;rfl
 |int i=>obtain⟨t,rfl⟩:=r;rfl
 |str z=>obtain⟨t,rfl⟩:=r;rfl
 |_=>exact absurd (show false=true from f) yH
theorem Bm{x:V}:∀{xs:List V}{us:LW},Vals xs us->xs.all gP=true->us.any (eqU x)=xs.any λy=>eqV y x
 |_,_,.nil,_=>rfl
 |y:: xs,u:: us,.cons r t,f=>by
  rw[yV,zN]at f;rw[qT,qT,Gv r f.1,Bm t f.2]
theorem Bl{A:Around}{s:Shared}{x:V}{v:Value}(d:RelV x v)(e:gP x=true):∀{xs:List V}{us:LW},Vals xs us->xs.all gP=true->∀u∈us,SeqAt.EqAt A s u v (eqU x u)
 |_,_,.nil,_=>λu c=>by cases c
 |y:: xs,u:: us,.cons r g,f=>λi c=>by
  rw[yV,zN]at f;rcases xM.mp c with rfl|c
  ·rw[Gv r f.1];exact Oh r d f.1 e
  ·exact Bl d e g f.2 i c
def inV(x:V)(xs:List V):Bool:=xs.any λy=>eqV y x
def rIn(K:Frag)(neg:Bool):R2:=λx y H Q=>∃p xs,y=.ref p/\(SqL K H p xs\/SqT K H p xs)/\gP x=true/\xs.all gP=true/\Q (.bl (if neg then !inV x xs else inV x xs)) H
theorem Bk:OpR X (compareOp .NotIn) (rIn X.K true):=by
 intro k s j H x y v u Q I e g h;obtain⟨p,xs,rfl,c,f,fs,q⟩:=h;cases g;rcases c with c|c
 ·obtain⟨its,r,pl,i⟩:=I.list c;refine SeqAt.notIn_listAt (eqU x) pl.isList (λw d=>Bl e f r fs w (by simpa using d)) ⟨.bl _,H,I,rfl,?_⟩;rw[show its.toArray.any (eqU x)=its.any (eqU x) by simp,Bm r fs];exact q
 ·obtain⟨its,r,pl,i⟩:=I.tuple c;refine SeqAt.notIn_tupleAt (eqU x) pl (λw d=>Bl e f r fs w (by simpa using d)) ⟨.bl _,H,I,rfl,?_⟩;rw[show its.toArray.any (eqU x)=its.any (eqU x) by simp,Bm r fs];exact q
theorem Og:kD X (.builtin "len") (λxs H Q=>∃p ys,xs=[.ref p]/\(SqL X.K H p ys\/SqT X.K H p ys)/\Q (.int ys.length) H):=by
 intro k s j H xs us Q I r h;obtain⟨p,ys,rfl,c,q⟩:=h;obtain⟨u,rfl,f⟩:=jM r;cases f;have i:=dX;rcases c with c|c
 ·obtain⟨its,e,pl,g⟩:=I.list c;have d:=e.length;exact Calls.call_len_list pl.isList (by simp only[List.size_toArray] <;> omega) ⟨.int ys.length,H,I.tok _,⟨s.toks+1,by rw[zV,d]⟩,q⟩
 ·obtain⟨its,e,pl,g⟩:=I.tuple c;have d:=e.length;exact len_tuple pl (by simp only[List.size_toArray] <;> omega) ⟨.int ys.length,H,I.tok _,⟨s.toks+1,by rw[zV,d]⟩,q⟩
theorem Of:kD X (.type "list") (λxs H Q=>∃p ys,xs=[.ref p]/\(SqL X.K H p ys\/SqT X.K H p ys)/\∀l,H l=none->Q (.ref l) (upd H l (.lst ys))):=by
 intro z s x H xs us Q I r h;obtain⟨p,ys,rfl,f,q⟩:=h;obtain⟨u,rfl,w⟩:=jM r;cases w;have t:∀(its:LW),Vals ys its->ys.length<=sizeLine->∀(h':Heap)(d:Nat),(∀b v,s.heap.get? b=some v->h'.get? b=some v) ->
   h'.get? s.heap.objs.size=some {cls:=.type "list",dict:=none,data:=.seq its.toArray d,slots:=#[]}->EP X z x Q (.ref s.heap.objs.size) {s with heap:=h'}:=λits c g h' d i e =>
  ⟨.ref s.heap.objs.size,_,I.laid (t':=s.toks) i (zE _) (show mI X.prog X.w _ h' _ (.lst ys) from⟨g,its,d,c,e⟩),rfl,q _ (I.hok.fresh (zE _))⟩
 rcases f with f|f
 ·obtain⟨its,c,pl,g⟩:=I.list f;have y:=c.length;obtain⟨o,m,j,n,k⟩:=pl.isList;exact call_list_seq p (.inl rfl) m j k (λh' d i e=>t its c g h' d i e) (by simp only[List.size_toArray] <;> omega)
 ·obtain⟨its,c,pl,g⟩:=I.tuple f;have y:=c.length;obtain⟨o,m,j,n,k⟩:=pl;exact call_list_seq p (.inr rfl) m j k (λh' d i e=>t its c g h' d i e) (by simp only[List.size_toArray] <;> omega)
theorem Oe:kD X (.type "tuple") (λxs H Q=>∃p ys,xs=[.ref p]/\((SqL X.K H p ys/\∀l,H l=none->Q (.ref l) (upd H l (.tup ys)))\/(SqT X.K H p ys/\Q (.ref p) H))):=by
 intro i s f H xs us Q I r h;obtain⟨p,ys,rfl,h⟩:=h;obtain⟨u,rfl,k⟩:=jM r;cases k;rcases h with⟨c,q⟩|⟨c,q⟩
 ·obtain⟨its,d,pl,g⟩:=I.list c;have t:=d.length;refine call_tuple_list pl.isList (λh' n=>?_) (by simp only[List.size_toArray] <;> omega);have j:Inv X i f H {s with heap:=h'}:=I.kept (t':=s.toks) n;have m:Inv X i f (upd H h'.objs.size (.tup ys)) {s with heap:=h'.push {cls:=.type "tuple",data:=.seq its.toArray}}:=
   j.laid (t':=s.toks) (λb o e=>zC _ e) (zE _) (show mI X.prog X.w _ _ _ (.tup ys) from⟨g,its,d,IsTup.new _ _⟩)
  exact⟨.ref h'.objs.size,_,m,rfl,q _ (j.hok.fresh (zE _))⟩
 ·obtain⟨its,d,pl,g⟩:=I.tuple c;exact call_tuple_same pl ⟨.ref p,H,I,rfl,q⟩
def tyV(K:Frag)(T:String)(x:V)(H:Hp):Prop:=match x with
 |.str _=>T="str"
 |.int _=>T="int"
 | .ref p=>(T="list" /\ ∃xs,SqL K H p xs)\/(T="tuple" /\ ∃o,K.lookup p=some o/\o.cls=.type "tuple" /\ o.dict=none) \/
   (T="dict" /\ ((∃kvs,H p=some (.dK kvs))\/∃kvs,H p=some (.dT kvs)))\/(T="set" /\ ∃S n,H p=some (.set S n))
 |_=>False
theorem Od{u:PN}{t:St}{H:Hp}{s:Shared}{T:String}{x:V}{v:Value}(I:Inv X u t H s)(r:RelV x v)(ty:tyV X.K T x H):
  s.TypeIs v T/\∀a,v=.ref a->∃l,s.heap.get? a=some l/\l.dict=none:=by
 cases x with
 |str z =>
  obtain⟨g,rfl⟩:=r;cases(show T="str" from ty);exact⟨typeIs_str s z g,λ_ e=>nomatch e⟩
 |int i =>
  obtain⟨g,rfl⟩:=r;cases(show T="int" from ty);exact⟨typeIs_int s i g,λ_ e=>nomatch e⟩
 | ref p =>
  cases r;rcases ty with⟨rfl,xs,m⟩|⟨rfl,o,d,q,j⟩|⟨rfl,d⟩|⟨rfl,w,n,d⟩
  ·obtain⟨its,_,pl,_⟩:=I.list m;refine⟨pl.isList.typeIs,λa e=>?_⟩;cases e;obtain⟨o,n,e,c,j,_⟩:=pl;exact⟨o,e,j⟩
  ·refine⟨⟨o,I.kIn p o d,q⟩,λa e=>?_⟩;cases e;exact⟨o,I.kIn _ o d,j⟩
  ·have z:∃o,s.heap.get? p=some o/\o.ExactDict:=by
    rcases d with⟨kvs,d⟩|⟨kvs,d⟩
    ·obtain⟨_,_,_,_,o,_,_,e,f,_⟩:=I.hok p _ d;exact⟨o,e,f⟩
    ·obtain⟨_,_,_,_,o,_,_,e,f,_⟩:=I.hok p _ d;exact⟨o,e,f⟩
   obtain⟨o,e,f⟩:=z;refine⟨⟨o,e,f.1⟩,λa k=>?_⟩;cases k;exact⟨o,e,f.2.1⟩
  ·obtain⟨o,_,_,_,e,f,_⟩:=I.hok p _ d;refine⟨⟨o,e,f.1⟩,λa k=>?_⟩;cases k;exact⟨o,e,f.2.1⟩
 |_=>exact False.elim ty
def tBM0(K:Frag)(T:String)(r:V->List V->Hp->VK->Prop)(to:TE):TE:=λσ H Q=>to σ H λx H1=>tyV K T x H1/\r x [] H1 Q
def tBM(K:Frag)(T:String)(r:V->List V->Hp->VK->Prop)(to:TE)(t:TA):TE:=λσ H Q=>to σ H λx H1=>tyV K T x H1/\t σ H1 λxs H2=>r x xs H2 Q
variable {o e:Expr} {es:List Expr} {to:TE} {t:TA} {name:Str} {apos cpos:Pos} {T id:String} {r:V->List V->Hp->VK->Prop}
theorem eJ(w:PlainAttrs T)(j:Slot T name id)(J:typeOf (.builtin id)=pure (.type "method_descriptor"))(C:MtR X id r)(L:PE X o to)(y:PA X (e:: es) t)
  (k:attributeBase o name X.env (eval o X.env)=eval o X.env:=by rfl)
  (z:((backTo cpos (starEach (e:: es) X.env)).all (λx=>!x.1) && (backToKw cpos (keywordEach [] X.env)).all (λx=>x.1.isSome)
   && decide ((e:: es).length+([]:List Keyword).length+(if([]:List Keyword).isEmpty then 0 else 1)<30))=true:=by rfl)
  (i:(apos.endLine == cpos.line)=true:=by rfl)(D:starEach (e:: es) X.env=(false,eval e X.env):: starEach es X.env:=by rfl)(M:(backTo cpos (starEach es X.env)).any (·.1)=false:=by rfl):
  PE X (.Call (.Attribute o name apos) (e:: es) [] cpos) (tBM X.K T r to t):=by
 intro c s d H Q I h;refine wpAny_Call_method_late k z i rfl (thn (L c s d H _ I h) λv u⟨x,p,g,r1,ty,G⟩=>?_);obtain⟨l,F⟩:=Od g r1 ty;refine⟨T,id,w,j,J,l,F,?_⟩;have f:=y cpos c u d p _ g G;rw[D]at f ⊢;refine sZ (by show(false || (backTo cpos (starEach es X.env)).any (·.1))=false;rw[M] <;> rfl) (uC ?_);exact thn f λus m⟨vs,n,K,r2,q⟩=>C c m d n x vs v us Q K r1 r2 q
end
def MtM(X:Cx)(id:String)(r:V->List V->Hp->VK->Prop):Prop:=
 ∀(pins:PN)(s:Shared)(σ:St)(H:Hp)(x:V)(xs:List V)(v:Value)(us:LW)(Q:VK),Inv X pins σ H s->RelV x v->Vals xs us->r x xs H Q ->
  wpAny (model X.prog X.w) X.A (call (.builtin id) (v:: us)) (EP X pins σ Q) X.xe s
theorem Vals.one{x:V}{us:LW}(h:Vals [x] us):∃u,us=[u]/\RelV x u:=by
 cases h with|cons r h=>cases h;exact⟨_,rfl,r⟩
theorem Vals.two{x y:V}{us:LW}(h:Vals [x,y] us):∃u v,us=[u,v]/\RelV x u/\RelV y v:=by
 cases h with|cons r h=>obtain⟨v,rfl,q⟩:=Vals.one h;exact⟨_,_,rfl,r,q⟩
theorem Vals.eraseIdx:∀{xs:List V}{us:LW}(i:Nat),Vals xs us->Vals (xs.eraseIdx i) (us.eraseIdx i)
 |_,_,_,.nil=>.nil
 |_,_,0,.cons _ t=>t
 |_,_,i+1,.cons r t=>.cons r (Vals.eraseIdx i t)
theorem Vals.rep{xs:List V}{us:LW}(h:Vals xs us):∀k:Nat,Vals (List.replicate k xs).flatten (List.replicate k us).flatten
 |0=>.nil
 |k+1=>by
  rw[uM,uM,sV,sV];exact Vals.append h (Vals.rep h k)
theorem Gu{a:Type}:∀(l:List a)(i:Nat),(l.eraseIdx i).length<=l.length
 |[],_=>zE _
 |_:: _,0=>tW _
 |_:: r,i+1=>Nat.succ_le_succ (Gu r i)
theorem Gs(its:LW):∀(k:Nat)(acc:LW),
  List.foldl (λa b=>a++b) acc.toArray (List.replicate k its.toArray)=(acc++(List.replicate k its).flatten).toArray
 |0,acc=>by simp
 | k+1,acc=>by
  have e:acc.toArray++its.toArray=(acc++its).toArray:=by simp
  have c:(acc++its)++(List.replicate k its).flatten=acc++(List.replicate (k+1) its).flatten:=by
   rw[uM,sV,yK]
  rw[←c,←Gs its k (acc++its),←e,uM,vC]
section
variable {X:Cx} {pins:PN} {σ:St} {H:Hp} {s:Shared} {l b:Addr} {xs ys zs:List V}
theorem Inv.lset{its its':LW}{n:Nat}{f:Array Value->Array Value}{t':Nat}(I:Inv X pins σ H s)(g:H l=some (.lst xs))
  (e:s.heap.get? l=some {cls:=.type "list",data:=.seq its.toArray n})(a:f its.toArray=its'.toArray)(d:Vals ys its')(c:ys.length<=sizeLine):
  Inv X pins σ (upd H l (.lst ys)) {s with heap:=s.heap.update l (Obj.mapSeq f),toks:=t'}:=by
 have q:=PySem.IsL.update e f;rw[a]at q;refine I.write (x:=l) (e:=l) (by rw[g];exact trivial) (.inl rfl) (λk u i j=>(xJ s.heap (Obj.mapSeq f) (zT i)).trans j) ⟨_,q⟩ ?_;exact⟨c,its',_,d,q⟩
theorem Inv.lnew{its:LW}{t':Nat}(I:Inv X pins σ H s)(a:Vals ys its)(c:ys.length<=sizeLine):
  Inv X pins σ (upd H s.heap.objs.size (.lst ys)) {s with heap:=s.heap.push {cls:=.type "list",data:=.seq its.toArray},toks:=t'}:=
 I.laid (λ_ _ q=>zC _ q) (zE _) ⟨c,its,0,a,zQ _ rfl⟩
theorem Inv.fresh(I:Inv X pins σ H s):H s.heap.objs.size=none:=I.hok.fresh (zE _)
theorem Inv.lstM(I:Inv X pins σ H s)(a:H l=some (.lst xs)):xs.length<=sizeLine/\∃(its:LW)(n:Nat),Vals xs its/\xs.length=its.length/\s.heap.get? l=some {cls:=.type "list",data:=.seq its.toArray n}:=by
 obtain⟨z,its,n,r,e⟩:=I.hok l _ a;exact⟨z,its,n,r,r.length,e⟩
theorem Oc{n:Nat}(h:n<=sizeLine):Builtin.List.listTooLong n=false:=by
 unfold Builtin.List.listTooLong;exact zJ ⋯
end
section
variable {X:Cx}
def Ob:V->List V->Hp->VK->Prop:=λx vs H Q=>∃l xs y,x=.ref l/\vs=[y]/\H l=some (.lst xs)/\xs.length<sizeLine/\Q .non (upd H l (.lst (xs++[y])))
theorem eK:MtM X "list.append" Ob:=by
 intro i s f H x vs v us Q I b d h;obtain⟨l,xs,y,rfl,rfl,a,g,q⟩:=h;cases b;obtain⟨u,rfl,c⟩:=d.one;obtain⟨z,its,n,r,hl,e⟩:=I.lstM a;refine oM F.slot_list_append ⟨_,e,rfl⟩ F.entry_list_append (F.args_list_append_2 _ _) (PySem.list_append l its.toArray n u (by rw[zV];omega)) ⟨e,?_⟩;refine⟨.non,_,I.lset (its':=its++[u]) a e (by simp) (r.append (.cons c .nil)) ?_,rfl,q⟩;rw[yA,List.length_singleton];omega
def Oa:V->List V->Hp->VK->Prop:=λx vs H Q=>∃l xs i k y,x=.ref l/\vs=[.int i]/\H l=some (.lst xs)/\-(2^63)<=i/\i<2^63/\seqIndex? i xs.length=some k/\xs[k]?=some y/\Q y (upd H l (.lst (xs.eraseIdx k)))
theorem Pz:MtM X "list.pop" Oa:=by
 intro D s C H x vs v us Q I b d h;obtain⟨l,xs,i,k,y,rfl,rfl,a,m,p,t,g,q⟩:=h;cases b;obtain⟨u,rfl,c⟩:=d.one;obtain⟨f,rfl⟩:=c;obtain⟨z,its,n,r,hl,e⟩:=I.lstM a;obtain⟨w,o,j⟩:=r.get g;refine oM F.slot_list_pop ⟨_,e,rfl⟩ F.entry_list_pop (F.args_list_pop_2 _ _)
  (MeetsSeq.list_pop_at l its.toArray n i f k w (fitsIndex_both m p) (by rw[zV,←hl];exact t) (by rw[←yI];exact o) (by rw[zV];omega)) ⟨e,?_⟩
 refine⟨y,_,I.lset (its':=its.eraseIdx k) a e ?_ (r.eraseIdx k) ?_,j,q⟩
 ·show its.toArray.eraseIdxIfInBounds k=(its.eraseIdx k).toArray;rw[List.eraseIdxIfInBounds_toArray]
 ·have:=Gu xs k;omega
def rCat:R2:=λx y H Q=>∃l b xs zs,x=.ref l/\y=.ref b/\H l=some (.lst xs)/\H b=some (.lst zs)/\xs.length+zs.length<=sizeLine/\∀p,H p=none->Q (.ref p) (upd H p (.lst (xs++zs)))
theorem eN:OpR X (binaryOp .Add) rCat:=by
 intro t s m H x y v u Q I c f h;obtain⟨l,b,xs,zs,rfl,rfl,g,d,o,q⟩:=h;cases c;cases f;obtain⟨z,its,n,r,hl,e⟩:=I.lstM g;obtain⟨p,a,w,r2,k,j⟩:=I.lstM d;refine PySem.P.add_list e j ?_ (by rw[zV,zV];omega);have i:its.toArray++a.toArray=(its++a).toArray:=by simp
 rw[i];exact⟨.ref _,_,I.lnew (t':=s.toks) (r.append r2) (by rw[yA];omega),rfl,q _ I.fresh⟩
def rRep:R2:=λx y H Q=>∃l k xs,x=.ref l/\y=.int k/\H l=some (.lst xs)/\-(2^63)<=k/\k<2^63/\xs.length*k.toNat<=sizeLine /\
 ∀p,H p=none->Q (.ref p) (upd H p (.lst (List.replicate k.toNat xs).flatten))
theorem Py{a:Type}(xs:List a)(k:Nat):(List.replicate k xs).flatten.length=k*xs.length:=by
 induction k with
 |zero=>simp
 |succ k b=>rw[uM,sV,yA,b,pK,Nat.add_comm]
theorem Gr:OpR X (binaryOp .Mult) rRep:=by
 intro L s M H x y v u Q I p C h;obtain⟨l,k,xs,rfl,rfl,o,j,w,f,q⟩:=h;cases p;obtain⟨b,rfl⟩:=C;obtain⟨z,its,n,r,hl,e⟩:=I.lstM o;have D:its.toArray.size*k.toNat<=sizeLine:=by rw[zV,←hl];exact f
 have i:¬ its.toArray.size*k.toNat > (2^63-1)/8:=by
  have:(sizeLine:Nat)<=(2^63-1)/8:=∅
  omega
 have g:¬ (!Builtin.List.listFitsIndex k)=true:=by
  rw[fitsIndex_both j w];exact yH
 have J:¬ Builtin.List.listTooLong (its.toArray.size*k.toNat)=true:=by
  rw[Oc D];exact yH
 have K:List.foldl (λc d=>c++d) #[] (List.replicate (if its.toArray.isEmpty=true then 0 else k.toNat) its.toArray)=(List.replicate k.toNat its).flatten.toArray:=by
  have t:∀m:Nat,List.foldl (λc d=>c++d) #[] (List.replicate m its.toArray)=(List.replicate m its).flatten.toArray:=λm=>by
   have:=Gs its m [];rw[pQ]at this;exact this
  rw[t];cases its with
  |nil=>simp
  |cons a N=>rw[zD (by simp)]
 refine wpAny_binaryOp_repeat_ref (T:= "list") (U:= "int") ∅ ⟨_,e,rfl⟩ (λG=>typeIs_int G k b) noFill_list_mul F.fills_int_mul F.slot_int_rmul repeat_list F.slot_int_index.lookup
  (oM F.slot_int_rmul (typeIs_int s k b) F.entry_int_rmul (F.args_int_rmul_2 _ _) (int___rmul___int_list k b l its.toArray n)
   ⟨e,rfl,⟨_,e,rfl⟩,oM F.slot_list_mul ⟨_,e,rfl⟩ F.entry_list_mul (F.args_list_mul_2 _ _) (AutoListH.list___mul___list_int_3 l its.toArray n k b g i J) ⟨e,?_⟩⟩)
 rw[K];exact⟨.ref _,_,I.lnew (t':=s.toks) (r.rep k.toNat) (by rw[Py,rR];exact f),rfl,q _ I.fresh⟩
end
section
variable {prog:Program} {w:World} {A:Around} {E:VP} {s:Shared}
set_option maxRecDepth 100000 in
end
end L2
namespace Att
open PySem PySem.W PySem.Calls PyProof.Rows
theorem Px{P:Params}{h:Heap}:∀(ns:LI')(vs:LW),WellAll P h vs (ns.map WData.int)->IntsAre vs ns:=by
 intro ns
 induction ns with
 |nil =>
  intro vs w;rw[List.map_nil]at w;cases w;exact .nil
 | cons n ns c =>
  intro vs w;rw[zO]at w;cases w with
  |cons a b =>
   cases a;exact .cons _ _ (c _ b)
theorem Pw{l:OpenLaw}{n:Nat}(m:l.most=some n){P:Params}{h:Heap}{args:List WData}{vals:LW}
  (f:l.row.toRowW.claim.pre args=true)(u:WellAll P h vals args):
  ∃a vs ns,vals=[Value.ref a]/\args=[WData.list (ns.map WData.int)]/\h.get? a=some {cls:=.type "list",data:=.seq vs.toArray}/\IntsAre vs ns/\ns.length<=n:=by
 have j:WShape.hasAll [] args [.list .int]=true:=(pre_splitW f).1;have e:l.pre.holds [] {args:=args}=true:=(pre_splitW f).2;obtain⟨d,r,rfl,t,x⟩:=hasAllW_cons j;obtain rfl:=hasAllW_nil x;obtain⟨xs,rfl,i⟩:=hasW_list t;obtain⟨ns,rfl⟩:=items_int i;have o:ns.length<=n:=by
  unfold OpenLaw.pre at e;have c:(WTm.not (.lt (.lit (.int (n:Int))) (.len (.arg 0)))).holds [] {args:=[.list (ns.map .int)]}=true:=by
   have c:=(holds_andW e).1;rw[m]at c;exact c
  have b:=condW_of c (w_not (w_lt w_lit (w_len_list (w_arg rfl))));rw[yM]at b;refine Nat.le_of_not_lt λq=>?_;have g:(n:Int)<((ns.length:Nat):Int):=⋯
  first
   |(rw[zM g]at b;exact absurd b ∅)
   |(simp at b;omega)
 cases u with
 |cons k v =>
  cases v;cases k with
  |list w p=>exact⟨_,_,ns,rfl,rfl,w,Px ns _ p,o⟩
theorem Pu(l:OpenLaw)(args:List WData):l.row.toRowW.claim.post args (.bool true) args=true:=
 postW_of (r:=l.row.toRowW) (X:=(true == true))
  (show WShape.has [] (.bool true) .bool=true by first|rfl|decide|simp[WShape.has,WShape.arms,WShape.armsAll])
  (show(WTm.eq .res (.lit (.bool true))).value [] {args:=args,res:=some (.bool true),after:=args}=some (.bool (true == true)) from w_eq_bool (w_res rfl) w_lit) rfl
section
variable {prog:Program} {w:World} {A:Around} {E:VP} {s:Shared} {K:Frag}
def u_r(h:Heap)(L d:Addr):PN:=(List.range h.objs.size).filterMap λa=>if a=L\/a=d then none else(h.get? a).map λo=>(a,o)
end
end Att
namespace L2
open PySem PySem.Spec PyProof.Rows
open PySem.W (Frag)
theorem Gq:∀{vs:LW}{ns:LI'},IntsAre vs ns->Vals (ns.map V.int) vs
 |_,_,.nil=>.nil
 |_,_,.cons n t h=>.cons ⟨t,rfl⟩ (Gq h)
def Only(H:Hp):Prop:=∀b,H b=none\/∃o xs,H b=some (.frz o (.lst xs))
theorem Pt{P:Program}{w:World}{K:Frag}{j C:MT}{T:CXT}{k:Nat}{t a:Addr}{L:FuncData}{x:Str}{N:Sp}{c:Shared}{vs:LW}{ns:LI'}
  (KX:K.In c.heap)(M:c.heap.Ns mainGlobals j)(f:c.heap.Ns builtinsNs C)(a1:∀x:Str,x≠"__name__" -> C x=bootBuiltins x)(b4:c.heap.NoLimit)(b0:c.gens=#[])
  (p:c.heap.get? a=some {cls:=.type "list",data:=.seq vs.toArray})(hi:IntsAre vs ns)(hl:ns.length<=sizeLine)(hr:Room k callerA)
  (F:∀base:Heap,K.In base->base.Ns mainGlobals j->FnOk P w K j base T k t L [x] N)(Y:∀(s:Shared)(u:Value),BindsTo s L ⟨[u],[]⟩ [(x,u)])
  (a8:∀H:Hp,Only H->SqL K H a (ns.map V.int)->N [.ref a] H (λv _=>v=.bl true) λ_ _ _=>False)
  (a0:∀H e g,T [] H c (λ_ _ _=>False) e g->False):
  codeAny (model P w) callerA (.call (.ref t) ⟨[.ref a],[]⟩) (λr g=>r=.ok (.ret (.bool true))/\OldK c.heap g.heap/\g.os=c.os/\AllBare g.gens) c:=by
 have S:=Gq hi;have b7:=hi.length
 -- from an abstract heap in which nothing but the script may be tracked
 have O:∀H:Hp,Only H->SqL K H a (ns.map V.int)->HOk P w H c.heap->(∀b,H b≠none->b=a)->(H a≠none->K.lookup a=none) ->
   codeAny (model P w) callerA (.call (.ref t) ⟨[.ref a],[]⟩) (λr g=>r=.ok (.ret (.bool true))/\OldK c.heap g.heap/\g.os=c.os/\AllBare g.gens) c:=by
  intro H I a9 D J a3;have R:∀{b:Addr}{o:Obj},c.heap.get? b=some o->H b=none->(hidT c.heap H).get? b=some o:=λe n=>Mg e n;have a7:∀{b:Addr}{o:Obj}{es:Array DictEntry}{ep:Nat},c.heap.get? b=some o->o.data=.dict es ep->H b=none:=λ{b o es ep}e d=>by
   cases q:H b with
   |none=>rfl
   |some u =>
    have y:b=a:=J b (by rw[q];simp);subst y;rw[p]at e;cases e;have d':Data.seq vs.toArray _=Data.dict es ep:=d;cases d'
  have l:∀{b:Addr}{m:MT},c.heap.Ns b m->(hidT c.heap H).Ns b m:=λ{b m}⟨o,es,ep,e,d,r⟩=>⟨o,es,ep,R e (a7 e d),d,r⟩;have G:K.In (hidT c.heap H):=λb o e=>R (KX b o e) (by
   cases q:H b with
   |none=>rfl
   |some u =>
    have y:b=a:=J b (by rw[q];simp);subst y;rw[a3 (by rw[q];simp)]at e;cases e)
  have Z:Mod K j (hidT c.heap H):=⟨G,l M,⟨C,l f,a1⟩,let ⟨a2,W,b1⟩:=b4;⟨a2,l W,b1⟩⟩;have U:Env0 P w K j (hidT c.heap H) callerA [] c H:=⟨rfl,Z,λb o e=>Mf e,sN (Mh _ _),trivial,λb f=>absurd (show b∈([]:LA) from f) (by simp),D,.of_eq b0⟩;refine tI ((F _ G (l M)).run callerA [] c H ⟨[.ref a],[]⟩ [.ref a] [.ref a] _ _ hr U (Y c (.ref a)) (.cons rfl .nil) (a8 H I a9)) λr g h=>?_;cases r with
  |error e=>exact(a0 H e g h).elim
  | ok fl =>
   cases fl with
   |next=>exact False.elim h
   |brk=>exact False.elim h
   |cont=>exact False.elim h
   | ret u =>
    obtain⟨v,H',b5,a4,un,a6,b6,q⟩:=h;have b2:v=.bl true:=q;subst b2;obtain rfl:u=Value.bool true:=b6;refine⟨rfl,OldK.of_keep λb o e=>?_,b5,a4⟩;cases q:H b with
    |none=>exact un.keep b o e q (by intro z;exact absurd (show b∈([]:LA) from z) (by simp)) (by simp)
    |some u =>
     rcases I b with z|⟨b3,xs,z⟩
     ·rw[q]at z;cases z
     ·have X:=un.frzs b b3 _ z;obtain⟨e1,_⟩:=D b _ z;obtain⟨a5,_⟩:=a6 b _ X;rw[e]at e1;cases e1;exact a5
 cases hk:K.lookup a with
 |some o =>
  -- the script is one of the module's own objects
  have e:=KX a o hk;rw[p]at e;cases e;refine O (λ_=>none) (λ_=>.inl rfl) (.inr ⟨_,vs.toArray,_,hk,rfl,rfl,rfl,by rw[zV,b7];exact hl,by simpa using S⟩) (λb u z=>by have i:(none:Option HO)=some u:=z;cases i) (λb z=>absurd rfl z) λz=>absurd rfl z
 | none =>
  refine O (λb=>if b=a then some (.frz {cls:=.type "list",data:=.seq vs.toArray} (.lst (ns.map V.int))) else none) (λb=>?_) (.inl (.inr ⟨{cls:=.type "list",data:=.seq vs.toArray},zF rfl⟩)) (λb u z=>?_) (λb z=>?_) λ_=>hk
  ·by_cases f:b=a
   ·exact .inr ⟨_,_,zF f⟩
   ·exact .inl (zD f)
  ·by_cases f:b=a
   ·have i:=(zF f).symm.trans z;cases i;subst f;exact⟨p,by rw[yM];exact hl,vs,_,S,p⟩
   ·have i:=(zD f).symm.trans z;cases i
  ·by_cases f:b=a
   ·exact f
   ·exact absurd (zD f) z
abbrev KOf{K:Frag}{h:Heap}(_:K.In h):Frag:=K
def eO(s:Stmt)(j:Nat):Stmt:=match s with
 |.ClassDef _ _ _ body _ _ _ _ _ _ _=>body.getD j (.Pass ⟨0,0,0,0⟩)
 |_=>.Pass ⟨0,0,0,0⟩
def iL(s:Stmt):Arguments:=match s with
 |.FunctionDef _ a _ _ _ _ _ _ _ _=>a
 |_=>{posonlyargs:=[],args:=[],vararg:=none,kwonlyargs:=[],kw_defaults:=[],kwarg:=none,defaults:=[]}
def jF(s:Stmt):List Stmt:=match s with
 |.FunctionDef _ _ b _ _ _ _ _ _ _=>b
 |_=>[]
def nP(s:Stmt):Scope:=match s with
 |.FunctionDef _ _ _ _ _ _ sc _ _ _=>sc
 |_=>{kind:=.function,names:=[],isGenerator:=false,isCoroutine:=false}
abbrev CX0:CXT:=λ_ _ _ _ _ _=>False
abbrev E0:XK:=λ_ _ _=>False
theorem fJ{X:Cx}:eF CX0 X E0:=λ_ _ _ _ _ _ _ h=>h.elim
structure Fun(K:Frag)(x qual:Str)(st:Stmt)(f:Addr)(fd:FuncData):Prop where
 ex:∃(oc:Value)(od:Option Addr)(kV doc pm:Value)(an:Option Addr)(cdv ct:Value)(osl:Array (Option Value)),
  fd=PySem.W.fnOf x qual (iL st) (jF st) (nP st) .none kV doc pm an cdv ct/\K.lookup f=some ⟨oc,od,.func fd,osl⟩/\PySem.W.codeIn K cdv qual=true
 kp:PySem.W.keepIn K (.ref f)=true
section
variable {P:Program} {w:World} {K:Frag} {mg:MT} {base:Heap}
theorem Fun.ok{x c:Str}{st:Stmt}{f:Addr}{d:FuncData}{N ps:List Str}{k:Nat}{b:Sp}(F:Fun K x c st f d)(i:nZ N ps (nP st))(len:∀vs H Q E,b vs H Q E->vs.length=ps.length)
  (j:∀(cdv:Value)(A:Around)(outer:List Env)(s:Shared)(H:Hp)(vs:List V)(Q:VK)(E:XK),Room k (A.deeper (envOfC c (nP st) s.heap.objs.size f cdv))->b vs H Q E ->
   ∃a,PSs (cxOf CX0 P w K mg base N c (nP st) f cdv A outer s H E).nox (jF st) a/\a {nx:=λ_ H'=>Q .non H',rt:=Q} (jE N vs) H):FnOk P w K mg base CX0 (k+1) f d ps b:=by
 obtain⟨r,od,kV,p,t,m,cdv,o,n,rfl,l,e⟩:=F.ex;refine Bp l e i len λA outer s H vs Q E hr g=>?_;obtain⟨a,h,q⟩:=j cdv A outer s H vs Q E hr g;exact⟨a,h.nox,q⟩
theorem Fun.binds{x e:Str}{st:Stmt}{f:Addr}{g:FuncData}{ps:List Str}(F:Fun K x e st f g)
  (h:∀(kV c d:Value)(a:Option Addr)(cdv b:Value)(us:LW),us.length=ps.length->bindArgs (PySem.W.fnOf x e (iL st) (jF st) (nP st) .none kV c d a cdv b) ⟨us,[]⟩=pure (ps.zip us)):lT K g ps []:=by
 obtain⟨l,od,kV,c,d,a,cdv,b,i,rfl,k,j⟩:=F.ex;exact .all (h kV c d a cdv b)
theorem fun_mk{x a:Str}{st:Stmt}{f:Addr}{j:Value}{od b:Option Addr}{i:Array (Option Value)}{kV e g cdv d:Value}(l:K.lookup f=some ⟨j,od,.func (PySem.W.fnOf x a (iL st) (jF st) (nP st) .none kV e g b cdv d),i⟩)
  (c:PySem.W.codeIn K cdv a=true)(k:PySem.W.keepIn K (.ref f)=true):Fun K x a st f (PySem.W.fnOf x a (iL st) (jF st) (nP st) .none kV e g b cdv d):=⟨⟨j,od,kV,e,g,b,cdv,d,i,rfl,l,c⟩,k⟩
end
theorem fK{n:Nat}(h:n<=1000):n<sizeLine:=wX h ∅
section
variable {X:Cx}
theorem pv(i:Nat){x:Str}{b:Pos}(a:X.N[i]?=some x:=by rfl)(d:Vis X.env.scope x:=by first|exact Or.inl rfl|exact Or.inr (Or.inl rfl)|exact Or.inr (Or.inr rfl))(c:(x == ("__debug__" :Str))=false:=by decide)
  (e:(x == ("__classdict__" :Str))=false:=by decide):PE X (.Name x b) (tVar i):=Md a d c e
end
theorem iteF{A B:Prop}(h:B):if false=true then A else B:=by
 rw[zD yH];exact h
theorem iteT{A B:Prop}(h:A):if true=true then A else B:=by
 rw[zF rfl];exact h
theorem ite2{c A B:Prop}[Decidable c](a:c->A)(b:¬ c->B):if c then A else B:=by
 by_cases h:c
 ·rw[zF h];exact a h
 ·rw[zD h];exact b h
def Same(H H':Hp):Prop:=∀b o,H b=some o->H' b=some o
theorem Same.refl(H:Hp):Same H H:=λ_ _ h=>h
theorem Same.trans{H e d:Hp}(a:Same H e)(b:Same e d):Same H d:=λc o h=>b c o (a c o h)
theorem Same.seq{K:Frag}{H H':Hp}{a:Addr}{xs:List V}(e:Same H H')(h:SqL K H a xs):SqL K H' a xs:=by
 rcases h with(h|⟨o,h⟩)|h
 ·exact .inl (.inl (e _ _ h))
 ·exact .inl (.inr ⟨o,e _ _ h⟩)
 ·exact .inr h
end L2
set_option maxHeartbeats 4000000
namespace L2
open PySem PySem.Spec PyProof.Rows
open PySem.W (Frag)
inductive E1{T0:Type}(P:T0->Prop):Prop
 |mk (x0:T0):P x0->E1 P
inductive E2{T0 T1:Type}(P:T0->T1->Prop):Prop
 |mk (x0:T0) (x1:T1):P x0 x1->E2 P
inductive E3{T0 T1 T2:Type}(P:T0->T1->T2->Prop):Prop
 |mk (x0:T0) (x1:T1) (x2:T2):P x0 x1 x2->E3 P
inductive E4{T0 T1 T2 T3:Type}(P:T0->T1->T2->T3->Prop):Prop
 |mk (x0:T0) (x1:T1) (x2:T2) (x3:T3):P x0 x1 x2 x3->E4 P
inductive E5{T0 T1 T2 T3 T4:Type}(P:T0->T1->T2->T3->T4->Prop):Prop
 |mk (x0:T0) (x1:T1) (x2:T2) (x3:T3) (x4:T4):P x0 x1 x2 x3 x4->E5 P
inductive E6{T0 T1 T2 T3 T4 T5:Type}(P:T0->T1->T2->T3->T4->T5->Prop):Prop
 |mk (x0:T0) (x1:T1) (x2:T2) (x3:T3) (x4:T4) (x5:T5):P x0 x1 x2 x3 x4 x5->E6 P
inductive E7{T0 T1 T2 T3 T4 T5 T6:Type}(P:T0->T1->T2->T3->T4->T5->T6->Prop):Prop
 |mk (x0:T0) (x1:T1) (x2:T2) (x3:T3) (x4:T4) (x5:T5) (x6:T6):P x0 x1 x2 x3 x4 x5 x6->E7 P
inductive E8{T0 T1 T2 T3 T4 T5 T6 T7:Type}(P:T0->T1->T2->T3->T4->T5->T6->T7->Prop):Prop
 |mk (x0:T0) (x1:T1) (x2:T2) (x3:T3) (x4:T4) (x5:T5) (x6:T6) (x7:T7):P x0 x1 x2 x3 x4 x5 x6 x7->E8 P
inductive E9{T0 T1 T2 T3 T4 T5 T6 T7 T8:Type}(P:T0->T1->T2->T3->T4->T5->T6->T7->T8->Prop):Prop
 |mk (x0:T0) (x1:T1) (x2:T2) (x3:T3) (x4:T4) (x5:T5) (x6:T6) (x7:T7) (x8:T8):P x0 x1 x2 x3 x4 x5 x6 x7 x8->E9 P
inductive A3(a b c:Prop):Prop|mk:a->b->c->A3 a b c
inductive A4(a b c d:Prop):Prop|mk:a->b->c->d->A4 a b c d
inductive A5(a b c d e:Prop):Prop|mk:a->b->c->d->e->A5 a b c d e
inductive A6(a b c d e f:Prop):Prop|mk:a->b->c->d->e->f->A6 a b c d e f
inductive A7(a b c d e f g:Prop):Prop|mk:a->b->c->d->e->f->g->A7 a b c d e f g
inductive A8(a b c d e f g h:Prop):Prop|mk:a->b->c->d->e->f->g->h->A8 a b c d e f g h
inductive A9(a b c d e f g h i:Prop):Prop|mk:a->b->c->d->e->f->g->h->i->A9 a b c d e f g h i
inductive A10(a b c d e f g h i j:Prop):Prop|mk:a->b->c->d->e->f->g->h->i->j->A10 a b c d e f g h i j
inductive A11(a b c d e f g h i j k:Prop):Prop|mk:a->b->c->d->e->f->g->h->i->j->k->A11 a b c d e f g h i j k
inductive A12(a b c d e f g h i j k l:Prop):Prop|mk:a->b->c->d->e->f->g->h->i->j->k->l->A12 a b c d e f g h i j k l
inductive A17(a b c d e f g h i j k l m n o p q:Prop):Prop|mk:a->b->c->d->e->f->g->h->i->j->k->l->m->n->o->p->q->A17 a b c d e f g h i j k l m n o p q
def clOf(env:Env):List (Str×NameKind)->List (Str×Addr)->List (Str×Addr)
 |[],cs=>cs
 |(n,k):: r,cs=>clOf env r (if k == .free then(n,(env.cells.lookup n).getD 0):: cs else cs)
theorem Gp{env:Env}{n:Str}{c:Addr}:∀{l:List (Str×NameKind)}{cs:List (Str×Addr)},(∀y∈l,y.2=.free->∃c,env.cells.lookup y.1=some c) ->
  (clOf env l cs).lookup n=some c->cs.lookup n=some c\/env.cells.lookup n=some c
 |[],_,_,h=>.inl h
 | (m,k):: r,cs,hl,h=>by
  have hr:∀y∈r,y.2=.free->∃c,env.cells.lookup y.1=some c:=λy g=>hl y (zU _ g);rcases Gp hr h with q|q
  ·by_cases a:(k == NameKind.free)=true
   ·rw[zF a]at q;obtain⟨f,e⟩:=hl (m,k) yE (by simpa using a);rw[xE]at q;cases hm:n == m with
    |true =>
     rw[hm]at q;have b:(env.cells.lookup m).getD 0=c:=zZ q;have d:n=m:=by simpa using hm
     rw[e]at b;have i:f=c:=b;rw[d,e,i];exact .inr rfl
    |false =>
     rw[hm]at q;exact .inl q
   ·rw[zD a]at q;exact .inl q
  ·exact .inr q
theorem Bj{env:Env}{n:Str}:∀{l:List (Str×NameKind)}{cs:List (Str×Addr)},((n,NameKind.free)∈l\/∃c,cs.lookup n=some c)->∃c,(clOf env l cs).lookup n=some c
 |[],_,h=>by
  rcases h with h|h
  ·simp at h
  ·exact h
 | (m,k):: r,cs,h=>by
  refine Bj (l:=r) ?_
  by_cases a:(n,NameKind.free)∈r
  ·exact .inl a
  ·refine .inr ?_;rcases h with h|⟨c,h⟩
   ·rcases xM.mp h with e|e
    ·cases e;rw[zF ∅];exact⟨(env.cells.lookup n).getD 0,by rw[xE];simp⟩
    ·exact absurd e a
   ·by_cases b:(k == NameKind.free)=true
    ·rw[zF b,xE];cases hm:n == m with
     |true=>exact⟨_,rfl⟩
     |false=>exact⟨c,h⟩
    ·rw[zD b];exact⟨c,h⟩
theorem Go{b:Scope}{env:Env}(h:∀y∈b.names,y.2=.free->∃c,env.cells.lookup y.1=some c):closureFor b env=pure (clOf env b.names []):=by
 have go:∀(l:List (Str×NameKind))(cs:List (Str×Addr)),(∀y∈l,y.2=.free->∃c,env.cells.lookup y.1=some c) ->
   (forIn l cs (λ(x:Str×NameKind)(r:List (Str×Addr))=>if x.2 == NameKind.free then(do let a ←cellOf env x.1;pure (ForInStep.yield ((x.1,a):: r))) else(pure (ForInStep.yield r):Sem _)):Sem _)=pure (clOf env l cs):=by
  intro l
  induction l with
  |nil=>intro cs _;rfl
  | cons y r f =>
   intro cs hl;obtain⟨n,k⟩:=y;have hr:∀y∈r,y.2=.free->∃c,env.cells.lookup y.1=some c:=λy g=>hl y (zU _ g);rw[uR]
   by_cases d:(k == NameKind.free)=true
   ·obtain⟨c,e⟩:=hl (n,k) yE (by simpa using d);have e1:cellOf env n=pure c:=by unfold cellOf;rw[show env.cells.lookup n=some c from e]
    dsimp only;rw[zF d,e1];simp only[pure_bind];rw[f _ hr];show _=pure (clOf env r _);rw[zF d,show env.cells.lookup n=some c from e]
    all_goals rfl
   ·dsimp only;rw[zD d];simp only[pure_bind];rw[f _ hr];show _=pure (clOf env r _);rw[zD d]
 have e:closureFor b env=(forIn b.names ([]:List (Str×Addr)) (λ(x:Str×NameKind)(r:List (Str×Addr))=>if x.2 == NameKind.free then(do let a ←cellOf env x.1;pure (ForInStep.yield ((x.1,a):: r))) else(pure (ForInStep.yield r):Sem _)):Sem _):=by
  unfold closureFor
  first
   |rfl
   |(simp only[bind_pure];rfl)
   |(simp;done)
 rw[e];exact go _ _ h
theorem Gn{env:Env}:∀{b:List (Str×NameKind)}{x:Str},b.lookup x=some .free ->
  (b.map λ(n,k)=>if(k == NameKind.free && env.scope.kind == .function && env.kindOf n == some .cell) then(n,NameKind.cell) else(n,k)).lookup x=some .cell \/
  (b.map λ(n,k)=>if(k == NameKind.free && env.scope.kind == .function && env.kindOf n == some .cell) then(n,NameKind.cell) else(n,k)).lookup x=some .free
 |[],_,h=>by simp at h
 | (n,k):: r,x,h=>by
  have c:=@Gn env r x;cases hx:x == n with
  |true =>
   simp only[List.lookup_cons,hx]at h;cases h
   by_cases a:(NameKind.free == NameKind.free && env.scope.kind == .function && env.kindOf n == some .cell)=true
   ·refine .inl ?_;rw[zO];dsimp only;rw[zF a,xE,hx]
   ·refine .inr ?_;rw[zO];dsimp only;rw[zD a,xE,hx]
  |false =>
   simp only[List.lookup_cons,hx]at h;rw[zO];dsimp only
   by_cases a:(k == NameKind.free && env.scope.kind == .function && env.kindOf n == some .cell)=true
   ·rw[zF a,xE,hx];exact c h
   ·rw[zD a,xE,hx];exact c h
structure u_s(X:Cx)(scope:Scope)(x:Str)(fr:List (Str×Nat)):Prop where
 kind:scope.kind=.function
 cell:∀y∈scope.names,y.2≠.cell
 free:∀y∈scope.names,y.2=.free->X.env.kindOf y.1=some .cell\/X.env.kindOf y.1=some .free
 loc:∀y∈scope.names,y.2=.local->scope.names.lookup y.1=some .local
 name:scope.names.lookup x=some .local
 nd:(x:: fr.map (·.1)).Nodup
 fr:∀p∈fr,X.N[p.2]?=some p.1/\scope.names.lookup p.1=some .free
def lV(fr:List (Str×Nat))(σ:St):St:=fr.map λp=>σ.getD p.2 none
section
variable {X:Cx} {scope:Scope} {x:Str} {fr:List (Str×Nat)}
def Gm(i:Nat)(te:TE):TS:=λD σ H=>te σ H λv H1=>D.nx (σ.set i (some v)) H1
end
def Dc(h:Heap)(e:Addr)(o:Option Addr):Prop:=∃oe,h.get? e=some oe/\∀dx,o=some dx->oe.dict=some dx
theorem Ps(o:Obj)(f:Array Value->Array Value):(o.mapFields f).dict=o.dict:=by
 unfold Obj.mapFields;split <;> rfl
section
variable {M:Model} {A:Around} {E:VP} {s:Shared}
theorem Bi{base:Heap}{env:Env}{outer:List Env}{L e:Addr}{g:Obj}{vs:Array Value}{head a0:Value}{I:Bool}{Q:Unit->Shared->Prop}(N:A.frames=some (env:: outer))(hl:s.heap.FunFrames base (env:: outer))(F:env.frame=some L)
  (m:s.heap.get? e=some g)(G:base.StaysIn s.heap)(D:base.get? e=none)(i:g.data=.fields vs)(hsz:1<vs.size)(K:vs[0]?=some a0){od:Option Addr}(O:∀j,od=some j->g.dict=some j)
  (h:∀h',Heap.NotedW base (env:: outer) e g.cls a0 (rawInt L) s.heap h'->Dc h' e od->Q () {s with heap:=h'}):
  wpAny M A (do let a ←frameOf env;let pl ←entryPlaceOf L I;let b ←EntryCells.newEntry head a .none (rawInt L) .none pl;setField (.ref e) 1 b) Q E s:=by
 have P:e∉(env:: outer).filterMap (·.frame):=by
  intro n;have⟨_,o,C,f⟩:=hl.mem n;rw[m]at C;cases C;exact f vs i
 refine zA (wpAny_frameOf_fun N hl F λc l=>zA (wpAny_entryPlaceOf λpl t=>?_));unfold EntryCells.newEntry newFields;refine zA (xD ?_ (t.sizeOk5 _ _ _ _ _));have y:c.get? e=some g:=(l.2.1 e P).trans m;have b1:base.StaysIn c:=λb o q=>(l.2.1 b (by intro n;rw[(hl.mem n).1]at q;cases q)).trans (G b o q);generalize hT:({cls:=.type "traceback",dict:=none,data:=.fields ([head,.ref L,.none,rawInt L,.none]++(if pl.isEmpty then List.replicate 6 Value.none else pl)).toArray}:Obj)=k;have w:=zC (h:=c) k y;refine vL w i hsz ?_;have ne:c.objs.size≠e:=sL (zK y);have r:=wU i (·.setIfInBounds 1 (Value.ref c.objs.size));have v:=xA (Obj.mapFields (·.setIfInBounds 1 (Value.ref c.objs.size))) w (tH r);have J:((c.push k).update e (Obj.mapFields (·.setIfInBounds 1 (Value.ref c.objs.size)))).get? c.objs.size=some k:=(xJ _ _ (zT ne)).trans (zQ c (by subst hT;rfl));have p:∀b o,b≠e->c.get? b=some o->((c.push k).update e (Obj.mapFields (·.setIfInBounds 1 (Value.ref c.objs.size)))).get? b=some o:=λb o q d=>(xJ _ _ (zT q)).trans (zC _ d);have u:∀b o,s.heap.get? b=some o->(∀vs,o.data≠.fields vs)->b≠e:=λb o d f q=>by
  rw[q,m]at d;cases d;exact f vs i
 refine h _ ⟨λb o q=>p b o (by intro z;rw[z,D]at q;cases q) (b1 b o q),hl.of_keeps λb o d f=>?_,?_,λb o d f=>?_⟩ ⟨_,v,λj q=>(Ps _ _).trans (O j q)⟩
 ·obtain⟨x,q⟩:=l.2.2 b o d;exact⟨_,p b _ (u b o d f) q,rfl⟩
 ·subst hT;exact⟨_,_,c.objs.size,_,_,v,⟨pF _ _,by rw[Array.getElem?_setIfInBounds_ne ∅];exact K⟩,r,by simp[hsz],b1.fresh,ne,J,rfl,by first|(simp;done)|(rcases t with rfl|⟨_,_,_,_,_,_,_,rfl⟩ <;> simp)⟩
 ·obtain⟨x,q⟩:=l.2.2 b o d;exact⟨x,p b _ (u b o d f) q⟩
theorem Gk{base:Heap}{l:List Env}{e:Addr}{m a0 fl:Value}{Q:Unit->Shared->Prop}(C:base.StaysIn s.heap)(hl:s.heap.FunFrames base l)(x:s.heap.TracedAtW base e m a0 fl){od:Option Addr}(D:Dc s.heap e od)
  (h:∀h',base.StaysIn h'->h'.FunFrames base l->h'.TracedW base e m a0->Dc h' e od->s.heap.UpToSlots h'->Q () {s with heap:=h'}):wpAny M A (setFlight (.ref e) none) Q E s:=by
 obtain⟨w,vs,T,J,ts,i,y,p,n,r,j,k,g,G⟩:=x;obtain⟨I,u,F⟩:=D;rw[i]at u;cases u;have v:3<ts.size:=(oX.mp G).1;have c:∀b,b≠T->(s.heap.update T (Obj.mapFields (·.setIfInBounds 3 ((none:Option Addr).elim Value.none λf=>rawInt f)))).get? b=s.heap.get? b:=λb q=>xJ _ _ (zT q);have t:∀b o,s.heap.get? b=some o->(∀vs,o.data≠.fields vs)->b≠T:=λb o a d q=>by
  rw[q,k]at a;cases a;exact d ts g
 unfold setFlight;refine zA (xB i p n ?_);rw[zF (show(Value.ref T != Value.none)=true by simp)];refine vL k g v (h _ (λb o q=>(c b (by intro z;rw[z,r]at q;cases q)).trans (C b o q)) (hl.of_keeps λb o a d=>⟨o,(c b (t b o a d)).trans a,rfl⟩) ?_ ⟨w,(c e (zT j)).trans i,F⟩ λb o a d=>⟨o.slots,(c b (t b o a d)).trans a⟩);exact⟨w,vs,T,_,_,(c e (zT j)).trans i,y,p,n,r,j,xA _ k (tH (wU g _)),wU g _,by simp[v]⟩
theorem Gj{base:Heap}{env:Env}{outer:List Env}{L e:Addr}{k a0:Value}{Q:Unit->Shared->Prop}(J:A.frames=some (env:: outer))(m:env.frame=some L)(P:Heap.FlyingW base (env:: outer) e k a0 s.heap){od:Option Addr}(D:Dc s.heap e od)
  (O:∀h',Heap.HeldW base (env:: outer) e k a0 L h'->Dc h' e od->s.heap.UpToSlots h'->Q () {s with heap:=h'}):wpAny M A (noteFrame (.ref e) env) Q E s:=by
 obtain⟨v,u,F,V,vs,T,U,ts,i,⟨y,G⟩,n,l,C,I,j,g,t⟩:=P;obtain⟨S,r,K⟩:=D;rw[i]at r;cases r;subst y;unfold noteFrame;simp only[m];refine zA (xB i n l ?_);rw[zF (show(Value.ref T != Value.none)=true by simp)];refine zA (xB j g t ?_);rw[zD (show¬ ((Value.none == rawInt L)=true) by simp[rawInt])];refine zA (vL j g (oX.mp t).1 ?_);have f:∀b,b≠T->(s.heap.update T (Obj.mapFields (·.setIfInBounds 3 Value.none))).get? b=s.heap.get? b:=λb q=>xJ _ _ (zT q);have p:∀b o,s.heap.get? b=some o->(∀vs,o.data≠.fields vs)->b≠T:=λb o a d q=>by
  rw[q,j]at a;cases a;exact d ts g
 refine Bi J (F.of_keeps λb o a d=>⟨o,(f b (p b o a d)).trans a,rfl⟩) m ((f e (zT I)).trans i) (λb o q=>(f b (by intro z;rw[z,C]at q;cases q)).trans (v b o q)) u n (oX.mp l).1 G K λh'⟨w,x,R,N⟩c=>?_;exact O h' ⟨w,u,x,R⟩ c λb o a d=>N b o ((f b (p b o a d)).trans a) d
theorem bO{base:Heap}{l:List Env}{e L:Addr}{a a0:Value}{Q:Unit->Shared->Prop}(hh:Heap.HeldW base l e a a0 L s.heap){od:Option Addr}(b:Dc s.heap e od)
  (d:∀h',Heap.FlyingW base l e a a0 h'->Dc h' e od->s.heap.UpToSlots h'->Q () {s with heap:=h'}):wpAny M A (setFlight (.ref e) none) Q E s:=
 let ⟨j,f,i,g⟩:=hh;Gk j i g b λh' k1 k2 k3 c k=>d h' ⟨k1,f,k2,k3⟩ c k
theorem Pq{base:Heap}{l:List Env}{e:Addr}{a a0:Value}{Q:Unit->Shared->Prop}(hh:Heap.FlyingW base l e a a0 s.heap){od:Option Addr}(b:Dc s.heap e od)
  (d:∀h',Heap.FlyingW base l e a a0 h'->Dc h' e od->s.heap.UpToSlots h'->Q () {s with heap:=h'}):wpAny M A (setFlight (.ref e) none) Q E s:=
 let ⟨j,f,i,g⟩:=hh;Gk j i g.at b λh' k1 k2 k3 c k=>d h' ⟨k1,f,k2,k3⟩ c k
theorem Pp{base:Heap}{env:Env}{outer:List Env}{L e:Addr}{a a0:Value}{Q:Unit->Shared->Prop}(o:A.frames=some (env:: outer))(k:env.frame=some L)(g:Heap.FlyingW base (env:: outer) e a a0 s.heap){od:Option Addr}(b:Dc s.heap e od)
  (d:∀h',Heap.FlyingW base outer e a a0 h'->Dc h' e od->s.heap.UpToSlots h'->Q () {s with heap:=h'}):wpAny M A (leaving env (.ref e)) Q E s:=by
 unfold leaving;refine zA (Gj o k g b λl hh i j=>?_);refine bO (s:={s with heap:=l}) hh i λn⟨k1,k2,⟨_,_,k3⟩,m⟩c f=>d n ⟨k1,k2,k3,m⟩ c (j.trans f)
theorem Po{base h:Heap}{env:Env}{outer:List Env}{L e:Addr}{f:Value}{z:LW}{Q:Unit->Shared->Prop}(v:A.frames=some (env:: outer))(i:env.frame=some L)(j:base.StaysIn h)(hl:h.FunFrames base (env:: outer))(c:Heap.MadeExcOf h s.heap e f z)
  (y:∀h' d,Heap.FlyingW base outer e f (.ref d) h'->Dc h' e none->s.heap.UpToSlots h'->Q () {s with heap:=h'}):wpAny M A (leaving env (.ref e)) Q E s:=by
 obtain⟨d,g,F,D⟩:=c.there;have fr:∀b,h.get? b=none->base.get? b=none:=λb a=>by
  cases hq:base.get? b with
  |none=>rfl
  |some u=>rw[j b u hq]at a;cases a
 unfold leaving noteFrame;simp only[i];refine zA (zA (xB g rfl (x:=.none) rfl ?_));rw[zD ∅];refine Bi v (hl.of_keeps λb o a _=>⟨o,c.keeps b o a,rfl⟩) i g (λb o a=>c.keeps b o (j b o a)) (fr e c.new) rfl (by simp) (a0:=.ref d) rfl (od:=none) (λ_ q=>by cases q) λk⟨l,m,C,x⟩r=>?_;refine bO (s:={s with heap:=k}) ⟨l,fr e c.new,m,C⟩ r λw⟨k1,k2,⟨_,_,k3⟩,t⟩n p=>y w d ⟨k1,k2,k3,t⟩ n (Heap.UpToSlots.trans x p)
end
theorem mI.there{P:Program}{w:World}{H:Hp}{h:Heap}{a:Addr}{o:HO}(x:mI P w H h a o):∃b,h.get? a=some b:=by
 cases o with
 |lst xs=>obtain⟨_,_,_,_,e⟩:=x;exact⟨_,e⟩
 |tup xs=>obtain⟨_,_,_,b,e,_⟩:=x;exact⟨b,e⟩
 |dK kvs=>obtain⟨_,_,_,_,o,_,_,e,_⟩:=x;exact⟨_,e⟩
 |dT kvs=>obtain⟨_,_,_,_,o,_,_,e,_⟩:=x;exact⟨_,e⟩
 |set d n=>obtain⟨o,_,_,_,e,_⟩:=x;exact⟨_,e⟩
 |ins C g fs=>obtain⟨_,_,_,e,_⟩:=x;exact⟨_,e⟩
 |own y=>exact x
 |xd fs=>obtain⟨_,⟨_,_,_,e,_⟩,_⟩:=x;exact⟨_,e⟩
 |rng lo hi=>obtain⟨_,_,_,e⟩:=x;exact⟨_,e⟩
 |frz b u=>exact⟨_,x.1⟩
 |tbl ps=>exact⟨_,x⟩
 |met f y=>exact⟨_,x⟩
 |ext c=>exact x.2.1
abbrev Cov(fs:LA)(h₀:Heap)(H:Hp)(h B:Heap):Prop:=∀b o,h.get? b=some o->b∉fs->((∃o',h₀.get? b=some o')\/∃u,H b=some u)->B.get? b=some o
def FlyX(X:Cx)(pins:PN)(H:Hp)(e:Addr)(C:Value)(od:Option Addr)(h:Heap):Prop:=(∃B a0,Heap.FlyingW B X.stack e C a0 h/\Cov (frs X.stack) X.s₀.heap H h B/\∀p∈X.pn++pins,B.get? p.1=some p.2)/\Dc h e od
def CX1(P:Program)(w:World):CXT:=λouter H s E ev s'=>∃e C od H' B a0,ev=.ref e/\s'.os=s.os/\AllBare s'.gens/\Un (frs outer) [] H H' s.heap s'.heap/\HOk P w H' s'.heap /\
 Heap.FlyingW B outer e C a0 s'.heap/\Cov (frs outer) s.heap H' s'.heap B/\Dc s'.heap e od/\E C od H'
abbrev XE:=St->Value->Option Addr->Hp->Prop
def eP(X:Cx)(EX:XE):Prop:=∀(pins:PN)(σ:St)(H:Hp)(s:Shared)(e:Addr)(C:Value)(od:Option Addr),Inv X pins σ H s->FlyX X pins H e C od s.heap->EX σ C od H->X.xe (.ref e) s
def Gi(X:Cx)(EX:XE):Prop:=∀(pins:PN)(σ:St)(H:Hp)(s:Shared)(h':Heap)(e:Addr)(C:Value)(vs:LW),Inv X pins σ H s->Heap.MadeExcOf s.heap h' e C vs->EX σ C none H->X.xe (.ref e) {s with heap:=h'}
theorem bP{X:Cx}{D:PN}{F:St}{H:Hp}{s:Shared}{g B:Heap}(I:Inv X D F H s)(J:X.stack=X.env:: X.outer)(K:X.env.frame=some X.env.locals)(C:X.ex=[])
  (stay:B.StaysIn g)(sm:s.heap.UpToSlots g)(x:Cov (frs X.stack) X.s₀.heap H s.heap B):
  Un X.fs [] X.H₀ H X.s₀.heap g/\HOk X.prog X.w H g/\Cov X.fs X.s₀.heap H g B:=by
 have u:=I.base;rw[C]at u;have G:frs X.stack=X.env.locals:: X.fs:=by
  rw[J];unfold frs;rw[tY,K];rfl
 have l:∀b o,X.s₀.heap.get? b=some o->b∉X.fs->b∉frs X.stack:=λb o e c m=>by
  rw[G]at m;rcases xM.mp m with z|z
  ·exact absurd (zP (zK e) I.ok.above) (by rw[z];exact yZ _)
  ·exact c z
 have trk:∀b v,H b=some v->b∉frs X.stack:=λb v e m=>by
  have:=I.stkFree b m;rw[e]at this;cases this
 have i:∀b o,s.heap.get? b=some o->b∉frs X.stack->((∃f,X.s₀.heap.get? b=some f)\/∃v,H b=some v)->g.get? b=some o:=λb o e c t=>stay b o (x b o e c t);have y:∀b,b∈X.fs->∀o,s.heap.get? b=some o->∃w,g.get? b=some {o with slots:=w}:=λb c o e=>by
  obtain⟨_,f,d,L⟩:=I.funs.mem c;rw[e]at d;cases d;exact sm b o e L
 refine⟨⟨λb o e n c k=>?_,λb o e n c k=>?_,u.free,λb o e k=>?_,u.tups,u.frzs,u.tbls⟩,λa o p=>?_,λb o e c t=>?_⟩
 ·exact i b o (u.keep b o e n c k) (l b o e c) (.inl ⟨o,e⟩)
 ·obtain⟨w,e1⟩:=u.slot b o e n c k;obtain⟨M,r⟩:=y b c _ e1;exact⟨M,r⟩
 ·obtain⟨j,e1⟩:=u.there b o e k
  by_cases c:b∈X.fs
  ·obtain⟨w,r⟩:=y b c _ e1;exact⟨_,r⟩
  ·exact⟨j,i b j e1 (l b o e c) (.inl ⟨o,e⟩)⟩
 ·refine(I.hok a o p).stay (λb v c q=>?_) (λ_ q=>q) λ_ _ q=>q;rcases c with c|c
  ·subst c;exact i b v q (trk b o p) (.inr ⟨o,p⟩)
  ·exact i b v q (trk b _ c) (.inr ⟨_,c⟩)
 ·rcases t with⟨f,d⟩|⟨v,d⟩
  ·obtain⟨j,e1⟩:=u.there b f d (by simp);have q:=i b j e1 (l b f d c) (.inl ⟨f,d⟩);rw[e]at q;cases q;exact x b o e1 (l b f d c) (.inl ⟨f,d⟩)
  ·obtain⟨j,e1⟩:=(I.hok b v d).there;have q:=i b j e1 (trk b v d) (.inr ⟨v,d⟩);rw[e]at q;cases q;exact x b o e1 (trk b v d) (.inr ⟨v,d⟩)
section
variable {P:Program} {w:World} {K:Frag} {mg:MT} {base:Heap} {N:List Str} {qual:Str} {scope:Scope} {f:Addr} {cd:Value} {A:Around} {outer:List Env} {s₀:Shared} {H₀:Hp} {E:XK}
theorem Bh:eP (cxOf (CX1 P w) P w K mg base N qual scope f cd A outer s₀ H₀ E) (λ_ C od H=>E C od H):=by
 intro k j H s e C od I F g;obtain⟨⟨B,a0,fl,i,_⟩,c⟩:=F;refine Pp I.ok.frames rfl fl c λl a d sm=>?_;obtain⟨un,ok,b⟩:=bP I rfl rfl rfl a.1 sm i;exact⟨e,C,od,H,B,a0,rfl,I.os,I.bare,un,ok,a,b,d,g⟩
theorem iX:Gi (cxOf (CX1 P w) P w K mg base N qual scope f cd A outer s₀ H₀ E) (λ_ C od H=>E C od H):=by
 intro t r H s h' e C vs I M l;have j:=I.stack;have g:=PySem.W.funFrames_hide (as:=frs (cxOf (CX1 P w) P w K mg base N qual scope f cd A outer s₀ H₀ E).stack) j (λenv m a i=>nB.mpr ⟨env,m,i⟩);refine Po (s:={s with heap:=h'}) (h:=s.heap) I.ok.frames rfl (λb o q=>qL _ q) g M λu p c k sm=>?_;obtain⟨un,ok,d⟩:=bP I rfl rfl rfl c.1 ((Heap.UpToSlots.of_keeps M.keeps).trans sm) λb o q n _=>rZ _ q n;exact⟨e,C,none,H,_,_,rfl,I.os,I.bare,un,ok,c,d,k,l⟩
end
section
variable {X:Cx} {EX:XE} {k:Nat} {f:Addr} {fd:FuncData} {ps:List Str} {sp:Sp} {dvs:List V} {ds:LW} {x:Str} {p pos:Pos} {e:Expr} {es:List Expr} {t:TA}
def Pn(sp:Sp)(dvs:List V)(EX:XE)(t:TA):TE:=λσ H Q=>t σ H λvs H1=>sp (vs++dvs) H1 Q λC od H'=>EX σ C od H'
theorem Pm{d:PN}{c:St}{H:Hp}{s:Shared}{Q:VK}{us:LW}{vs:List V}(F:FnOk X.prog X.w X.K X.mg X.base (CX1 X.prog X.w) k f fd ps sp)(hr:Room k X.A)(i:lT X.K fd ps ds)(y:Vals dvs ds)(L:eP X EX)
  (w:X.ex=[])(I:Inv X d c H s)(r:Vals vs us)(h:sp (vs++dvs) H Q λC od H'=>EX c C od H'):wpAny (model X.prog X.w) X.A (call (.ref f) us) (EP X d c Q) X.xe s:=by
 have r2:Vals (vs++dvs) (us++ds):=r.append y;have hl:(us++ds).length=ps.length:=by rw[←r2.length];exact F.len _ _ _ _ h
 refine uN (tI (F.run X.A X.stack s H ⟨us,[]⟩ (us++ds) (vs++dvs) Q _ hr I.env0 (i s us I.kIn hl) r2 h) λr m a=>?_);cases r with
 | error S =>
  obtain⟨e,C,od,H',B,a0,rfl,N,D,un,ok,fl,n,v,q⟩:=a;have l:Inv X d c H' m:=I.call' N un ok D λb z=>absurd z (by simp);refine L d c H' m e C od l ⟨⟨B,a0,fl,λb o e1 i g=>n b o e1 i ?_,λp j=>?_⟩,v⟩ q
  ·rcases g with⟨K,P⟩|g
   ·obtain⟨M,G⟩:=I.base.there b K P (by rw[w];simp);exact .inl ⟨M,G⟩
   ·exact .inr g
  ·obtain⟨e1,R,ne,O,_⟩:=l.pin p j;refine n p.1 p.2 e1 (λJ=>?_) (.inl ⟨_,(I.pin p j).1⟩);rcases xM.mp (I.stkSub p.1 J) with z|z
   ·exact ne z
   ·exact O z
 |ok fl =>
  cases fl with
  |ret u=>exact I.after a
  |next=>exact False.elim a
  |brk=>exact False.elim a
  |cont=>exact False.elim a
theorem Bg(F:FnOk X.prog X.w X.K X.mg X.base (CX1 X.prog X.w) k f fd ps sp)(hr:Room k X.A)(n:Gl X x)(o:X.mg x=some (.ref f))(w:PySem.W.keepIn X.K (.ref f)=true)(v:lT X.K fd ps ds)(i:Vals dvs ds)(b:eP X EX)
  (c:PA X (e:: es) t)(d:X.ex=[]:=by rfl)(l:(x == ("__debug__" :Str))=false:=by decide)(u:starEach (e:: es) X.env=(false,eval e X.env):: starEach es X.env:=by rfl)(j:(backTo pos (starEach es X.env)).any (·.1)=false:=by rfl):
  PE X (.Call (.Name x p) (e:: es) [] pos) (Pn sp dvs EX t):=by
 intro m s g H Q I h;refine wC (iV I n o ?_ l);refine sG (h₀:=X.base) I.ok.mod.kin w (thn (c pos m s g H _ I h) λus y⟨vs,z,a,r,q⟩=>⟨a.kIn,?_⟩) u j;exact Pm F hr v i b d a r q
theorem Be{P:Program}{w:World}{Y:Cx}:eF (CX1 P w) Y E0:=λ_ _ _ _ _ _ _ h=>by
 obtain⟨_,_,_,_,_,_,_,_,_,_,_,_,_,_,q⟩:=h;exact q.elim
end
theorem Pl{K:Frag}{h:Heap}{C:Addr}{e:LW}{newId:String}(KX:K.In h)(a:PySem.W.excIn K C e newId=true):
  ∃bm N nm c bs b sn sub ab col dd k0 k1 k2 k3 k5 mN,h.get? C=some (excClassObj nm c C N bs bm b sn sub ab col dd k0 k1 k2 k3 k5 newId)/\h.Ns N mN/\mN "__init__"=none/\OwnTail h e bm:=by
 revert a
 unfold PySem.W.excIn;split
 ·next dd j f w =>
  split
  ·next v bm k0 k1 k2 k3 k k5 r es =>
   intro a;simp only[Bool.and_eq_true,beq_iff_eq,Bool.not_eq_true']at a;obtain⟨⟨⟨⟨⟨e1,n⟩,i⟩,u⟩,d⟩,m⟩:=a;subst e1 n;cases j with
   | mk nm bs p ns c b sn sub ab col o =>
    have q:p=Value.ref v:: bm:=r;have g:o=false:=i;subst q g;have t:f=#[k0,k1,k2,k3,some (Value.builtin k),k5]:=by
     cases f with
     |mk l=>exact vA Array.mk es
    subst t;exact⟨bm,ns,nm,c,bs,b,sn,sub,ab,col,dd,k0,k1,k2,k3,k5,_,KX _ _ w,pW (qN KX d),PySem.W.nsMap_none_of_in KX d m,PySem.W.tail_of_in KX u⟩
  ·intro z;cases z
 ·intro z;cases z
section
variable {X:Cx} {EX:XE} {C:Addr} {x:Str} {np cpos pos:Pos} {e₀:Expr} {rest:List Expr} {t:TA} {bmB:LW} {B newId initId:String}
def iY(C:Addr)(EX:XE)(t:TA):TS:=λ_ σ H=>t σ H λvs H1=>vs.length<=sizeLine/\EX σ (.ref C) none H1
theorem iZ(G:X.calm=true)(F:Gi X EX)(K:Gl X x)(y:X.mg x=some (.ref C))(J:PySem.W.excIn X.K C bmB newId=true)(f:ExcBaseFacts B newId initId bmB)(m:PA X (e₀:: rest) t)
  (w:(x == ("__debug__" :Str))=false:=by decide)(b:starEach (e₀:: rest) X.env=(false,eval e₀ X.env):: starEach rest X.env:=by rfl)(v:(backTo cpos (starEach rest X.env)).any (·.1)=false:=by rfl):
  PS X (.Raise (some (.Call (.Name x np) (e₀:: rest) [] cpos)) none pos) (iY C EX t):=by
 intro c s d H D I h;obtain⟨bm,N,nm,q,bs,o,sn,sub,ab,col,dd,k0,k1,k2,k3,k5,mN,p,n,u,T⟩:=Pl I.mod.kin J;have i:(backTo cpos (starEach (e₀:: rest) X.env)).any (·.1)=false:=by
  rw[b];show(false || (backTo cpos (starEach rest X.env)).any (·.1))=false;rw[v];rfl
 refine wpAny_Raise_call_subT (C:=C) (nm:=nm) (q:=q) (N:=N) (bs:=bs) (bm:=bm) (hdct:=o) (sn:=sn) (sub:=sub) (ab:=ab) (col:=col) (dd:=dd) (k0:=k0) (k1:=k1) (k2:=k2) (k3:=k3) (k5:=k5) f (mN:=mN) (T.hasType f.hasBase) (I.ok.hd G) i u
  (iV I K y ⟨rfl,?_⟩ w)
 have g:=m cpos c s d H _ I h;rw[b]at g ⊢;refine uC (thn g λus j⟨vs,k,a,r,z,l⟩=>⟨rfl,?_,a.bk _ _ p,n.keeps a.bk,T.keeps a.bk,λh' e M=>F c d k j h' e _ us a M l⟩);show us.length<=sizeLine;rw[←r.length];exact z
end
section
variable {X:Cx} {pins:PN} {σ:St} {H:Hp} {s:Shared}
theorem Inv.flown{h' B:Heap}(I:Inv X pins σ H s)(n:X.stack=X.env:: X.outer)(C:X.env.frame=some X.env.locals)(b:X.ex=[])(stay:B.StaysIn h')(sm:s.heap.UpToSlots h')(g:Cov (frs X.stack) X.s₀.heap H s.heap B)
  (w:∀p∈X.pn++pins,B.get? p.1=some p.2):Inv X pins σ H {s with heap:=h'}:=by
 obtain⟨un,ok,_⟩:=bP I n C b stay sm g;have a:∀c v,s.heap.IsCell c v->h'.IsCell c v:=λc v⟨o,e,d⟩=>by
  obtain⟨D,y⟩:=sm c o e λvs z=>by rw[d]at z;cases z
  exact⟨_,y,d⟩
 refine⟨I.ok,I.os,I.bare,by rw[b];exact un,?_,λx c e=>?_,I.free,I.freeC,λp f=>?_,ok,I.len⟩
 ·obtain⟨m,j,hl⟩:=I.loc;refine⟨m,sm.ns j,λi x v e1 t q=>?_⟩;obtain⟨u,r,l⟩:=hl i x v e1 t q;refine⟨u,r,?_⟩;rcases l with l|⟨k,c,e,z⟩
  ·exact .inl l
  ·exact .inr ⟨k,c,e,a c _ z⟩
 ·obtain⟨v,z⟩:=I.cell x c e;exact⟨v,a c v z⟩
 ·obtain⟨_,r⟩:=I.pin p f;exact⟨stay _ _ (w p f),r⟩
def iF(e:Addr)(C:Value)(od:Option Addr):HO:=.ext λh=>∃o,h.get? e=some o/\o.cls=C/\PySem.W.notCls o=true/\∀dx,od=some dx->o.dict=some dx
theorem Inv.trackE{e:Addr}{C:Value}{od:Option Addr}{d:Obj}{vs:Array Value}(I:Inv X pins σ H s)(i:s.heap.get? e=some d)(F:d.cls=C)(j:d.data=.fields vs)(w:∀y,od=some y->d.dict=some y)(G:H e=none)(K:X.s₀.heap.get? e=none)(M:∀p∈X.pn++pins,p.1≠e):
  Inv X pins σ (upd H e (iF e C od)) s:=by
 have ne:∀b u,H b=some u->b≠e:=λb u q z=>by rw[z,G]at q;cases q
 have J:X.env.locals≠e:=λz=>by
  obtain⟨m,⟨o,es,ep,g,f,_⟩,_⟩:=I.loc;rw[z,i]at g;cases g;rw[j]at f;cases f
 have L:∀x c,X.env.cells.lookup x=some c->c≠e:=λx c q z=>by
  obtain⟨v,o,g,f⟩:=I.cell x c q;rw[z,i]at g;cases g;rw[j]at f;cases f
 have u:=I.base;refine⟨I.ok,I.os,I.bare,⟨u.keep,u.slot,λb o q n D=>?_,u.there,λb xs q=>?_,λb o v q=>?_,λb ps q=>?_⟩,I.loc,I.cell,?_,λx c q=>?_,λp t=>?_,λa o q=>?_,I.len⟩
 ·rw[nO (λz=>by rw[z,K]at q;cases q)];exact u.free b o q n D
 ·have:=u.tups b xs q;rw[nO (ne _ _ this)];exact this
 ·have:=u.frzs b o v q;rw[nO (ne _ _ this)];exact this
 ·obtain⟨m,e1⟩:=u.tbls b ps q;exact⟨m,by rw[nO (ne _ _ e1)];exact e1⟩
 ·rw[nO J];exact I.free
 ·rw[nO (L x c q)];exact I.freeC x c q
 ·obtain⟨e1,N,r⟩:=I.pin p t;exact⟨e1,by rw[nO (M p t)];exact N,r⟩
 ·by_cases l:a=e
  ·subst l;rw[nN]at q;cases q;exact⟨⟨d,i,F,by unfold PySem.W.notCls;rw[j],w⟩,⟨d,i⟩,λO w⟨o,e1,r⟩k=>⟨o,k o e1,r⟩⟩
  ·rw[nO l]at q;exact(I.hok a o q).stay (λ_ _ _ z=>z) (λb z=>by rw[nO (ne _ _ z)];exact z) λb xs z=>by rw[nO (ne _ _ z)];exact z
theorem Inv.unbind{h':Heap}{m:MT}{u:Option Value}{i:Nat}{n:Str}(I:Inv X pins σ H s)(R:X.N.Nodup)(hi:X.N[i]?=some n)(hl:X.env.scope.names.lookup n=some .local)
  (K:s.heap.Ns X.env.locals m)(S:h'.Ns X.env.locals (λx=>if x=n then u else m x))(C:Heap.SameBut X.env.locals s.heap h')(P:∀(j:Nat) x v,X.N[j]?=some x->σ[j]?=some (some v)->Vis X.env.scope x->∃u,RelV v u/\Look X.env s.heap m x u):
  Inv X pins (σ.set i none) H {s with heap:=h'}:=by
 obtain⟨Y,W,U,V,_⟩:=id K;have D:∀b o,X.s₀.heap.get? b=some o->b≠X.env.locals:=λb o e=>zW (zP (zK e) I.ok.above);have t:∀b o,b≠X.env.locals->s.heap.get? b=some o->h'.get? b=some o:=λb o d e=>(C.2 b d).trans e;have F:∀b v,H b=some v->b≠X.env.locals:=λb v e z=>by rw[z,I.free]at e;cases e
 have f:=I.base;refine⟨I.ok,I.os,I.bare,⟨λb o e n d g=>t b o (D b o e) (f.keep b o e n d g),λb o e n d g=>?_,f.free,λb o e g=>?_,f.tups,f.frzs,f.tbls⟩,⟨_,S,λj x v e1 y L=>?_⟩,λx c e=>?_,I.free,I.freeC,λp O=>?_,λa o e=>?_,by simpa using I.len⟩
 ·obtain⟨T,e1⟩:=f.slot b o e n d g;exact⟨T,t b _ (D b o e) e1⟩
 ·obtain⟨J,e1⟩:=f.there b o e g;exact⟨J,t b J (D b o e) e1⟩
 ·have G:j≠i:=λz=>by
   subst z;have N:j<σ.length:=by rw[I.len];exact(nF.mp hi).1
   rw[xR N]at y;cases y
  rw[vY (zT G)]at y;have g:x≠n:=λz=>G (By R e1 (z ▸ hi));obtain⟨w,r,l⟩:=P j x v e1 y L;refine⟨w,r,?_⟩;rcases l with⟨k,e⟩|⟨k,c,e,z⟩
  ·exact .inl ⟨k,by simp[g,e]⟩
  ·exact .inr ⟨k,c,e,z.sameBut C (I.cne x c e)⟩
 ·obtain⟨v,z⟩:=I.cell x c e;exact⟨v,z.sameBut C (I.cne x c e)⟩
 ·obtain⟨e1,M,ne,r⟩:=I.pin p O;exact⟨t _ _ ne e1,M,ne,r⟩
 ·refine(I.hok a o e).stay (λb v d q=>t b v ?_ q) (λ_ q=>q) λ_ _ q=>q;rcases d with d|d
  ·rw[d];exact F a o e
  ·exact F b _ d
end
abbrev Cx.body(X:Cx)(pn:PN)(E:VP):Cx:={X with pn:=pn,xe:=E}
abbrev Cx.suite(X:Cx)(e:Addr):Cx:={X with A:=X.A.mark (some (.ref e)),calm:=false,xe:=λ_ _=>False}
section
variable {X:Cx} {pins pins':PN} {σ:St} {H:Hp} {s:Shared} {E:VP} {e:Addr}
theorem Inv.intry(I:Inv X pins σ H s):Inv (X.body (X.pn++pins) E) [] σ H s:=
 ⟨⟨I.ok.mod,I.ok.kind,I.ok.glob,I.ok.blt,I.ok.above,I.ok.inj,I.ok.has,I.ok.cab,I.ok.hd,I.ok.frames,I.ok.stk,I.ok.exf,I.ok.bs,I.ok.bsz,I.ok.noex,I.ok.exfs,I.ok.funs,I.ok.frf⟩,
  I.os,I.bare,I.base,I.loc,I.cell,I.free,I.freeC,λp a=>I.pin p (by simpa using a),I.hok,I.len⟩
theorem Inv.offtry(I:Inv (X.body (X.pn++pins) E) pins' σ H s):Inv X pins σ H s:=
 ⟨⟨I.ok.mod,I.ok.kind,I.ok.glob,I.ok.blt,I.ok.above,I.ok.inj,I.ok.has,I.ok.cab,I.ok.hd,I.ok.frames,I.ok.stk,I.ok.exf,I.ok.bs,I.ok.bsz,I.ok.noex,I.ok.exfs,I.ok.funs,I.ok.frf⟩,
  I.os,I.bare,I.base,I.loc,I.cell,I.free,I.freeC,λp a=>I.pin p (xI _ a),I.hok,I.len⟩
theorem Inv.insuite(I:Inv X pins σ H s):Inv (X.suite e) pins σ H s:=
 ⟨⟨I.ok.mod,I.ok.kind,I.ok.glob,I.ok.blt,I.ok.above,I.ok.inj,I.ok.has,I.ok.cab,(λz=>by cases z),I.ok.frames,I.ok.stk,I.ok.exf,I.ok.bs,I.ok.bsz,I.ok.noex,I.ok.exfs,I.ok.funs,I.ok.frf⟩,
  I.os,I.bare,I.base,I.loc,I.cell,I.free,I.freeC,I.pin,I.hok,I.len⟩
theorem Inv.offsuite(I:Inv (X.suite e) pins σ H s)(ok:X.Ok):Inv X pins σ H s:=
 ⟨ok,I.os,I.bare,I.base,I.loc,I.cell,I.free,I.freeC,I.pin,I.hok,I.len⟩
theorem SP.offtry{D:Ends}{f:Flow}(h:SP (X.body (X.pn++pins) E) [] D f s):SP X pins D f s:=by
 cases f with
 |next=>obtain⟨b,H',a,q⟩:=h;exact⟨b,H',a.offtry,q⟩
 |brk=>obtain⟨b,H',a,q⟩:=h;exact⟨b,H',a.offtry,q⟩
 |cont=>obtain⟨b,H',a,q⟩:=h;exact⟨b,H',a.offtry,q⟩
 |ret u=>obtain⟨v,b,H',a,r,q⟩:=h;exact⟨v,b,H',a.offtry,r,q⟩
end
def Ends.gone(D:Ends)(i:Nat):Ends:={nx:=λσ H=>D.nx (σ.set i none) H,rt:=D.rt,bk:=λσ H=>D.bk (σ.set i none) H,ct:=λσ H=>D.ct (σ.set i none) H}
def tTry(K:Frag)(C0:Addr)(i:Nat)(tb:XE->TS)(ts:TS):TS:=λD σ H =>
 tb (λσ' C od H'=>PySem.W.exmOne K C (.ref C0)=some true/\∀e,H' e=none->ts (D.gone i) (σ'.set i (some (.ref e))) (upd H' e (iF e C od))) D σ H
section
variable {X:Cx} {C0:Addr} {x n:Str} {np hpos pos:Pos} {i:Nat} {body suite:List Stmt} {b₀:Stmt} {tb:XE->TS} {ts:TS}
theorem Pk{j:PN}{D:Ends}{f:Flow}{s:Shared}{e:Addr}(ok:X.Ok)(p:X.N.Nodup)(hi:X.N[i]?=some n)(hl:X.env.scope.names.lookup n=some .local)(h:SP (X.suite e) j (D.gone i) f s):
  wpAny (model X.prog X.w) X.A (do bindName X.env n .none;unbindBehindTheSuite X.env n hpos) (λ_ b=>SP X j D f b) X.xe s:=by
 have F:(X.env.scope.kind == .class || (X.env.scope.kind == .module && X.env.locals != X.env.globals))=false:=by rw[ok.kind];rfl
 have g:∀(a:St)(H':Hp),Inv (X.suite e) j a H' s->∀(R:Shared->Prop),(∀b,Inv X j (a.set i none) H' b->R b) ->
   wpAny (model X.prog X.w) X.A (do bindName X.env n .none;unbindBehindTheSuite X.env n hpos) (λ_ b=>R b) X.xe s:=by
  intro a H' c R C;have y:=c.offsuite ok;refine zA (oG (fE (v:=.non) y p hi (.inl hl) rfl (λM w=>?_) (.inr hl)));obtain⟨m,k,o⟩:=w.loc;have G:i<a.length:=by rw[y.len];exact(nF.mp hi).1
  obtain⟨u,N,L⟩:=o i n .non hi (xR G) (.inl hl);have I:m n=some u:=by
   rcases L with⟨_,z⟩|⟨z,_⟩
   ·exact z
   ·rcases z with z|z <;> (have t:X.env.scope.names.lookup n=_:=z;rw[hl]at t;cases t)
  unfold unbindBehindTheSuite;refine rD (yQ (wpAny_unbindName_local hl k I F λh' v J K=>?_) (λ_ _ q=>q) λ_ _ q=>wF q);refine C _ ?_;have l:=w.unbind p hi hl k J K o;rw[List.set_set]at l;exact l
 cases f with
 |next=>obtain⟨a,H',c,q⟩:=h;exact g a H' c _ λb d=>⟨_,H',d,q⟩
 |brk=>obtain⟨a,H',c,q⟩:=h;exact g a H' c _ λb d=>⟨_,H',d,q⟩
 |cont=>obtain⟨a,H',c,q⟩:=h;exact g a H' c _ λb d=>⟨_,H',d,q⟩
 |ret u=>obtain⟨v,a,H',c,r,q⟩:=h;exact g a H' c _ λb d=>⟨v,_,H',d,r,q⟩
theorem Pj(d:X.stack=X.env:: X.outer)(y:X.env.frame=some X.env.locals)(P:X.ex=[])(W:X.N.Nodup)(hi:X.N[i]?=some n)(hl:X.env.scope.names.lookup n=some .local)
  (d1:Gl X x)(w:X.mg x=some (.ref C0))(d8:∀Z E U,eP (X.body Z E) U->PSs (X.body Z E) body (tb U))(d0:∀e,PSs (X.suite e) (b₀:: suite) ts)
  (c3:(x == ("__debug__" :Str))=false:=by decide):PS X (.Try body [.ExceptHandler (some (.Name x np)) (some n) (b₀:: suite) hpos] [] [] pos) (tTry X.K C0 i tb ts):=by
 intro c s c6 H D I h;refine wpAny_Try_except (yQ (d8 (X.pn++c) (λL a5=>wpAny (model X.prog X.w) X.A (noteFrame L X.env) (λ_ d7=>wpAny (model X.prog X.w) X.A (setFlight L none) (λ_ a9 =>
  wpAny (model X.prog X.w) X.A (handleBy L X.env [.ExceptHandler (some (.Name x np)) (some n) (b₀:: suite) hpos]) (SP X c D) X.xe a9) X.xe d7) X.xe a5) _ ?_ [] s c6 H D I.intry h) (λf a q=>?_) λ_ _ q=>q)
 ·-- an exception arrives
  intro e0 j H' a e C od c4 F a6;obtain⟨b5,a4⟩:=a6;have G:Inv X c j H' a:=c4.offtry;obtain⟨⟨B,a0,fl,k,a7⟩,b7⟩:=F;have m:Heap.FlyingW B (X.env:: X.outer) e C a0 a.heap:=d ▸ fl;have c8:X.A.frames=some (X.env:: X.outer):=I.ok.frames.trans (by rw[d]);have r:∀p∈X.pn++c,B.get? p.1=some p.2:=λp t=>a7 p (xI _ t)
  -- where e lies
  have J:∀b o,B.get? b=some o->b≠e:=λb o q z=>by have:=m.2.1;rw[←z,q]at this;cases this
  obtain⟨d9,c7,l,e3,a8,_⟩:=m.first;have T:e∉frs X.stack:=λw=>by
   obtain⟨_,o,a1,d6⟩:=G.stack.mem w;rw[l]at a1;cases a1;exact d6 c7 a8
  have N:H' e=none:=by
   cases q:H' e with
   |none=>rfl
   |some v=>exact absurd rfl (J e _ (k e _ l T (.inr ⟨v,q⟩)))
  have b6:X.s₀.heap.get? e=none:=by
   cases q:X.s₀.heap.get? e with
   |none=>rfl
   |some o=>exact absurd rfl (J e _ (k e _ l T (.inl ⟨o,q⟩)))
  refine Gj c8 y m b7 λb2 b0 b3 V=>?_;refine bO (s:={a with heap:=b2}) b0 b3 λg K b4 R=>?_;have M:Inv X c j H' {a with heap:=g}:=G.flown d y P K.1 (V.trans R) k r;have d4:Inv (X.suite e) c j H' {a with heap:=g}:=M.insuite;obtain⟨e5,c2,a3⟩:=K.there;refine wpAny_handleBy_cons (codeAny_handlers_test (iV (X:=X.suite e) d4 d1 w ?_ c3)) (by intro q;cases q);have a2:PySem.W.Looks (model X.prog X.w) g (typeOf (.ref e)) C:=by
   rw[←a3];exact(pJ c2).andThen .now
  refine(PySem.W.exm_one M.kIn a2 b5).here ?_;show codeAny _ _ _ _ _;refine codeAny_handlers_suite_as ?_;refine Pq (s:={a with heap:=g}) K b4 λc1 S c0 d2=>?_;have b9:Inv X c j H' {a with heap:=c1}:=G.flown d y P S.1 ((V.trans R).trans d2) k r;obtain⟨e6,vs,O,c5,b8,_⟩:=S.first;obtain⟨e2,Y,d3⟩:=c0;rw[O]at Y;cases Y;have c9:=b9.trackE O c5 b8 d3 N b6 λp t=>J _ _ (r p t);refine fE (X:=X.suite e) c9.insuite W hi (.inl hl) (show RelV (.ref e) (.ref e) from rfl) (λd5 b1=>?_) (.inr hl);refine yQ (d0 e c d5 _ _ _ b1 (a4 e N)) (λf e4 q=>?_) λ_ _ q=>q.elim;exact Pk I.ok W hi hl q
 ·cases f with
  |next=>exact sD (SP.offtry q)
  |brk=>exact SP.offtry q
  |cont=>exact SP.offtry q
  |ret u=>exact SP.offtry q
end
section
variable {X:Cx}
theorem mZ:OpR X (binaryOp .Mult) (rI (λi j=>IntMulOk i j) λi j=>.int (i*j)):=opI λ_ _ _ _ _ _ _ a q=>mul_int q a
def fL(_ j:Int):Prop:=j≠0/\j.natAbs.log2<9000
theorem gQ:OpR X (binaryOp .FloorDiv) (rI fL λi j=>.int (i.fdiv j)):=opI λ_ _ _ _ _ _ _ a q=>floordiv_int a.1 q (.inl (PyProof.noPylong_of_log2 a.2))
end
mutual
inductive Dt(K:Frag)(H:Hp):V->PyData->Prop
 |non:Dt K H .non .none
 |bl (b):Dt K H (.bl b) (.bool b)
 |int (i):Dt K H (.int i) (.int i)
 |str (x):Dt K H (.str x) (.str x)
 |lst {a xs ds}:SqL K H a xs->Dts K H xs ds->Dt K H (.ref a) (.list ds)
 |tup {a xs ds}:SqT K H a xs->Dts K H xs ds->Dt K H (.ref a) (.tuple ds)
inductive Dts(K:Frag)(H:Hp):List V->List PyData->Prop
 |nil:Dts K H [] []
 |cons {x xs d ds}:Dt K H x d->Dts K H xs ds->Dts K H (x:: xs) (d:: ds)
end
theorem Dts.ints{K:Frag}{H:Hp}:∀(ns:LI'),Dts K H (ns.map V.int) (ns.map PyData.int)
 |[]=>.nil
 |n:: r=>.cons (.int n) (Dts.ints r)
section
variable {X:Cx} {pins:PN} {σ:St} {H:Hp} {s:Shared}
mutual
theorem Dt.reads(I:Inv X pins σ H s):∀{x:V}{d:PyData}{u:Value},Dt X.K H x d->RelV x u->∃as,Reads s.heap u d as
 |_,_,_,.non,r=>by cases(show _=Value.none from r);exact⟨_,.none⟩
 |_,_,_,.bl b,r=>by cases(show _=Value.bool b from r);exact⟨_,.bool b⟩
 |_,_,_,.int i,r=>by obtain⟨f,e⟩:=(show∃f,_=Value.int i f from r);cases e;exact⟨_,.int i f⟩
 |_,_,_,.str x,r=>by obtain⟨f,e⟩:=(show∃f,_=Value.str x f from r);cases e;exact⟨_,.str x f⟩
 |_,_,_,.lst (a:=a) h g,r=>by
  cases(show _=Value.ref a from r);obtain⟨its,j,⟨o,n,e,c,_,dd⟩,_⟩:=I.list h;obtain⟨as,q⟩:=Dts.reads I g j;exact⟨_,.list e c dd (by simpa using q)⟩
 |_,_,_,.tup (a:=a) h g,r=>by
  cases(show _=Value.ref a from r);obtain⟨its,j,⟨o,e,c,n,dd⟩,_⟩:=I.tuple h;obtain⟨as,q⟩:=Dts.reads I g j;exact⟨_,.tuple e c dd (by simpa using q)⟩
theorem Dts.reads(I:Inv X pins σ H s):∀{xs:List V}{ds:List PyData}{us:LW},Dts X.K H xs ds->Vals xs us->∃as,ReadsAll s.heap us ds as
 |_,_,_,.nil,r=>by cases r;exact⟨_,.nil⟩
 | _,_,_,.cons h a,r=>by
  cases r with
  |cons r1 r2 =>
   obtain⟨as,b⟩:=Dt.reads I h r1;obtain⟨bs,c⟩:=Dts.reads I a r2;exact⟨_,.cons b c⟩
end
end
section
variable {X:Cx}
def rEqD(K:Frag):R2:=λx y H Q=>∃d d',Dt K H x d/\Dt K H y d'/\SeqAt.shaped d=true/\SeqAt.shaped d'=true/\SeqAt.noMix d d'=true/\Q (.bl (same d d')) H
def rNeD(K:Frag):R2:=λx y H Q=>∃d d',Dt K H x d/\Dt K H y d'/\SeqAt.shaped d=true/\SeqAt.shaped d'=true/\SeqAt.noMix d d'=true/\Q (.bl (!same d d')) H
theorem Pi(j:X.A.units+64<cLine):OpR X (compareOp .Eq) (rEqD X.K):=by
 intro l s k H x y v u Q I b c h;obtain⟨d,d',f,i,a,g,e,q⟩:=h;obtain⟨as,r1⟩:=f.reads I b;obtain⟨bs,r2⟩:=i.reads I c;exact eq_dataH_same r1 r2 a g j e ⟨.bl (same d d'),H,I,rfl,q⟩
theorem Bd(j:X.A.units+64<cLine):OpR X (compareOp .NotEq) (rNeD X.K):=by
 intro l s k H x y v u Q I b c h;obtain⟨d,d',f,i,a,g,e,q⟩:=h;obtain⟨as,r1⟩:=f.reads I b;obtain⟨bs,r2⟩:=i.reads I c;exact ne_dataH_same r1 r2 a g j e ⟨.bl (!same d d'),H,I,rfl,q⟩
end
structure cF(K:Frag)(C:Addr):Prop where
 ga:PySem.W.findIn K (.ref C) "__getattribute__"=some (some (.builtin "BaseException.__getattribute__"))
 gt:PySem.W.findIn K (.ref C) "__getattr__"=some none
 ca:PySem.W.findIn K (.ref C) "__class__"=some (some (.builtin "object.__class__"))
 cg:PySem.W.specialIn K (.builtin "object.__class__") "__get__"=some (some (.builtin "getset_descriptor.__get__"))
 tk:PySem.W.takesIn K (.builtin "object.__class__")=some true
 ob:PySem.W.mroIn K C (.type "object")=some true
 bx:PySem.W.mroIn K C (.type "BaseException")=some true
 cl:(PySem.W.clsIn K C).isSome=true
theorem Ph{prog:Program}{w:World}{A:Around}{E:VP}{s:Shared}{K:Frag}{x C:Addr}{Q:Option Value->Shared->Prop}(F:cF K C)(KX:K.In s.heap)(c:∃o,s.heap.get? x=some o/\o.cls=.ref C)
  (h:Q (some (.ref C)) {s with toks:=s.toks+1}):wpAny (model prog w) A (getAttr? (.ref x) "__class__") Q E s:=by
 obtain⟨hh,g,d,e,y⟩:=s;obtain⟨o,c,a⟩:=c;have b:PySem.W.Looks (model prog w) hh (typeOf (.ref x)) (.ref C):=a ▸ (pJ c).andThen .now;have i:=wH (M:=model prog w) KX F.ga;have k:=wH (M:=model prog w) KX F.gt;have f:=wH (M:=model prog w) KX F.ca;have r:=PySem.W.looks_specialIn (M:=model prog w) KX F.cg;have n:=PySem.W.looks_takesIn (M:=model prog w) KX F.tk;have q:=tX (M:=model prog w) KX F.ob;have t:=tX (M:=model prog w) KX F.bx;unfold getAttr? getAttrBy? getAttrBy;refine zA (oO (zA (vF (yN (zA (b.at (zA (i.at ?_))))))));show wpAny _ _ (getAttrByItsOwn _ _ _ _ _ _) _ _ _;unfold getAttrByItsOwn;refine zA (show wpAny _ _ (hookBefore (.ref C)) _ _ _ from k.at ?_);refine zA (vF (yN ?_));show wpAny _ _ (boundAndCalled _ _ _) _ _ _;unfold boundAndCalled;rw[PySem.F.attr_ValueError.ga.bind (.ref x)];refine zA (zB (uN ?_));refine uA PySem.F.attr_ValueError.ga.plain PySem.F.entry_bexc_ga ?_;have u:builtinKind "BaseException.__getattribute__"=some .slot:=nofun
 have j:splitId "BaseException.__getattribute__"=some ("BaseException","__getattribute__"):=nofun
 have v:=PySem.F.args_bexc_ga (.ref x) (.str "__class__" e);have m:PySem.W.Looks (model prog w) hh (isInstance (.ref x) (.type "BaseException")) true:=b.andThen t;show wpAny _ _ (checkBuiltinCall "BaseException.__getattribute__" ⟨[.ref x,.str "__class__" e],[]⟩) _ _ _;simp only[checkBuiltinCall,u,j];refine zA (m.at ?_)
 repeat wp_step
 rw[a];refine f.at ?_;refine zA (show wpAny _ _ (Builtin.ObjectAttr.getOf (some (.builtin "object.__class__"))) _ _ _ from r.at ?_);have p:PySem.W.Looks (model prog w) hh (Builtin.ObjectAttr.dataDescriptor? (some (.builtin "object.__class__")) (some (.builtin "getset_descriptor.__get__"))) (some (.builtin "getset_descriptor.__get__",.builtin "object.__class__")):=n.andThen .now;refine zA (p.at ?_)
 repeat wp_step
 have l:PySem.W.Looks (model prog w) hh (isInstance (.ref x) (.type "object")) true:=b.andThen q;refine uA PySem.W.KF.slot_gs.plain PySem.W.KF.entry_gs (PySem.W.KF.slot_gs.check _ _ _ _ _ _ _ _ PySem.W.KF.type_class (PySem.W.KF.args_gs _ _ _) ?_)
 (unfold Builtin.«getset_descriptor.__get__» Builtin.Getset_descriptor.descrGet;rw[PySem.W.dga_obj];refine zA (zB ?_))
 (unfold Builtin.Getset_descriptor.descrGetter Builtin.Getset_descriptor.descrCheckInstance Builtin.Getset_descriptor.descrNameAndClass;simp only[PySem.W.KF.owner_class])
 refine zA (zA (zB (zA (l.at (zB ?_)))))
 repeat wp_step
 refine⟨qJ _ (nofun),tZ PySem.W.KF.entry_class ?_⟩
 (unfold Builtin.«object.__class__» shownTypeOf;repeat wp_step)
 rw[a];exact zB (zB h)
theorem Pg{K:Frag}{x C:Addr}(F:cF K C):PySem.W.KitX K (.ref x) (.ref C) (λh=>∃o,h.get? x=some o/\o.cls=.ref C) where
 ty:=λM h _⟨o,f,b⟩=>b ▸ (pJ f).andThen .now
 it:=λM h KX _=>by
  have q:=F.cl;unfold PySem.W.clsIn at q;split at q
  ·next a =>
   intro m i r j k z
   (unfold isType loadHead;exact zA (qF (k _ _ (KX _ _ a)) (zB z)))
  ·cases q
 ne:=λh g dd its n l KX c=>by
  have q:=F.cl;refine Bool.eq_false_iff.mpr λz=>?_;have e:C=g:=Value.ref.inj (oS.mp z);subst e;unfold PySem.W.clsIn at q;split at q
  ·next a=>exact absurd ((KX _ _ a).symm.trans c) (by intro d;cases d)
  ·cases q
 ca:=λKX p k=>Ph F KX p k
inductive TyX(K:Frag)(H:Hp):V->Value->Prop where
 |ty {x:V} {t:Value} (h:TyOf K H x t):TyX K H x t
 |exc {e C:Addr} {od:Option Addr} (h:H e=some (iF e (.ref C) od)) (F:cF K C):TyX K H (.ref e) (.ref C)
 |tupS {a:Addr} {xs:List V} (h:SqT K H a xs):TyX K H (.ref a) (.type "tuple")
def clsV:V->Value
 |.ty n=>.type n
 |.ref a=>.ref a
 |_=>.none
def Gh:V->Bool
 |.ty _=>true
 |.ref _=>true
 |_=>false
def rIsi(K:Frag):List V->Hp->VK->Prop:=λvs H Q=>∃x c t b,vs=[x,c]/\TyX K H x t/\Gh c=true/\PySem.W.kitOne K t (clsV c)=some b/\Q (.bl b) H
theorem kU{X:Cx}:kD X (.builtin "isinstance") (rIsi X.K):=by
 intro l s g H xs us Q I f h;obtain⟨x,c,n,b,rfl,ty,d,e,q⟩:=h;obtain⟨u,w,rfl,r1,r2⟩:=f.two;have m:w=clsV c:=by
  cases c <;> first|exact r2|cases d
 subst m;have a:∀tk,EP X l g Q (.bool b) {s with toks:=tk}:=λtk=>⟨.bl b,H,I.tok tk,rfl,q⟩;cases ty with
 |ty h=>exact Nb I r1 h e a
 |exc h F =>
  obtain rfl:u=_:=r1;obtain⟨⟨i,k1,k2,_⟩,_,_⟩:=(show mI X.prog X.w H s.heap _ (iF _ _ _) from I.hok _ _ h);exact xL (Pg F) I.kIn ⟨i,k1,k2⟩ e (λz=>nomatch z) a
 |tupS h =>
  obtain rfl:u=_:=r1;obtain⟨its,_,⟨o,k,j,_⟩,_⟩:=I.tuple h;exact xL PySem.W.kitx_tuple I.kIn ⟨o,k,j⟩ e (λz=>nomatch z) a
structure jN(k:Nat)(A:Around):Prop where
 dp:A.depth+3*k+5<recursionLimit
 un:A.units+16*k+200<cLine
theorem Room.a{k:Nat}{A:Around}(r:Room k A):jN k A:=⟨r.dp,r.un⟩
theorem jN.mono{j k:Nat}{A:Around}(r:jN k A)(h:j<=k):jN j A:=⟨by have:=r.dp;omega,by have:=r.un;omega⟩
theorem jN.deeper{k:Nat}{A:Around}(r:jN (k+1) A)(env:Env):jN k (A.deeper env):=
 ⟨by have:=r.dp;show A.depth+1+3*k+5<_;omega,by have:=r.un;show A.units+3+16*k+200<_;omega⟩
theorem jN.mark{k:Nat}{A:Around}(r:jN k A)(v:Option Value):jN k (A.mark v):=⟨r.dp,r.un⟩
structure bQ(P:Program)(w:World)(K:Frag)(mg:MT)(base:Heap)(k:Nat)(f:Addr)(fd:FuncData)(ps:List Str)(sp:Sp):Prop where
 len:∀vs H Q E,sp vs H Q E->vs.length=ps.length
 run:∀(A:Around)(outer:List Env)(s:Shared)(H:Hp)(args:Args)(us:LW)(vs:List V)(Q:VK)(E:XK),jN k A->Env0 P w K mg base A outer s H->BindsTo s fd args (ps.zip us)->Vals vs us->sp vs H Q E ->
  codeAny (model P w) A (.call (.ref f) args) (CR CX0 outer P w H s Q E) s
abbrev cxA(P:Program)(w:World)(K:Frag)(mg:MT)(base:Heap)(N:List Str)(qual:Str)(scope:Scope)(f:Addr)(cd:Value)(A:Around)(outer:List Env)(s:Shared)(H:Hp)(E:XK):Cx:=
 {cxOf CX0 P w K mg base N qual scope f cd A outer s H E with calm:=false,xe:=λ_ _=>False}
section
variable {P:Program} {w:World} {K:Frag} {mg:MT} {base:Heap}
theorem Fun.okA{x g:Str}{st:Stmt}{f:Addr}{C:FuncData}{N ps:List Str}{k:Nat}{p:Sp}(F:Fun K x g st f C)(i:nZ N ps (nP st))(len:∀vs H Q E,p vs H Q E->vs.length=ps.length)
  (M:∀(cdv:Value)(A:Around)(outer:List Env)(s:Shared)(H:Hp)(vs:List V)(Q:VK)(E:XK),jN k (A.deeper (envOfC g (nP st) s.heap.objs.size f cdv))->p vs H Q E ->
   ∃m,PSs (cxA P w K mg base N g (nP st) f cdv A outer s H E) (jF st) m/\m {nx:=λ_ H'=>Q .non H',rt:=Q} (jE N vs) H):bQ P w K mg base (k+1) f C ps p:=by
 obtain⟨Z,od,kV,a4,a5,a1,cdv,a0,Y,rfl,O,X⟩:=F.ex;refine⟨len,λA outer s H a2 us vs Q E hr c W r D=>?_⟩;have hl:=len _ _ _ _ D;have t:∀b o,base.get? b=some o->s.heap.get? b=some o:=λb o e=>(c.bs b o e).1;have L:∀y∈ps.zip us,(nP st).names.lookup y.1=some .local\/((nP st).names.lookup y.1=some .cell/\((cellsFrom (s.heap.objs.size+1) (nP st).names []).lookup y.1).isSome=true):=λ⟨n,v⟩S=>by
  rcases i.par n (uO S).1 with q|q
  ·exact .inl q
  ·exact .inr ⟨q,rC _ _ _ (.inl q)⟩
 refine codeAny_call_function (by have:=hr.dp;omega) (c.mod.kin.keeps t _ _ O) rfl i.co i.gen rfl (PySem.W.codeRec_of (c.mod.kin.keeps t) X) (W _ _ _ _ ?_);refine wpAny_newFunctionEnv_cells i.kind L λenv J l x=>?_;subst J;refine⟨(c.mod.nolimit.keeps t).keeps x.toInCall.keep,codeAny_func ?_⟩;obtain⟨m,G,R⟩:=M cdv A outer s H vs Q E (hr.deeper _) D;have a:Inv (cxOf CX0 P w K mg base N g (nP st) f cdv {A with handled:=none} outer s H E) [] (jE N vs) H l:=
  Fb i rfl (⟨c.frames,c.mod,c.bs,c.bsz,c.funs,c.frf,c.hok,c.bare⟩:Env0 P w K mg base {A with handled:=none} outer s H) hl r x
 have I:Inv (cxA P w K mg base N g (nP st) f cdv A outer s H E) [] (jE N vs) H l:=
  ⟨⟨a.ok.mod,a.ok.kind,a.ok.glob,a.ok.blt,a.ok.above,a.ok.inj,a.ok.has,a.ok.cab,(λz=>by cases z),Around.frames_deeper c.frames,a.ok.stk,a.ok.exf,a.ok.bs,a.ok.bsz,a.ok.noex,a.ok.exfs,a.ok.funs,a.ok.frf⟩,
   a.os,a.bare,a.base,a.loc,a.cell,a.free,a.freeC,a.pin,a.hok,a.len⟩
 refine yQ (G [] l (jE N vs) H _ I R) (λfl a3 j=>?_) λ_ _ z=>z.elim;cases fl with
 |ret u=>obtain⟨v,U,H',d,T,q⟩:=j;exact⟨v,H',d.os,d.bare,d.base,d.hok,T,q⟩
 |next=>obtain⟨U,H',d,q⟩:=j;exact⟨.non,H',d.os,d.bare,d.base,d.hok,rfl,q⟩
 |brk=>obtain⟨_,_,_,q⟩:=j;exact q.elim
 |cont=>obtain⟨_,_,_,q⟩:=j;exact q.elim
end
section
variable {X:Cx} {k:Nat} {f:Addr} {fd:FuncData} {ps:List Str} {sp:Sp} {dvs:List V} {ds:LW} {x:Str} {p pos:Pos} {e:Expr} {es:List Expr} {t:TA}
theorem Pf(F:bQ X.prog X.w X.K X.mg X.base k f fd ps sp)(hr:jN k X.A)(n:Gl X x)(o:X.mg x=some (.ref f))(z:PySem.W.keepIn X.K (.ref f)=true)(y:lT X.K fd ps ds)(i:Vals dvs ds)
  (d:PA X (e:: es) t)(l:(x == ("__debug__" :Str))=false:=by decide)(w:starEach (e:: es) X.env=(false,eval e X.env):: starEach es X.env:=by rfl)(j:(backTo pos (starEach es X.env)).any (·.1)=false:=by rfl):
  PE X (.Call (.Name x p) (e:: es) [] pos) (kJ sp dvs E0 t):=by
 intro m s g H Q I h;refine wC (iV I n o ?_ l);refine sG (h₀:=X.base) I.ok.mod.kin z (thn (d pos m s g H _ I h) λus c⟨vs,v,b,r,q⟩=>⟨b.kIn,?_⟩) w j;have r2:Vals (vs++dvs) (us++ds):=r.append i;have hl:(us++ds).length=ps.length:=by rw[←r2.length];exact F.len _ _ _ _ q
 refine uN (tI (F.run X.A X.stack c v ⟨us,[]⟩ (us++ds) (vs++dvs) Q E0 hr b.env0 (y c us b.kIn hl) r2 q) λr C a=>?_);cases r with
 |error e=>exact False.elim a
 |ok fl =>
  cases fl with
  |ret u=>exact b.after a
  |next=>exact False.elim a
  |brk=>exact False.elim a
  |cont=>exact False.elim a
end
section
variable {X:Cx}
theorem kK:OpR X (compareOp .Eq) (rI0 λi j=>.bl (decide (i=j))):=opB0 λi j _ _ _ _ _ q=>eq_int (by rw[Bool.beq_eq_decide_eq];exact q)
theorem jU:OpR X (compareOp .NotEq) (rI0 λi j=>.bl (!decide (i=j))):=opB0 λi j _ _ _ _ _ q=>ne_int (by rw[bne,Bool.beq_eq_decide_eq];exact q)
theorem PS.nox{st:Stmt}{a:TS}(h:PS X.nox st a):PS X st a:=λd s c H D I b =>
 yQ (h d s c H D (I.wish _) b) (λ_ _ q=>q.unwish) λ_ _ z=>z.elim
end
section
variable {P:Program} {w:World} {K:Frag} {mg:MT} {base:Heap}
theorem Fun.okX{x b:Str}{st:Stmt}{f:Addr}{d:FuncData}{N ps:List Str}{k:Nat}{a:Sp}(F:Fun K x b st f d)(i:nZ N ps (nP st))(len:∀vs H Q E,a vs H Q E->vs.length=ps.length)
  (j:∀(cdv:Value)(A:Around)(outer:List Env)(s:Shared)(H:Hp)(vs:List V)(Q:VK)(E:XK),Room k (A.deeper (envOfC b (nP st) s.heap.objs.size f cdv))->a vs H Q E ->
   ∃c,PSs (cxOf (CX1 P w) P w K mg base N b (nP st) f cdv A outer s H E) (jF st) c/\c {nx:=λ_ H'=>Q .non H',rt:=Q} (jE N vs) H):FnOk P w K mg base (CX1 P w) (k+1) f d ps a:=by
 obtain⟨q,od,kV,p,r,m,cdv,o,n,rfl,l,e⟩:=F.ex;exact Bp l e i len λA outer s H vs Q E hr g=>j cdv A outer s H vs Q E hr g
end
end L2
namespace Att
open PySem PySem.W PySem.Calls PyProof.Rows
theorem Gg:∀ns:LI',ofPys (ns.map PyData.int)=ns.map WData.int
 |[]=>rfl
 |n:: r=>by
  show ofPy (.int n):: ofPys (r.map PyData.int)=_;rw[Gg r];rfl
theorem Pe{ns:LI'}(h:(WData.list (ns.map WData.int)).layable=true):∀n∈ns,Builtin.Int.intBits n<=1048576:=λn b=>by
 have e:ofPy (.list (ns.map PyData.int))=WData.list (ns.map WData.int):=by
  show WData.list (ofPys (ns.map PyData.int))=_;rw[Gg]
 have a:PySem.Spec.Shape.has (.list .int) (.list (ns.map PyData.int))=true:=by
  simp[PySem.Spec.Shape.has]
 exact intBits_le_of_item b (layable0_of_all (lay0_ofPy (s:=.list .int) rfl a (by rw[e];exact h)))
theorem attach_callB{l:OpenLaw}{n:Nat}{q:Program}{p:List Str}{u:(MT)->Heap->Prop}{t:World->Heap->Prop}{d:DefRec}(v:l.most=some n)(O:d.params.defaults=[])
  (call:∀(w:World)(i b:Shared)(e j:MT)(c:Addr)(a:Addr)(vs:LW)(ns:LI'),Ground q p [] u w i e j b.heap->t w b.heap->e d.name=some (.ref c) ->
   b.heap.get? a=some {cls:=.type "list",data:=.seq vs.toArray}->IntsAre vs ns->ns.length<=n->(∀m∈ns,Builtin.Int.intBits m<=1048576)->b.gens=#[] ->
   codeAny (model l.prog w) callerA (.call (.ref c) ⟨[.ref a],[]⟩) (λr g=>r=.ok (.ret (.bool true))/\OldK b.heap g.heap/\g.os=b.os/\AllBare g.gens) b):
  WalkO q p u t l.row.toRowW d [] (λf vs=>PySem.call f vs):=by
 intro w i b e j K x c o a1 U Z y kV a0 W a2 k S J Y vals as N C X R V;obtain rfl:y=.none:=Dflts.none k O;obtain rfl:kV=.none:=Dflts.noKw k;obtain⟨a,vs,ns,rfl,rfl,G,I,P⟩:=Pw v N R;have T:=Pe (layableW_arg C _ yE);refine enter_call (tI (call w i b e j c a vs ns K x S G I P T J) λr g F=>?_);obtain⟨rfl,L,M,z⟩:=F;exact⟨.inl ⟨.bool true,.bool true,[],rfl,λ_=>rfl,.bool true,Pu l _,λ_=>⟨List.Pairwise.nil,λ_ D=>(nomatch D)⟩⟩,L,M,z⟩
end Att
namespace L2
open PySem PySem.Spec PyProof.Rows
open PySem.W (Frag)
def Gf(K:Frag):Sp:=λvs H Q _=>∃(a:Addr)(ns:LI'),vs=[.ref a]/\SqL K H a (ns.map V.int)/\ns.length<=63/\(∀m∈ns,Builtin.Int.intBits m<=1048576)/\∀H',Q (.bl true) H'
theorem walkB{l:PySem.W.OpenLaw}{k:Nat}{q:Program}{p:List Str}{J:(MT)->Heap->Prop}{j:World->Heap->Prop}{d:DefRec}{K:Params->Frag}{x:Str}
  (n:l.most=some 63)(G:d.params.defaults=[])(hr:Room k callerA)(t:∀(w:World)(h:Heap),j w h->(K w.params).In h)
  (F:∀(w:World)(b:MT)(g:Addr)(h:Heap),(K w.params).In h->h.Ns mainGlobals b->b d.name=some (.ref g) ->
   ∃i:FuncData,(∀(s:Shared)(u:Value),BindsTo s i ⟨[u],[]⟩ [(x,u)])/\∀base:Heap,(K w.params).In base->base.Ns mainGlobals b->FnOk l.prog w (K w.params) b base CX0 k g i [x] (Gf (K w.params))):
  PySem.W.WalkO q p J j l.row.toRowW d [] (λf vs=>PySem.call f vs):=by
 refine Att.attach_callB n G λw O N b R g a vs ns c o L v y m M D=>?_;have KX:=t w _ o;obtain⟨i,I,r⟩:=F w b g _ KX c.T.g L;exact Pt KX c.T.g c.T.b c.T.builtins c.T.nolimit D v y (yC m ∅) hr r I (λH _ C=>⟨a,ns,rfl,C,m,M,λ_=>rfl⟩) λH e P z=>z
theorem lN{d:TI}{g:TG}{tb:TS}{D:Ends}{a:St}{H:Hp}(h:∀B:TS,B=tb->d a H λc k=>∃b:Nat->Nat->St->Hp->Prop,(∃m,b 0 m a k)/\∀i m a H,b i m a H ->
  (c.stop i H/\D.nx a H)\/(c.go i H/\∃N:St->Hp->Prop,(∀e H',N e H'->∃f,f<m/\b (i+1) f e H')/\∀x H',c.yld i H x H'->g x a H' λl j=>B {D with nx:=N,ct:=N,bk:=D.nx} l j)):tFor d g tb D a H:=h _ rfl
theorem Pd{c:TT}{tb:TS}{D:Ends}{a:St}{H:Hp}(h:∀B:TS,B=tb->∃d:Nat->St->Hp->Prop,(∃m,d m a H)/\∀m a H,d m a H ->
  c a H λb g=>if b=true then∃N:St->Hp->Prop,(∀e H',N e H'->∃f,f<m/\d f e H')/\B {D with nx:=N,ct:=N,bk:=D.nx} a g else D.nx a g):Fp c tb D a H:=h _ rfl
theorem st{a u:TS}{D:Ends}{b:St}{H:Hp}(h:∀c:St->Hp->Prop,c=u D->a {D with nx:=c} b H):tSeq a u D b H:=h _ rfl
section
variable {g:Int->Int->V} {C:Int->Int->Prop} {f:Int->V} {i j:Int} {H:Hp} {Q:VK}
theorem t_l:rI0 g (.int i) (.int j) H Q=Q (g i j) H:=propext ⟨λ⟨_,_,e1,a,q⟩=>by cases e1;cases a;exact q,λq=>⟨_,_,rfl,rfl,q⟩⟩
theorem t_V:rI C g (.int i) (.int j) H Q=(C i j/\Q (g i j) H):=propext ⟨λ⟨_,_,e1,a,q⟩=>by cases e1;cases a;exact q,λq=>⟨_,_,rfl,rfl,q⟩⟩
theorem t_W:rU f (.int i) H Q=Q (f i) H:=propext ⟨λ⟨_,e1,q⟩=>by cases e1;exact q,λq=>⟨_,rfl,q⟩⟩
end
theorem Same.new{H:Hp}{a:Addr}{o:HO}(h:H a=none):Same H (upd H a o):=λb u e=>by rw[nO (lI e h)];exact e
theorem Same.over{H c:Hp}{a:Addr}{o:HO}(h:H a=none)(s:Same H c):Same H (upd c a o):=λb u e=>by rw[nO (lI e h)];exact s b u e
theorem Same.tup{K:Frag}{H H':Hp}{a:Addr}{xs:List V}(e:Same H H')(h:SqT K H a xs):SqT K H' a xs:=by
 rcases h with(h|⟨o,h⟩)|h
 ·exact .inl (.inl (e _ _ h))
 ·exact .inl (.inr ⟨o,e _ _ h⟩)
 ·exact .inr h
section
variable {K:Frag} {a b:Addr} {xs:List V} {te:TE} {fr:List (Str×Nat)} {σ:St} {H:Hp} {Q:VK}
def u_t(H:Hp)(a:Addr)(R:Nat->V->Prop)(i:Nat)(H1:Hp):Prop:=Same H H1/\∃ys:List V,H1 a=some (.lst ys)/\ys.length=i/\∀j y,ys[j]?=some y->R j y
end
theorem kE{b a:Type}{ys:List a}{xs:List b}{f:b->a}(hl:ys.length=xs.length)(h:∀(j:Nat)(y:a),ys[j]?=some y->∃x,xs[j]?=some x/\y=f x):ys=xs.map f:=by
 refine tQ (by simpa using hl) λi c k=>?_;obtain⟨x,e1,e⟩:=h i ys[i] (by simp[c]);obtain⟨g,d⟩:=nF.mp e1;rw[tN,e,d]
def jV(sc scope:Scope):Scope:={scope with names:=scope.names.map λ(n,k)=>if(k == .free && sc.kind == .function && sc.names.lookup n == some .cell) then(n,.cell) else(n,k)}
theorem Pc{a sc:Scope}{env:Env}(h:env.scope=sc):relabel a env=jV sc a:=by subst h;rfl
theorem cG:∀(a:List (Str×NameKind))(n:Nat)(acc:List (Str×Addr)),cellsFrom n a acc=cellsFrom n a []++acc
 |[],_,_=>rfl
 |(x,k):: r,n,acc=>by
  unfold cellsFrom;split
  ·rw[cG r (n+1) ((x,n):: acc),cG r (n+1) [(x,n)],yK];rfl
  ·exact cG r n acc
theorem Bc{y:Str}{b:Addr}:∀{a:List (Str×NameKind)}{n:Nat}{acc:List (Str×Addr)},(y,b)∈cellsFrom n a acc->(y,b)∈acc\/(y,NameKind.cell)∈a
 |[],_,_,h=>.inl h
 | (x,k):: r,n,acc,h=>by
  unfold cellsFrom at h;split at h
  ·rename_i d;rcases Bc h with q|q
   ·rcases xM.mp q with e|e
    ·have c:k=.cell:=by simpa using d
     cases e;exact .inr (by rw[c];exact yE)
    ·exact .inl e
   ·exact .inr (zU _ q)
  ·rcases Bc h with q|q
   ·exact .inl q
   ·exact .inr (zU _ q)
theorem cH{y:Str}:∀{a:List (Str×NameKind)}{n:Nat}{acc:List (Str×Addr)},((y,NameKind.cell)∈a\/∃b,acc.lookup y=some b)->∃b,(cellsFrom n a acc).lookup y=some b
 |[],_,_,h=>by
  rcases h with h|h
  ·simp at h
  ·exact h
 | (x,k):: r,n,acc,h=>by
  unfold cellsFrom;split
  ·rename_i c;refine cH ?_;rcases h with h|⟨b,h⟩
   ·rcases xM.mp h with e|e
    ·cases e;exact .inr ⟨n,by rw[xE];simp⟩
    ·exact .inl e
   ·rw[xE];cases hx:y == x with
    |true=>exact .inr ⟨n,rfl⟩
    |false=>exact .inr ⟨b,h⟩
  ·rename_i c;refine cH ?_;rcases h with h|h
   ·rcases xM.mp h with e|e
    ·cases e;simp at c
    ·exact .inl e
   ·exact .inr h
theorem Bb{env:Env}{q:NameKind}:∀{f:List (Str×NameKind)}{x:Str},
  (f.map λ(n,k)=>if(k == NameKind.free && env.scope.kind == .function && env.kindOf n == some .cell) then(n,NameKind.cell) else(n,k)).lookup x=some q ->
  (q=.cell\/q=.free)->(x,NameKind.free)∈f\/(x,NameKind.cell)∈f
 |[],_,h,_=>by simp at h
 | (n,k):: r,x,h,c=>by
  have g:=@Bb env q r x;rw[zO]at h;dsimp only at h
  by_cases d:(k == NameKind.free && env.scope.kind == .function && env.kindOf n == some .cell)=true
  ·rw[zF d,xE]at h;cases hx:x == n with
   | true =>
    have b:x=n:=by simpa using hx
    have a:k=.free:=by
     have:=(zN _ _ ▸ ((zN _ _ ▸ d).1)).1;simpa using this
    rw[b,a];exact .inl yE
   |false =>
    rw[hx]at h;exact(g h c).imp (zU _) (zU _)
  ·rw[zD d,xE]at h;cases hx:x == n with
   |true =>
    rw[hx]at h;have b:x=n:=by simpa using hx
    have a:k=q:=zZ h;rcases c with e|e
    ·rw[b,a,e];exact .inr yE
    ·rw[b,a,e];exact .inl yE
   |false =>
    rw[hx]at h;exact(g h c).imp (zU _) (zU _)
theorem Ge{b:Type}{x:Str}{k k':b}:∀{l:List (Str×b)},(l.map (·.1)).Nodup->(x,k)∈l->(x,k')∈l->k=k'
 |(n,q):: r,nd,h,h'=>by
  obtain⟨c,d⟩:=rN.mp nd;rcases xM.mp h with e|e <;> rcases xM.mp h' with a|a
  ·cases e;cases a;rfl
  ·cases e;exact absurd (nD.mpr ⟨_,a,rfl⟩) c
  ·cases a;exact absurd (nD.mpr ⟨_,e,rfl⟩) c
  ·exact Ge d e a
theorem Pb{M:Model}{A:Around}{E:VP}{s:Shared}{a:Scope}{c:Addr}{b:List (Str×Addr)}{f:Str}{e:Option Addr}{d:Value}{env:Env}{bl:Addr}{Q:Env->Shared->Prop}
  (h:Q (newEnv a s.heap.objs.size c (cellsFrom (s.heap.objs.size+1) a.names b) f e d (some env) bl) {s with heap:=pushCells (s.heap.push {cls:=.type "dict",data:=.dict #[]}) a.names}):
  wpAny M A (newFunctionEnv a c b [] f e d (some env) bl) Q E s:=by
 simp only[newFunctionEnv,Option.isSome_some,if_true];refine zA (wpAny_alloc ?_);refine zA (wpAny_layCells _ (λname g cells=>by cases hkc:g == NameKind.cell <;> simp[hkc]) _ _ _ _ ?_);rw[show({s with heap:=s.heap.push {cls:=.type "dict",data:=.dict #[]}}:Shared).heap.objs.size=s.heap.objs.size+1 from xP ..];exact zB h
def lO(X:Cx)(scope:Scope)(N:List Str)(s:Shared)(H:Hp)(fp:LA):Cx:=
 {X with N:=N,s₀:=s,H₀:=H,env:=compEnvC scope (cellsFrom (s.heap.objs.size+1) scope.names (clOf X.env scope.names [])) s.heap.objs.size X.env,outer:=X.stack,ex:=fp,fn:=λy=>scope.names.lookup y == some .cell,pn:=[],xe:=λ_ _=>False}
structure iG(X:Cx)(sc scope:Scope)(xs:List Str)(fr:List (Str×Nat)):Prop where
 hsc:X.env.scope=sc
 kind:scope.kind=.function
 nn:(scope.names.map (·.1)).Nodup
 free:∀y∈scope.names,y.2=.free->sc.names.lookup y.1=some .cell\/sc.names.lookup y.1=some .free
 loc:∀y∈scope.names,y.2=.local->scope.names.lookup y.1=some .local
 fr:∀p∈fr,X.N[p.2]?=some p.1/\scope.names.lookup p.1=some .free
section
variable {X:Cx} {sc scope:Scope} {xs:List Str} {fr:List (Str×Nat)}
theorem iG.free'(c:iG X sc scope xs fr):∀y∈scope.names,y.2=.free->X.env.kindOf y.1=some .cell\/X.env.kindOf y.1=some .free:=λy a b=>by
 unfold Env.kindOf;rw[c.hsc];exact c.free y a b
theorem iG.cells{e:PN}{a:St}{H:Hp}{s:Shared}(c:iG X sc scope xs fr)(I:Inv X e a H s):∀y∈scope.names,y.2=.free->∃c,X.env.cells.lookup y.1=some c:=
 λy b d=>I.ok.has y.1 (c.free' y b d)
theorem iG.was{d:PN}{a:St}{H:Hp}{s:Shared}(c:iG X sc scope xs fr)(I:Inv X d a H s){y:Str}{b:Addr}(h:(clOf X.env scope.names []).lookup y=some b):X.env.cells.lookup y=some b:=by
 rcases Gp (c.cells I) h with q|q
 ·simp at q
 ·exact q
theorem eQ{a:List (Str×NameKind)}{n:Nat}{d:List (Str×Addr)}{y:Str}{b:Addr}(h:(cellsFrom n a d).lookup y=some b):(cellsFrom n a []).lookup y=some b\/((cellsFrom n a []).lookup y=none/\d.lookup y=some b):=by
 rw[cG,List.lookup_append]at h;cases q:(cellsFrom n a []).lookup y with
 |none=>rw[q]at h;exact .inr ⟨rfl,h⟩
 |some c=>rw[q]at h;exact .inl h
theorem Pa{C:PN}{l:St}{H:Hp}{s:Shared}{M:LA}(c:iG X sc scope xs fr)(I:Inv X C l H s)
  (x:∀b∈M,FpOk X C H b/\∃o,s.heap.get? b=some o):
  Inv (lO X scope (xs++fr.map (·.1)) s H M) [] (xs.map (λ_=>none)++lV fr l) H {s with heap:=pushCells (s.heap.push {cls:=.type "dict",data:=.dict #[]}) scope.names}:=by
 have k:∀b o,s.heap.get? b=some o->(pushCells (s.heap.push {cls:=.type "dict",data:=.dict #[]}) scope.names).get? b=some o:=λb o e=>pV _ _ b o (zC _ e);have F:(pushCells (s.heap.push {cls:=.type "dict",data:=.dict #[]}) scope.names).Ns s.heap.objs.size (λ_=>none):=(Heap.Ns.new s.heap (.type "dict")).keeps (pV _ _);have ok:=cellsFrom_ok scope.names (s.heap.push {cls:=.type "dict",data:=.dict #[]}) (s.heap.objs.size+1) [] ⟨λ_ _ f=>(nomatch f),List.Pairwise.nil⟩ (by rw[xP];exact zE _);rw[xP]at ok;have r:Inv X C l H {s with heap:=pushCells (s.heap.push {cls:=.type "dict",data:=.dict #[]}) scope.names}:=I.kept (t':=s.toks) k;generalize hh:pushCells (s.heap.push {cls:=.type "dict",data:=.dict #[]}) scope.names=N at k F ok r;have G:∀{y:Str}{b:Nat},(clOf X.env scope.names []).lookup y=some b->b<s.heap.objs.size:=λ{y b}e=>by
  obtain⟨v,z⟩:=I.cell y b (c.was I e);exact z.lt
 have own:∀{y:Str}{b:Nat},(cellsFrom (s.heap.objs.size+1) scope.names []).lookup y=some b->N.IsCell b none/\s.heap.objs.size+1<=b:=λ{y b}e=>ok.empty y b (mem_of_lookup e);refine⟨⟨I.ok.mod,c.kind,I.ok.glob,I.ok.blt,zE _,λy z b t a=>?_,λy m=>?_,λy b Y t=>?_,I.ok.hd,I.ok.frames,.inl rfl,λb n=>?_,λb o e=>?_,?_,λb o e n=>?_,λb n Z=>?_,?_,λb n=>?_⟩,
  rfl,I.bare,Un.kept k,⟨_,F,λi y v t a a4=>?_⟩,λy b h=>?_,?_,λy b h=>?_,λp U=>absurd (show p∈([]:PN) from U) (by simp),r.hok,?_⟩
 ·rcases eQ t with e1|⟨_,e1⟩ <;> rcases eQ a with d|⟨_,d⟩
  ·exact name_of_addr ok.apart (mem_of_lookup e1) (mem_of_lookup d)
  ·exact absurd (zP (G d) (qW (own e1).2)) (yZ _)
  ·exact absurd (zP (G e1) (qW (own d).2)) (yZ _)
  ·exact I.ok.inj y z b (c.was I e1) (c.was I d)
 ·show∃b,(cellsFrom (s.heap.objs.size+1) scope.names (clOf X.env scope.names [])).lookup y=some b;have f:(y,NameKind.free)∈scope.names\/(y,NameKind.cell)∈scope.names:=by
   rcases m with m|m
   ·exact Bb m (.inl rfl)
   ·exact Bb m (.inr rfl)
  rcases f with f|f
  ·exact cH (.inr (Bj (.inl f)))
  ·exact cH (.inl f)
 ·have m:scope.names.lookup y=some .cell:=by
   have O:(scope.names.lookup y == some NameKind.cell)=true:=Y;simpa using O
  rcases eQ t with e1|⟨e1,_⟩
  ·have:=(own e1).2;show s.heap.objs.size<=b;omega
  ·obtain⟨D,e⟩:=cH (n:=s.heap.objs.size+1) (acc:=[]) (.inl (mem_of_lookup m));rw[e1]at e;cases e
 ·obtain⟨⟨_,_,_,_,a0,_⟩,o,e⟩:=x b n;refine⟨zW (zK e),λy D h=>?_⟩;rcases eQ h with e1|⟨_,e1⟩
  ·exactλz=>absurd (zP (zK e) (qW (z ▸ (own e1).2))) (yZ _)
  ·exact a0 y D (c.was I e1)
 ·exact I.bs b o e
 ·exact yC I.ok.bsz I.sz
 ·obtain⟨⟨_,_,_,T,_,_⟩,_⟩:=x b n;rcases T with z|z
  ·exact I.ok.noex b o e z
  ·exact absurd (zP (zK e) (yC I.ok.bsz z)) (yZ _)
 ·obtain⟨⟨_,a1,W,_,_,_⟩,_⟩:=x b n;rcases xM.mp (I.stkSub b Z) with z|z
  ·exact a1 z
  ·exact W z
 ·exact I.stack
 ·exact I.stkFree b n
 ·have g:(xs++fr.map (·.1))[i]?=some y:=t
  by_cases hi:i<xs.length
  ·rw[yB (by simpa using hi),zH]at a;cases q:xs[i]? with
   |none=>rw[q]at a;cases a
   |some z=>rw[q]at a;cases zZ a
  ·rw [zX ⋯]at g;rw[zX (by simpa using hi),yM]at a;generalize i-xs.length=j at g a;rw[zH]at g;unfold lV at a;rw[zH]at a;cases e:fr[j]? with
   |none=>rw[e]at g;cases g
   | some p =>
    rw[e]at g a;have e1:p.1=y:=zZ g;have d:l.getD p.2 none=some v:=zZ a;obtain⟨S,J⟩:=c.fr p (yF e);have P:l[p.2]?=some (some v):=by
     rw[tU]at d;cases q:l[p.2]? with
     |none=>rw[q]at d;cases d
     |some o=>rw[q]at d;have R:o=some v:=d;rw[R]
    subst e1;have f:(p.1,NameKind.free)∈scope.names:=vJ J;have kd:=c.free' _ f rfl;obtain⟨a3,_,hl⟩:=r.loc;obtain⟨u,V,a2⟩:=hl p.2 p.1 v S P (.inr kd);refine⟨u,V,.inr ⟨Gn J,?_⟩⟩;rcases a2 with⟨k1,_⟩|⟨_,b,q,z⟩
    ·rcases kd with kd|kd <;> (rw[kd]at k1;cases k1)
    ·obtain⟨D,K⟩:=Bj (env:=X.env) (l:=scope.names) (cs:=[]) (.inl f);have L:=c.was I K;rw[q]at L;cases L;refine⟨b,?_,z⟩;show(cellsFrom (s.heap.objs.size+1) scope.names (clOf X.env scope.names [])).lookup p.1=some b;rw[cG,List.lookup_append];cases w:(cellsFrom (s.heap.objs.size+1) scope.names []).lookup p.1 with
     |none=>exact K
     |some b2 =>
      rcases Bc (mem_of_lookup w) with w|w
      ·simp at w
      ·cases Ge c.nn f w
 ·rcases eQ h with e1|⟨_,e1⟩
  ·exact⟨none,(own e1).1⟩
  ·exact r.cell y b (c.was I e1)
 ·exact I.hok.fresh (zE _)
 ·rcases eQ h with e1|⟨_,e1⟩
  ·exact I.hok.fresh (by have:=(own e1).2;omega)
  ·exact r.freeC y b (c.was I e1)
 ·show(xs.map (λ_=>none)++lV fr l).length=(xs++fr.map (·.1)).length;simp[lV]
end
abbrev TOx:=St->Hp->(Option V->Hp->Prop)->Prop
def tEl(te:TE):TOx:=λσ H Q=>te σ H λy H'=>Q (some y) H'
def hJ(tc:TT)(te:TE):TOx:=λσ H Q=>tc σ H λb H1=>if b=true then te σ H1 (λy H'=>Q (some y) H') else Q none H1
def cI(elt:Expr)(ifs:List Expr)(env:Env)(M:Model)(A:Around)(Q:Option Value->Shared->Prop)(E:VP)(s:Shared):Prop:=
 match ifs with
 |[]=>wpAny M A (eval elt env) (λx s1=>Q (some x) s1) E s
 |[c]=>wpAny M A (isTrue c env (eval c env)) (λb s1=>if b=true then wpAny M A (eval elt env) (λx s2=>Q (some x) s2) E s1 else Q none s1) E s
 |_=>False
def POx(X:Cx)(elt:Expr)(ifs:List Expr)(t:TOx):Prop:=∀(pins:PN)(s:Shared)(σ:St)(H:Hp)(Q:Option V->Hp->Prop),Inv X pins σ H s->t σ H Q ->
 cI elt ifs X.env (model X.prog X.w) X.A (λo s'=>∃v H',Inv X pins σ H' s'/\(match o,v with|some u,some y=>RelV y u|none,none=>True|_,_=>False)/\Q v H') X.xe s
theorem iM{X:Cx}{a:Expr}{te:TE}(h:PE X a te):POx X a [] (tEl te):=λe s c H Q I d =>
 thn (h e s c H _ I d) λu i⟨y,b,g,r1,f⟩=>⟨some y,b,g,r1,f⟩
theorem Gc{X:Cx}{f c:Expr}{d:TT}{te:TE}(l:PT X c d)(h:PE X f te):POx X f [c] (hJ d te):=λg s e H Q I n=>by
 refine thn (l g s e H _ I n) λb k⟨i,j,a⟩=>?_;cases b with
 |true =>
  rw[zF rfl]at a ⊢;exact thn (h g k e i _ j a) λu q⟨y,o,m,r2,p⟩=>⟨some y,o,m,r2,p⟩
 |false =>
  rw[zD yH]at a ⊢;exact⟨none,i,j,trivial,a⟩
theorem Qz{prog:Program}{w:World}{A:Around}{R:Result->Shared->Prop}{s:Shared}{e d g:Expr}{j:List Expr}{l:Scope}{k:Pos}{a acc:Value}{env:Env}(I:Nat->Shared->Prop)
  (K:∀n s,I n s->wpAny (model prog w) A (pyNext a) (λr p=>match r with
   |none=>R (.ok .next) p
   | some v=>wpAny (model prog w) A (letOwnedTupleGo d a v) (λ_ y=>wpAny (model prog w) A (assign d env v) (λ_ F=>cI e j env (model prog w) A (λo q=>match o with
     |some x=>wpAny (model prog w) A (call (.builtin "list.append") [acc,x]) (λ_ C=>∃m,m<n/\I m C) (λ_ _=>False) q
     |none=>∃m,m<n/\I m q)
     (λ_ _=>False) F) (λ_ _=>False) y) (λ_ _=>False) p) (λ_ _=>False) s)
  (n:Nat)(h:I n s)(t:j.length<=1):
  codeAny (model prog w) A (.compLoop (.ListComp e [⟨d,g,j,0⟩] l k) 0 a acc env) R s:=by
 refine codeAny_loop rfl I (λn s G=>?_) n h;show wpAny _ _ ((compTurn (.ListComp e [⟨d,g,j,0⟩] l k) 0 a acc env).onRaise (λx=>do noteFrame x env;theTreesLotGoes x)) _ _ s;refine wpAny_noted ?_;have T:=K n s G
 match j,t,T with
 | [],_,T =>
  rw[compTurn_list1];refine zA (wF (zA (yQ T (λr p i=>?_) λ_ _ h'=>h'.elim)));cases r with
  |none=>exact zB i
  | some v =>
   refine zA (yQ i (λ_ y z=>?_) λ_ _ h'=>h'.elim);exact zA (yQ z (λ_ F D=>zA (zA (yQ (show wpAny _ _ _ _ _ _ from D) (λx q f=>zA (yQ f
    (λ_ C u=>zB (zB ⟨rfl,u⟩)) λ_ _ h'=>h'.elim)) λ_ _ h'=>h'.elim))) λ_ _ h'=>h'.elim)
 | [c],_,T =>
  have e1:compTurn (.ListComp e [⟨d,g,[c],0⟩] l k) 0 a acc env=(standAt g.pos >>= λ_=>pyNext a >>= λr=>match r with
   |none=>pure (.done .next)
   | some v=>letOwnedTupleGo d a v >>= λ_=>assign d env v >>= λ_=>isTrue c env (eval c env) >>= λok =>
    (if ok=true then(eval e env >>= λx=>call (.builtin "list.append") [acc,x] >>= λ_=>pure ()) >>= λ_=>again (.compLoop (.ListComp e [⟨d,g,[c],0⟩] l k) 0 a acc env)
     else again (.compLoop (.ListComp e [⟨d,g,[c],0⟩] l k) 0 a acc env))):=by
   unfold compTurn;simp only[List.forIn_cons,List.forIn_nil,if_true,bind_assoc,pure_bind,List.getElem?_cons_zero];rfl
  rw[e1];refine zA (wF (zA (yQ T (λr p i=>?_) λ_ _ h'=>h'.elim)));cases r with
  |none=>exact zB i
  | some v =>
   refine zA (yQ i (λ_ y z=>?_) λ_ _ h'=>h'.elim);refine zA (yQ z (λ_ F D=>zA (yQ (show wpAny _ _ _ _ _ _ from D) (λb q f=>?_) λ_ _ h'=>h'.elim)) λ_ _ h'=>h'.elim);cases b with
   |true =>
    rw[zF rfl]at f ⊢;exact zA (zA (yQ f (λx C u=>zA (yQ u (λ_ L J=>zB (zB ⟨rfl,J⟩)) λ_ _ h'=>h'.elim)) λ_ _ h'=>h'.elim))
   |false =>
    rw[zD yH]at f ⊢;exact zB ⟨rfl,f⟩
 |_:: _:: _,t,T =>
  exact absurd t (by simp)
def Qy(a:Addr)(N:Hp->Prop):Option V->Hp->Prop
 |some y,H=>∃zs,H a=some (.lst zs)/\zs.length<sizeLine/\N (upd H a (.lst (zs++[y])))
 |none,H=>N H
abbrev kL(J:It)(g:TG)(tt:TOx)(n:Nat)(fr:List (Str×Nat))(σ:St)(a:Addr)(H:Hp)(Q:VK):Prop:=
 ∃ W:Nat->Nat->Hp->Prop,(∃m,W 0 m (upd H a (.lst [])))/\∀i m H2,W i m H2->(J.stop i H2/\Q (.ref a) H2) \/
  (J.go i H2/\∃N:Hp->Prop,(∀H',N H'->∃m',m'<m/\W (i+1) m' H')/\∀(ys:St) x H3,ys.length=n->J.yld i H2 x H3 ->
   g x (ys++lV fr σ) H3 λσ4 H4=>(∃ys':St,ys'.length=n/\σ4=ys'++lV fr σ)/\tt σ4 H4 (Qy a N))
def kW(wi:TI)(g:TG)(tt:TOx)(n:Nat)(fr:List (Str×Nat)):TE:=λσ H Q=>wi σ H λJ H1=>∀a,H1 a=none->kL J g tt n fr σ a H1 Q
section
variable {X:Cx} {sc scope:Scope} {xs:List Str} {fr:List (Str×Nat)} {elt tg iter:Expr} {ifs:List Expr} {g:TG} {tt:TOx}
theorem Gb{F:PN}{D:St}{H:Hp}{s:Shared}{b0:Pos}{c4:It}{k:LA}{a1:Addr}{M:Nat->Heap->Prop}{Q:VK}{RR:Value->Addr->Result->Shared->Prop}{E:VP}
  (c:iG X sc scope xs fr)(b6:X.calm=true)(S:ifs.length<=1)(I:Inv X F D H s)(T:Turn X.prog X.w X.K tg c4 k a1 M)(b5:M 0 s.heap)(Z:∀b∈k,FpOk X F H b)
  (d9:∀(w:Shared)(G:Hp)(k:LA),(lO X scope (xs++fr.map (·.1)) w G k).env.scope=jV sc scope->PG (lO X scope (xs++fr.map (·.1)) w G k) tg g)
  (d3:∀(w:Shared)(G:Hp)(k:LA),(lO X scope (xs++fr.map (·.1)) w G k).env.scope=jV sc scope->POx (lO X scope (xs++fr.map (·.1)) w G k) elt ifs tt)
  (f3:∀a,H a=none->kL c4 g tt xs.length fr D a H Q)
  (g8:∀a C H' t m,t.heap.Ns C m->Inv X F D H' t->FpOk X F H' C->Q (.ref a) H'->RR (.ref a) C (.ok .next) t):
  wpAny (model X.prog X.w) X.A (newList []) (λacc w=>wpAny (model X.prog X.w) X.A (newFunctionEnv scope X.env.globals (clOf X.env scope.names []) [] X.env.qual none .none (some X.env)) (λc2 d6 =>
   codeAny (model X.prog X.w) X.A (.compStart (.ListComp elt [⟨tg,iter,ifs,0⟩] scope b0) 0 (.ref a1) acc {c2 with scope:=relabel scope X.env}) (RR acc c2.locals) d6) E w) E s:=by
 obtain⟨c1,⟨g9,e9⟩,f1⟩:=f3 s.heap.objs.size I.fresh;refine xD (Pb ?_);have d2:Inv X F D (upd H s.heap.objs.size (.lst [])) {s with heap:=s.heap.push {cls:=.type "list",dict:=none,data:=.seq ([]:LW).toArray}}:=I.lnew (ys:=[]) (its:=[]) (t':=s.toks) .nil (zY _);have V:∀b o,s.heap.get? b=some o->(s.heap.push {cls:=.type "list",dict:=none,data:=.seq ([]:LW).toArray}).get? b=some o:=λb o e=>zC _ e;have c5:Un (frs X.stack) k H (upd H s.heap.objs.size (.lst [])) s.heap (s.heap.push {cls:=.type "list",dict:=none,data:=.seq ([]:LW).toArray}):=Un.laid V (zE _) I.fresh;dsimp only;generalize hH2:s.heap.push {cls:=.type "list",dict:=none,data:=.seq ([]:LW).toArray}=l at d2 V c5 ⊢;have hsz:s.heap.objs.size<=l.objs.size:=by rw[←hH2,xP];exact tW _
 have c6:∀b∈k,∃o,s.heap.get? b=some o:=λb j=>let ⟨o,e,_⟩:=T.obj _ _ b5 b j;⟨o,e⟩
 have f6:∀b∈k,b≠s.heap.objs.size:=λb j=>let ⟨_,e⟩:=c6 b j;zW (zK e)
 have b7:∀b∈k,FpOk X F (upd H s.heap.objs.size (.lst [])) b/\∃o,l.get? b=some o:=λb j=>by
  obtain⟨o,e⟩:=c6 b j;exact⟨⟨by rw[nO (f6 b j)];exact(Z b j).1,(Z b j).2⟩,o,V b o e⟩
 have W:=Pa c d2 b7;have g2:∀b o,l.get? b=some o->(pushCells (l.push {cls:=.type "dict",data:=.dict #[]}) scope.names).get? b=some o:=λb o e=>pV _ _ b o (zC _ e);have c3:M 0 (pushCells (l.push {cls:=.type "dict",data:=.dict #[]}) scope.names):=T.keep 0 _ _ b5 λb j o e=>g2 b o (V b o e);have b1:∀(w:Shared)(G:Hp)(k:LA),(lO X scope (xs++fr.map (·.1)) w G k).env.scope=jV sc scope:=λ_ _ _=>Pc c.hsc;have a5:∀{H':Hp},(∀b∈k,H' b=none)->∀b∈k,FpOk (lO X scope (xs++fr.map (·.1)) {s with heap:=l} (upd H s.heap.objs.size (.lst [])) k) [] H' b:=λf5 b j=>by
  obtain⟨e1,g7⟩:=W.ok.exf b j;exact⟨f5 b j,e1,W.ok.exfs b j,.inl j,g7,λp f0=>absurd (show p∈([]:PN) from f0) (by simp)⟩
 have b4:codeAny (model X.prog X.w) X.A (.compLoop (.ListComp elt [⟨tg,iter,ifs,0⟩] scope b0) 0 (.ref a1) (.ref s.heap.objs.size) (compEnvC scope (cellsFrom (l.objs.size+1) scope.names (clOf X.env scope.names [])) l.objs.size X.env))
   (RR (.ref s.heap.objs.size) l.objs.size) {s with heap:=pushCells (l.push {cls:=.type "dict",data:=.dict #[]}) scope.names}:=by
  refine Qz (λn t=>∃i,∃ys:St,∃H',ys.length=xs.length/\Inv (lO X scope (xs++fr.map (·.1)) {s with heap:=l} (upd H s.heap.objs.size (.lst [])) k) [] (ys++lV fr D) H' t/\M i t.heap/\(∀b∈k,H' b=none)/\c1 i n H')
   ?_ g9 ⟨0,xs.map λ_=>none,_,by simp,W,c3,λb j=>(b7 b j).1.1,e9⟩ S
  rintro n c0 ⟨i,ys,P,g6,d1,c7,b2,f7⟩;rcases f1 i n P f7 with⟨stop,e3⟩|⟨go,N,d8,step⟩
  ·refine thn (T.done (lO X scope (xs++fr.map (·.1)) {s with heap:=l} (upd H s.heap.objs.size (.lst [])) k) rfl rfl rfl b6 i [] c0 _ P (λ_ _=>False) d1 (a5 b2) c7 stop) λr a7⟨hr,L⟩=>?_;subst hr;obtain⟨f2,d7,_⟩:=L.loc;have a0:Inv X F D P a7:=I.call' L.os (c5.trans L.base) L.hok L.bare λb j=>let f:=Z b j;⟨f.2.2.2.1,f.2.1,f.2.2.2.2.1,f.2.2.2.2.2⟩
   exact g8 _ _ P a7 f2 d7 a0 (I.fpOk hsz L.free) e3
  ·refine thn (T.item (lO X scope (xs++fr.map (·.1)) {s with heap:=l} (upd H s.heap.objs.size (.lst [])) k) rfl rfl rfl b6 i [] c0 _ P (λ_ _=>False) d1 (a5 b2) c7 go) λr a7⟨u,hr,f8⟩=>?_;subst hr;refine thn f8 λ_ b8⟨y,b3,a0,e0,e8,a2,e4⟩=>?_;have e6:=a0.pinned (a5 e4) (T.obj _ _ a2);refine thn (d9 _ _ _ (b1 _ _ _) _ b8 _ b3 y u _ e6 e0 (step ys y b3 g6 e8)) λ_ d4⟨h2,h0,f9,⟨c9,d5,g0⟩,e2⟩=>?_;subst g0;have b9:∀(J:Shared)(v:Hp),Inv (lO X scope (xs++fr.map (·.1)) {s with heap:=l} (upd H s.heap.objs.size (.lst [])) k) ([]++dU k b8.heap) (c9++lV fr D) v J->N v ->
     ∃m,m<n/\∃i,∃ys:St,∃H',ys.length=xs.length/\Inv (lO X scope (xs++fr.map (·.1)) {s with heap:=l} (upd H s.heap.objs.size (.lst [])) k) [] (ys++lV fr D) H' J/\M i J.heap/\(∀b∈k,H' b=none)/\c1 i m H':=by
    intro J v O Y;obtain⟨e7,g3,g1⟩:=d8 v Y;refine⟨e7,g3,i+1,c9,v,d5,O.unpinned,T.keep _ _ _ a2 λb j o e=>(O.pin (b,o) (yP _ (yP _ (bI j e)))).1,λb j=>?_,g1⟩;obtain⟨o,e,d⟩:=T.obj _ _ a2 b j;exact(O.pin (b,o) (yP _ (yP _ (bI j e)))).2.1
   have f4:=d3 _ _ _ (b1 _ _ _) _ d4 _ h0 _ f9 e2;have mono:∀{Q a3:Option Value->Shared->Prop}{E:VP}{t:Shared}{env:Env},(∀o U,Q o U->a3 o U)->cI elt ifs env (model X.prog X.w) X.A Q E t->cI elt ifs env (model X.prog X.w) X.A a3 E t:=by
    intro Q a3 E t env a4 K;unfold cI at K ⊢
    match ifs,S,K with
    |[],_,K=>exact yQ K (λx U q=>a4 _ _ q) λ_ _ e=>e
    |[c],_,K =>
     refine yQ K (λb U q=>?_) λ_ _ e=>e;split at q
     ·rename_i j;rw[zF j];exact yQ q (λx h1 q=>a4 _ _ q) λ_ _ e=>e
     ·rename_i j;rw[zD j];exact a4 _ _ q
    |_:: _:: _,S,_=>exact absurd S (by simp)
   refine mono (λo d0⟨R,a8,c8,a6,a9⟩=>?_) f4;cases o with
   |none =>
    cases R with
    |none=>exact b9 d0 a8 c8 a9
    |some z=>exact a6.elim
   | some g4 =>
    cases R with
    |none=>exact a6.elim
    |some R =>
     obtain⟨zs,e5,hl,g5⟩:=a9;exact thn (eK _ d0 _ a8 (.ref s.heap.objs.size) [R] (.ref s.heap.objs.size) [g4] (λ_ v=>N v) c8 rfl (.cons a6 .nil) ⟨_,zs,R,rfl,rfl,e5,hl,g5⟩) λ_ J⟨_,v,O,_,Y⟩=>b9 J v O Y
 exact codeAny_compStart_list b4 (T.self _ 0 _ _ _ c3 b4)
variable {wi:TI}
theorem hX{w:Pos}(c:iG X sc scope xs fr)(y:X.calm=true)(hi:PI X tg iter wi)
  (F:∀(j:Shared)(i:Hp)(d:LA),(lO X scope (xs++fr.map (·.1)) j i d).env.scope=jV sc scope->PG (lO X scope (xs++fr.map (·.1)) j i d) tg g)
  (u:∀(j:Shared)(i:Hp)(d:LA),(lO X scope (xs++fr.map (·.1)) j i d).env.scope=jV sc scope->POx (lO X scope (xs++fr.map (·.1)) j i d) elt ifs tt)
  (t:ifs.length<=1:=by exact Nat.le_of_ble_eq_true rfl)(D:∀x,foldedSetIterable iter X.env x=pure x:=by intro _;rfl):PE X (.ListComp elt [⟨tg,iter,ifs,0⟩] scope w) (kW wi g tt xs.length fr):=by
 intro k s l H Q I h;rw[eval_ListComp];refine wpAny_comprehension_free (use:=none) rfl D (Go (c.cells I)) c.kind c.loc (thn (hi k s l H _ I h) λv U r=>thn r λY R G=>?_);obtain⟨P,d,V,W,S,e,L,T,n,J,M⟩:=G;subst e;refine Gb (RR:=λacc C=>compPost (model X.prog X.w) X.A X.xe none (EP X k l Q) acc C) c y t L T n J F u M ?_;intro a C H' N m p K f q;exact⟨m,p,λh' z=>⟨.ref a,H',K.turned (t':=N.toks) (λb o O e=>(z.2 b O).trans e) f.1 f.2.1 f.2.2.2.1 f.2.2.2.2.1 f.2.2.2.2.2,rfl,q⟩⟩
theorem Ba{p u d:Pos}{y:Str}{i:Nat}(c:iG X sc scope xs fr)(R:X.calm=true)(U:X.N.Nodup)(Z:X.N[i]?=some y)(hl:X.env.scope.names.lookup y=some .local)(hi:PI X tg iter wi)
  (Y:∀(l:Shared)(k:Hp)(j:LA),(lO X scope (xs++fr.map (·.1)) l k j).env.scope=jV sc scope->PG (lO X scope (xs++fr.map (·.1)) l k j) tg g)
  (O:∀(l:Shared)(k:Hp)(j:LA),(lO X scope (xs++fr.map (·.1)) l k j).env.scope=jV sc scope->POx (lO X scope (xs++fr.map (·.1)) l k j) elt ifs tt)
  (G:swapsWith (.ListComp elt [⟨tg,iter,ifs,0⟩] scope p) (some (.Name y d)) u.line X.env=pure true:=by rfl)
  (L:ifs.length<=1:=by exact Nat.le_of_ble_eq_true rfl)(W:∀x,foldedSetIterable iter X.env x=pure x:=by intro _;rfl):PS X (.Assign [.Name y d] (.ListComp elt [⟨tg,iter,ifs,0⟩] scope p) u) (Gm i (kW wi g tt xs.length fr)):=by
 intro r s w H D I h;rw[exec_Assign_Name_used _ _ _ _ G];refine zA (wF (zA ?_));show wpAny _ _ (do let _ ←comprehension (.ListComp elt [⟨tg,iter,ifs,0⟩] scope p) scope X.env _ (newList []) false (eval iter X.env) (some (assign (.Name y d) X.env))) _ _ s;refine zA (yQ (wpAny_comprehension_free (use:=some (assign (.Name y d) X.env)) (Q:=λ_ n=>SP X r D .next n) rfl W (Go (c.cells I)) c.kind c.loc
  (thn (hi r s w H _ I h) λv a9 J=>thn J λb1 a6 a0=>?_)) (λ_ n S=>zB (zB S)) λ_ _ e=>e)
 obtain⟨a5,j,a8,b0,a7,e,a2,T,z,a1,a3⟩:=a0;subst e;refine Gb (RR:=λacc C=>compPost (model X.prog X.w) X.A X.xe (some (assign (.Name y d) X.env)) (λ_ n=>SP X r D .next n) acc C) (Q:=λv N=>D.nx (w.set i (some v)) N) c R L a2 T z a1 Y O a3 ?_;intro a C H' n m F K f q;show wpAny _ _ (assign (.Name y d) X.env (.ref a)) _ _ _;refine wpAny_assign_Name (Fv K U Z (.inl hl) (show RelV (.ref a) (.ref a) from rfl) (λM K2⟨b,a4,t⟩=>?_) (.inr hl));have P:C≠b:=by
  rcases t with e|e
  ·rw[e];exact f.2.1
  ·exact zT (f.2.2.2.2.1 y b e)
 refine⟨m,F.sameBut a4 P,λh' V=>?_⟩;exact⟨_,H',K2.turned (t':=M.toks) (λb o t e=>(V.2 b t).trans e) f.1 f.2.1 f.2.2.2.1 f.2.2.2.2.1 f.2.2.2.2.2,q⟩
end
def bV(sc:Scope)(N:List Str)(scope:Scope)(fr:List (Str×Nat)):Bool:=
 decide (scope.kind=.function) && decide ((scope.names.map (·.1)).Nodup) && decide (∀y∈scope.names,y.2=.free->sc.names.lookup y.1=some .cell\/sc.names.lookup y.1=some .free) &&
 decide (∀y∈scope.names,y.2=.local->scope.names.lookup y.1=some .local) && decide (∀p∈fr,N[p.2]?=some p.1/\scope.names.lookup p.1=some .free)
theorem jW{X:Cx}{sc a:Scope}{N xs:List Str}{fr:List (Str×Nat)}(c:X.env.scope=sc)(g:X.N=N)(h:bV sc N a fr=true):iG X sc a xs fr:=by
 unfold bV at h;simp only[Bool.and_eq_true,decide_eq_true_eq]at h;obtain⟨⟨⟨⟨e1,e⟩,d⟩,f⟩,b⟩:=h;subst g;exact⟨c,e1,e,d,f,b⟩
def bW(sc:Scope)(N:List Str)(i:Nat)(x:Str):Bool:=decide (N.Nodup) && decide (N[i]?=some x) && (decide (sc.names.lookup x=some .local))
theorem iH{X:Cx}{sc:Scope}{N:List Str}{i:Nat}{x:Str}{b:Pos}(a:X.env.scope=sc)(c:X.N=N)(h:bW sc N i x=true):PG X (.Name x b) (nX i):=by
 unfold bW at h;simp only[Bool.and_eq_true,decide_eq_true_eq]at h;subst a c;exact mP h.1.1 h.1.2 (.inl h.2) (.inr h.2)
theorem cJ{X:Cx}{sc:Scope}{N:List Str}{i:Nat}{x:Str}{b:Pos}(a:X.env.scope=sc)(d:X.N=N)(h:(decide (N.Nodup) && decide (N[i]?=some x) && (decide (sc.names.lookup x=some .cell)))=true)(c:X.fn x=true):PG X (.Name x b) (nX i):=by
 simp only[Bool.and_eq_true,decide_eq_true_eq]at h;subst a d;exact mP h.1.1 h.1.2 (.inr h.2) (.inl c)
def SqB(b:Bool)(K:Frag)(H:Hp)(a:Addr)(xs:List V):Prop:=match b with|false=>SqL K H a xs|true=>SqT K H a xs
def ItB(b:Bool)(h:Heap)(it a:Addr)(i:Nat):Prop:=match b with|false=>h.IsListIter it a i|true=>h.IsTupleIter it a i
def seqB(b:Bool)(h:Heap)(a:Addr)(its:Array Value):Prop:=match b with|false=>h.IsList a its|true=>h.IsTuple a its
def nmB(b:Bool):String:=match b with|false => "list_iterator" |true => "tuple_iterator"
theorem ItB.at{b:Bool}{h h':Heap}{c a:Addr}{i:Nat}(x:ItB b h c a i)(e:∀o,h.get? c=some o->h'.get? c=some o):ItB b h' c a i:=by
 cases b
 ·exact Heap.IsListIter.at x e
 ·exact Heap.IsTupleIter.at x e
theorem seqB.at{b:Bool}{h h':Heap}{a:Addr}{its:Array Value}(x:seqB b h a its)(e:∀o,h.get? a=some o->h'.get? a=some o):seqB b h' a its:=by
 cases b
 ·exact Heap.IsList.at x e
 ·obtain⟨o,c,r⟩:=x;exact⟨o,e o c,r⟩
theorem ItB.lt{b:Bool}{h:Heap}{f a:Addr}{i:Nat}(x:ItB b h f a i):∃o,h.get? f=some o/\∀v,o.data≠.cell v:=by
 cases b
 ·obtain⟨o,e,c,d⟩:=x;exact⟨o,e,λv z=>by rw[d]at z;cases z⟩
 ·obtain⟨o,e,c,d⟩:=x;exact⟨o,e,λv z=>by rw[d]at z;cases z⟩
section
variable {prog:Program} {w:World} {A:Around} {E:VP} {s:Shared}
theorem Qx{b a:Addr}{i:Nat}{items}{x:Value}{Q:VP}(e:s.heap.IsTupleIter b a i)(g:s.heap.IsTuple a items)(f:items[i]?=some x)
  (k:∀h',h'.IsTupleIter b a (i+1)->Heap.SameBut b s.heap h'->Q x {s with heap:=h'}):wpAny (model prog w) A (Builtin.SmallTypes.nextOf (.ref b)) Q E s:=by
 obtain⟨o,d,j,c⟩:=id e;obtain⟨p,l,_,n,m⟩:=g;unfold Builtin.SmallTypes.nextOf;refine zA (xO (name:=Str.ofString "__next__") e.typeIs vV
  (xF vV e.typeIs F.entry_tuple_iterator_next ?_ (F.args_tuple_iterator_next_1 _)))
 show wpAny _ _ (field (.ref b) 0 >>= _) _ _ s;refine zA (xB d c (x:=.ref a) rfl ?_);show wpAny _ _ (if(Value.ref a == Value.none)=true then _ else _) _ _ s;rw[zD (show¬ ((Value.ref a == Value.none)=true) from yH)];show wpAny _ _ (field (.ref b) 1 >>= _) _ _ s;refine zA (xB d c (x:=.int i 0) rfl ?_);show wpAny _ _ (seqItems? (.ref a) >>= _) _ _ s;refine zA (wK l m ?_);simp only[Int.toNat_natCast,f];refine zA (vL d c (by simp) (zB ⟨x,rfl,zB (k _ ?_ (xY ..))⟩));exact⟨_,xA _ d (tH (wU c _)),(pF ..).trans j,by
  rw[wU c];simp[rawInt]⟩
theorem Qw{b a:Addr}{i:Nat}{items}{Q:VP}(hh:A.handled=none)(f:s.heap.IsTupleIter b a i)(j:s.heap.IsTuple a items)(g:items[i]?=none)
  (l:∀h' e,Heap.ExtBut b s.heap h'->(∃o,h'.get? e=some o/\o.cls=.type "StopIteration")->E (.ref e) {s with heap:=h'}):wpAny (model prog w) A (Builtin.SmallTypes.nextOf (.ref b)) Q E s:=by
 obtain⟨o,d,n,c⟩:=id f;obtain⟨q,k,_,p,m⟩:=j;unfold Builtin.SmallTypes.nextOf;refine zA (xO (name:=Str.ofString "__next__") f.typeIs vV
  (xF vV f.typeIs F.entry_tuple_iterator_next ?_ (F.args_tuple_iterator_next_1 _)))
 show wpAny _ _ (field (.ref b) 0 >>= _) _ _ s;refine zA (xB d c (x:=.ref a) rfl ?_);show wpAny _ _ (if(Value.ref a == Value.none)=true then _ else _) _ _ s;rw[zD (show¬ ((Value.ref a == Value.none)=true) from yH)];show wpAny _ _ (field (.ref b) 1 >>= _) _ _ s;refine zA (xB d c (x:=.int i 0) rfl ?_);show wpAny _ _ (seqItems? (.ref a) >>= _) _ _ s;refine zA (wK k m ?_);simp only[Int.toNat_natCast,g];refine zA (wJ (zA (vL d c (by simp) ?_)));show wpAny _ _ (newExc (.type "StopIteration") [] >>= _) _ _ _;refine zA ?_;simp only[newExc,newTuple];refine zA (xD ?_ (by size_fits));refine zA (m:=firstArgMember _ _) (wpAny_of_eq (a:=Value.none) (by first|rfl|(simp only[firstArgMember];rfl)) ?_);refine xD ?_ (by size_fits);simp only[raiseNew];refine zA (wpAny_handled ?_)
 first|rw[show A.in1.handled=none from hh]|rw[hh]
 refine zA (zB (wpAny_throw ?_));exact l _ _ (((xY ..).extBut.push _).push _) ⟨_,zQ _ rfl,rfl⟩
theorem bX{b:Bool}{a l:Addr}{i:Nat}{items:Array Value}{x:Value}{Q:VP}(d:ItB b s.heap a l i)(hl:seqB b s.heap l items)(e:items[i]?=some x)
  (c:∀h',ItB b h' a l (i+1)->Heap.SameBut a s.heap h'->Q x {s with heap:=h'}):wpAny (model prog w) A (Builtin.SmallTypes.nextOf (.ref a)) Q E s:=by
 cases b
 ·exact wpAny_nextOf_list_item d hl e c
 ·exact Qx d hl e c
theorem Cz{b:Bool}{a l:Addr}{i:Nat}{items:Array Value}{Q:VP}(hh:A.handled=none)(d:ItB b s.heap a l i)(hl:seqB b s.heap l items)(f:items[i]?=none)
  (c:∀h' e,Heap.ExtBut a s.heap h'->(∃o,h'.get? e=some o/\o.cls=.type "StopIteration")->E (.ref e) {s with heap:=h'}):wpAny (model prog w) A (Builtin.SmallTypes.nextOf (.ref a)) Q E s:=by
 cases b
 ·exact wpAny_nextOf_list_end hh d hl f c
 ·exact Qw hh d hl f c
theorem Ga{b:Bool}{l:Addr}{items:Array Value}{Q:VP}(hl:seqB b s.heap l items)
  (a:Q (.ref s.heap.objs.size) {s with heap:=s.heap.push {cls:=.type (nmB b),data:=.fields #[.ref l,.int 0 0]}}):wpAny (model prog w) A (pyIter (.ref l)) Q E s:=by
 cases b
 ·exact sU hl a
 ·exact uS hl a
theorem Hz{b:Bool}{h:Heap}{l:Addr}:ItB b (h.push {cls:=.type (nmB b),data:=.fields #[.ref l,.int 0 0]}) h.objs.size l 0:=by
 cases b
 ·exact⟨_,zQ _ rfl,rfl,rfl⟩
 ·exact⟨_,zQ _ rfl,rfl,rfl⟩
theorem Hy(b:Bool)(hh:A.handled=none)(a l:Addr)(j:l≠a)(items:Array Value):
  Draws prog w A a [a,l] items.size (λi v=>items[i]?=some v) (λi h=>ItB b h a l i/\seqB b h l items) where
 live:=λ_ _ st=>let ⟨o,m,_⟩:=st.1.lt;⟨o,m⟩
 frame:=λ_ _ _ st d=>⟨st.1.at λo e=>d a (by simp) o e,st.2.at λo e=>d l (by simp) o e⟩
 item:=λi s Q E hi st f=>by
  refine bX st.1 st.2 (x:=items[i]) (by simp[hi]) λh' g c=>?_;exact f _ h' s.toks (by simp[hi]) ⟨g,st.2.at λo e=>(c.2 l j).trans e⟩ c
 done:=λs Q E st k=>Cz hh st.1 st.2 (by simp) k
theorem Qv{b1 b2:Bool}{z TI TO g f l1 l2:Addr}{k1 k2:Nat}{xs ys:Array Value}{x y a b:Value}{Q:Option Value->Shared->Prop}(D:ZipApart z TI TO g f l1 l2)
  (l:IsZip s.heap z TI TO .none)(a0:IsPair s.heap TI (.ref g) (.ref f))(a1:IsPair s.heap TO a b)
  (W:ItB b1 s.heap g l1 k1)(a6:ItB b2 s.heap f l2 k2)(Z:seqB b1 s.heap l1 xs)(a4:seqB b2 s.heap l2 ys)(a2:xs[k1]?=some x)(a7:ys[k2]?=some y)
  (b4:∀h',IsZip h' z TI TO (rawInt s.heap.objs.size)->IsPair h' TO x y->ItB b1 h' g l1 (k1+1)->ItB b2 h' f l2 (k2+1)->IsPair h' s.heap.objs.size x y->h'.objs.size=s.heap.objs.size+1 ->
   (∀c o,c≠z->c≠TO->c≠g->c≠f->s.heap.get? c=some o->h'.get? c=some o)->Q (some (.ref s.heap.objs.size)) {s with heap:=h'}):
  wpAny (model prog w) A (pyNext (.ref z)) Q E s:=by
 have P:s.TypeIs (.ref z) "zip" := ⟨_,l,rfl⟩;unfold pyNext;refine zA (vF (xO (name:=Str.ofString "__next__") P rV (xF rV P F.entry_zip_next ?_ (F.args_zip_next_1 _))));show wpAny _ _ (field (.ref z) 2 >>= _) _ _ _;refine zA (xB l rfl (x:=.bool false) rfl ?_);show wpAny _ _ (field (.ref z) 3 >>= _) _ _ _;refine zA (xB l rfl (x:=.ref TI) rfl ?_);refine zA (wK a0 rfl ?_);show wpAny _ _ (Builtin.SmallTypes.ownedTupleIsFree (.ref z) >>= _) _ _ _;refine zA ?_;unfold Builtin.SmallTypes.ownedTupleIsFree;refine zA (xB l rfl (x:=.none) rfl (zB ?_));simp only[if_true];refine zA (wJ ?_);refine zA (xB l rfl (x:=.ref TO) rfl ?_);refine zA (vO l (by simp) λU C j=>?_);replace C:IsZip U z TI TO .ellipsis:=C;refine zA ?_;simp only[List.zipIdx_cons,List.zipIdx_nil,List.forIn_cons,List.forIn_nil];refine zA (zA (rD ?_));show wpAny _ _ (Builtin.SmallTypes.nextOf (.ref g) >>= _) _ _ _;refine zA (bX (W.at λo e=>j.extBut _ _ D.i1z e) (Z.at λo e=>j.extBut _ _ D.l1z e) a2 λb5 a9 m=>zB ?_);have S:IsPair b5 TO a b:=m.extBut _ _ D.TOi1 (j.extBut _ _ D.TOz a1);refine zA (wK S rfl ?_);refine zA (rS S λV J k=>?_);replace J:IsPair V TO x b:=J;refine zA (qG (zB ?_));refine zA (zA (rD ?_));show wpAny _ _ (Builtin.SmallTypes.nextOf (.ref f) >>= _) _ _ _;refine zA (bX (a6.at λo e=>k.extBut _ _ D.TOi2.symm (m.extBut _ _ D.i12.symm (j.extBut _ _ D.i2z e)))
  (a4.at λo e=>k.extBut _ _ D.l2TO (m.extBut _ _ D.l2i1 (j.extBut _ _ D.l2z e))) a7 λX a5 q=>zB ?_)
 have R:IsPair X TO x b:=q.extBut _ _ D.TOi2 J;refine zA (wK R rfl ?_);refine zA (rS R λd u p=>?_);replace u:IsPair d TO x y:=u;refine zA (qG (zB (zB ?_)));refine zA (wK u rfl ?_);refine zA (qD ?_);have hsz:d.objs.size=s.heap.objs.size:=by rw[p.1,q.1,k.1,m.1,j.1]
 have O:IsZip d z TI TO .ellipsis:=p.extBut _ _ D.TOz.symm (q.extBut _ _ D.i2z.symm (k.extBut _ _ D.TOz.symm (m.extBut _ _ D.i1z.symm C)));have a8:∀c o,c≠z->c≠TO->c≠g->c≠f->s.heap.get? c=some o->d.get? c=some o:=λc o i t v G e =>
  p.extBut _ _ t (q.extBut _ _ G (k.extBut _ _ t (m.extBut _ _ v (j.extBut _ _ i e))))
 have Y:ItB b1 d g l1 (k1+1):=a9.at λo e=>p.extBut _ _ D.TOi1.symm (q.extBut _ _ D.i12 (k.extBut _ _ D.TOi1.symm e));have b0:ItB b2 d f l2 (k2+1):=a5.at λo e=>p.extBut _ _ D.TOi2.symm e;have T:z<d.objs.size:=zK O;show wpAny _ _ (Builtin.SmallTypes.ownedTupleHandOut (.ref z) (.ref d.objs.size) >>= _) _ _ _;refine zA ?_;unfold Builtin.SmallTypes.ownedTupleHandOut;have b3:IsZip (d.push {cls:=.type "tuple",data:=.seq #[x,y]}) z TI TO .ellipsis:=zC _ O;refine zA (vO b3 (by simp) λa3 L I=>?_);replace L:IsZip a3 z TI TO (rawInt d.objs.size):=L;refine vO L (by simp) λn r K=>?_;replace r:IsZip n z TI TO (rawInt d.objs.size):=r;have up:∀c o,c≠z->d.get? c=some o->n.get? c=some o:=λc o i e=>K.extBut _ _ i (I.extBut _ _ i (zC _ e));have M:IsPair n d.objs.size x y:=K.extBut _ _ (sL T) (I.extBut _ _ (sL T) (zQ _ rfl));have N:n.objs.size=d.objs.size+1:=by rw[K.1,I.1,xP]
 rw[hsz]at r M N;refine zB ⟨_,rfl,zB ?_⟩;show Q (some (.ref d.objs.size)) _;rw[hsz];exact b4 n r (up _ _ D.TOz u) (Y.at λo e=>up _ o D.i1z e) (b0.at λo e=>up _ o D.i2z e) M N λc o i t v G e=>up c o i (a8 c o i t v G e)
theorem Qu{b1 b2:Bool}{z TI TO m k l1 l2:Addr}{k1 k2:Nat}{xs ys:Array Value}{a b:Value}{Q:Option Value->Shared->Prop}(hh:A.handled=none)(D:ZipApart z TI TO m k l1 l2)
  (j:IsZip s.heap z TI TO .none)(V:IsPair s.heap TI (.ref m) (.ref k))(W:IsPair s.heap TO a b)
  (C:ItB b1 s.heap m l1 k1)(Z:ItB b2 s.heap k l2 k2)(G:seqB b1 s.heap l1 xs)(X:seqB b2 s.heap l2 ys)(S:xs[k1]?=none\/ys[k2]?=none)
  (M:∀h',(∀c o,c≠z->c≠TO->c≠m->c≠k->s.heap.get? c=some o->h'.get? c=some o)->Q none {s with heap:=h'}):wpAny (model prog w) A (pyNext (.ref z)) Q E s:=by
 have L:s.TypeIs (.ref z) "zip" := ⟨_,j,rfl⟩;unfold pyNext;refine zA (vF (xO (name:=Str.ofString "__next__") L rV (xF rV L F.entry_zip_next (Q:=_) ?_ (F.args_zip_next_1 _))));show wpAny _ _ (field (.ref z) 2 >>= _) _ _ _;refine zA (xB j rfl (x:=.bool false) rfl ?_);show wpAny _ _ (field (.ref z) 3 >>= _) _ _ _;refine zA (xB j rfl (x:=.ref TI) rfl ?_);refine zA (wK V rfl ?_);show wpAny _ _ (Builtin.SmallTypes.ownedTupleIsFree (.ref z) >>= _) _ _ _;refine zA ?_;unfold Builtin.SmallTypes.ownedTupleIsFree;refine zA (xB j rfl (x:=.none) rfl (zB ?_));simp only[if_true];refine zA (wJ ?_);refine zA (xB j rfl (x:=.ref TO) rfl ?_);refine zA (vO j (by simp) λP p d=>?_);replace p:IsZip P z TI TO .ellipsis:=p;refine zA ?_;simp only[List.zipIdx_cons,List.zipIdx_nil,List.forIn_cons,List.forIn_nil];refine zA (zA (rD ?_));show wpAny _ _ (Builtin.SmallTypes.nextOf (.ref m) >>= _) _ _ _;cases hx:xs[k1]? with
 |none =>
  refine zA (Cz hh (C.at λo e=>d.extBut _ _ D.i1z e) (G.at λo e=>d.extBut _ _ D.l1z e) hx λu e f r=>?_);obtain⟨v,i,n⟩:=r;have K:IsZip u z TI TO .ellipsis:=f _ _ D.i1z.symm p;have t:e≠z:=λx=>by subst x;rw[K]at i;cases i;simp at n
  refine vO K (by simp) λy _ g=>?_;refine zA (vM (T:= "StopIteration") (b:=true) ⟨v,g.extBut _ _ t i,n⟩ oJ ?_);exact zB (M y λc o l _ q _ x=>g.extBut _ _ l (f _ _ q (d.extBut _ _ l x)))
 | some x =>
  have a0:ys[k2]?=none:=by rcases S with h|h;rw[hx]at h;cases h;exact h
  refine zA (bX (C.at λo e=>d.extBut _ _ D.i1z e) (G.at λo e=>d.extBut _ _ D.l1z e) hx λu a2 f=>zB ?_);have O:IsPair u TO a b:=f.extBut _ _ D.TOi1 (d.extBut _ _ D.TOz W);refine zA (wK O rfl ?_);refine zA (rS O λy a1 g=>?_);refine zA (qG (zB ?_));refine zA (zA (rD ?_));show wpAny _ _ (Builtin.SmallTypes.nextOf (.ref k) >>= _) _ _ _;refine zA (Cz hh (Z.at λo e=>g.extBut _ _ D.TOi2.symm (f.extBut _ _ D.i12.symm (d.extBut _ _ D.i2z e)))
   (X.at λo e=>g.extBut _ _ D.l2TO (f.extBut _ _ D.l2i1 (d.extBut _ _ D.l2z e))) a0 λR e N r=>?_)
  obtain⟨v,i,n⟩:=r;have I:IsZip R z TI TO .ellipsis:=N _ _ D.i2z.symm (g.extBut _ _ D.TOz.symm (f.extBut _ _ D.i1z.symm p));have t:e≠z:=λx=>by subst x;rw[I]at i;cases i;simp at n
  refine vO I (by simp) λY _ J=>?_;refine zA (vM (T:= "StopIteration") (b:=true) ⟨v,J.extBut _ _ t i,n⟩ oJ ?_);exact zB (M Y λc o l U q T x=>J.extBut _ _ l (N _ _ T (g.extBut _ _ U (f.extBut _ _ q (d.extBut _ _ l x)))))
end
abbrev zB1(b1:Bool)(h:Heap)(l1:Addr):Heap:=h.push {cls:=.type (nmB b1),data:=.fields #[.ref l1,.int 0 0]}
abbrev zB2(b1 b2:Bool)(h:Heap)(l1 l2:Addr):Heap:=(zB1 b1 h l1).push {cls:=.type (nmB b2),data:=.fields #[.ref l2,.int 0 0]}
abbrev zB3(b1 b2:Bool)(h:Heap)(l1 l2:Addr):Heap:=(zB2 b1 b2 h l1 l2).push {cls:=.type "tuple",data:=.seq #[.ref h.objs.size,.ref (zB1 b1 h l1).objs.size]}
abbrev zB4(b1 b2:Bool)(h:Heap)(l1 l2:Addr):Heap:=(zB3 b1 b2 h l1 l2).push {cls:=.type "tuple",data:=.seq #[.none,.none]}
abbrev zB5(b1 b2:Bool)(h:Heap)(l1 l2:Addr):Heap:=(zB4 b1 b2 h l1 l2).push {cls:=.type "zip",data:=.fields #[.none,.bool false,.bool false,.ref (zB2 b1 b2 h l1 l2).objs.size,.ref (zB3 b1 b2 h l1 l2).objs.size]}
theorem Qt(b1 b2:Bool)(l1 l2:Addr)(xs ys:Array Value):
  Meets (Builtin.«zip.__new__» ⟨[.type "zip",.ref l1,.ref l2],[]⟩) (λ_ R s=>seqB b1 s.heap l1 xs/\seqB b2 s.heap l2 ys /\
   R (.ok (.ret (.ref (zB4 b1 b2 s.heap l1 l2).objs.size))) {s with heap:=zB5 b1 b2 s.heap l1 l2}):=
 .of_wp λprog w A R s h=>by
  obtain⟨b,g,d,tk,a⟩:=s;obtain⟨c,i,h⟩:=h;have k:=sub_zip;have f:seqB b1 (Shared.heap ⟨b,g,d,tk,a⟩) l1 xs:=c;have j:seqB b2 (Shared.heap ⟨b.push {cls:=.type (nmB b1),data:=.fields #[.ref l1,.int 0 0]},g,d,tk,a⟩) l2 ys:=i.at λo e=>zC _ e
  wp_walk using Ga f,Ga j
  exact⟨_,rfl,h⟩
theorem Qs{prog:Program}{w:World}{A:Around}{E:VP}{s:Shared}{b1 b2:Bool}{l1 l2:Addr}{xs ys:Array Value}{Q:VP}(m:seqB b1 s.heap l1 xs)(n:seqB b2 s.heap l2 ys)
  (h:∀h',IsZip h' (s.heap.objs.size+4) (s.heap.objs.size+2) (s.heap.objs.size+3) .none->IsPair h' (s.heap.objs.size+2) (.ref s.heap.objs.size) (.ref (s.heap.objs.size+1)) ->
   IsPair h' (s.heap.objs.size+3) .none .none->ItB b1 h' s.heap.objs.size l1 0->ItB b2 h' (s.heap.objs.size+1) l2 0 ->
   (∀c o,s.heap.get? c=some o->h'.get? c=some o)->Q (.ref (s.heap.objs.size+4)) {s with heap:=h'}):
  wpAny (model prog w) A (call (.type "zip") [.ref l1,.ref l2]) Q E s:=by
 refine callType_new F.called_zip ∅ (F.typeCall_zip_2 _ _) (F.newCall_zip_2 _ _) (λp=>F.args_object_init_3 p _ _) F.entry_zip_new
  (Qt b1 b2 l1 l2 xs ys) ⟨m,n,?_⟩
 have a:(zB1 b1 s.heap l1).objs.size=s.heap.objs.size+1:=xP ..;have d:(zB2 b1 b2 s.heap l1 l2).objs.size=s.heap.objs.size+2:=by rw[xP,a]
 have f:(zB3 b1 b2 s.heap l1 l2).objs.size=s.heap.objs.size+3:=by rw[xP,d]
 have i:(zB4 b1 b2 s.heap l1 l2).objs.size=s.heap.objs.size+4:=by rw[xP,f]
 have g:(zB5 b1 b2 s.heap l1 l2).get? (zB4 b1 b2 s.heap l1 l2).objs.size=some _:=zQ _ rfl;have j:(zB5 b1 b2 s.heap l1 l2).get? (zB3 b1 b2 s.heap l1 l2).objs.size=some _:=zC _ (zQ _ rfl);have k:(zB5 b1 b2 s.heap l1 l2).get? (zB2 b1 b2 s.heap l1 l2).objs.size=some _:=zC _ (zC _ (zQ _ rfl));have b:∀c o,(zB2 b1 b2 s.heap l1 l2).get? c=some o->(zB5 b1 b2 s.heap l1 l2).get? c=some o:=λc o e=>zC _ (zC _ (zC _ e));have l:ItB b2 (zB5 b1 b2 s.heap l1 l2) (zB1 b1 s.heap l1).objs.size l2 0:=Hz.at λo e=>b _ o e;have q:ItB b1 (zB5 b1 b2 s.heap l1 l2) s.heap.objs.size l1 0:=Hz.at λo e=>b _ o (zC _ e);show _/\_;rw[d,f,i]at g;rw[a,d]at k;rw[f]at j;rw[a]at l;rw[i];exact⟨⟨_,g,rfl⟩,h _ g k j q l λc o x=>b c o (zC _ (zC _ x))⟩
section
variable {X:Cx} {pins:PN} {σ:St} {H:Hp} {s:Shared} {h':Heap}
theorem Inv.seqB{b:Bool}{a:Addr}{xs:List V}(I:Inv X pins σ H s)(h:SqB b X.K H a xs):∃its:LW,Vals xs its/\L2.seqB b s.heap a its.toArray:=by
 cases b
 ·obtain⟨its,c,p,_⟩:=I.list h;exact⟨its,c,p.isList⟩
 ·obtain⟨its,c,p,_⟩:=I.tuple h;exact⟨its,c,p⟩
theorem Inv.seqB_inj{b:Bool}{a:Addr}{xs ys:List V}(I:Inv X pins σ H s)(h:SqB b X.K H a xs)(c:SqB b X.K H a ys):xs=ys:=by
 cases b
 ·exact I.list_inj h c
 ·exact I.tuple_inj h c
theorem Inv.seq_ne{b:Bool}{a f:Addr}{xs:List V}(I:Inv X pins σ H s)(h:SqB b X.K H a xs)(g:FpOk X pins H f):a≠f:=by
 have d:∀u,Rd H a u->a≠f:=λu r z=>by
  subst z;rcases r with r|⟨o,r⟩ <;> (rw[g.1]at r;cases r)
 have i:∀o,X.K.lookup a=some o->a≠f:=λo e z=>by
  subst z;have q:=I.mod.kin a o e;rcases g.2.2.2.1 with w|w
  ·exact I.ok.noex _ _ q w
  ·exact absurd (zP (zK q) (yC I.ok.bsz w)) (yZ _)
 cases b
 ·rcases h with h|⟨o,its,n,c,_⟩
  ·exact d _ h
  ·exact i _ c
 ·rcases h with h|⟨o,its,n,c,_⟩
  ·exact d _ h
  ·exact i _ c
theorem Inv.turnedNew{f:LA}{n:Addr}{u:HO}{t':Nat}(I:Inv X pins σ H s)(i:∀b∈f,FpOk X pins H b)(k:∀b o,b∉f->s.heap.get? b=some o->h'.get? b=some o)(j:s.heap.objs.size<=n)
  (new:mI X.prog X.w (upd H n u) h' n u):Inv X pins σ (upd H n u) {s with heap:=h',toks:=t'}:=by
 have d:=I.hok.fresh j;have l:∀b v,H b=some v->b∉f:=λb v e z=>by rw[(i b z).1]at e;cases e
 have t:X.env.locals∉f:=λz=>(i _ z).2.1 rfl;refine I.step (g':=s.gens) (d':=s.drawn) (ch:=f) (λb g=>?_) (λb o _ _ a e _=>k b o a e) (λb o _ _ a e _=>⟨o.slots,k b o a e⟩) (λb o _ e z=>?_)
  (λb o a e=>⟨o,k b o a e⟩) (λb xs e=>?_) (λb o v e=>?_) (λb ps e=>⟨#[],?_⟩) (λm D=>?_) (λb v e=>?_) I.bare
 ·obtain⟨G,y,J,w,p,F⟩:=i b g;exact⟨w,y,p,F⟩
 ·rw[nO (zW (zP (zK e) j))];exact z
 ·rw[nO (lI e d)];exact e
 ·rw[nO (lI e d)];exact e
 ·rw[nO (lI e d),e];simp
 ·obtain⟨o,es,ep,C,r⟩:=D;exact⟨o,es,ep,k _ o t C,r⟩
 ·by_cases g:b=n
  ·subst g;rw[nN]at e;cases e;exact new
  ·rw[nO g]at e;refine(I.hok b v e).stay (λc x a q=>k c x ?_ q) (λc q=>by rw[nO (lI q d)];exact q) λc xs q=>by rw[nO (lI q d)];exact q
   rcases a with z|z
   ·rw[z];exact l b v e
   ·exact l c _ z
theorem Inv.turnedL{d:LA}{t':Nat}(I:Inv X pins σ H s)(f:∀b∈d,FpOk X pins H b)(k:∀b o,b∉d->s.heap.get? b=some o->h'.get? b=some o):Inv X pins σ H {s with heap:=h',toks:=t'}:=by
 have g:∀b v,H b=some v->b∉d:=λb v e z=>by rw[(f b z).1]at e;cases e
 have j:X.env.locals∉d:=λz=>(f _ z).2.1 rfl;refine I.step (g':=s.gens) (d':=s.drawn) (ch:=d) (λb w=>?_) (λb o _ _ a e _=>k b o a e) (λb o _ _ a e _=>⟨o.slots,k b o a e⟩) (λb o _ e z=>z)
  (λb o a e=>⟨o,k b o a e⟩) (λb xs e=>e) (λb o v e=>e) (λb ps e=>⟨#[],by rw[e];simp⟩) (λm t=>?_) (λb v e=>?_) I.bare
 ·obtain⟨y,n,C,l,i,u⟩:=f b w;exact⟨l,n,i,u⟩
 ·obtain⟨o,es,ep,p,r⟩:=t;exact⟨o,es,ep,k _ o j p,r⟩
 ·refine(I.hok b v e).stay (λc x a q=>k c x ?_ q) (λc q=>q) λc xs q=>q;rcases a with z|z
  ·rw[z];exact g b v e
  ·exact g c _ z
end
def Itz(K:Frag)(b1:Bool)(l1:Addr)(b2:Bool)(l2:Addr):It:=
  ⟨λi H=>∃xs ys x y,SqB b1 K H l1 xs/\SqB b2 K H l2 ys/\xs[i]?=some x/\ys[i]?=some y,
   λi H v H'=>∃p x y,v=.ref p/\H p=none/\H'=upd H p (.tup [x,y])/\(∀xs,SqB b1 K H l1 xs->xs[i]?=some x)/\∀ys,SqB b2 K H l2 ys->ys[i]?=some y,
   λi H=>∃xs ys,SqB b1 K H l1 xs/\SqB b2 K H l2 ys/\(xs[i]?=none\/ys[i]?=none)⟩
theorem Hx{xs:List V}{its:LW}{i:Nat}(r:Vals xs its):xs[i]?=none->its.toArray[i]?=none:=λh=>by
 have:=r.none_of h;simpa using this
theorem Qr{P:Program}{w:World}{K:Frag}{es:List Expr}{k:Nat}{c7:Pos}{b1 b2:Bool}{z TI TO g d l1 l2:Addr}(S:[z,TI,TO,g,d].Nodup):
  Turn P w K (.Tuple es k c7) (Itz K b1 l1 b2 l2) [z,TI,TO,g,d] z (λi h=>IsZip h z TI TO .none/\IsPair h TI (.ref g) (.ref d)/\(∃a b,IsPair h TO a b)/\ItB b1 h g l1 i/\ItB b2 h d l2 i) where
 mem:=by simp
 obj:=λi h⟨C,l,⟨a,b,t⟩,p,u⟩c M=>by
  simp only[List.mem_cons,List.not_mem_nil,or_false]at M;rcases M with e|e|e|e|e <;> subst e
  ·exact⟨_,C,λv q=>by have N:Data.fields _=Data.cell v:=q;cases N⟩
  ·exact⟨_,l,λv q=>by have N:Data.seq _ _=Data.cell v:=q;cases N⟩
  ·exact⟨_,t,λv q=>by have N:Data.seq _ _=Data.cell v:=q;cases N⟩
  ·exact p.lt
  ·exact u.lt
 keep:=λi h h'⟨C,l,⟨a,b,t⟩,p,u⟩O=>⟨O z (by simp) _ C,O TI (by simp) _ l,⟨a,b,O TO (by simp) _ t⟩,p.at λo e=>O g (by simp) o e,u.at λo e=>O d (by simp) o e⟩
 item:=by
  intro X a4 b5 a5 M i c0 s c1 H E I r st b3;subst a4 b5 a5;obtain⟨C,l,⟨a,b,t⟩,p,u⟩:=st;obtain⟨xs,ys,x,y,L,G,e1,b9⟩:=b3;obtain⟨d3,r1,a8⟩:=I.seqB L;obtain⟨c3,r2,a6⟩:=I.seqB G;obtain⟨b8,c9,c4⟩:=r1.get e1;obtain⟨b7,d2,d5⟩:=r2.get b9;have m:∀f∈[z,TI,TO,g,d],l1≠f:=λf F=>I.seq_ne L (r f F);have j:∀f∈[z,TI,TO,g,d],l2≠f:=λf F=>I.seq_ne G (r f F);simp only[List.nodup_cons,List.mem_cons,List.not_mem_nil,or_false,not_or,List.nodup_nil,and_true,not_false_eq_true]at S;obtain⟨⟨V,a3,Y,W⟩,⟨a7,U,a9⟩,⟨b6,a0⟩,b4⟩:=S;have D:ZipApart z TI TO g d l1 l2:=⟨zT V,zT a3,zT Y,zT W,a7,U,a9,b6,a0,b4,m z (by simp),m TO (by simp),m g (by simp),m d (by simp),j z (by simp),j TO (by simp),j g (by simp),j d (by simp)⟩;refine Qv D C l t p u a8 a6 (x:=b8) (y:=b7) (by simpa using c9) (by simpa using d2) λh' d7 d8 d0 d4 d1 e2 T=>⟨_,rfl,?_⟩;refine wpAny_letOwnedTupleGo_zip d7 λb0 c5 J=>?_;have up:∀c o,c∉[z,TI,TO,g,d]->s.heap.get? c=some o->b0.get? c=some o:=λc o n e=>by
   simp only[List.mem_cons,List.not_mem_nil,or_false,not_or]at n;obtain⟨R,c6,Z,a1,a2⟩:=n;exact J.extBut _ _ R (T c o R Z a1 a2 e)
  have c2:s.heap.objs.size≠z:=sL (zK C);have new:mI X.prog X.w (upd H s.heap.objs.size (.tup [x,y])) b0 s.heap.objs.size (.tup [x,y]):=
   ⟨by show 2<=sizeLine;decide,[b8,b7],.cons c4 (.cons d5 .nil),⟨_,J.extBut _ _ c2 d1,rfl,_,rfl⟩⟩
  have d6:Inv X c0 c1 (upd H s.heap.objs.size (.tup [x,y])) {s with heap:=b0}:=I.turnedNew (t':=s.toks) r up (zE _) new;refine⟨.ref s.heap.objs.size,_,d6,rfl,⟨_,x,y,rfl,I.fresh,rfl,λd9 q=>by rw[I.seqB_inj q L];exact e1,λe0 q=>by rw[I.seqB_inj q G];exact b9⟩,⟨c5,J.extBut _ _ D.TIz (T _ _ D.TIz D.TITO D.TIi1 D.TIi2 l),⟨_,_,J.extBut _ _ D.TOz d8⟩,d0.at λo e=>J.extBut _ _ D.i1z e,d4.at λo e=>J.extBut _ _ D.i2z e⟩,λc n=>?_⟩;have c8:=(r c n).1;rw[nO]
  ·exact c8
  ·intro e;subst e;simp only[List.mem_cons,List.not_mem_nil,or_false]at n;rcases n with e|e|e|e|e
   ·exact c2 e
   ·exact absurd (zK l) (by rw[←e];exact yZ _)
   ·exact absurd (zK t) (by rw[←e];exact yZ _)
   ·obtain⟨o,q,_⟩:=p.lt;exact absurd (zK q) (by rw[←e];exact yZ _)
   ·obtain⟨o,q,_⟩:=u.lt;exact absurd (zK q) (by rw[←e];exact yZ _)
 done:=by
  intro X a4 b5 a5 M i c0 s c1 H E I r st b3;subst a4 b5 a5;obtain⟨C,l,⟨a,b,t⟩,p,u⟩:=st;obtain⟨xs,ys,L,G,e1⟩:=b3;obtain⟨d3,r1,a8⟩:=I.seqB L;obtain⟨c3,r2,a6⟩:=I.seqB G;have m:∀f∈[z,TI,TO,g,d],l1≠f:=λf F=>I.seq_ne L (r f F);have j:∀f∈[z,TI,TO,g,d],l2≠f:=λf F=>I.seq_ne G (r f F);simp only[List.nodup_cons,List.mem_cons,List.not_mem_nil,or_false,not_or,List.nodup_nil,and_true,not_false_eq_true]at S;obtain⟨⟨V,a3,Y,W⟩,⟨a7,U,a9⟩,⟨b6,a0⟩,b4⟩:=S;have D:ZipApart z TI TO g d l1 l2:=⟨zT V,zT a3,zT Y,zT W,a7,U,a9,b6,a0,b4,m z (by simp),m TO (by simp),m g (by simp),m d (by simp),j z (by simp),j TO (by simp),j g (by simp),j d (by simp)⟩;refine Qu (I.ok.hd M) D C l t p u a8 a6 (e1.imp (Hx r1) (Hx r2)) λh' T=>⟨rfl,I.turnedL (t':=s.toks) r λc o n e=>?_⟩;simp only[List.mem_cons,List.not_mem_nil,or_false,not_or]at n;obtain⟨R,c6,Z,a1,a2⟩:=n;exact T c o R Z a1 a2 e
 self:=λ_ _ _ _ _ st h=>wpAny_pyIter_zip st.1 h
section
variable {X:Cx}
def iZip(K:Frag)(ta:TA):TI:=λσ H R=>ta σ H λvs H1=>∃b1 b2 l1 l2,vs=[.ref l1,.ref l2]/\(∃xs,SqB b1 K H1 l1 xs)/\(∃ys,SqB b2 K H1 l2 ys)/\R (Itz K b1 l1 b2 l2) H1
theorem Hw{a b:Expr}{o:TA}{es:List Expr}{k:Nat}{v p m:Pos}(O:Gl X "zip")(F:X.mg "zip"=none)(y:PA X [a,b] o)(L:bootBuiltins "zip"=some (.type "zip"):=by decide +kernel)
  (N:starEach [a,b] X.env=[(false,eval a X.env),(false,eval b X.env)]:=by rfl)(l:starEach [b] X.env=[(false,eval b X.env)]:=by rfl):
  PI X (.Tuple es k v) (.Call (.Name "zip" p) [a,b] [] m) (iZip X.K o):=by
 intro z s J H R I h;refine Call_ (gL I O F L (xV (thn (y m z s J H _ I h) λus d⟨vs,w,f,r1,i⟩=>?_) (by rw[N,l]) (by rw[l];rfl)));obtain⟨b1,b2,l1,l2,e,⟨xs,i⟩,⟨ys,x⟩,q⟩:=i;subst e;cases r1 with
 | cons r g =>
  cases g with
  | cons P g =>
   cases g;cases r;cases P;obtain⟨W,V,K⟩:=f.seqB i;obtain⟨U,v2,G⟩:=f.seqB x;refine Qs K G λh' u S D M C T=>?_;refine wpAny_pyIter_zip u ?_;have lt:∀j,j<=4->d.heap.objs.size<=d.heap.objs.size+j:=λj _=>pO _ _;refine⟨d.heap.objs.size+4,[d.heap.objs.size+4,d.heap.objs.size+2,d.heap.objs.size+3,d.heap.objs.size,d.heap.objs.size+1],_,_,w,rfl,f.kept (t':=d.toks) T,Qr (b1:=b1) (b2:=b2) (l1:=l1) (l2:=l2) ?_,⟨u,S,⟨_,_,D⟩,M,C⟩,λc t=>?_,q⟩
   ·simp
   ·have n:d.heap.objs.size<=c:=by
     simp only[List.mem_cons,List.not_mem_nil,or_false]at t;rcases t with e|e|e|e|e <;> subst e <;> first|exact zE _|exact pO _ _
    exact f.fpOk n (f.hok.fresh n)
end
open AutoSeq1 (wpAny_loadPart')
set_option maxRecDepth 100000 in
theorem Qq(l:Addr)(items:Array Value)(n:Nat)(i:Option Addr)(e:Array (Option Value)):
  Meets (Builtin.«enumerate.__new__» ⟨[.type "enumerate",.ref l],[]⟩) (λ_ R s=>s.heap.get? l=some {cls:=.type "tuple",dict:=i,data:=.seq items n,slots:=e} /\
   R (.ok (.ret (.ref (s.heap.push {cls:=.type "tuple_iterator",data:=.fields #[.ref l,.int 0 0]}).objs.size)))
    {s with heap:=(s.heap.push {cls:=.type "tuple_iterator",data:=.fields #[.ref l,.int 0 0]}).push {cls:=.type "enumerate",data:=.fields #[.none,.bool false,.ref s.heap.objs.size,rawInt 0,.none,.none]}}):=
 .of_wp λprog w A R s h=>by
  obtain⟨f,g,d,tk,b⟩:=s;obtain⟨hl,h⟩:=h;have j:=sub_enumerate;have a:Heap.IsTuple (Shared.heap ⟨f,g,d,tk,b⟩) l items:=⟨_,hl,rfl,n,rfl⟩
  wp_walk using uQ hl
  refine wpAny_stack_any λst=>zB ?_;split
  ·rename_i c _ _ _ _ _;cases(c == Value.type "enumerate")
   ·wp_walk using uQ hl,uS a
    exact⟨_,rfl,h⟩
   ·wp_walk using uQ hl,uS a
    exact⟨_,rfl,h⟩
  ·wp_walk using uQ hl,uS a
   exact⟨_,rfl,h⟩
theorem Qp{prog:Program}{w:World}{A:Around}{E:VP}{s:Shared}{b:Bool}{l:Addr}{items:Array Value}{Q:VP}(f:seqB b s.heap l items)
  (h:∀h',IsEnum h' (s.heap.objs.size+1) s.heap.objs.size 0 .none->ItB b h' s.heap.objs.size l 0 ->
   (∀b o,s.heap.get? b=some o->h'.get? b=some o)->Q (.ref (s.heap.objs.size+1)) {s with heap:=h'}):
  wpAny (model prog w) A (call (.type "enumerate") [.ref l]) Q E s:=by
 cases b
 ·exact call_enumerate_list f λh' k m r i=>h h' k m i
 ·obtain⟨⟨c,q,dt,j⟩,hl,a,n,d⟩:=f;replace a:c=.type "tuple" := a;replace d:dt=.seq items n:=d;subst a d;refine callType_new F.called_enumerate ∅ (F.typeCall_enumerate_1 _) (F.newCall_enumerate_1 _) (λp=>F.args_object_init_2 p _) F.entry_enumerate_new
   (Qq l items n q j) ⟨hl,?_⟩
  have e:(s.heap.push {cls:=.type "tuple_iterator",data:=.fields #[.ref l,.int 0 0]}).objs.size=s.heap.objs.size+1:=xP ..;show _/\_;rw[e];have g:IsEnum ((s.heap.push {cls:=.type "tuple_iterator",data:=.fields #[.ref l,.int 0 0]}).push
    {cls:=.type "enumerate",data:=.fields #[.none,.bool false,.ref s.heap.objs.size,rawInt 0,.none,.none]}) (s.heap.objs.size+1) s.heap.objs.size 0 .none:=by
   have:=zQ (s.heap.push {cls:=.type "tuple_iterator",data:=.fields #[.ref l,.int 0 0]})
    (o:={cls:=.type "enumerate",data:=.fields #[.none,.bool false,.ref s.heap.objs.size,rawInt 0,.none,.none]}) rfl
   rw[e]at this;exact this
  refine⟨⟨_,g,rfl⟩,h _ g ⟨_,zC _ (zQ _ rfl),rfl,rfl⟩ λb o x=>zC _ (zC _ x)⟩
def Ite(K:Frag)(b:Bool)(l:Addr):It:=
  ⟨λi H=>∃xs x,SqB b K H l xs/\xs[i]?=some x,
   λi H v H'=>∃p x,v=.ref p/\H p=none/\H'=upd H p (.tup [.int i,x])/\∀xs,SqB b K H l xs->xs[i]?=some x,
   λi H=>∃xs,SqB b K H l xs/\xs.length=i⟩
theorem Qo{P:Program}{w:World}{K:Frag}{es:List Expr}{k:Nat}{a0:Pos}{b:Bool}{e a l:Addr}(D:e≠a):
  Turn P w K (.Tuple es k a0) (Ite K b l) [e,a] e (λi h=>(∃m,IsEnum h e a i m)/\ItB b h a l i) where
 mem:=by simp
 obj:=λi h⟨⟨m,j⟩,g⟩c r=>by
  simp only[List.mem_cons,List.not_mem_nil,or_false]at r;rcases r with e|e <;> subst e
  ·exact⟨_,j,λv q=>by have a7:Data.fields _=Data.cell v:=q;cases a7⟩
  ·exact g.lt
 keep:=λi h h'⟨⟨m,j⟩,g⟩V=>⟨⟨m,V e (by simp) _ j⟩,g.at λo q=>V a (by simp) o q⟩
 item:=by
  intro X p N F r i T s U H E I n st M;subst p N F;obtain⟨⟨m,j⟩,g⟩:=st;obtain⟨xs,x,y,e1⟩:=M;obtain⟨t,r1,G⟩:=I.seqB y;obtain⟨R,S,W⟩:=r1.get e1;have C:∀f∈[e,a],l≠f:=λf O=>I.seq_ne y (n f O);have a2:i<t.toArray.size:=by
   have:=(nF.mp S).1;simpa using this
  refine wpAny_pyNext_enum_itemD (Hy b (show X.A.in1.handled=none from I.ok.hd r) a l (C a (by simp)) t.toArray) j ⟨g,G⟩ a2 D (λq=>?_) λu h' tk p a9 b0 a3 b2 a4=>⟨_,rfl,?_⟩
  ·simp only[List.mem_cons,List.not_mem_nil,or_false]at q;rcases q with q|q
   ·exact D q
   ·exact C e (by simp) q.symm
  have Y:u=R:=by
   have:t.toArray[i]?=some R:=by simpa using S
   rw[this]at p;exact(zZ p).symm
  subst Y;refine wpAny_letOwnedTupleGo_enum a9 λL Z J=>?_;have ne:s.heap.objs.size≠e:=sL (zK j);have up:∀c o,c∉[e,a]->s.heap.get? c=some o->L.get? c=some o:=λc o d q=>by
   simp only[List.mem_cons,List.not_mem_nil,or_false,not_or]at d;exact J.extBut _ _ d.1 (a4 c o d.1 d.2 q)
  have new:mI X.prog X.w (upd H s.heap.objs.size (.tup [.int i,x])) L s.heap.objs.size (.tup [.int i,x]):=
   ⟨by show 2<=sizeLine;decide,[.int i tk,u],.cons ⟨tk,rfl⟩ (.cons W .nil),⟨_,J.extBut _ _ ne a3,rfl,_,rfl⟩⟩
  have a8:Inv X T U (upd H s.heap.objs.size (.tup [.int i,x])) {s with heap:=L,toks:=tk+1}:=I.turnedNew (t':=tk+1) n up (zE _) new;refine⟨.ref s.heap.objs.size,_,a8,rfl,⟨_,x,rfl,I.fresh,rfl,λb1 q=>by rw[I.seqB_inj q y];exact e1⟩,⟨⟨u,by simpa using Z⟩,b0.1.at λo q=>J.extBut _ _ (zT D) q⟩,λc d=>?_⟩;have a1:=(n c d).1;rw[nO]
  ·exact a1
  ·intro z;subst z;simp only[List.mem_cons,List.not_mem_nil,or_false]at d;rcases d with z|z
   ·exact ne z
   ·obtain⟨o,q,_⟩:=g.lt;exact absurd (zK q) (by rw[←z];exact yZ _)
 done:=by
  intro X p N F r i T s U H E I n st M;subst p N F;obtain⟨⟨m,j⟩,g⟩:=st;obtain⟨xs,y,e1⟩:=M;obtain⟨t,r1,G⟩:=I.seqB y;have C:∀f∈[e,a],l≠f:=λf O=>I.seq_ne y (n f O);have a6:t.toArray.size=i:=by rw[zV,←r1.length,e1]
  refine wpAny_pyNext_enum_endD (Hy b (show X.A.in1.handled=none from I.ok.hd r) a l (C a (by simp)) t.toArray) j ⟨by rw[a6];exact g,G⟩ λh' a5=>⟨rfl,I.turnedL (t':=s.toks) n λc o d q=>?_⟩;simp only[List.mem_cons,List.not_mem_nil,or_false,not_or]at d;exact a5 c o d.2 q
 self:=λ_ _ _ _ _ st h=>let ⟨⟨_,q⟩,_⟩:=st;wpAny_pyIter_enum q h
section
variable {X:Cx}
def cK(K:Frag)(ta:TA):TI:=λσ H R=>ta σ H λvs H1=>∃b l,vs=[.ref l]/\(∃xs,SqB b K H1 l xs)/\R (Ite K b l) H1
theorem bY{a:Expr}{m:TA}{es:List Expr}{k:Nat}{t p i:Pos}(G:Gl X "enumerate")(y:X.mg "enumerate"=none)(v:PA X [a] m)(D:bootBuiltins "enumerate"=some (.type "enumerate"):=by decide +kernel)
  (F:starEach [a] X.env=[(false,eval a X.env)]:=by rfl):
  PI X (.Tuple es k t) (.Call (.Name "enumerate" p) [a] [] i) (cK X.K m):=by
 intro x s z H R I h;refine Call_ (gL I G y D (xV (thn (v i x s z H _ I h) λus d⟨vs,u,f,r1,g⟩=>?_) F rfl));obtain⟨b,l,e,⟨xs,g⟩,q⟩:=g;subst e;cases r1 with
 | cons r w =>
  cases w;cases r;obtain⟨M,L,C⟩:=f.seqB g;refine Qp C λh' o J K=>?_;refine wpAny_pyIter_enum o ?_;refine⟨d.heap.objs.size+1,[d.heap.objs.size+1,d.heap.objs.size],_,_,u,rfl,f.kept (t':=d.toks) K,Qo (b:=b) (l:=l) (by simp),⟨⟨_,o⟩,J⟩,λc n=>?_,q⟩;have j:d.heap.objs.size<=c:=by
   simp only[List.mem_cons,List.not_mem_nil,or_false]at n;rcases n with e|e <;> subst e <;> first|exact zE _|exact pO _ _
  exact f.fpOk j (f.hok.fresh j)
theorem Hv:∀{ns:LI'}{its:LW},Vals (ns.map V.int) its->∃xs:List (Int×Tok),its=xs.map (λp=>Value.int p.1 p.2)/\xs.map (·.1)=ns
 |[],_,.nil=>⟨[],rfl,rfl⟩
 |n:: r,_,.cons ⟨a,h⟩ q=>by
  obtain⟨xs,e1,b⟩:=Hv (ns:=r) q;exact⟨(n,a):: xs,by rw[h,e1];rfl,by rw[zO,b]⟩
theorem bZ(a:X.calm=true):kD X (.builtin "sum") (λxs H Q=>∃(p:Addr)(ns:LI'),xs=[.ref p]/\SqL X.K H p (ns.map V.int)/\Q (.int ns.sum) H):=by
 intro j s g H xs us Q I r h;obtain⟨p,ns,rfl,b,q⟩:=h;obtain⟨u,rfl,c⟩:=jM r;cases c;obtain⟨its,d,pl,i⟩:=I.list b;obtain⟨ps,e1,e⟩:=Hv d;have hl:s.heap.IsList p (intItems ps.toArray):=by
  have:=pl.isList;rw[e1]at this;simpa [intItems]using this
 refine sum_intListG (I.ok.hd a) hl λh' tk t' f=>⟨.int ns.sum,H,I.kept (t':=tk) f,⟨t',?_⟩,q⟩;rw[preSum_eq,yJ (by simp)];simp[e]
end
theorem SqB.or{b:Bool}{K:Frag}{H:Hp}{a:Addr}{xs:List V}(h:SqB b K H a xs):SqL K H a xs\/SqT K H a xs:=by
 cases b
 ·exact .inl h
 ·exact .inr h
theorem SqB.up{b:Bool}{K:Frag}{H H':Hp}{a:Addr}{xs:List V}(h:SqB b K H a xs)(s:Same H H'):SqB b K H' a xs:=by
 cases b
 ·exact s.seq h
 ·exact s.tup h
theorem SqB.lst{K:Frag}{H:Hp}{a:Addr}{xs:List V}(h:H a=some (.lst xs)):SqB false K H a xs:=SqL.of h
theorem SqB.tup{K:Frag}{H:Hp}{a:Addr}{xs:List V}(h:H a=some (.tup xs)):SqB true K H a xs:=SqT.of h
def Its(K:Frag)(b:Bool)(a:Addr):It:=match b with|false=>Itl K a|true=>Itt K a
theorem Its.go{K:Frag}{b:Bool}{a:Addr}{xs:List V}{x:V}{i:Nat}{H:Hp}(h:SqB b K H a xs)(e:xs[i]?=some x):(Its K b a).go i H:=by
 cases b
 ·exact⟨xs,x,h,e⟩
 ·exact⟨xs,x,h,e⟩
theorem Its.stop{K:Frag}{b:Bool}{a:Addr}{xs:List V}{i:Nat}{H:Hp}(h:SqB b K H a xs)(e:xs.length<=i):(Its K b a).stop i H:=by
 cases b
 ·exact⟨xs,h,e⟩
 ·exact⟨xs,h,e⟩
theorem Its.yld{K:Frag}{b:Bool}{a:Addr}{xs:List V}{i:Nat}{H H':Hp}{x:V}(h:SqB b K H a xs)(y:(Its K b a).yld i H x H'):H'=H/\xs[i]?=some x:=by
 cases b
 ·exact⟨y.1,y.2 xs h⟩
 ·exact⟨y.1,y.2 xs h⟩
section
variable {X:Cx}
def iSeq(K:Frag)(tl:TE):TI:=λσ H R=>tl σ H λx H1=>∃b a,x=.ref a/\(∃xs,SqB b K H1 a xs)/\R (Its K b a) H1
theorem mT{n l:Expr}{i:TE}(hl:PE X l i):PI X n l (iSeq X.K i):=by
 intro t s m H R I h;refine thn (hl t s m H _ I h) λv c⟨x,j,d,r1,u⟩=>?_;obtain⟨b,a,e,⟨xs,g⟩,q⟩:=u;subst e;cases r1;cases b
 ·obtain⟨its,k,p,r⟩:=d.list g;refine sU p.isList ?_;refine⟨c.heap.objs.size,[c.heap.objs.size],_,_,j,rfl,d.kept (t':=c.toks) λb o e=>zC _ e,Nu a _,⟨_,zQ _ rfl,rfl,rfl⟩,λb f=>?_,q⟩;have e:b=c.heap.objs.size:=by simpa using f
  subst e;exact d.fpOk (zE _) (d.hok.fresh (zE _))
 ·obtain⟨its,k,p,r⟩:=d.tuple g;refine uS (show c.heap.IsTuple a its.toArray from p) ?_;refine⟨c.heap.objs.size,[c.heap.objs.size],_,_,j,rfl,d.kept (t':=c.toks) λb o e=>zC _ e,Nt a _,⟨_,zQ _ rfl,rfl,rfl⟩,λb f=>?_,q⟩;have e:b=c.heap.objs.size:=by simpa using f
  subst e;exact d.fpOk (zE _) (d.hok.fresh (zE _))
def rIxB(K:Frag):R2:=λx y H Q=>E5 λ(b:Bool)(p:Addr)(xs:List V)(i:Int)(v:V)=>A5 (x=.ref p) (y=.int i) (SqB b K H p xs) (atI xs i=some v) (Q v H)
theorem ix_B:IxR X (rIxB X.K):=by
 intro j f l s e H x y v u Q I c g h;obtain⟨b,p,xs,i,m,e1,k,a,d,q⟩:=h;cases b
 ·exact Oo j f l s e H x y v u Q I c g ⟨p,xs,i,m,e1,k,a,d,q⟩
 ·exact On j f l s e H x y v u Q I c g ⟨p,xs,i,m,e1,k,a,d,q⟩
def eT(K:Frag):List V->Hp->VK->Prop:=λxs H Q=>E3 λ(b:Bool)(p:Addr)(ys:List V)=>A3 (xs=[.ref p]) (SqB b K H p ys) (Q (.int ys.length) H)
theorem Qn:kD X (.builtin "len") (eT X.K):=by
 intro d s c H xs us Q I r h;obtain⟨b,p,ys,e,a,q⟩:=h;exact Og d s c H xs us Q I r ⟨p,ys,e,a.or,q⟩
def aA(K:Frag):List V->Hp->VK->Prop:=λxs H Q=>∃b p ys,xs=[.ref p]/\SqB b K H p ys/\∀l,H l=none->Q (.ref l) (upd H l (.lst ys))
theorem hZ:kD X (.type "list") (aA X.K):=by
 intro d s c H xs us Q I r h;obtain⟨b,p,ys,e,a,q⟩:=h;exact Of d s c H xs us Q I r ⟨p,ys,e,a.or,q⟩
def eX(K:Frag):List V->Hp->VK->Prop:=λxs H Q=>∃p ys,xs=[.ref p]/\((SqL K H p ys/\∀l,H l=none->Q (.ref l) (upd H l (.tup ys)))\/(SqT K H p ys/\Q (.ref p) H))
theorem jX:kD X (.type "tuple") (eX X.K):=Oe
end
theorem Qm{K:Frag}{b:Bool}{a:Addr}{xs:List V}{g:TG}{tb:TS}{D:Ends}{c:St}{H:Hp}(d:Nat->St->Hp->Prop)(l:d 0 c H)(hl:∀i c H,i<=xs.length->d i c H->SqB b K H a xs)
  (n:∀i x c H,xs[i]?=some x->d i c H->g x c H λj f=>tb {D with nx:=d (i+1),ct:=d (i+1),bk:=D.nx} j f)(k:∀c H,d xs.length c H->D.nx c H):
  ∃e:Nat->Nat->St->Hp->Prop,(∃m,e 0 m c H)/\∀i m c H,e i m c H ->
   ((Its K b a).stop i H/\D.nx c H)\/((Its K b a).go i H/\∃N:St->Hp->Prop,(∀o H',N o H'->∃p,p<m/\e (i+1) p o H')/\∀x H',(Its K b a).yld i H x H'->g x c H' λj f=>tb {D with nx:=N,ct:=N,bk:=D.nx} j f):=by
 cases b
 ·exact No d l hl n k
 ·exact Nn d l hl n k
theorem Ql{K:Frag}{b:Bool}{a:Addr}{xs:List V}{g:TG}{tb:TS}{D:Ends}{c:St}{H:Hp}(d:Nat->St->Hp->Prop)(w:d 0 c H)(hl:∀i c H,i<=xs.length->d i c H->SqB b K H a xs)
  (z:∀i x p c H,xs[i]?=some x->d i c H->H p=none->g (.ref p) c (upd H p (.tup [.int i,x])) λl k=>tb {D with nx:=d (i+1),ct:=d (i+1),bk:=D.nx} l k)(v:∀c H,d xs.length c H->D.nx c H):
  ∃f:Nat->Nat->St->Hp->Prop,(∃m,f 0 m c H)/\∀i m c H,f i m c H ->
   ((Ite K b a).stop i H/\D.nx c H)\/((Ite K b a).go i H/\∃N:St->Hp->Prop,(∀j H',N j H'->∃n,n<m/\f (i+1) n j H')/\∀x H',(Ite K b a).yld i H x H'->g x c H' λl k=>tb {D with nx:=N,ct:=N,bk:=D.nx} l k):=by
 refine⟨λi m c H=>m=xs.length-i/\i<=xs.length/\d i c H,⟨xs.length,by simp,zY _,w⟩,?_⟩;rintro i m c H ⟨rfl,hi,p⟩;have q:=hl i c H hi p
 by_cases o:i<xs.length
 ·refine .inr ⟨⟨xs,xs[i],q,by simp[o]⟩,d (i+1),λj H' u=>⟨xs.length-(i+1),⋯,rfl,o,u⟩,λx H' y=>?_⟩;obtain⟨r,x,rfl,hr,rfl,t⟩:=y;exact z i x r c H (t xs q) p hr
 ·have e:i=xs.length:=⋯
  subst e;exact .inl ⟨⟨xs,q,rfl⟩,v c H p⟩
def jO(a:Addr)(H H':Hp):Prop:=∀b o,b≠a->H b=some o->H' b=some o
theorem Same.x{a:Addr}{H H':Hp}(s:Same H H'):jO a H H':=λb o _ e=>s b o e
section
variable {J:It} {g:TG} {tt:TOx} {te:TE} {n:Nat} {fr:List (Str×Nat)} {σ:St} {a:Addr} {H:Hp} {Q:VK} {K:Frag}
theorem aB(len:Nat)(P:Nat->List V->Hp->Prop)(v:H a=none)(R:len<=1000)(M:P 0 [] (upd H a (.lst [])))
  (hl:∀i zs c,P i zs c->zs.length<=i)(mono:∀i zs c d,P i zs c->jO a c d->P i zs d)
  (z:∀i c,i<len->Same H c->J.go i c)(I:∀c,Same H c->J.stop len c)
  (D:∀i c zs,i<len->Same H c->c a=some (.lst zs)->P i zs c->∀(ys:St) x r,ys.length=n->J.yld i c x r->∀C:Option V->Hp->Prop,
   (∀y d,Same c d->P (i+1) (zs++[y]) d->C (some y) d)->(∀d,Same c d->P (i+1) zs d->C none d) ->
   g x (ys++lV fr σ) r λw G=>(∃u:St,u.length=n/\w=u++lV fr σ)/\tt w G C)
  (F:∀c ys,Same H c->c a=some (.lst ys)->P len ys c->Q (.ref a) c):kL J g tt n fr σ a H Q:=by
 refine⟨λi m c=>m=len-i/\i<=len/\Same H c/\∃zs,c a=some (.lst zs)/\P i zs c,⟨len,by simp,Nat.zero_le _,Same.new v,[],nN,M⟩,?_⟩;rintro i m c ⟨rfl,hi,f,zs,l,p⟩
 by_cases k:i<len
 ·refine .inr ⟨z i c k f,λH'=>i+1<=len/\Same H H'/\∃zs,H' a=some (.lst zs)/\P (i+1) zs H',λH' q=>⟨len-(i+1),⋯,rfl,q⟩,λys x r L N=>?_⟩;refine D i c zs k f l p ys x r L N _ (λy d j t=>?_) λd j t=>?_
  ·refine⟨zs,j _ _ l,fK (by have:=hl i zs c p;omega),k,Same.over v (f.trans j),_,nN,mono _ _ _ _ t λb o O e=>?_⟩;rw[nO O];exact e
  ·exact⟨k,f.trans j,zs,j _ _ l,t⟩
 ·have e:i=len:=⋯
  subst e;exact .inl ⟨I c f,F c zs f l p⟩
theorem aC(len:Nat)(R:Nat->V->Hp->Prop)(v:H a=none)(P:len<=1000)(mono:∀i y b c,R i y b->jO a b c->R i y c)
  (q:∀i b,i<len->Same H b->J.go i b)(I:∀b,Same H b->J.stop len b)
  (t:∀i b zs,i<len->Same H b->b a=some (.lst zs)->∀(ys:St) x d,ys.length=n->J.yld i b x d->∀l:VK,(∀y c,Same b c->R i y c->l y c) ->
   g x (ys++lV fr σ) d λm D=>(∃k:St,k.length=n/\m=k++lV fr σ)/\te m D l)
  (w:∀b ys,Same H b->b a=some (.lst ys)->ys.length=len->(∀j y,ys[j]?=some y->R j y b)->Q (.ref a) b):kL J g (tEl te) n fr σ a H Q:=by
 refine aB len (λi zs b=>zs.length=i/\∀j y,zs[j]?=some y->R j y b) v P ⟨rfl,λj y e=>by simp at e⟩ (λi zs b p=>sN p.1) (λi zs b c p s=>⟨p.1,λj y e=>mono _ _ _ _ (p.2 j y e) s⟩) q I ?_ λb ys s e p=>w b ys s e p.1 p.2;intro i b zs hi u O p ys x d L N C G _;refine t i b zs hi u O ys x d L N _ λy c f r=>G y c f ⟨by simp[p.1],λj z e=>?_⟩
 by_cases F:j<zs.length
 ·rw[yB F]at e;exact mono _ _ _ _ (p.2 j z e) f.x
 ·rw[zX ⋯]at e;have o:j-zs.length=0:=by
   by_cases M:j-zs.length=0
   ·exact M
   ·rw[vR (by simp;omega)]at e;cases e
  rw[o]at e;cases zZ e;have:j=i:=by have:=p.1;omega
  rw[this];exact r
theorem kX{b:Bool}{l:Addr}{xs:List V}(R:Nat->V->Hp->Prop)(m:H a=none)(f:SqB b K H l xs)(u:xs.length<=1000)(mono:∀i y c d,R i y c->jO a c d->R i y d)
  (z:∀i x c zs,xs[i]?=some x->Same H c->c a=some (.lst zs)->∀e:VK,(∀y d,Same c d->R i y d->e y d)->te (some x:: lV fr σ) c e)
  (r:∀c ys,Same H c->c a=some (.lst ys)->ys.length=xs.length->(∀j y,ys[j]?=some y->R j y c)->Q (.ref a) c):kL (Its K b l) (nX 0) (tEl te) 1 fr σ a H Q:=by
 refine aC xs.length R m u mono (λi c hi s=>Its.go (f.up s) (x:=xs[i]) (by simp[hi])) (λc s=>Its.stop (f.up s) (zE _)) ?_ r;intro i c zs hi k p ys x q v t e C;obtain⟨e1,w⟩:=Its.yld (f.up k) t;subst e1
 match ys,v with
 |[o],_=>exact⟨⟨[some x],rfl,rfl⟩,z i x q zs w k p e C⟩
theorem jG{lo:Int}{len:Nat}(R:Nat->V->Hp->Prop)(f:H a=none)(q:len<=1000)(mono:∀i y b c,R i y b->jO a b c->R i y c)
  (u:∀(i:Nat) b zs,i<len->Same H b->b a=some (.lst zs)->∀d:VK,(∀y c,Same b c->R i y c->d y c)->te (some (.int (lo+i)):: lV fr σ) b d)
  (m:∀b ys,Same H b->b a=some (.lst ys)->ys.length=len->(∀j y,ys[j]?=some y->R j y b)->Q (.ref a) b):kL (Itr lo len) (nX 0) (tEl te) 1 fr σ a H Q:=by
 refine aC len R f q mono (λi b hi s=>hi) (λb s=>zE _) ?_ m;intro i b zs hi e k ys x l r p d v;obtain⟨e1,t⟩:=p;subst e1 t
 match ys,r with
 |[o],_=>exact⟨⟨[_],rfl,rfl⟩,u i l zs hi e k d v⟩
theorem Hu{b1 b2:Bool}{l1 l2:Addr}{xs ys:List V}(R:Nat->V->Hp->Prop)(u:H a=none)(l:SqB b1 K H l1 xs)(e:SqB b2 K H l2 ys)(M:xs.length=ys.length)(C:xs.length<=1000)(mono:∀i y b c,R i y b->jO a b c->R i y c)
  (t:∀i x y b zs,xs[i]?=some x->ys[i]?=some y->Same H b->b a=some (.lst zs)->∀d:VK,(∀y c,Same b c->R i y c->d y c)->te (some x:: some y:: lV fr σ) b d)
  (v:∀b zs,Same H b->b a=some (.lst zs)->zs.length=xs.length->(∀j y,zs[j]?=some y->R j y b)->Q (.ref a) b):
  kL (Itz K b1 l1 b2 l2) (gTup K 2 (kC (nX 0) (kC (nX 1) gNil))) (tEl te) 2 fr σ a H Q:=by
 refine aC xs.length R u C mono (λi b hi s=>⟨xs,ys,xs[i],ys[i],l.up s,e.up s,by simp[hi],by simp⟩) (λb s=>⟨xs,ys,l.up s,e.up s,.inl (by simp)⟩) ?_ v;intro i b zs hi f z D x L F m d G;obtain⟨p,x,y,rfl,k,rfl,w,m⟩:=m;refine⟨p,[x,y],rfl,SqT.of nN,rfl,x,[y],rfl,y,[],rfl,rfl,?_⟩
 match D,F with
 |[o,I],_ =>
  refine⟨⟨[some x,some y],rfl,rfl⟩,t i x y _ zs (w xs (l.up f)) (m ys (e.up f)) (f.trans (Same.new k)) (Same.new k _ _ z) d λy c q r=>G y c ((Same.new k).trans q) r⟩
theorem Qk{b:Bool}{l:Addr}{xs:List V}(R:Nat->V->Hp->Prop)(u:H a=none)(k:SqB b K H l xs)(D:xs.length<=1000)(mono:∀i y c d,R i y c->jO a c d->R i y d)
  (t:∀i x c zs,xs[i]?=some x->Same H c->c a=some (.lst zs)->∀e:VK,(∀y d,Same c d->R i y d->e y d)->te (some (.int i):: some x:: lV fr σ) c e)
  (v:∀c zs,Same H c->c a=some (.lst zs)->zs.length=xs.length->(∀j y,zs[j]?=some y->R j y c)->Q (.ref a) c):
  kL (Ite K b l) (gTup K 2 (kC (nX 0) (kC (nX 1) gNil))) (tEl te) 2 fr σ a H Q:=by
 refine aC xs.length R u D mono (λi c hi s=>⟨xs,xs[i],k.up s,by simp[hi]⟩) (λc s=>⟨xs,k.up s,rfl⟩) ?_ v;intro i c zs hi m C F x M G z e I;obtain⟨p,x,rfl,f,rfl,w⟩:=z;refine⟨p,[.int i,x],rfl,SqT.of nN,rfl,_,[x],rfl,x,[],rfl,rfl,?_⟩
 match F,G with
 |[o,L],_ =>
  refine⟨⟨[some (.int i),some x],rfl,rfl⟩,t i x _ zs (w xs (k.up m)) (m.trans (Same.new f)) (Same.new f _ _ C) e λy d q r=>I y d ((Same.new f).trans q) r⟩
end
def MatB(b1 b2:Bool)(K:Frag)(H:Hp)(a:Addr)(rows:List (LI')):Prop:=∃ps:LA,SqB b1 K H a (ps.map V.ref)/\ps.length=rows.length/\∀(i:Nat)(p:Addr)(r:LI'),ps[i]?=some p->rows[i]?=some r->SqB b2 K H p (r.map V.int)
theorem MatB.up{b1 b2:Bool}{K:Frag}{H H':Hp}{a:Addr}{b:List (LI')}(h:MatB b1 b2 K H a b)(s:Same H H'):MatB b1 b2 K H' a b:=let ⟨ps,d,f,c⟩:=h;⟨ps,d.up s,f,λi p r e1 e=>(c i p r e1 e).up s⟩
def RowR(a:Addr)(f:Nat->LI')(j:Nat)(y:V)(H:Hp):Prop:=∃p,y=.ref p/\p≠a/\H p=some (.lst ((f j).map V.int))
theorem RowR.mono{a:Addr}{f:Nat->LI'}(i:Nat)(y:V)(c b:Hp)(h:RowR a f i y c)(s:jO a c b):RowR a f i y b:=let ⟨p,e,n,q⟩:=h;⟨p,e,n,s _ _ n q⟩
def iT:Nat->PyData->Bool
 |_,.int _=>true
 |n+1,.list xs=>xs.all (iT n)
 |n+1,.tuple xs=>xs.all (iT n)
 |_,_=>false
theorem gC:∀(n:Nat)(d:PyData),iT n d=true->d.canLay0=true/\d.depth<=n
 |0,.int _,_=>by simp[PyData.canLay0,PyData.depth]
 |n+1,.int _,_=>by simp[PyData.canLay0,PyData.depth]
 | n+1,.list xs,h=>by
  have all:∀ys:List PyData,ys.all (iT n)=true->PyData.canLayAll0 ys=true/\PyData.depthAll ys<=n:=by
   intro ys
   induction ys with
   |nil=>intro _;simp[PyData.canLayAll0,PyData.depthAll]
   |cons y r e =>
    intro a;rw[yV,zN]at a;have b:=gC n y a.1;have c:=e a.2;simp only[PyData.canLayAll0,PyData.depthAll,Bool.and_eq_true];exact⟨⟨b.1,c.1⟩,⋯⟩
  have:=all xs (by simpa [iT]using h);simp only[PyData.canLay0,PyData.depth];exact⟨this.1,⋯⟩
 | n+1,.tuple xs,h=>by
  have all:∀ys:List PyData,ys.all (iT n)=true->PyData.canLayAll0 ys=true/\PyData.depthAll ys<=n:=by
   intro ys
   induction ys with
   |nil=>intro _;simp[PyData.canLayAll0,PyData.depthAll]
   |cons y r e =>
    intro a;rw[yV,zN]at a;have b:=gC n y a.1;have c:=e a.2;simp only[PyData.canLayAll0,PyData.depthAll,Bool.and_eq_true];exact⟨⟨b.1,c.1⟩,⋯⟩
  have:=all xs (by simpa [iT]using h);simp only[PyData.canLay0,PyData.depth];exact⟨this.1,⋯⟩
theorem aD:∀(n:Nat)(d d':PyData),iT n d=true->iT n d'=true->SeqAt.noMix d d'=true:=by
 intro n
 induction n with
 |zero=>intro d d' h h';cases d <;> simp[iT]at h <;> cases d' <;> simp[iT]at h' <;> simp[SeqAt.noMix]
 | succ n c =>
  have all:∀ys zs:List PyData,ys.all (iT n)=true->zs.all (iT n)=true->SeqAt.noMixAll ys zs=true:=by
   intro ys
   induction ys with
   |nil=>intro zs _ _;cases zs <;> simp[SeqAt.noMixAll]
   | cons y r f =>
    intro zs b a;cases zs with
    |nil=>simp[SeqAt.noMixAll]
    |cons z e =>
     rw[yV,zN]at b a;simp only[SeqAt.noMixAll,Bool.and_eq_true];exact⟨c y z b.1 a.1,f e b.2 a.2⟩
  intro d d' h h';cases d <;> simp only[iT,Bool.false_eq_true]at h <;> cases d' <;> simp only[iT,Bool.false_eq_true]at h' <;> simp only[SeqAt.noMix]
  ·exact all _ _ h h'
  ·exact all _ _ h h'
theorem aE:∀(n:Nat)(d d':PyData),iT n d=true->iT n d'=true->(same d d'=true↔d=d'):=by
 intro n
 induction n with
 |zero=>intro d d' h h';cases d <;> simp[iT]at h <;> cases d' <;> simp[iT]at h' <;> simp[same]
 | succ n c =>
  have all:∀ys zs:List PyData,ys.all (iT n)=true->zs.all (iT n)=true->(sameAll ys zs=true↔ys=zs):=by
   intro ys
   induction ys with
   |nil=>intro zs _ _;cases zs <;> simp[sameAll]
   | cons y r f =>
    intro zs b a;cases zs with
    |nil=>simp[sameAll]
    |cons z e =>
     rw[yV,zN]at b a;simp only[sameAll,Bool.and_eq_true,List.cons.injEq];rw[c y z b.1 a.1,f e b.2 a.2]
  intro d d' h h';cases d <;> simp only[iT,Bool.false_eq_true]at h <;> cases d' <;> simp only[iT,Bool.false_eq_true]at h' <;> simp only[same,beq_iff_eq,PyData.int.injEq,PyData.list.injEq,PyData.tuple.injEq,reduceCtorEq,Bool.false_eq_true]
  ·exact all _ _ h h'
  ·exact all _ _ h h'
theorem aF{n:Nat}{d:PyData}(a:n<=64)(h:iT n d=true):SeqAt.shaped d=true:=by
 have:=gC n d h;unfold SeqAt.shaped;rw[zN];exact⟨this.1,zM ⋯⟩
section
variable {K:Frag} {H:Hp} {x y:V} {d d':PyData} {Q:VK}
theorem Qj(n:Nat)(f:n<=64)(g:Dt K H x d)(i:Dt K H y d')(a:iT n d=true)(c:iT n d'=true){b:Bool}(j:b=true↔d=d')(q:Q (.bl b) H):rEqD K x y H Q:=by
 refine⟨d,d',g,i,aF f a,aF f c,aD n d d' a c,?_⟩;have:=aE n d d' a c;have e:same d d'=b:=by
  cases hs:same d d' <;> cases b <;> simp_all
 rw[e];exact q
theorem Qi(n:Nat)(f:n<=64)(g:Dt K H x d)(i:Dt K H y d')(a:iT n d=true)(c:iT n d'=true){b:Bool}(j:b=true↔d=d')(q:Q (.bl (!b)) H):rNeD K x y H Q:=by
 refine⟨d,d',g,i,aF f a,aF f c,aD n d d' a c,?_⟩;have:=aE n d d' a c;have e:same d d'=b:=by
  cases hs:same d d' <;> cases b <;> simp_all
 rw[e];exact q
end
def seqD(b:Bool)(ds:List PyData):PyData:=match b with|false=>.list ds|true=>.tuple ds
def eY(b:Bool)(ns:LI'):PyData:=seqD b (ns.map PyData.int)
def matD(b1 b2:Bool)(rows:List (LI')):PyData:=seqD b1 (rows.map (eY b2))
theorem Ht{b:Bool}{xs ys:List PyData}:seqD b xs=seqD b ys↔xs=ys:=by cases b <;> simp[seqD]
theorem Cy{a c:Type}{f:a->c}(b:∀x y,f x=f y->x=y):∀{xs ys:List a},xs.map f=ys.map f↔xs=ys
 |[],[]=>by simp
 |[],_:: _=>by simp
 |_:: _,[]=>by simp
 |x:: r,y:: d=>by
  rw[zO,zO,xQ,xQ,Cy b];exact⟨λh=>⟨b _ _ h.1,h.2⟩,λh=>⟨by rw[h.1],h.2⟩⟩
theorem Hr{b:Bool}{ns ms:LI'}:eY b ns=eY b ms↔ns=ms:=by
 unfold eY;rw[Ht,Cy λx y h=>by injection h]
theorem Qh{b1 b2:Bool}{A B:List (LI')}:matD b1 b2 A=matD b1 b2 B↔A=B:=by
 unfold matD;rw[Ht,Cy λx y h=>Hr.mp h]
theorem Dt.seqB{b:Bool}{K:Frag}{H:Hp}{a:Addr}{xs:List V}{ds:List PyData}(h:SqB b K H a xs)(c:Dts K H xs ds):Dt K H (.ref a) (seqD b ds):=by
 cases b
 ·exact .lst h c
 ·exact .tup h c
theorem Dt.intsB{b:Bool}{K:Frag}{H:Hp}{a:Addr}{ns:LI'}(h:SqB b K H a (ns.map V.int)):Dt K H (.ref a) (eY b ns):=Dt.seqB h (Dts.ints ns)
theorem Dt.matB{b1 b2:Bool}{K:Frag}{H:Hp}{a:Addr}{b:List (LI')}(h:MatB b1 b2 K H a b):Dt K H (.ref a) (matD b1 b2 b):=by
 obtain⟨ps,e,c,d⟩:=h;refine Dt.seqB e ?_;clear e
 induction ps generalizing b with
 |nil =>
  cases b with
  |nil=>exact .nil
  |cons r g=>simp at c
 | cons p ps f =>
  cases b with
  |nil=>simp at c
  |cons r g =>
   refine .cons (Dt.intsB (d 0 p r rfl rfl)) (f (by simpa using c) λi q z e1 j=>d (i+1) q z (by simpa using e1) (by simpa using j))
section
variable {wi:TI} {g:TG} {tt:TOx} {te:TE} {tc:TT} {n:Nat} {fr:List (Str×Nat)} {σ:St} {H:Hp} {Q:VK}
theorem mK(h:∀B:TE,B=te->wi σ H λc b=>∀a,b a=none->kL c g (tEl B) n fr σ a b Q):kW wi g (tEl te) n fr σ H Q:=h _ rfl
theorem Hq(h:∀(C:TT)(B:TE),C=tc->B=te->wi σ H λc b=>∀a,b a=none->kL c g (hJ C B) n fr σ a b Q):kW wi g (hJ tc te) n fr σ H Q:=h _ _ rfl rfl
end
def seqO(b:Bool)(xs:List V):HO:=match b with|false=>.lst xs|true=>.tup xs
def rSlB(K:Frag):V->Option Int->Option Int->Hp->VK->Prop:=λx lo hi H Q=>∃b a xs,x=.ref a/\SqB b K H a xs /\
 (b=true->¬ (HT.sIx xs.length 0 lo=0/\HT.sIx xs.length xs.length hi=xs.length))/\∀p,H p=none->Q (.ref p) (upd H p (seqO b (cutV xs lo hi)))
theorem sl_B{X:Cx}:SlR X (rSlB X.K):=by
 intro l s g H x v i f lo hi k Q I d j pl m h;obtain⟨b,a,xs,e,c,n,q⟩:=h;cases b
 ·exact Oi l s g H x v i f lo hi k Q I d j pl m ⟨a,xs,e,c,q⟩
 ·exact Ot l s g H x v i f lo hi k Q I d j pl m ⟨a,xs,e,c,n rfl,q⟩
def MatL(H:Hp)(a:Addr)(rows:List (LI')):Prop:=∃ps:LA,H a=some (.lst (ps.map V.ref))/\ps.length=rows.length/\∀(i:Nat)(p:Addr)(r:LI'),ps[i]?=some p->rows[i]?=some r->p≠a/\H p=some (.lst (r.map V.int))
theorem MatL.b{K:Frag}{H:Hp}{a:Addr}{b:List (LI')}(h:MatL H a b):MatB false false K H a b:=let ⟨ps,d,f,c⟩:=h;⟨ps,SqB.lst d,f,λi p r e1 e=>SqB.lst (c i p r e1 e).2⟩
theorem MatL.up{H H':Hp}{a:Addr}{d:List (LI')}(h:MatL H a d)(s:Same H H'):MatL H' a d:=let ⟨ps,e,f,b⟩:=h;⟨ps,s _ _ e,f,λi p r e1 c=>⟨(b i p r e1 c).1,s _ _ (b i p r e1 c).2⟩⟩
theorem MatL.of{H:Hp}{a:Addr}{f:Nat->LI'}{ys:List V}(h:H a=some (.lst ys))(hr:∀(j:Nat) y,ys[j]?=some y->RowR a f j y H):MatL H a ((List.range ys.length).map f):=by
 have g:∃ps:LA,ys=ps.map V.ref:=by
  clear h;have:∀(zs:List V)(k:Nat),(∀(j:Nat) y,zs[j]?=some y->RowR a f (j+k) y H)->∃ps:LA,zs=ps.map V.ref:=by
   intro zs
   induction zs with
   |nil=>intro k _;exact⟨[],rfl⟩
   | cons z r d =>
    intro k c;obtain⟨p,e,_⟩:=c 0 z rfl;obtain⟨ps,b⟩:=d (k+1) λj y q=>by
     have:=c (j+1) y (by simpa using q)
     rwa[rE,Nat.add_comm 1 k]at this
    exact⟨p:: ps,by rw[e,b];rfl⟩
  exact this ys 0 hr
 obtain⟨ps,rfl⟩:=g;refine⟨ps,h,by simp,λi p r e1 b=>?_⟩;obtain⟨l,e,n,q⟩:=hr i (.ref p) (by simp[e1]);cases e;have hi:i<ps.length:=(nF.mp e1).1;have:r=f i:=by
  rw[zH,yM,xC hi]at b;exact(zZ b).symm
 rw[this];exact⟨n,q⟩
theorem MatB.row{b1 b2:Bool}{K:Frag}{H:Hp}{a:Addr}{b:List (LI')}(h:MatB b1 b2 K H a b){i:Nat}{r:LI'}(e:b[i]?=some r):∃ps:LA,∃p,SqB b1 K H a (ps.map V.ref)/\(ps.map V.ref)[i]?=some (.ref p)/\(ps.map V.ref).length=b.length/\SqB b2 K H p (r.map V.int):=by
 obtain⟨ps,c,d,f⟩:=h;have hi:i<ps.length:=by have:=(nF.mp e).1;omega
 exact⟨ps,ps[i],c,by simp[hi],by simp[d],f i _ r (by simp[hi]) e⟩
theorem MatB.walk{b1 b2:Bool}{K:Frag}{H:Hp}{a:Addr}{b:List (LI')}(h:MatB b1 b2 K H a b):∃xs:List V,SqB b1 K H a xs/\xs.length=b.length/\∀(i:Nat) x,xs[i]?=some x->∃p r,x=.ref p/\b[i]?=some r/\SqB b2 K H p (r.map V.int):=by
 obtain⟨ps,c,d,f⟩:=h;refine⟨_,c,by simp[d],λi x e=>?_⟩;rw[zH]at e;cases q:ps[i]? with
 |none=>rw[q]at e;cases e
 |some p =>
  rw[q]at e;have hi:i<b.length:=by have:=(nF.mp q).1;omega
  exact⟨p,b[i],(zZ e).symm,by simp[hi],f i p _ q (by simp[hi])⟩
theorem jH{a:Type}{xs:List a}{k:Nat}{x:a}{i:Int}(h:xs[k]?=some x)(hi:i=k):atI xs i=some x:=by
 subst hi;exact Os h
theorem jY{ns:LI'}{i:Nat}{x:V}(h:(ns.map V.int)[i]?=some x):∃n,ns[i]?=some n/\x=.int n:=by
 rw[zH]at h;cases e:ns[i]? with
 |none=>rw[e]at h;cases h
 |some n=>rw[e]at h;exact⟨n,rfl,(zZ h).symm⟩
theorem gR{ns:LI'}{i:Nat}{n:Int}(h:ns[i]?=some n):(ns.map V.int)[i]?=some (.int n):=by rw[zH,h];rfl
theorem Qg{ns:LI'}{k:Nat}{n:Int}(h:ns[k]?=some n):ns.getD k 0=n:=by rw[tU,h];rfl
theorem getD_at{ns:LI'}{k:Nat}(h:k<ns.length):ns[k]?=some (ns.getD k 0):=by simp[h]
theorem getD_mem{ns:LI'}{k:Nat}(h:k<ns.length):ns.getD k 0∈ns:=by
 rw[show ns.getD k 0=ns[k] by simp[h]];exact vK h
def colI(k:Nat)(rows:List (LI')):LI':=rows.map λr=>r.getD k 0
def dotI(ms ns:LI'):Int:=(List.zipWith (·*·) ms ns).sum
def aG(w:Nat)(rows:List (LI')):List (LI'):=(List.range w).map λk=>colI k rows
def mulM(w:Nat)(A B:List (LI')):List (LI'):=A.map λr=>(List.range w).map λk=>dotI r (colI k B)
theorem Qf{w:Nat}{A B:List (LI')}{i:Nat}{r:LI'}(h:A[i]?=some r):(mulM w A B)[i]?=some ((List.range w).map λk=>dotI r (colI k B)):=by
 unfold mulM;rw[zH,h];rfl
section
variable {K:Frag} {g:TG} {tb:TS} {σ:St} {H:Hp} {nx:St->Hp->Prop} {rt:VK}
abbrev Cv(J:It)(g:TG)(tb:TS)(nx:St->Hp->Prop)(rt:VK)(σ:St)(H:Hp):Prop:=∃W:Nat->Nat->St->Hp->Prop,(∃m,W 0 m σ H)/\∀i m σ H,W i m σ H ->
 (J.stop i H/\nx σ H)\/(J.go i H/\∃N:St->Hp->Prop,(∀σ' H',N σ' H'->∃m',m'<m/\W (i+1) m' σ' H')/\∀x H',J.yld i H x H'->g x σ H' λσ2 H2=>tb {nx:=N,rt:=rt,bk:=nx,ct:=N} σ2 H2)
theorem gD{lo:Int}{n:Nat}(a:Nat->St->Hp->Prop)(c:a 0 σ H)
  (d:∀i σ H,i<n->a i σ H->g (.int (lo+i)) σ H λf e=>tb {nx:=a (i+1),rt:=rt,bk:=nx,ct:=a (i+1)} f e)(b:∀σ H,a n σ H->nx σ H):Cv (Itr lo n) g tb nx rt σ H:=
 Nm (D:={nx:=nx,rt:=rt,bk:=nx,ct:=nx}) a c d b
theorem jP{b:Bool}{a:Addr}{xs:List V}(c:Nat->St->Hp->Prop)(e:c 0 σ H)(hl:∀i σ H,i<=xs.length->c i σ H->SqB b K H a xs)
  (f:∀i x σ H,xs[i]?=some x->c i σ H->g x σ H λk j=>tb {nx:=c (i+1),rt:=rt,bk:=nx,ct:=c (i+1)} k j)(d:∀σ H,c xs.length σ H->nx σ H):Cv (Its K b a) g tb nx rt σ H:=
 Qm (D:={nx:=nx,rt:=rt,bk:=nx,ct:=nx}) c e hl f d
theorem Ho{b:Bool}{a:Addr}{xs:List V}(c:Nat->St->Hp->Prop)(e:c 0 σ H)(hl:∀i σ H,i<=xs.length->c i σ H->SqB b K H a xs)
  (f:∀i x p σ H,xs[i]?=some x->c i σ H->H p=none->g (.ref p) σ (upd H p (.tup [.int i,x])) λk j=>tb {nx:=c (i+1),rt:=rt,bk:=nx,ct:=c (i+1)} k j)(d:∀σ H,c xs.length σ H->nx σ H):Cv (Ite K b a) g tb nx rt σ H:=
 Ql (D:={nx:=nx,rt:=rt,bk:=nx,ct:=nx}) c e hl f d
end
theorem gE{b1 b2:Bool}{K:Frag}{H:Hp}{a:Addr}{c:List (LI')}{i k:Nat}{r:LI'}{x:Int}{I b:Int}{Q:VK}(h:MatB b1 b2 K H a c)(e:c[i]?=some r)(d:r[k]?=some x)(hi:I=i)(j:b=k)(q:Q (.int x) H):
  rIxB K (.ref a) (.int I) H λv g=>rIxB K v (.int b) g Q:=by
 obtain⟨ps,p,k1,k2,k3,f⟩:=h.row e;exact⟨b1,a,_,_,_,rfl,rfl,k1,jH k2 hi,b2,p,_,_,_,rfl,rfl,f,jH (gR d) j,q⟩
theorem Qe{b1 b2:Bool}{K:Frag}{H:Hp}{a:Addr}{b:List (LI')}{i:Nat}{r:LI'}{I:Int}{Q:VK}(h:MatB b1 b2 K H a b)(e:b[i]?=some r)(hi:I=i)(q:∀p,SqB b2 K H p (r.map V.int)->Q (.ref p) H):
  rIxB K (.ref a) (.int I) H Q:=by
 obtain⟨ps,p,k1,k2,k3,c⟩:=h.row e;exact⟨b1,a,_,_,_,rfl,rfl,k1,jH k2 hi,q p c⟩
theorem fM{b1 b2:Bool}{K:Frag}{H:Hp}{a:Addr}{b:List (LI')}{Q:VK}(h:MatB b1 b2 K H a b)(q:Q (.int b.length) H):eT K [.ref a] H Q:=by
 obtain⟨ps,c,d,e⟩:=h;refine⟨b1,a,_,rfl,c,?_⟩;rw[yM,d];exact q
theorem Cu{b:Bool}{K:Frag}{H:Hp}{a:Addr}{ns:LI'}{Q:VK}(h:SqB b K H a (ns.map V.int))(q:Q (.int ns.length) H):eT K [.ref a] H Q:=by
 refine⟨b,a,_,rfl,h,?_⟩;rw[yM];exact q
def Itq(lo st:Int)(n:Nat):It:=⟨λi _=>i<n,λi H x H'=>H'=H/\x=.int (lo+i*st),λi _=>n<=i⟩
def kY(a:Addr)(H:Hp)(zs:List V)(M:List (LI')):Prop:=∃ps:LA,zs=ps.map V.ref/\ps.length=M.length/\∀(j:Nat)(p:Addr)(r:LI'),ps[j]?=some p->M[j]?=some r->p≠a/\H p=some (.lst (r.map V.int))
theorem kY.nil{a:Addr}{H:Hp}:kY a H [] []:=⟨[],rfl,rfl,λj p r e=>by simp at e⟩
theorem kY.len{a:Addr}{H:Hp}{zs:List V}{M:List (LI')}(h:kY a H zs M):zs.length=M.length:=let ⟨ps,e,l,_⟩:=h;by rw[e,yM,l]
theorem kY.mono{a:Addr}{H H':Hp}{zs:List V}{M:List (LI')}(h:kY a H zs M)(s:jO a H H'):kY a H' zs M:=let ⟨ps,e,l,q⟩:=h;⟨ps,e,l,λj p r e1 b=>⟨(q j p r e1 b).1,s _ _ (q j p r e1 b).1 (q j p r e1 b).2⟩⟩
theorem kY.snoc{a p:Addr}{H:Hp}{zs:List V}{M:List (LI')}{r:LI'}(h:kY a H zs M)(ne:p≠a)(f:H p=some (.lst (r.map V.int))):kY a H (zs++[.ref p]) (M++[r]):=by
 obtain⟨ps,rfl,c,e⟩:=h;refine⟨ps++[p],by simp,by simp[c],λi q z e1 b=>?_⟩
 by_cases hi:i<ps.length
 ·rw[yB hi]at e1;rw[yB ⋯]at b;exact e i q z e1 b
 ·have d:i=ps.length:=by
   have:=(nF.mp e1).1;simp at this;omega
  subst d;rw[zX (zE _)]at e1;rw[c,zX (zE _)]at b;simp at e1 b;subst e1 b;exact⟨ne,f⟩
theorem kY.mat{a:Addr}{H:Hp}{zs:List V}{M:List (LI')}(h:H a=some (.lst zs))(r:kY a H zs M):MatL H a M:=by
 obtain⟨ps,rfl,b,c⟩:=r;exact⟨ps,h,b,c⟩
theorem Ct(ns:LI')(lo hi:Option Int):cutV (ns.map V.int) lo hi=((ns.drop (HT.sIx ns.length 0 lo)).take (HT.sIx ns.length ns.length hi-HT.sIx ns.length 0 lo)).map V.int:=by
 unfold cutV;rw[yM,List.map_take,List.map_drop]
theorem Qd{ns:LI'}{k:Nat}(h:k<=ns.length):cutV (ns.map V.int) none (some (k:Int))=(ns.take k).map V.int:=by
 rw[Ct,HT.sIx_none,HT.sIx_nat,pS h];simp
theorem Qb{ns:LI'}{k:Nat}(h:k<=ns.length):cutV (ns.map V.int) (some (k:Int)) none=(ns.drop k).map V.int:=by
 rw[Ct,HT.sIx_none,HT.sIx_nat,pS h,yJ (by simp)]
section
variable {K:Frag} {H:Hp} {a a1:Addr} {M:List (LI')} {σ:St} {Q:VK} {b1 b2:Bool}
def MatT(H:Hp)(a:Addr)(rows:List (LI')):Prop:=∃ps:LA,H a=some (.lst (ps.map V.ref))/\ps.length=rows.length/\∀(i:Nat)(p:Addr)(r:LI'),ps[i]?=some p->rows[i]?=some r->H p=some (.tup (r.map V.int))
theorem Qa(C:MatB b1 false K H a M)(hl:M.length<=1000)(v:H a1=none)(L:∀b,Same H b->MatT b a1 M->Q (.ref a1) b):kL (Its K b1 a) (nX 0) (tEl (tCB (eX K) (mH (tVar 0) tNil))) 1 [] σ a1 H Q:=by
 obtain⟨xs,w,T,N⟩:=C.walk;refine kX (λj y b=>∃p r,y=.ref p/\M[j]?=some r/\p≠a1/\b p=some (.tup (r.map V.int))) v w ⋯ (λi y b S⟨p,r,e1,c,d,g⟩s=>⟨p,r,e1,c,d,s _ _ d g⟩) ?_ ?_
 ·intro i x b zs P f J U O;obtain⟨p,r,rfl,I,G⟩:=N i x P;exact⟨_,rfl,p,_,rfl,.inl ⟨G.up f,λl k=>O _ _ (Same.new k) ⟨l,r,rfl,I,zT (lI J k),nN⟩⟩⟩
 ·intro b ys f e1 t n;have D:∃ps:LA,ys=ps.map V.ref:=by
   clear e1 t;have:∀(zs:List V),(∀(j:Nat) y,zs[j]?=some y->∃p:Addr,y=.ref p)->∃ps:LA,zs=ps.map V.ref:=by
    intro zs
    induction zs with
    |nil=>intro _;exact⟨[],rfl⟩
    |cons z r u =>
     intro o;obtain⟨p,e⟩:=o 0 z rfl;obtain⟨ps,c⟩:=u λj y q=>o (j+1) y (by simpa using q);exact⟨p:: ps,by rw[e,c];rfl⟩
   exact this ys λj y e=>let ⟨p,r,e1,_⟩:=n j y e;⟨p,e1⟩
  obtain⟨ps,rfl⟩:=D;refine L b f ⟨ps,e1,by simp at t;omega,λi p r c d=>?_⟩;obtain⟨R,W,g,m,_,F⟩:=n i (.ref p) (by simp[c]);cases g;rw[d]at m;cases m;exact F
theorem MatT.tuple{l:Addr}(h:MatT H a M)(hl:H l=none):∃zs,H a=some (.lst zs)/\MatB true true K (upd H l (.tup zs)) l M:=by
 obtain⟨ps,b,c,d⟩:=h;exact⟨_,b,ps,SqB.tup nN,c,λi p r e1 e=>SqB.tup (Same.new hl _ _ (d i p r e1 e))⟩
end
theorem Rz{X:Cx}{x:Str}{v:V}{b:Pos}(a:Gl X x)(h:∃u,X.mg x=some u/\RelV v u)(c:(x == ("__debug__" :Str))=false:=by decide):PE X (.Name x b) (tC v):=by
 obtain⟨u,e,r⟩:=h;exact fY a e r c
def MkI(te:TE)(n:Int):Prop:=∀σ H Q,Q (.int n) H->te σ H Q
def MkIs(ta:TA)(ns:LI'):Prop:=∀σ H Q,Q (ns.map V.int) H->ta σ H Q
def MkR(te:TE)(ns:LI'):Prop:=∀σ H Q,(∀p H',Same H H'->H p=none->H' p=some (.lst (ns.map V.int))->Q (.ref p) H')->te σ H Q
def MkRs(ta:TA)(M:List (LI')):Prop:=∀σ H Q,(∀ps H',Same H H'->RefRowsN H H' ps M->Q (ps.map V.ref) H')->ta σ H Q
where RefRowsN (H H':Hp) (ps:LA) (M:List (LI')):Prop:=ps.length=M.length/\∀(j:Nat)(p:Addr)(r:LI'),ps[j]?=some p->M[j]?=some r->H' p=some (.lst (r.map V.int))
def MkM(te:TE)(M:List (LI')):Prop:=∀σ H Q,(∀p H',Same H H'->H p=none->MatL H' p M->Q (.ref p) H')->te σ H Q
def Mats(H:Hp)(p:Addr)(Ms:List (List (LI'))):Prop:=∃ps:LA,H p=some (.lst (ps.map V.ref))/\ps.length=Ms.length/\∀(i:Nat)(q:Addr)(M:List (LI')),ps[i]?=some q->Ms[i]?=some M->MatL H q M
def MkMs(ta:TA)(Ms:List (List (LI'))):Prop:=∀σ H Q,(∀(ps:LA) H',Same H H'->ps.length=Ms.length->(∀(i:Nat)(q:Addr)(M:List (LI')),ps[i]?=some q->Ms[i]?=some M->MatL H' q M)->Q (ps.map V.ref) H')->ta σ H Q
def MatD(H0 H:Hp)(a:Addr)(rows:List (LI')):Prop:=∃ps:LA,H a=some (.lst (ps.map V.ref))/\ps.length=rows.length/\ps.Nodup/\∀(i:Nat)(p:Addr)(r:LI'),ps[i]?=some p->rows[i]?=some r->p≠a/\H0 p=none/\H p=some (.lst (r.map V.int))
theorem MatD.l{f H:Hp}{a:Addr}{d:List (LI')}(h:MatD f H a d):MatL H a d:=let ⟨ps,e,g,_,b⟩:=h;⟨ps,e,g,λi p r e1 c=>⟨(b i p r e1 c).1,(b i p r e1 c).2.2⟩⟩
theorem MatD.up{d H H':Hp}{a:Addr}{e:List (LI')}(h:MatD d H a e)(s:Same H H'):MatD d H' a e:=let ⟨ps,f,g,n,b⟩:=h;⟨ps,s _ _ f,g,n,λi p r e1 c=>⟨(b i p r e1 c).1,(b i p r e1 c).2.1,s _ _ (b i p r e1 c).2.2⟩⟩
theorem MatD.row{g H:Hp}{a:Addr}{d:List (LI')}{i:Nat}{r:LI'}(h:MatD g H a d)(e:d[i]?=some r):∃zs p,H a=some (.lst zs)/\zs[i]?=some (.ref p)/\zs.length=d.length/\p≠a/\g p=none/\H p=some (.lst (r.map V.int))/\∀f,MatD g (upd H p (.lst (f.map V.int))) a (d.set i f):=by
 obtain⟨ps,n,t,m,l⟩:=h;have hi:i<ps.length:=by have:=(nF.mp e).1;omega
 have b:=l i ps[i] r (by simp[hi]) e;refine⟨_,ps[i],n,by simp[hi],by simp[t],b.1,b.2.1,b.2.2,λf=>⟨ps,by rw[nO (zT b.1)];exact n,by simp[t],m,λj q z e1 c=>?_⟩⟩
 by_cases k:j=i
 ·subst k;have v:q=ps[j]:=by simp[hi]at e1;exact e1.symm
  subst v;rw[xR ⋯]at c;cases c;exact⟨b.1,b.2.1,nN⟩
 ·rw[vY (zT k)]at c;obtain⟨y,u,C⟩:=l j q z e1 c;have:q≠ps[i]:=λw=>by
   have o:=(nF.mp e1);obtain⟨o,x⟩:=o;exact k ((List.getElem_inj m).mp (x.trans w))
  exact⟨y,u,by rw[nO this];exact C⟩
def isList:Expr->Bool
 |.List _ _=>true
 |_=>false
section
variable {X:Cx}
theorem Hn:∀{bs:List Bool}{its:LW},Vals (bs.map V.bl) its->∀(i:Nat)(v:Value),its[i]?=some v->∃b,bs[i]?=some b/\v=.bool b
 |[],_,.nil,i,v,e=>by simp at e
 |b:: r,_,.cons h q,i,v,e=>by
  cases i with
  |zero=>simp at e;subst e;exact⟨b,rfl,h⟩
  |succ i=>simpa using Hn (bs:=r) q i v (by simpa using e)
theorem Hm:∀bs:List Bool,((List.range bs.length).any λi=>(bs[i]?).getD false)=bs.any id
 |[]=>rfl
 |b:: bs=>by
  have a:=Hm bs;rw[zR,List.range_succ_eq_map,qT,qT,List.any_map];show(b || _)=(b || _);congr 1
theorem Ry(d:X.calm=true):kD X (.builtin "any") (λxs H Q=>∃(p:Addr)(bs:List Bool),xs=[.ref p]/\SqL X.K H p (bs.map V.bl)/\Q (.bl (bs.any id)) H):=by
 intro z s t H xs us Q I r h;obtain⟨p,bs,rfl,f,q⟩:=h;obtain⟨u,rfl,g⟩:=jM r;cases g;obtain⟨its,c,pl,w⟩:=I.list f;have hl:s.heap.IsList p its.toArray:=pl.isList;have l:p<s.heap.objs.size:=by obtain⟨_,e,_⟩:=hl;exact zK e
 have j:its.toArray.size=bs.length:=by
  have:=c.length;simpa using this.symm
 refine call_any_walk (sU hl ?_);refine⟨s.heap.objs.size,[s.heap.objs.size,p],[s.heap.objs.size],its.toArray.size,_,_,λi=>(bs[i]?).getD false,rfl,Walks.list (A:=X.A.in1) (I.ok.hd d) _ p (zW l) its.toArray,
  ⟨⟨_,zQ _ rfl,rfl,rfl⟩,hl.push _⟩,λi v y o C k a=>?_,λh' tk n=>?_⟩
 ·obtain⟨b,e,rfl⟩:=Hn c i v (by simpa using k);simp only[e,Option.getD_some]at a;exact uX a
 ·rw[j,Hm bs];refine⟨.bl (bs.any id),H,I.kept (t':=tk) λb x e=>n b x (λm=>by rw[oP.mp m]at e;exact yZ _ (zK e)) (zC _ e),rfl,q⟩
end
section
variable {prog:Program} {w:World} {A:Around} {E:VP} {s:Shared}
theorem Rx{env:Env}{a:List Expr}{g}{f:Pos}{b:Addr}{items:Array Value}{Q:Unit->Shared->Prop}(hh:A.handled=none)(d:s.heap.IsList b items)
  (e:(assignEach a env).length=items.size)(c:(assignEach a env).findIdx? (·.1)=none)
  (h:∀h',Heap.ExtBut s.heap.objs.size s.heap h'->wpAny (model prog w) A (assignInOrder ((assignEach a env).map (·.2)) items.toList) Q E {s with heap:=h'}):
  wpAny (model prog w) A (assign (.Tuple a g f) env (.ref b)) Q E s:=by
 rw[assign_Tuple];refine zA (wF ?_);unfold unpack;rw[e,c];exact zA (yN (PySem.W.kun_itemsOf hh d h))
end
section
variable {X:Cx} {pos:Pos}
def Rv(K:Frag)(n:Nat)(t:TGs):TG:=λv σ H Q=>∃b a xs,v=.ref a/\SqB b K H a xs/\xs.length=n/\t xs σ H Q
theorem Ru{es:List Expr}{k:Nat}{l:TGs}{n:Nat}(i:X.calm=true)(h:PGs X es l)
  (m:(assignEach es X.env).length=n:=by rfl)(p:(assignEach es X.env).findIdx? (·.1)=none:=by rfl):PG X (.Tuple es k pos) (Rv X.K n l):=by
 intro f s d H v u Q I r c;obtain⟨b,a,xs,e1,g,hl,c⟩:=c;cases b with
 |true=>exact gO i h m p f s d H v u Q I r ⟨a,xs,e1,g,hl,c⟩
 |false =>
  subst e1;cases r;obtain⟨its,j,pl,w⟩:=I.list g;refine Rx (I.ok.hd i) pl.isList (by simp[m,←hl,j.length]) p λh' q=>?_;have t:Inv X f d H {s with heap:=h'}:=I.kept (t':=s.toks) λb o e=>q b o (zW (zK e)) e;exact h f _ d H xs _ Q t (by simpa using j) c
end
section
variable {prog:Program} {w:World} {A:Around} {E:VP} {s:Shared}
set_option maxRecDepth 100000 in
end
open Builtin Builtin.Str
section
variable {X:Cx}
def Rt:List V->Hp->VK->Prop:=λxs H Q=>∃n:Nat,xs=[.int n]/\n<=1000/\∀l,H l=none->Q (.ref l) (upd H l (.lst ((List.range n).map λ(i:Nat)=>V.int (i:Int))))
theorem Rr{a:Expr}{t:TA}{R k W f:Pos}(O:X.calm=true)(M:Gl X "list")(Z:X.mg "list"=none)(J:Gl X "range")(L:X.mg "range"=none)(F:PA X [a] t)
  (G:bootBuiltins "list"=some (.type "list"):=by decide +kernel)(T:starEach [a] X.env=[(false,eval a X.env)]:=by rfl)
  (m:starEach [.Call (.Name "range" k) [a] [] f] X.env=[(false,eval (.Call (.Name "range" k) [a] [] f) X.env)]:=by rfl):
  PE X (.Call (.Name "list" R) [.Call (.Name "range" k) [a] [] f] [] W) (tCB Rt t):=by
 intro K s P H Q I h;refine wC (gL I M Z G ?_);refine xV ?_ (by rw[m];rfl) (by rfl);rw[m];show wpAny _ _ (spliced ((false,eval (.Call (.Name "range" k) [a] [] f) X.env):: [])) _ _ s;refine Calls.spliced_cons ?_;refine wC (gL I J L boot_range ?_);refine xV (thn (F f K s P H _ I h) λus c⟨vs,a1,l,r1,U⟩=>?_) (by rw[T];rfl) (by rfl);obtain⟨n,e,p,q⟩:=U;subst e;obtain⟨u,rfl,D⟩:=jM r1;obtain⟨j,rfl⟩:=D;refine call_range_1 ?_;refine Calls.spliced_nil ?_;have k1:∀b o,c.heap.get? b=some o->(c.heap.push {cls:=.type "range",data:=.fields #[.int 0 c.toks,.int n j,.int 1 (c.toks+1)]}).get? b=some o:=λb o e=>zC _ e;refine call_list_range (n:=n) (l.ok.hd O) (IsRange.new ..) (small_one ∅ ∅ ⋯ ⋯) (by rw[rangeSize_one];split <;> omega) (yC p ∅) λh' tk w z a0 S C=>?_;have k2:∀b o,c.heap.get? b=some o->h'.get? b=some o:=λb o e=>a0 b o (k1 b o e);have v:c.heap.objs.size<=(c.heap.push {cls:=.type "range",data:=.fields #[.int 0 c.toks,.int n j,.int 1 (c.toks+1)]}).objs.size:=by simp[Heap.push]
 have Y:Vals ((List.range n).map λ(i:Nat)=>V.int (i:Int)) w.toList:=by
  obtain⟨r,N⟩:=C;have g:∀(xs:List V)(us:LW),xs.length=us.length->(∀(i:Nat)(x:V)(u:Value),xs[i]?=some x->us[i]?=some u->RelV x u)->Vals xs us:=by
   intro xs
   induction xs with
   |nil=>intro us hl _;cases us with
    |nil=>exact .nil
    |cons _ _=>cases hl
   |cons x xs y=>intro us hl hr;cases us with
    |nil=>cases hl
    |cons u us=>exact .cons (hr 0 x u rfl rfl) (y us (pG hl) λi x u e1 d=>hr (i+1) x u e1 d)
  refine g _ _ (by rw[yM,uZ,zL,r]) λi x u e1 d=>?_;rw[yI]at d;obtain⟨j,rfl⟩:=N i u d;rw[zH]at e1;have hi:i<n:=by rw[←r];exact(oX.mp d).1
  rw[xC hi]at e1;cases e1;exact⟨j,by rw[rT,oB]⟩
 exact⟨.ref _,_,l.laid (t':=tk) k2 v (show mI X.prog X.w _ h' _ (.lst _) from⟨by rw[yM,uZ];exact yC p ∅,w.toList,z,Y,by rw[Array.toArray_toList];exact S⟩),rfl,q _ (l.hok.fresh v)⟩
end
def qVar(i:Nat):TE:=λσ H Q=>match σ[i]? with
 |some (some v)=>Q v H
 |_=>False
theorem Rq{i:Nat}{a:St}{H:Hp}{Q:VK}(h:qVar i a H Q):tVar i a H Q:=by
 unfold qVar at h;split at h
 ·next v e=>exact⟨v,e,h⟩
 ·exact h.elim
theorem pq{X:Cx}(i:Nat){x:Str}{c:Pos}(a:X.N[i]?=some x:=by rfl)(e:Vis X.env.scope x:=by first|exact Or.inl rfl|exact Or.inr (Or.inl rfl)|exact Or.inr (Or.inr rfl))(d:(x == ("__debug__" :Str))=false:=by decide)
  (g:(x == ("__classdict__" :Str))=false:=by decide):PE X (.Name x c) (qVar i):=λf s b H Q I q=>pv i a e d g f s b H Q I (Rq q)
section
variable {X:Cx} {e:Expr} {ta:TE} {pos p p':Pos} {i:Int} {j:Nat}
theorem nY(a:PE X e ta):PE X (e.Subscript (.Constant (.int i) j p') pos) (tOp (rIxB X.K) ta (tC (.int i))):=mG ix_B a nK (λ_ _=>rfl)
theorem lC(m:X.mg "len"=none)(a:PE X e ta)(g:Gl X "len" := by rfl)(b:starEach [e] X.env=(false,eval e X.env):: starEach [] X.env:=by rfl):PE X (.Call (.Name "len" p) [e] [] pos) (tCB (eT X.K) (mH ta tNil)):=mS Qn g m (nofun) (nH a nI b) ∅ ∅ b rfl
end
section
variable {X:Cx} {sc scope:Scope} {fr:List (Str×Nat)} {x:Str} {px:Pos} {iter elt:Expr} {wi:TI} {te:TE} {N:List Str}
theorem lE{j:Pos}(l:X.env.scope=sc)(n:X.N=N)(i:bV sc N scope fr=true)(g:X.calm=true)(o:bW (jV sc scope) ([x]++fr.map (·.1)) 0 x=true)(hi:PI X (.Name x px) iter wi)
  (k:∀(e:Shared)(c:Hp)(f:LA),(lO X scope ([x]++fr.map (·.1)) e c f).env.scope=jV sc scope->PE (lO X scope ([x]++fr.map (·.1)) e c f) elt te)(m:∀x,foldedSetIterable iter X.env x=pure x:=by intro _;rfl):PE X (.ListComp elt [⟨.Name x px,iter,[],0⟩] scope j) (kW wi (nX 0) (tEl te) 1 fr):=
 hX (xs:=[x]) (jW l n i) g hi (λ_ _ _ h=>iH (i:=0) h rfl o) (λa b d h=>iM (k a b d h)) (zY _) m
theorem Rp{g f j:Pos}{y:Str}{i:Nat}(p:X.env.scope=sc)(o:X.N=N)(m:bV sc N scope fr=true)(l:X.calm=true)(n:X.N.Nodup)(t:X.N[i]?=some y)(hl:X.env.scope.names.lookup y=some .local)(v:bW (jV sc scope) ([x]++fr.map (·.1)) 0 x=true)(hi:PI X (.Name x px) iter wi)
  (u:∀(e:Shared)(c:Hp)(k:LA),(lO X scope ([x]++fr.map (·.1)) e c k).env.scope=jV sc scope->PE (lO X scope ([x]++fr.map (·.1)) e c k) elt te)
  (q:swapsWith (.ListComp elt [⟨.Name x px,iter,[],0⟩] scope g) (some (.Name y j)) f.line X.env=pure true:=by rfl)(r:∀x,foldedSetIterable iter X.env x=pure x:=by intro _;rfl):PS X (.Assign [.Name y j] (.ListComp elt [⟨.Name x px,iter,[],0⟩] scope g) f) (Gm i (kW wi (nX 0) (tEl te) 1 fr)):=
 Ba (xs:=[x]) (jW p o m) l n t hl hi (λ_ _ _ h=>iH (i:=0) h rfl v) (λa b d h=>iM (u a b d h)) q (zY _) r
end
structure FunT(K:Frag)(mg:MT)(x:Str)(st:Stmt)(f:Addr)(fd:FuncData)(ps:List Str):Prop extends Fun K x x st f fd where
 m:mg x=some (.ref f)
 b:lT K fd ps []
section
variable {X:Cx} {k:Nat} {f:Addr} {fd:FuncData} {ps:List Str} {sp:Sp} {x:Str} {st:Stmt} {p pos:Pos} {e:Expr} {es:List Expr} {t:TA}
theorem nS(F:FnOk X.prog X.w X.K X.mg X.base CX0 k f fd ps sp)(hr:Room k X.A)(c:FunT X.K X.mg x st f fd ps)(a:PA X (e:: es) t)(g:Gl X x:=by rfl)(d:(x == ("__debug__" :Str))=false:=by decide)
  (i:starEach (e:: es) X.env=(false,eval e X.env):: starEach es X.env:=by rfl)(b:(backTo pos (starEach es X.env)).any (·.1)=false:=by rfl):PE X (.Call (.Name x p) (e:: es) [] pos) (kJ sp [] E0 t):=bL F hr g c.m c.kp c.b .nil fJ a d i b
end
instance decPD:DecidableEq PyData:=λ_ _=>Classical.propDecidable _
def tT:Nat->PyData->Bool
 |_,.int _=>true
 |n+1,.tuple xs=>xs.all (tT n)
 |_,_=>false
theorem gF:∀(n:Nat)(d:PyData),tT n d=true->iT n d=true:=by
 intro n
 induction n with
 |zero=>intro d h;cases d <;> simp[tT]at h <;> simp[iT]
 |succ n b =>
  intro d h;cases d <;> simp[tT]at h
  ·simp[iT]
  ·simp only[iT,List.all_eq_true];exactλx a=>b x (h x a)
mutual
def iN:PyData->Int
 |.int i=>hashInt i
 |.tuple xs=>reduceHash (Builtin.Tuple.tupleHashOf (cL xs))
 |_=>0
def cL:List PyData->LI'
 |[]=>[]
 |d:: ds=>iN d:: cL ds
end
mutual
def iO:PyData->Nat
 |.tuple xs=>fN xs+1
 |_=>1
def fN:List PyData->Nat
 |[]=>0
 |d:: ds=>iO d+fN ds
end
section
variable {prog:Program} {w:World} {E:VP}
theorem Ro(n:Nat)(f:∀{A:Around}{s:Shared}{v:Value}{d:PyData}{as:LA}{Q:Int->Shared->Prop},tT n d=true->Reads s.heap v d as->A.units+n<cLine->Q (iN d) {s with toks:=s.toks+iO d}->wpAny (model prog w) A (pyHash v) Q E s):
  ∀(xs:List PyData)(vs:LW)(as:LA)(A:Around)(s:Shared)(b:Array Int)(Q:Array Int->Shared->Prop),xs.all (tT n)=true->ReadsAll s.heap vs xs as->A.units+n<cLine ->
  (∀a:Array Int,a.toList=b.toList++cL xs->Q a {s with toks:=s.toks+fN xs}) ->
  wpAny (model prog w) A (forIn vs b λx r=>do let h ←pyHash x;pure PUnit.unit;pure (ForInStep.yield (r.push h))) Q E s:=by
 intro xs
 induction xs with
 |nil =>
  intro vs as A s b Q _ r _ h;cases r;exact zB (h b (by simp[cL]))
 | cons d ds g =>
  intro vs as A s b Q c r e h;cases r with
  |cons r1 r2 =>
   rw[yV,zN]at c;rw[uR];refine zA (zA (f c.1 r1 e ?_));refine zA (zB (zB ?_));refine g _ _ A {s with toks:=s.toks+iO d} (b.push (iN d)) Q c.2 r2 e λa i=>?_;have:=h a (by rw[i];simp[cL]);rw[show s.toks+fN (d:: ds)=s.toks+iO d+fN ds by simp[fN,Nat.add_assoc]]at this;exact this
theorem Rn:∀(n:Nat){A:Around}{s:Shared}{v:Value}{d:PyData}{as:LA}{Q:Int->Shared->Prop},tT n d=true->Reads s.heap v d as->A.units+n<cLine->Q (iN d) {s with toks:=s.toks+iO d}->wpAny (model prog w) A (pyHash v) Q E s:=by
 intro n
 induction n with
 |zero =>
  intro A s v d as Q c r i h;cases r <;> simp[tT]at c;exact pL (by simpa [iN,iO]using h)
 | succ n f =>
  intro A s v d as Q c r i h;cases r <;> simp only[tT,Bool.false_eq_true]at c
  case int=>exact pL (by simpa [iN,iO]using h)
  case tuple a o vs m xs hg hc hd hr =>
   unfold pyHash;refine PySem.W.pyHash_slot (T:= "tuple") ⟨_,hg,hc⟩ PySem.F.slot_tuple_hash PySem.F.entry_tuple_hash (PySem.F.args_tuple_hash_1 _) (beq_builtin_none _) (.inr ⋯) ?_;show wpAny _ _ (Builtin.Tuple.tupleItemsOf (.ref a) >>= _) _ _ s;refine zA (uP hg hd ?_);refine zA ?_;rw[←Array.forIn_toList];refine Ro n f xs vs.toList _ A.in1 s #[] _ c hr (by show A.units+1+n<cLine;omega) λb g=>?_;show wpAny _ _ (retInt (Builtin.Tuple.tupleHashOf b.toList)) _ _ _;rw[g];refine zA (wpAny_mkInt (zB ⟨_,_,rfl,?_⟩));have e:s.toks+fN xs+1=s.toks+iO (.tuple xs):=by simp[iO,Nat.add_assoc]
   simp only[iN]at h;rw[←e]at h;exact h
theorem Rm:∀(n m:Nat),n<m->∀{A:Around}{s:Shared}{v:Value}{d:PyData}{as:LA}{Q:Bool->Shared->Prop},tT n d=true->Reads s.heap v d as->Q true s->wpAny (model prog w) A (eqIsQuiet m v) Q E s:=by
 intro n
 induction n with
 |zero =>
  intro m _ A s v d as Q b r h;cases r <;> simp[tT]at b;rw[eqIsQuiet_byValue _ rfl];exact zB h
 | succ n i =>
  intro m p A s v d as Q b r h;cases r <;> simp only[tT,Bool.false_eq_true]at b
  case int=>rw[eqIsQuiet_byValue _ rfl];exact zB h
  case tuple a o vs k xs hg hc hd hr =>
   obtain⟨m,rfl⟩:∃j,m=j+1:=⟨m-1,⋯⟩;have g:s.TypeIs (.ref a) "tuple" := ⟨o,hg,hc⟩;unfold eqIsQuiet;refine zA (wpAny_specialOf g PySem.F.slot_tuple_eq.lookup ?_);show wpAny _ _ (isInstance (.ref a) (.type "tuple") >>= _) _ _ s;refine zA (vM g rJ ?_);simp only[Bool.not_true,Bool.false_eq_true,if_false];refine zA (wK hg hd ?_);refine zA ?_;show wpAny _ _ (forIn vs _ _) _ _ s;rw[←Array.forIn_toList];refine pM _ (λrest q e=>q.1=none/\e=s/\∃ys bs,ys.all (tT n)=true/\ReadsAll s.heap rest ys bs) _ ?_ ?_ _ _ ⟨rfl,rfl,xs,_,b,hr⟩
   ·rintro u rest q e ⟨c,rfl,ys,bs,f,l⟩;cases l with
    |cons r1 r2 =>
     rw[yV,zN]at f;refine zA (i m ⋯ f.1 r1 ?_);simp only[Bool.not_true,Bool.false_eq_true,if_false];exact zB ⟨rfl,rfl,_,_,f.2,r2⟩
   ·rintro⟨r1,r2⟩ e ⟨c,rfl,_⟩;simp only at c;subst c;exact zB h
end
theorem Rl{h h':Heap}{x:Addr}{c:Obj}{es:Array DictEntry}{ep:Nat}(e:h.get? x=some c)(g:c.data=.dict es ep)(l:Heap.SameBut x h h'):∀(n:Nat){v:Value}{d:PyData}{as:LA},tT n d=true->Reads h v d as->Reads h' v d as:=by
 intro n
 induction n with
 |zero =>
  intro v d as b r;cases r <;> simp[tT]at b;exact .int _ _
 | succ n f =>
  have all:∀(xs:List PyData)(vs:LW)(as:LA),xs.all (tT n)=true->ReadsAll h vs xs as->ReadsAll h' vs xs as:=by
   intro xs
   induction xs with
   |nil=>intro vs as _ r;cases r;exact .nil
   | cons d ds j =>
    intro vs as b r;cases r with
    |cons r1 r2 =>
     rw[yV,zN]at b;exact .cons (f b.1 r1) (j _ _ b.2 r2)
  intro v d as b r;cases r <;> simp only[tT,Bool.false_eq_true]at b
  case int=>exact .int _ _
  case tuple a o vs k xs hg hc hdd hr =>
   have i:a≠x:=by
    rintro rfl;rw[e]at hg;cases hg;rw[g]at hdd;cases hdd
   exact .tuple ((l.2 a i).trans hg) hc hdd (all _ _ _ b hr)
def isT(h:Heap)(d:PyData)(a:Addr):Prop:=tT 4 d=true/\∃as,Reads h (.ref a) d as
def kZ(prog:Program)(w:World):HeapKind prog w PyData where
 is:=isT
 hash:=iN
 draws:=iO
 room:=λA=>A.units+8<cLine
 inj:=λ{h a x y}hx hy=>by
  obtain⟨t1,as,r1⟩:=hx;obtain⟨t2,bs,r2⟩:=hy;exact PySem.SeqAt.Reads.unique _ _ _ _ _ (gC 4 _ (gF 4 _ t1)).1 r1 r2
 keeps:=λ{h h' k a x o es ep}hk hx hd hs=>⟨hk.1,let ⟨as,r⟩:=hk.2;⟨as,Rl hx hd hs 4 hk.1 r⟩⟩
 pyHash:=λ{A E s k a Q}hu hk h=>let ⟨as,r⟩:=hk.2;Rn 4 hk.1 r ⋯ h
 eqBool:=λ{A E s x y a b Q}hu hx hy h=>by
  obtain⟨t1,as,r1⟩:=hx;obtain⟨t2,bs,r2⟩:=hy;have i1:=gF 4 _ t1;have i2:=gF 4 _ t2;have l1:=gC 4 _ i1;have l2:=gC 4 _ i2;refine PySem.SeqAt.eqBoolOverData _ _ _ _ _ _ _ _ _ _ _ _ r1 r2 l1.1 l2.1 ⋯ ?_;rw[←SeqAt.same_eq_eqv _ _ (aD 4 _ _ i1 i2)];have e:=aE 4 _ _ i1 i2
  by_cases z:x=y
  ·rw[zM z]at h;rw[e.mpr z];exact h
  ·rw[zJ z]at h;have:same x y=false:=by
    cases q:same x y with
    |false=>rfl
    |true=>exact absurd (e.mp q) z
   rw[this];exact h
 quiet:=λ{A E s k a Q}hk h=>let ⟨as,r⟩:=hk.2;Rm 4 8 ∅ hk.1 r h
def lD(a:Addr)(xs:List (PyData×Addr×Value)):HO:=.ext λh=>∃o es ep,h.get? a=some o/\o.ExactDict/\o.data=.dict es ep/\es.toList=xs.map λx=>⟨iN x.1,.ref x.2.1,x.2.2⟩
theorem Cs{o:Option V}{u:Option Value}(h:RelO o u):o.isSome=u.isSome:=by
 cases o <;> cases u <;> first|rfl|exact h.elim
def vT(kvs:List (PyData×V))(k:PyData):Option V:=(kvs.find? λkv=>decide (kv.1=k)).map (·.2)
def pT(kvs:List (PyData×V))(k:PyData)(v:V):List (PyData×V):=if(vT kvs k).isSome=true then kvs.map (λkv=>if kv.1=k then(kv.1,v) else kv) else kvs++[(k,v)]
theorem jI{p:PyData×V}{r:List (PyData×V)}{k:PyData}(e:p.1=k):vT (p:: r) k=some p.2:=by simp[vT,List.find?_cons,e]
theorem jJ{p:PyData×V}{r:List (PyData×V)}{k:PyData}(e:¬ p.1=k):vT (p:: r) k=vT r k:=by simp[vT,List.find?_cons,e]
abbrev KP(K:Frag)(H:Hp):List (PyData×V)->List (PyData×Addr×Value)->Prop:=Paired λp q=>p.1=q.1/\(tT 4 p.1=true/\Dt K H (.ref q.2.1) p.1)/\RelV p.2 q.2.2
structure DTr(K:Frag)(H:Hp)(a:Addr)(kvs:List (PyData×V)):Prop where
 len:kvs.length<=sizeLine
 sys:(a == sysModules)=false
 ex:∃xs,H a=some (lD a xs)/\(xs.map (·.1)).Nodup/\KP K H kvs xs
theorem KP.val{K:Frag}{H:Hp}{kvs:List (PyData×V)}{xs:List (PyData×Addr×Value)}(r:KP K H kvs xs)(k:PyData):RelO (vT kvs k) ((atKey xs k).map (·.2)):=by
 induction r with
 |nil=>exact True.intro
 | @cons p q ps a h i d =>
  obtain⟨c,_,f⟩:=h
  by_cases e:p.1=k
  ·have b:atKey (q:: a) k=some q.2:=by simp[atKey,List.find?_cons,c.symm.trans e]
   rw[jI e,b];exact f
  ·have g:¬ q.1=k:=λz=>e (c.trans z);have b:atKey (q:: a) k=atKey a k:=by simp[atKey,List.find?_cons,g]
   rw[jJ e,b];exact d
theorem KP.put{K:Frag}{H:Hp}{kvs:List (PyData×V)}{xs:List (PyData×Addr×Value)}(r:KP K H kvs xs)(k:PyData){b:Addr}{y:V}{u:Value}(tk:tT 4 k=true)(i:Dt K H (.ref b) k)(c:RelV y u):KP K H (pT kvs k y) (storedH xs k b u):=by
 have e:(vT kvs k).isSome=(atKey xs k).isSome:=by rw[Cs (r.val k),qV]
 unfold pT storedH;rw[e]
 by_cases q:(atKey xs k).isSome=true
 ·rw[zF q,zF q];clear e q
  induction r with
  |nil=>exact .nil
  |@cons p q ps j h l f =>
   rw[zO,zO];refine .cons ?_ f;obtain⟨a,d,g⟩:=h;unfold putAt
   by_cases e:p.1=k
   ·rw[zF e,zF (a.symm.trans e)];exact⟨a,d,c⟩
   ·rw[zD e,zD (λz=>e (a.trans z))];exact⟨a,d,g⟩
 ·rw[zD q,zD q];exact Paired.snoc r ⟨rfl,⟨tk,i⟩,c⟩
theorem jZ{K:Frag}{H H':Hp}(c:∀b xs,SqT K H b xs->SqT K H' b xs):∀(n:Nat){x:V}{d:PyData},tT n d=true->Dt K H x d->Dt K H' x d:=by
 intro n
 induction n with
 |zero =>
  intro x d h r;cases r <;> simp[tT]at h;exact .int _
 | succ n f =>
  have all:∀(ds:List PyData)(xs:List V),ds.all (tT n)=true->Dts K H xs ds->Dts K H' xs ds:=by
   intro ds
   induction ds with
   |nil=>intro xs _ r;cases r;exact .nil
   | cons d ds e =>
    intro xs h r;cases r with
    |cons r1 r2 =>
     rw[yV,zN]at h;exact .cons (f h.1 r1) (e _ h.2 r2)
  intro x d h r;cases r <;> simp only[tT,Bool.false_eq_true]at h
  case int=>exact .int _
  case tup a xs ds hq hr=>exact .tup (c _ _ hq) (all _ _ h hr)
theorem Hl{K:Frag}{H:Hp}{a:Addr}{o:HO}(c:∀xs,¬ Rd H a (.tup xs)):∀b xs,SqT K H b xs->SqT K (upd H a o) b xs:=λb xs h=>by
 rcases h with h|h
 ·have ne:b≠a:=λe=>c xs (e ▸ h);rcases h with h|⟨d,h⟩
  ·exact .inl (.inl (by rw[nO ne];exact h))
  ·exact .inl (.inr ⟨d,by rw[nO ne];exact h⟩)
 ·exact .inr h
theorem KP.keeps{K:Frag}{H H':Hp}{kvs:List (PyData×V)}{xs:List (PyData×Addr×Value)}(r:KP K H kvs xs)(a:∀b ys,SqT K H b ys->SqT K H' b ys):KP K H' kvs xs:=
 Paired.mapP r λ_ _ z=>⟨z.1,⟨z.2.1.1,jZ a 4 z.2.1.1 z.2.1.2⟩,z.2.2⟩
theorem lY{K:Frag}{H H':Hp}(s:Same H H'):∀b xs,SqT K H b xs->SqT K H' b xs:=λb xs h=>by
 rcases h with(h|⟨o,h⟩)|h
 ·exact .inl (.inl (s _ _ h))
 ·exact .inl (.inr ⟨o,s _ _ h⟩)
 ·exact .inr h
theorem DTr.up{K:Frag}{H H':Hp}{a:Addr}{kvs:List (PyData×V)}(h:DTr K H a kvs)(s:Same H H'):DTr K H' a kvs:=by
 obtain⟨l,y,xs,e,n,r⟩:=h;exact⟨l,y,xs,s _ _ e,n,r.keeps (lY s)⟩
section
variable {X:Cx} {pins:PN} {σ:St} {H:Hp} {s:Shared} {a:Addr}
theorem gS{k:PyData}{b:Addr}(I:Inv X pins σ H s)(tk:tT 4 k=true)(c:Dt X.K H (.ref b) k):(kZ X.prog X.w).is s.heap k b:=⟨tk,c.reads I rfl⟩
theorem gG{kvs:List (PyData×V)}(I:Inv X pins σ H s)(g:DTr X.K H a kvs):∃xs,H a=some (lD a xs)/\KP X.K H kvs xs/\s.heap.DictOfH (kZ X.prog X.w) a xs:=by
 obtain⟨_,_,xs,e,n,r⟩:=g;obtain⟨⟨o,es,ep,i,j,f,k⟩,_⟩:=(show mI X.prog X.w H s.heap a (lD a xs) from I.hok a _ e);refine⟨xs,e,r,o,es,ep,i,j,f,k,λx b=>?_,n⟩;have all:∀{l:List (PyData×V)}{m:List (PyData×Addr×Value)},KP X.K H l m->∀x∈m,(kZ X.prog X.w).is s.heap x.1 x.2.1:=by
  intro l m q
  induction q with
  |nil=>intro x b;exact nomatch b
  |@cons p q ps t c u d =>
   intro x b;rcases xM.mp b with e|b
   ·subst e;rw[←c.1];exact gS I c.2.1.1 c.2.1.2
   ·exact d x b
 exact all r x b
end
def aH(K:Frag):R2:=λx y H Q=>∃a kvs b k v,x=.ref a/\y=.ref b/\DTr K H a kvs/\tT 4 k=true/\Dt K H (.ref b) k/\vT kvs k=some v/\Q v H
def rInT(K:Frag)(neg:Bool):R2:=λy x H Q=>∃a kvs b k,x=.ref a/\y=.ref b/\DTr K H a kvs/\tT 4 k=true/\Dt K H (.ref b) k/\Q (.bl (if neg=true then !(vT kvs k).isSome else(vT kvs k).isSome)) H
def Rj(K:Frag):TSet:=λx y v H Q=>∃a kvs b k,x=.ref a/\y=.ref b/\DTr K H a kvs/\tT 4 k=true/\Dt K H (.ref b) k/\kvs.length<sizeLine/\∀H',(∀c o,c≠a->H c=some o->H' c=some o)->(∀c,c≠a->H' c=H c)->DTr K H' a (pT kvs k v)->Q H'
section
variable {X:Cx}
theorem ix_T(F:X.A.units+64<cLine):IxR X (aH X.K):=by
 intro C w D s t H x y v u Q I d f h m;obtain⟨a,kvs,b,k,z,rfl,rfl,g,tk,o,l,q⟩:=h;cases d;cases f;obtain⟨xs,e,r,dd⟩:=gG I g;obtain⟨w',j,i⟩:=RelO.some_of (v:=z) (o:=(atKey xs k).map (·.2)) (by rw[←l];exact r.val k);obtain⟨p,n,c⟩:=Option.map_eq_some_iff.mp j;refine uU (x:=w') dd.typeIs PySem.F.slot_dict_getitem.lookup ?_ m;refine wpAny_getItem_heap (knd:=kZ X.prog X.w) (show X.A.units+1+8<cLine by omega) (gS I tk o) dd n ⟨c,z,H,I.tok _,?_,q⟩;rw[c];exact i
theorem Ri(l:X.A.units+64<cLine):OpR X (compareOp .In) (rInT X.K false):=by
 intro j s i H x y v u Q I c d h;obtain⟨a,kvs,b,k,rfl,rfl,g,tk,f,q⟩:=h;cases c;cases d;obtain⟨xs,e,r,dd⟩:=gG I g;refine wpAny_in_heap (knd:=kZ X.prog X.w) (show X.A.units+1+8<cLine by omega) (gS I tk f) g.sys dd ?_;have e:=Cs (r.val k);rw[qV]at e;rw[←e];exact⟨.bl _,H,I.tok _,rfl,q⟩
theorem aI(l:X.A.units+64<cLine):OpR X (compareOp .NotIn) (rInT X.K true):=by
 intro j s i H x y v u Q I c d h;obtain⟨a,kvs,b,k,rfl,rfl,g,tk,f,q⟩:=h;cases c;cases d;obtain⟨xs,e,r,dd⟩:=gG I g;refine wpAny_notIn_heap (knd:=kZ X.prog X.w) (show X.A.units+1+8<cLine by omega) (gS I tk f) g.sys dd ?_;have e:=Cs (r.val k);rw[qV]at e;rw[←e];exact⟨.bl _,H,I.tok _,rfl,q⟩
theorem Cr(kvs:List (PyData×V))(k:PyData)(v:V):(pT kvs k v).length<=kvs.length+1:=by
 unfold pT;split
 ·rw[yM];omega
 ·rw[yA];exact zE _
theorem aJ{P:Program}{w:World}{H:Hp}{h:Heap}{a:Addr}{xs:List (PyData×Addr×Value)}{o:Obj}{es:Array DictEntry}{ep:Nat}(b:h.get? a=some o)(i:o.ExactDict)(d:o.data=.dict es ep)(l:es.toList=xs.map λx=>⟨iN x.1,.ref x.2.1,x.2.2⟩):mI P w H h a (lD a xs):=
 ⟨⟨o,es,ep,b,i,d,l⟩,⟨o,b⟩,λm n⟨c,e,f,g,j⟩k=>⟨c,e,f,k c g,j⟩⟩
theorem cM(N:X.A.units+64<cLine):PSet X (Rj X.K):=by
 intro L s M H o i v J K u Q I n m C h;obtain⟨a,kvs,b,k,rfl,rfl,g,tk,l,hl,q⟩:=h;cases n;cases m;obtain⟨xs,e,r,dd⟩:=gG I g;have D:xs.length<=sizeLine:=by rw[←Paired.length r];exact g.len
 have x:∀ys,¬ Rd H a (.tup ys):=λys z=>by
  rcases z with z|⟨j,z⟩
  ·rw[e]at z;cases z
  ·rw[e]at z;cases z
 refine wpAny_setItem_heap (knd:=kZ X.prog X.w) (hsz:=D) (show X.A.units+1+8<cLine by omega) (gS I tk l) dd λh' G t=>?_;obtain⟨j,es,ep,f,w,y,p,_,F⟩:=G;refine⟨upd H a (lD a (storedH xs k b u)),I.write (x:=a) (e:=a) (by rw[e];exact True.intro) (.inl rfl) (λc o d z=>(t.2 c d).trans z) ⟨j,f⟩ (aJ f w y p),?_⟩;refine q _ (λc o d z=>by rw[nO d];exact z) (λc d=>nO d) ⟨by have:=Cr kvs k v;omega,g.sys,_,nN,F,(r.put k tk l C).keeps (Hl x)⟩
end
section
variable {X:Cx} {pos:Pos}
theorem aK{b:PN}{a:St}{H:Hp}{s:Shared}(I:Inv X b a H s):sysModules<s.heap.objs.size:=
 Nat.lt_trans ∅ (show mainGlobals<s.heap.objs.size from(I.mod.glob.keeps I.bk).lt)
theorem Hk{P:Program}{w:World}{H:Hp}(h:Heap):mI P w H (h.push {cls:=.type "dict",data:=.dict #[]}) h.objs.size (lD h.objs.size []):=
 aJ (es:=#[]) (ep:=0) (zQ _ rfl) ⟨rfl,rfl,rfl⟩ rfl rfl
theorem Hj{K:Frag}{H:Hp}{p:Addr}(a:(p == sysModules)=false)(e:H p=some (lD p [])):DTr K H p []:=⟨zY _,a,[],e,tJ,.nil⟩
def Cq(K:Frag):TE:=λ_ H Q=>∀p,H p=none->DTr K (upd H p (lD p [])) p []->Q (.ref p) (upd H p (lD p []))
theorem Hi:PE X (.Dict [] [] pos) (Cq X.K):=λb s a H Q I h =>
 wpAny_Dict_empty ⟨.ref s.heap.objs.size,_,I.laid (a:=s.heap.objs.size) (o:=lD s.heap.objs.size []) (t':=s.toks) (λ_ _ q=>zC _ q) (zE _) (Hk s.heap),rfl,
  h _ (I.hok.fresh (zE _)) (Hj (oV.mpr (zT (zW (aK I)))) nN)⟩
def Cp(K:Frag)(tk tv:TE):TE:=λσ H Q=>∀p,H p=none->tk σ (upd H p (lD p [])) λx H1=>tv σ H1 λy H2=>∃b d,x=.ref b/\tT 4 d=true/\Dt K H2 (.ref b) d/\H2 p=some (lD p [])/\∀H3,(∀c,c≠p->H3 c=H2 c)->DTr K H3 p [(d,y)]->Q (.ref p) H3
theorem Hh{k v:Expr}{tk p:TE}(a2:X.A.units+64<cLine)(a0:PE X k tk)(N:PE X v p):PE X (.Dict [some k] [v] pos) (Cp X.K tk p):=by
 intro l s n H Q I q;have C:=I.hok.fresh (zE s.heap.objs.size);have m:(s.heap.objs.size == sysModules)=false:=oV.mpr (zT (zW (aK I)));have T:=I.laid (a:=s.heap.objs.size) (o:=lD s.heap.objs.size []) (h':=s.heap.push {cls:=.type "dict",data:=.dict #[]}) (t':=s.toks) (λ_ _ q=>zC _ q) (zE _) (Hk s.heap);rw[arm_eval_Dict,zip_pairTrees [some k] [v] X.env pos rfl rfl,dictDisplay_pairs (pairTrees [some k] [v] X.env pos) (by intro e;cases e) (show 1<17 by decide)];refine zA (wF (zA ?_));unfold subDict;refine zA (wpAny_alloc ?_);refine zA (yN ?_);rw[zF (show(pairTrees [some k] [v] X.env pos).length<=15 from(show 1<=15 by decide))];refine zA (pairTrees_cons_walk (thn (a0 l _ n _ _ T (q _ C)) λu K⟨x,F,W,L,P⟩=>thn (N l K n F _ W P) λD a1⟨y,j,g,V,b,d,M,f,w,e,G⟩=>pairTrees_nil_walk ?_));subst M;cases L;refine yN ?_;obtain⟨xs,a3,r,dd⟩:=gG g (Hj m e);cases r;refine zA ?_;rw[uR];refine zA (zA (wpAny_dictSet_heap (knd:=kZ X.prog X.w) (hsz:=zY _) (show X.A.units+8<cLine by omega) (gS g f w) dd λh' Z O=>zB ?_));refine zB (zB (zB (zB ?_)));obtain⟨t,es,ep,i,R,U,J,_,Y⟩:=Z;have S:∀ys,¬ Rd j s.heap.objs.size (.tup ys):=λys z=>by
  rcases z with z|⟨t,z⟩
  ·rw[e]at z;cases z
  ·rw[e]at z;cases z
 refine⟨.ref s.heap.objs.size,upd j s.heap.objs.size (lD s.heap.objs.size (storedH [] d b D)),g.write (x:=s.heap.objs.size) (e:=s.heap.objs.size) (by rw[e];exact True.intro) (.inl rfl) (λc o a z=>(O.2 c a).trans z) ⟨t,i⟩ (aJ i R U J),rfl,?_⟩;exact G _ (λc a=>nO a) ⟨by show 1<=sizeLine;decide,m,_,nN,Y,.cons ⟨rfl,⟨f,jZ (Hl S) 4 f w⟩,V⟩ .nil⟩
def Rh(K:Frag):V->List V->Hp->VK->Prop:=λx vs H Q=>∃a kvs b k,x=.ref a/\vs=[.ref b]/\DTr K H a kvs/\tT 4 k=true/\Dt K H (.ref b) k/\Q ((vT kvs k).getD .non) H
def tBMR(K:Frag)(r:V->List V->Hp->VK->Prop)(to:TE)(ta:TA):TE:=λσ H Q=>to σ H λx H1=>(∃a kvs,x=.ref a/\DTr K H1 a kvs)/\ta σ H1 λvs H2=>r x vs H2 Q
theorem Rg{T:String}{o e:Expr}{es:List Expr}{name:Str}{id:String}{j b:Pos}{l:TE}{i:TA}{r:V->List V->Hp->VK->Prop}(z:PlainAttrs "dict")(p:Slot "dict" name id)(K:typeOf (.builtin id)=pure (.type "method_descriptor"))(F:MtM X id r)(M:PE X o l)(C:PA X (e:: es) i)
  (n:attributeBase o name X.env (eval o X.env)=eval o X.env:=by rfl)
  (D:((backTo b (starEach (e:: es) X.env)).all (λx=>!x.1) && (backToKw b (keywordEach [] X.env)).all (λx=>x.1.isSome)
   && decide ((e:: es).length+([]:List Keyword).length+(if([]:List Keyword).isEmpty then 0 else 1)<30))=true:=by rfl)
  (m:(j.endLine == b.line)=true:=by rfl)(G:starEach (e:: es) X.env=(false,eval e X.env):: starEach es X.env:=by rfl)(N:(backTo b (starEach es X.env)).any (·.1)=false:=by rfl):
  PE X (.Call (.Attribute o name j) (e:: es) [] b) (tBMR X.K r l i):=by
 intro c s d H Q I h;refine wpAny_Call_method_late n D m rfl (thn (M c s d H _ I h) λv y⟨x,u,k,r1,ty,J⟩=>?_);obtain⟨a,kvs,rfl,g⟩:=ty;cases r1;obtain⟨xs,O,r,dd⟩:=gG k g;refine⟨"dict",id,z,p,K,dd.typeIs,dictOfH_noDict dd,?_⟩;have f:=C b c y d u _ k J;rw[G]at f ⊢;refine sZ (by show(false || (backTo b (starEach es X.env)).any (·.1))=false;rw[N] <;> rfl) (uC ?_);exact thn f λus q⟨vs,t,L,r2,w⟩=>F c q d t (.ref a) vs _ us Q L rfl r2 w
theorem Rf{o:Option V}{u:Option Value}{d:V}{r:Value}(h:RelO o u)(a:RelV d r):RelV (o.getD d) (u.getD r):=by
 cases o <;> cases u <;> first|exact a|exact h.elim|exact h
theorem Re(m:X.A.units+64<cLine):MtM X "dict.get" (Rh X.K):=by
 intro l s j H x vs v us Q I c f h;obtain⟨a,kvs,b,k,rfl,rfl,g,tk,i,q⟩:=h;cases c;obtain⟨u,rfl,d⟩:=f.one;cases d;obtain⟨xs,e,r,dd⟩:=gG I g;refine call_meetsIn PySem.F.slot_dict_get dd.typeIs PySem.F.entry_dict_get (PySem.F.args_dict_get_2 _ _) (meetsH_dict_get (kZ X.prog X.w) a b g.sys) ⟨show X.A.units+1+8<cLine by omega,k,xs,gS I tk i,dd,⟨_,H,I.tok _,?_,q⟩⟩;exact Rf (r.val k) rfl
end
def jQ:Bool->Keyed->Array Keyed->Nat->Nat->Nat->StateT SortSt Sem (Option Nat):=sortPriv%PySem.Builtin.gallop
def fO(left:Bool)(key:Keyed)(arr:Array Keyed)(base i:Nat):StateT SortSt Sem (Option Bool):=do
 let x ←elem' arr (base+i)
 if left then lt' x key else return (←lt' key x).map (!·)
theorem Rc(left:Bool)(b:Keyed)(arr:Array Keyed)(base n a:Nat):jQ left b arr base n a=(do
 let mut lastofs:=0
 let mut ofs:=1
 let mut lo:=0
 let mut hi:=0
 let some right ←fO left b arr base a|return none
 if right then
  let c:=n-a
  for _ in[0:n] do
   if ofs≥c then break
   let some more ←fO left b arr base (a+ofs)|return none
   if !more then break
   lastofs:=ofs
   ofs:=2*ofs+1
  lo:=a+lastofs+1
  hi:=a+min ofs c
 else
  let c:=a+1
  for _ in[0:n] do
   if ofs≥c then break
   let some found ←fO left b arr base (a-ofs)|return none
   if found then break
   lastofs:=ofs
   ofs:=2*ofs+1
  lo:=a+1-min ofs c
  hi:=a-lastofs
 for _ in[0:n] do
  if lo≥hi then break
  let m:=lo+(hi-lo)/2
  let some more ←fO left b arr base m|return none
  if more then lo:=m+1 else hi:=m
 return some hi):=rfl
section
variable {prog:Program} {w:World} {A:Around} {E:VP} {s:Shared} {κ:PyProof.Rows.KeyKind} {kd:SortKind}
def Cmp(prog:Program)(w:World)(A:Around)(s:Shared)(κ:PyProof.Rows.KeyKind)(kd:SortKind):Prop:=
 ∀(E:VP)(x y:Value)(a b:κ.α)(Q:Bool->Shared->Prop),κ.keyOf x=some a->κ.keyOf y=some b->Q (κ.blt a b) s->wpAny (model prog w) A (keyLt' kd x y) Q E s
def ky(κ:PyProof.Rows.KeyKind)(p:Keyed):κ.α:=(κ.keyOf p.1).getD κ.dflt
def Gd(κ:PyProof.Rows.KeyKind)(p:Keyed):Prop:=∃a,κ.keyOf p.1=some a
def lq(κ:PyProof.Rows.KeyKind)(p q:Keyed):Bool:=κ.blt (ky κ p) (ky κ q)
theorem Hg{p:Keyed}(h:Gd κ p):κ.keyOf p.1=some (ky κ p):=by
 obtain⟨a,e⟩:=h;unfold ky;rw[e];rfl
theorem cN(c:Cmp prog w A s κ kd){st:SortSt}{x y:Keyed}{Q:Option Bool->SortSt->Prop}(d:kindOf st=kd)(a:Gd κ x)(b:Gd κ y)(h:Q (some (lq κ x y)) st):wpS (model prog w) A E s (lt' x y) Q st:=by
 rw[lt'_eq];refine zG (tD ?_);rw[d];refine zG (qE (vF (c _ x.1 y.1 _ _ _ (Hg a) (Hg b) ⟨rfl,?_⟩)));exact zI h
theorem kF{st:SortSt}{arr:Array Keyed}{i:Nat}{p:Keyed}{Q:Keyed->SortSt->Prop}(hi:arr[i]?=some p)(h:Q p st):wpS (model prog w) A E s (elem' arr i) Q st:=by
 rw[elem'_eq,hi];exact zI h
def bey(κ:PyProof.Rows.KeyKind)(left:Bool)(key p:Keyed):Bool:=if left=true then lq κ p key else !lq κ key p
theorem Rb(b:Cmp prog w A s κ kd){st:SortSt}{left:Bool}{a p:Keyed}{arr:Array Keyed}{base i:Nat}{Q:Option Bool->SortSt->Prop}(e:kindOf st=kd)(c:Gd κ a)(f:arr[base+i]?=some p)(d:Gd κ p)(h:Q (some (bey κ left a p)) st):
  wpS (model prog w) A E s (fO left a arr base i) Q st:=by
 unfold fO;refine zG (kF f ?_);unfold bey at h;cases left with
 |true =>
  rw[zF rfl]at h ⊢;exact cN b e d c h
 |false =>
  rw[zD (by simp)]at h ⊢;exact zG (cN b e c d (zI h))
theorem Hf{st:SortSt}{n lo hi:Nat}{B:Nat->Bool}{f:Nat->StateT SortSt Sem (Option Bool)}{Q:Option Nat->SortSt->Prop}
  (r:∀(i:Nat)(R:Option Bool->SortSt->Prop),i<n->R (some (B i)) st->wpS (model prog w) A E s (f i) R st)(g:lo<=hi)(o:hi<=n)(mono:∀i j,i<=j->j<n->B j=true->B i=true)(p:∀i,i<lo->B i=true)(u:∀i,hi<=i->i<n->B i=false)
  (h:∀k,k<=n->(∀i,i<k->B i=true)->(∀i,k<=i->i<n->B i=false)->Q (some k) st):
  wpS (model prog w) A E s (do
   let mut lo:=lo
   let mut hi:=hi
   for _ in[0:n] do
    if lo≥hi then break
    let m:=lo+(hi-lo)/2
    let some more ←f m|return none
    if more then lo:=m+1 else hi:=m
   return some hi) Q st:=by
 refine zG (wN (xH (I:=λx c a=>a=st/\∃lo hi,c=(none,lo,hi)/\lo<=hi/\hi<=n/\hi-lo+x<=n/\(∀i,i<lo->B i=true)/\∀i,hi<=i->i<n->B i=false)
  (Q:=λc a=>a=st/\∃k,c=(none,k,k)/\k<=n/\(∀i,i<k->B i=true)/\∀i,k<=i->i<n->B i=false) ?_ ?_ ⟨rfl,lo,hi,rfl,g,o,⋯,p,u⟩) ?_)
 ·rintro x c a _ v ⟨rfl,lo,hi,rfl,q,e,t,b,d⟩;dsimp only
  by_cases hl:lo≥hi
  ·rw[zF hl];exact zI ⟨rfl,hi,by rw[show lo=hi by omega],e,λi hi'=>b i ⋯,d⟩
  ·rw[zD hl];refine zG (r _ _ ⋯ ?_);dsimp only;cases hb:B (lo+(hi-lo)/2) with
   |true =>
    rw[zF rfl];refine zI ⟨rfl,_,_,rfl,⋯,e,⋯,λi hi'=>?_,d⟩;exact mono i _ ⋯ ⋯ hb
   |false =>
    rw[zD (by simp)];refine zI ⟨rfl,_,_,rfl,⋯,⋯,⋯,b,λi hi' l=>?_⟩;cases hbi:B i with
    |false=>rfl
    |true=>rw[mono _ i hi' l hbi]at hb;cases hb
 ·rintro c a ⟨rfl,lo,hi,rfl,q,e,t,b,d⟩;have:lo=hi:=⋯
  subst this;exact⟨rfl,lo,rfl,e,b,d⟩
 ·rintro c a ⟨rfl,k,rfl,e,b,d⟩;exact zI (h k e b d)
theorem cO(F:Cmp prog w A s κ kd){st:SortSt}{left:Bool}{q:Keyed}{arr:Array Keyed}{base n b:Nat}{B:Nat->Bool}{Q:Option Nat->SortSt->Prop}(I:kindOf st=kd)(G:Gd κ q)(v:b<n)
  (D:∀i,i<n->∃p,arr[base+i]?=some p/\Gd κ p/\bey κ left q p=B i)(mono:∀i j,i<=j->j<n->B j=true->B i=true)
  (h:∀k,k<=n->(∀i,i<k->B i=true)->(∀i,k<=i->i<n->B i=false)->Q (some k) st):wpS (model prog w) A E s (jQ left q arr base n b) Q st:=by
 have m:∀(i:Nat)(R:Option Bool->SortSt->Prop),i<n->R (some (B i)) st->wpS (model prog w) A E s (fO left q arr base i) R st:=λi R hi r=>by
  obtain⟨p,e1,z,y⟩:=D i hi;exact Rb F I G e1 z (by rw[y];exact r)
 rw[Rc];refine zG (m b _ v ?_);dsimp only;cases hh:B b with
 | true =>
  rw[zF rfl];refine zG (wN (xH (I:=λx c e=>e=st/\∃lo a,c=(none,lo,a)/\x+1<=a/\lo<a/\b+lo<n/\B (b+lo)=true)
   (Q:=λc e=>e=st/\∃lo a,c=(none,lo,a)/\lo<a/\b+lo<n/\B (b+lo)=true/\(n-b<=a\/(b+a<n/\B (b+a)=false))) ?_ ?_ ⟨rfl,0,1,rfl,zE _,⋯,v,hh⟩) ?_)
  ·rintro x c e _ C ⟨rfl,lo,a,rfl,u,g,f,d⟩;dsimp only
   by_cases hl:a≥n-b
   ·rw[zF hl];exact zI ⟨rfl,lo,a,rfl,g,f,d,.inl hl⟩
   ·rw[zD hl];refine zG (m _ _ ⋯ ?_);dsimp only;cases hb:B (b+a) with
    |true =>
     rw[zD (by simp)];exact zI ⟨rfl,_,_,rfl,⋯,⋯,⋯,hb⟩
    |false =>
     rw[zF ∅];exact zI ⟨rfl,lo,a,rfl,g,f,d,.inr ⟨⋯,hb⟩⟩
  ·rintro c e ⟨rfl,lo,a,rfl,u,g,f,d⟩;exact⟨rfl,lo,a,rfl,g,f,d,.inl ⋯⟩
  ·rintro c e ⟨rfl,lo,a,rfl,g,f,d,l⟩;dsimp only;refine Hf (lo:=b+lo+1) (hi:=b+min a (n-b)) m ⋯ ⋯ mono (λi hi=>mono i _ ⋯ f d) (λi hi t=>?_) h;rcases l with l|⟨l,o⟩
   ·omega
   ·cases hbi:B i with
    |false=>rfl
    |true=>rw[mono _ i ⋯ t hbi]at o;cases o
 | false =>
  rw[zD (by simp)];refine zG (wN (xH (I:=λx c e=>e=st/\∃lo a,c=(none,lo,a)/\x+1<=a/\lo<a/\lo<=b/\B (b-lo)=false)
   (Q:=λc e=>e=st/\∃lo a,c=(none,lo,a)/\lo<a/\lo<=b/\B (b-lo)=false/\(b+1<=a\/(a<=b/\B (b-a)=true))) ?_ ?_ ⟨rfl,0,1,rfl,zE _,⋯,zY _,hh⟩) ?_)
  ·rintro x c e _ C ⟨rfl,lo,a,rfl,u,g,f,d⟩;dsimp only
   by_cases hl:a≥b+1
   ·rw[zF hl];exact zI ⟨rfl,lo,a,rfl,g,f,d,.inl hl⟩
   ·rw[zD hl];refine zG (m _ _ ⋯ ?_);dsimp only;cases hb:B (b-a) with
    |true =>
     rw[zF rfl];exact zI ⟨rfl,lo,a,rfl,g,f,d,.inr ⟨⋯,hb⟩⟩
    |false =>
     rw[zD (by simp)];exact zI ⟨rfl,_,_,rfl,⋯,⋯,⋯,hb⟩
  ·rintro c e ⟨rfl,lo,a,rfl,u,g,f,d⟩;exact⟨rfl,lo,a,rfl,g,f,d,.inl ⋯⟩
  ·rintro c e ⟨rfl,lo,a,rfl,g,f,d,l⟩;dsimp only;refine Hf (lo:=b+1-min a (b+1)) (hi:=b-lo) m ⋯ ⋯ mono (λi hi=>?_) (λi hi t=>?_) h
   ·rcases l with l|⟨l,o⟩
    ·omega
    ·exact mono i _ ⋯ ⋯ o
   ·cases hbi:B i with
    |false=>rfl
    |true=>rw[mono _ i ⋯ t hbi]at d;cases d
end
section
variable {κ:PyProof.Rows.KeyKind}
def le'(κ:PyProof.Rows.KeyKind)(x y:Keyed):Prop:=lq κ y x=false
theorem kA{x y z:Keyed}(a:le' κ x y)(b:le' κ y z):le' κ x z:=KeyOrd.kle_trans (O:=κ.toKeyOrd) a b
theorem kG{x y:Keyed}(h:lq κ x y=true):le' κ x y:=KeyOrd.klt_asymm (O:=κ.toKeyOrd) h
theorem gH(x:Keyed):le' κ x x:=κ.irrefl _
abbrev Srt(κ:PyProof.Rows.KeyKind)(l:List Keyed):Prop:=l.Pairwise (le' κ)
structure MI(κ:PyProof.Rows.KeyKind)(A B out:List Keyed)(ia ib:Nat):Prop where
 pm:out.Perm (A.take ia++B.take ib)
 so:Srt κ out
 oa:∀x∈out,∀y∈A.drop ia,le' κ x y
 ob:∀x∈out,∀y∈B.drop ib,le' κ x y
theorem MI.symm{A B out:List Keyed}{ia ib:Nat}(h:MI κ A B out ia ib):MI κ B A out ib ia:=⟨h.pm.trans vS,h.so,h.ob,h.oa⟩
theorem Ra{A:List Keyed}{i k:Nat}:A.take (i+k)=A.take i++(A.drop i).take k:=by rw[qQ]
theorem MI.ext{A B out:List Keyed}{ia ib k:Nat}(h:MI κ A B out ia ib)(e:Srt κ A)(d:∀x∈(A.drop ia).take k,∀y∈B.drop ib,le' κ x y):MI κ A B (out++(A.drop ia).take k) (ia+k) ib:=by
 have f:Srt κ (A.drop ia):=tF (sT _ _) e;have cut:(A.drop ia).take k++A.drop (ia+k)=A.drop ia:=by rw[←oK];exact xU _ _
 have c:=nE.mp (show Srt κ ((A.drop ia).take k++A.drop (ia+k)) by rw[cut];exact f);refine⟨?_,nE.mpr ⟨h.so,c.1,λx b y a=>h.oa x b y (List.mem_of_mem_take a)⟩,λx b y a=>?_,λx b y a=>?_⟩
 ·rw[Ra,yK];refine(h.pm.append_right _).trans ?_;rw[yK];exact rH _ vS
 ·rcases oW.mp b with q|q
  ·exact h.oa x q y (by rw[←cut];exact yP _ a)
  ·exact c.2.2 x q y a
 ·rcases oW.mp b with q|q
  ·exact h.ob x q y a
  ·exact d x q y a
theorem aL{A:List Keyed}{i:Nat}{p:Keyed}(e:A[i]?=some p):A.drop i=p:: A.drop (i+1):=by
 obtain⟨h,rfl⟩:=nF.mp e;exact vZ h
theorem MI.push{A B out:List Keyed}{ia ib:Nat}{p:Keyed}(h:MI κ A B out ia ib)(c:Srt κ A)(e:A[ia]?=some p)(b:∀y∈B.drop ib,le' κ p y):MI κ A B (out++[p]) (ia+1) ib:=by
 have:=MI.ext (k:=1) h c (λx a y f=>by
  rw[aL e]at a;have d:x=p:=by simpa using a
  rw[d];exact b y f)
 rw[aL e]at this;simpa using this
theorem eZ{A:List Keyed}{i:Nat}{p q:Keyed}(d:Srt κ A)(e:A[i]?=some q)(h:le' κ p q):∀y∈A.drop i,le' κ p y:=λy a=>by
 have b:Srt κ (A.drop i):=tF (sT _ _) d;rw[aL e]at a b;rcases xM.mp a with c|a
 ·rw[c];exact h
 ·exact kA h ((List.pairwise_cons.mp b).1 y a)
def Res(κ:PyProof.Rows.KeyKind)(A B r:List Keyed):Prop:=r.Perm (A++B)/\Srt κ r
theorem MI.all{A B out:List Keyed}{ia ib:Nat}(h:MI κ A B out ia ib)(b:Srt κ A)(a:B.length<=ib):Res κ A B (out++A.drop ia):=by
 refine⟨?_,nE.mpr ⟨h.so,tF (sT _ _) b,h.oa⟩⟩;have:=h.pm;rw[yJ a]at this;refine(this.append_right _).trans ?_;rw[yK];refine(rH _ vS).trans ?_;rw[←yK,xU]
theorem Res.symm{A B r:List Keyed}(h:Res κ A B r):Res κ B A r:=⟨h.1.trans vS,h.2⟩
theorem MI.last{A B out:List Keyed}{ia ib:Nat}{p:Keyed}(h:MI κ A B out ia ib)(f:Srt κ B)(e:A[ia]?=some p)(hl:ia+1=A.length)(b:∀y∈B,le' κ y p):Res κ A B (out++B.drop ib++A.drop ia):=by
 have a:A.drop ia=[p]:=by rw[aL e,rB ⋯]
 rw[a];refine⟨?_,nE.mpr ⟨nE.mpr ⟨h.so,tF (sT _ _) f,h.ob⟩,sO _ _,λx d y g=>?_⟩⟩
 ·have c:A=A.take ia++[p]:=by rw[←a,xU]
  have:=(h.pm.append_right (B.drop ib)).append_right [p];refine this.trans ?_;rw[yK (A.take ia),xU,yK]
  conv=>rhs;rw[c]
  rw[yK];exact rH _ vS
 ·rw[oP.mp g];rcases oW.mp d with q|q
  ·exact h.oa x q p (by rw[a];exact List.mem_singleton_self _)
  ·exact b x (List.mem_of_mem_drop q)
theorem Co(a:Array Keyed)(i j:Nat):(a.extract i (i+j)).toList=(a.toList.drop i).take j:=by simp[Array.toList_extract,List.extract_eq_take_drop]
theorem dA(a:Array Keyed)(i:Nat):(a.extract i a.size).toList=a.toList.drop i:=by
 simp only[Array.toList_extract,List.extract_eq_take_drop];exact yJ (by rw[tL,zL];exact zE _)
end
section
variable {prog:Program} {w:World} {A:Around} {E:VP} {s:Shared} {κ:PyProof.Rows.KeyKind} {kd:SortKind}
structure MG(κ:PyProof.Rows.KeyKind)(a b:Array Keyed):Prop where
 sa:Srt κ a.toList
 sb:Srt κ b.toList
 ga:∀p∈a.toList,Gd κ p
 gb:∀p∈b.toList,Gd κ p
 na:1<=a.size
 nb:1<=b.size
 top:∀p,a[a.size-1]?=some p->∀y∈b.toList,le' κ y p
 fst:∀p q,b[0]?=some p->a[0]?=some q->le' κ p q
structure Sm(st st':SortSt):Prop where
 k:kindOf st'=kindOf st
 a:arrOf st'=arrOf st
 p:pendingOf st'=pendingOf st
 f:failedOf st'=failedOf st
theorem Sm.refl(st:SortSt):Sm st st:=⟨rfl,rfl,rfl,rfl⟩
theorem Sm.set{st a:SortSt}(h:Sm st a)(g:Nat):Sm st (SortSt.mk' (kindOf a) (arrOf a) (pendingOf a) g (failedOf a)):=⟨h.k,h.a,h.p,h.f⟩
theorem nW{a:Array Keyed}{i:Nat}{p:Keyed}:a[i]?=some p↔a.toList[i]?=some p:=by rw[yI]
theorem lQ{a:Array Keyed}{i:Nat}(h:i<a.size):∃p,a[i]?=some p:=⟨a[i],Array.getElem?_eq_getElem h⟩
theorem kR{st:SortSt}{arr:Array Keyed}{i:Nat}{Q:Keyed->SortSt->Prop}(hi:i<arr.size)(h:∀p,arr[i]?=some p->Q p st):wpS (model prog w) A E s (elem' arr i) Q st:=by
 obtain⟨p,e⟩:=lQ hi;exact kF e (h p e)
theorem gU{l:List Keyed}(d:Srt κ l){i j:Nat}{p q:Keyed}(h:i<=j)(e1:l[i]?=some p)(a:l[j]?=some q):le' κ p q:=by
 rcases uL i j with h'|h'
 ·obtain⟨b,rfl⟩:=nF.mp e1;obtain⟨c,rfl⟩:=nF.mp a;exact oU.mp d i j b c h'
 ·have:i=j:=⋯
  subst this;rw[e1]at a;cases a;exact gH _
theorem Cn{l:List Keyed}{i:Nat}{x:Keyed}(h:x∈l.drop i):∃j,i<=j/\l[j]?=some x:=by
 obtain⟨j,a,rfl⟩:=wP h;exact⟨i+j,⋯,by rw[←vQ];exact xN a⟩
theorem dB{l:List Keyed}{i k:Nat}{x:Keyed}(h:x∈(l.drop i).take k):∃j,j<k/\l[i+j]?=some x:=by
 obtain⟨j,a,rfl⟩:=wP h;rw[yG]at a;refine⟨j,⋯,?_⟩;rw[←vQ,List.getElem_take];exact xN ⋯
theorem Sz(g:Cmp prog w A s κ kd){st:SortSt}{a:Array Keyed}{ia:Nat}{p:Keyed}{Q:Option Nat->SortSt->Prop}(z:kindOf st=kd)(l:Srt κ a.toList)(u:∀x∈a.toList,Gd κ x)(v:Gd κ p)(D:ia<a.size)
  (h:∀k,ia+k<=a.size->(∀x∈(a.toList.drop ia).take k,le' κ x p)->(∀y∈a.toList.drop (ia+k),lq κ p y=true)->Q (some k) st):wpS (model prog w) A E s (jQ false p a ia (a.size-ia) 0) Q st:=by
 refine cO g (B:=λi=>!lq κ p (a.getD (ia+i) p)) z v ⋯ (λi hi=>?_) (λi j C b d=>?_) λk F o m=>h k ⋯ (λx f=>?_) λy n=>?_
 ·obtain⟨q,e⟩:=lQ (a:=a) (i:=ia+i) ⋯;refine⟨q,e,u q (yF (nW.mp e)),?_⟩;rw[show a.getD (ia+i) p=q by simp[Array.getD_eq_getD_getElem?,e]];rfl
 ·obtain⟨q,e⟩:=lQ (a:=a) (i:=ia+i) ⋯;obtain⟨r,c⟩:=lQ (a:=a) (i:=ia+j) ⋯;rw[show a.getD (ia+j) p=r by simp[Array.getD_eq_getD_getElem?,c]]at d;rw[show a.getD (ia+i) p=q by simp[Array.getD_eq_getD_getElem?,e]];have l1:le' κ r p:=by unfold le';simpa using d
  have:=kA (gU l (show ia+i<=ia+j by omega) (nW.mp e) (nW.mp c)) l1;unfold le' at this;rw[this];rfl
 ·obtain⟨j,b,e⟩:=dB f;have:=o j b;rw[show a.getD (ia+j) p=x by simp[Array.getD_eq_getD_getElem?,nW.mpr e]]at this;unfold le';simpa using this
 ·obtain⟨j,b,e⟩:=Cn n;have t:=(nF.mp e).1;rw[zL]at t;have:=m (j-ia) ⋯ ⋯;rw[show ia+(j-ia)=j by omega,show a.getD j p=y by simp[Array.getD_eq_getD_getElem?,nW.mpr e]]at this;simpa using this
theorem aM(f:Cmp prog w A s κ kd){st:SortSt}{b:Array Keyed}{ib c:Nat}{q:Keyed}{n:Nat}{Q:Option Nat->SortSt->Prop}(y:kindOf st=kd)(o:Srt κ b.toList)(l:∀x∈b.toList,Gd κ x)(v:Gd κ q)(C:ib+n<=b.size)(hh:c<n)
  (h:∀k,k<=n->(∀i x,i<k->b[ib+i]?=some x->lq κ x q=true)->(∀i x,k<=i->i<n->b[ib+i]?=some x->le' κ q x)->Q (some k) st):wpS (model prog w) A E s (jQ true q b ib n c) Q st:=by
 refine cO f (B:=λi=>lq κ (b.getD (ib+i) q) q) y v hh (λi hi=>?_) (λi j z D d=>?_) λk t m u=>h k t (λi x hi e=>?_) λi x hi g e=>?_
 ·obtain⟨p,e⟩:=lQ (a:=b) (i:=ib+i) ⋯;refine⟨p,e,l p (yF (nW.mp e)),?_⟩;rw[show b.getD (ib+i) q=p by simp[Array.getD_eq_getD_getElem?,e]];rfl
 ·obtain⟨p,e⟩:=lQ (a:=b) (i:=ib+i) ⋯;obtain⟨r,a⟩:=lQ (a:=b) (i:=ib+j) ⋯;rw[show b.getD (ib+j) q=r by simp[Array.getD_eq_getD_getElem?,a]]at d;rw[show b.getD (ib+i) q=p by simp[Array.getD_eq_getD_getElem?,e]];exact KeyOrd.klt_of_kle_of_klt (O:=κ.toKeyOrd) (gU o (show ib+i<=ib+j by omega) (nW.mp e) (nW.mp a)) d
 ·have:=m i hi;rw[show b.getD (ib+i) q=x by simp[Array.getD_eq_getD_getElem?,e]]at this;exact this
 ·have:=u i hi g;rw[show b.getD (ib+i) q=x by simp[Array.getD_eq_getD_getElem?,e]]at this;exact this
end
def Cm:Array Keyed->Array Keyed->StateT SortSt Sem (Array Keyed):=sortPriv%PySem.Builtin.mergeLo
def cP:Nat->StateT SortSt Sem Unit:=sortPriv%PySem.Builtin.setMinGallop
theorem Sy(a b:Array Keyed):Cm a b=(do
 rule "list.sort.merge-lo"
 let d:=a.size+b.size
 let done (out:Array Keyed) (ia ib:Nat):=out++a.extract ia a.size++b.extract ib b.size
 let c (out:Array Keyed) (ia ib:Nat):=out++b.extract ib b.size++a.extract ia a.size
 let mut out:Array Keyed:=#[←elem' b 0]
 let mut ia:=0
 let mut ib:=1
 if ib == b.size then return done out ia ib
 if ia+1 == a.size then return c out ia ib
 let mut minGallop:=gallopOf (←get)
 for _ in[0:d] do
  let mut acount:=0
  let mut bcount:=0
  for _ in[0:d] do
   let some bWins ←lt' (←elem' b ib) (←elem' a ia)|return done out ia ib
   if bWins then
    out:=out.push (←elem' b ib);ib:=ib+1;bcount:=bcount+1;acount:=0
    if ib == b.size then return done out ia ib
    if bcount≥minGallop then break
   else
    out:=out.push (←elem' a ia);ia:=ia+1;acount:=acount+1;bcount:=0
    if ia+1 == a.size then return c out ia ib
    if acount≥minGallop then break
  rule "list.sort.gallop"
  minGallop:=minGallop+1
  for _ in[0:d] do
   if minGallop > 1 then minGallop:=minGallop-1
   cP minGallop
   let some k ←jQ false (←elem' b ib) a ia (a.size-ia) 0|return done out ia ib
   acount:=k
   if k > 0 then
    out:=out++a.extract ia (ia+k);ia:=ia+k
    if ia+1 == a.size then return c out ia ib
    if ia == a.size then return done out ia ib
   out:=out.push (←elem' b ib);ib:=ib+1
   if ib == b.size then return done out ia ib
   let some k ←jQ true (←elem' a ia) b ib (b.size-ib) 0|return done out ia ib
   bcount:=k
   if k > 0 then
    out:=out++b.extract ib (ib+k);ib:=ib+k
    if ib == b.size then return done out ia ib
   out:=out.push (←elem' a ia);ia:=ia+1
   if ia+1 == a.size then return c out ia ib
   if acount<7 && bcount<7 then break
  minGallop:=minGallop+1
  cP minGallop
 unsupported "internal:list.sort.merge-bound"):=rfl
theorem aN(g:Nat):cP g=modify λs=>SortSt.mk' (kindOf s) (arrOf s) (pendingOf s) g (failedOf s):=rfl
section
variable {prog:Program} {w:World} {A:Around} {E:VP} {s:Shared} {κ:PyProof.Rows.KeyKind} {kd:SortKind}
theorem dC{a b out:Array Keyed}{ia ib:Nat}(d:MG κ a b)(h:MI κ a.toList b.toList out.toList ia ib)(c:b.size<=ib):Res κ a.toList b.toList (out++a.extract ia a.size++b.extract ib b.size).toList:=by
 rw[yL,yL,dA,dA,rB (as:=b.toList) (by rw[zL];exact c),wO];exact h.all d.sa (by rw[zL];exact c)
theorem Sx{a b out:Array Keyed}{ia ib:Nat}(d:MG κ a b)(h:MI κ a.toList b.toList out.toList ia ib)(c:a.size<=ia):Res κ a.toList b.toList (out++a.extract ia a.size++b.extract ib b.size).toList:=by
 rw[yL,yL,dA,dA,rB (as:=a.toList) (by rw[zL];exact c),wO];exact(h.symm.all d.sb (by rw[zL];exact c)).symm
theorem fP{a b out:Array Keyed}{ia ib:Nat}(c:MG κ a b)(h:MI κ a.toList b.toList out.toList ia ib)(d:ia+1=a.size):Res κ a.toList b.toList (out++b.extract ib b.size++a.extract ia a.size).toList:=by
 rw[yL,yL,dA,dA];obtain⟨p,e⟩:=lQ (a:=a) (i:=ia) ⋯;exact h.last c.sb (nW.mp e) (by rw[zL];exact d) (c.top p (by rw[show a.size-1=ia by omega];exact e))
theorem aO{a b out:Array Keyed}{ia ib:Nat}{p:Keyed}(d:MG κ a b)(h:MI κ a.toList b.toList out.toList ia ib)(e:b[ib]?=some p)(c:∀y∈a.toList.drop ia,le' κ p y):MI κ a.toList b.toList (out.push p).toList ia (ib+1):=by
 rw[uW];exact(h.symm.push d.sb (nW.mp e) c).symm
theorem cQ{a b out:Array Keyed}{ia ib:Nat}{p:Keyed}(d:MG κ a b)(h:MI κ a.toList b.toList out.toList ia ib)(e:a[ia]?=some p)(c:∀y∈b.toList.drop ib,le' κ p y):MI κ a.toList b.toList (out.push p).toList (ia+1) ib:=by
 rw[uW];exact h.push d.sa (nW.mp e) c
theorem Sw{a b out:Array Keyed}{ia ib k:Nat}{p:Keyed}(c:MG κ a b)(h:MI κ a.toList b.toList out.toList ia ib)(e:b[ib]?=some p)(d:∀x∈(a.toList.drop ia).take k,le' κ x p):MI κ a.toList b.toList (out++a.extract ia (ia+k)).toList (ia+k) ib:=by
 rw[yL,Co];exact h.ext c.sa λx g y f=>kA (d x g) (eZ c.sb (nW.mp e) (gH p) y f)
theorem He{a b out:Array Keyed}{ia ib k:Nat}{p:Keyed}(c:MG κ a b)(h:MI κ a.toList b.toList out.toList ia ib)(e:a[ia]?=some p)(d:∀x∈(b.toList.drop ib).take k,le' κ x p):MI κ a.toList b.toList (out++b.extract ib (ib+k)).toList ia (ib+k):=by
 rw[yL,Co];exact(h.symm.ext c.sb λx g y f=>kA (d x g) (eZ c.sa (nW.mp e) (gH p) y f)).symm
theorem Cl{a out:Array Keyed}{i:Nat}:out++a.extract i (i+0)=out:=by simp;omega
theorem mC{a:Type}{c:Prop}[Decidable c]{b e:StateT SortSt Sem a}{Q:a->SortSt->Prop}{st:SortSt}(f:c->wpS (model prog w) A E s b Q st)(d:¬ c->wpS (model prog w) A E s e Q st):wpS (model prog w) A E s (if c then b else e) Q st:=by
 by_cases h:c
 ·rw[zF h];exact f h
 ·rw[zD h];exact d h
theorem Hd{a:Type}{c:Nat->Prop}[∀m,Decidable (c m)]{b F:Nat->StateT SortSt Sem a}{Q:a->SortSt->Prop}{st:SortSt}(h:∀m,wpS (model prog w) A E s (F m) Q st)(e:∀m,F (m-1)=b m)(m:Nat):wpS (model prog w) A E s (if c m then b m else F m) Q st:=mC (λ_=>by rw[←e];exact h _) λ_=>h m
theorem Sv(P:Cmp prog w A s κ kd){st:SortSt}{a b:Array Keyed}{Q:Array Keyed->SortSt->Prop}(R:kindOf st=kd)(d:MG κ a b)
  (h:∀r n,Sm st n->Res κ a.toList b.toList r.toList->Q r n):wpS (model prog w) A E s (Cm a b) Q st:=by
 have c0:=d.na;have b7:=d.nb;have a1:∀i p,a[i]?=some p->Gd κ p:=λi p e=>d.ga p (yF (nW.mp e));have a3:∀i p,b[i]?=some p->Gd κ p:=λi p e=>d.gb p (yF (nW.mp e));rw[Sy];refine zG (qE (wJ ⟨rfl,?_⟩));refine zG (kR ⋯ λa5 a2=>?_);dsimp only;obtain⟨b3,a4⟩:=lQ (a:=a) (i:=0) ⋯;have X:MI κ a.toList b.toList (#[a5]:Array Keyed).toList 0 1:=by
  have:=aO (out:=#[]) (ia:=0) (ib:=0) d ⟨by simp,List.Pairwise.nil,λx I=>by simp at I,λx I=>by simp at I⟩ a2 (eZ d.sa (nW.mp a4) (d.fst a5 b3 a2 a4));simpa using this
 by_cases O:(1 == b.size)=true
 ·rw[zF O];exact zI (h _ _ (Sm.refl _) (dC d X (by have:=yO O;omega)))
 rw[zD O];have c1:1≠b.size:=λe=>O (oS.mpr e)
 by_cases N:(0+1 == a.size)=true
 ·rw[zF N];exact zI (h _ _ (Sm.refl _) (fP d X (by have:=yO N;omega)))
 rw[zD N];have b6:0+1≠a.size:=λe=>N (oS.mpr e);refine zG (tD ?_);refine zG (wN (xH (I:=λx c n=>Sm st n/\E4 λ(out:Array Keyed)(ia ib u:Nat)=>A5 (c=(none,out,ia,ib,u)) (MI κ a.toList b.toList out.toList ia ib) (ia+1<a.size) (ib<b.size) (x+1<=ia+ib))
  (Q:=λc n=>Sm st n/\∃r G,c=(some r,G)/\Res κ a.toList b.toList r.toList) ?_ ?_ ⟨Sm.refl _,_,_,_,_,rfl,X,⋯,⋯,⋯⟩) ?_)
 ·rintro x c V _ I ⟨sm,out,ia,ib,u,rfl,m,lia,g,pr⟩;dsimp only;refine zG (wN (xH (I:=λy c n=>Sm st n/\E5 λ(out:Array Keyed)(ia ib t o:Nat)=>A6 (c=(none,out,ia,ib,t,o)) (MI κ a.toList b.toList out.toList ia ib) (ia+1<a.size) (ib<b.size) (x+1<=ia+ib) (1<=y->x+2<=ia+ib))
   (Q:=λc n=>Sm st n/\((∃r G,c=(some r,G)/\Res κ a.toList b.toList r.toList)\/E5 λ(out:Array Keyed)(ia ib t o:Nat)=>A5 (c=(none,out,ia,ib,t,o)) (MI κ a.toList b.toList out.toList ia ib) (ia+1<a.size) (ib<b.size) (x+2<=ia+ib))) ?_ ?_ ⟨sm,out,ia,ib,0,0,rfl,m,lia,g,pr,⋯⟩) ?_)
  ·rintro y c a7 _ D ⟨sm,out,ia,ib,t,o,rfl,m,lia,g,pr,_⟩;dsimp only;refine zG (kR g λp e=>?_);refine zG (kR (show ia<a.size by omega) λq f=>?_);refine zG (cN P (by rw[sm.k];exact R) (a3 _ _ e) (a1 _ _ f) ?_);dsimp only;cases hl:lq κ p q with
   |true =>
    rw[zF rfl];have J:=aO d m e (eZ d.sa (nW.mp f) (kG hl));refine zG (kF e ?_)
    by_cases F:(ib+1 == b.size)=true
    ·rw[zF F];exact zI ⟨sm,.inl ⟨_,_,rfl,dC d J (by have:=yO F;omega)⟩⟩
    rw[zD F];have a9:ib+1≠b.size:=λe=>F (oS.mpr e);split
    ·exact zI ⟨sm,.inr ⟨_,_,_,_,_,rfl,J,lia,⋯,⋯⟩⟩
    ·exact zI ⟨sm,_,_,_,_,_,rfl,J,lia,⋯,⋯,⋯⟩
   |false =>
    rw[zD (by simp)];have J:=cQ d m f (eZ d.sb (nW.mp e) hl);refine zG (kF f ?_)
    by_cases F:(ia+1+1 == a.size)=true
    ·rw[zF F];exact zI ⟨sm,.inl ⟨_,_,rfl,fP d J (by have:=yO F;omega)⟩⟩
    rw[zD F];have a9:ia+1+1≠a.size:=λe=>F (oS.mpr e);split
    ·exact zI ⟨sm,.inr ⟨_,_,_,_,_,rfl,J,⋯,g,⋯⟩⟩
    ·exact zI ⟨sm,_,_,_,_,_,rfl,J,⋯,g,⋯,⋯⟩
  ·rintro c a7 ⟨sm,out,ia,ib,t,o,rfl,m,lia,g,pr,b1⟩;exact⟨sm,.inr ⟨_,_,_,_,_,rfl,m,lia,g,b1 ⋯⟩⟩
  ·rintro c a7 ⟨sm,⟨r,G,rfl,L⟩|⟨out,ia,ib,t,o,rfl,m,lia,g,pr⟩⟩
   ·exact zI ⟨sm,_,_,rfl,L⟩
   dsimp only;refine zG (qE (wJ ⟨rfl,?_⟩));refine zG (wN (xH (I:=λy c n=>Sm st n/\E6 λ(out:Array Keyed)(ia ib u t o:Nat)=>A5 (c=(none,out,ia,ib,u,t,o)) (MI κ a.toList b.toList out.toList ia ib) (ia+1<a.size) (ib<b.size) (x+2<=ia+ib))
    (Q:=λc n=>Sm st n/\((∃r G,c=(some r,G)/\Res κ a.toList b.toList r.toList)\/E6 λ(out:Array Keyed)(ia ib u t o:Nat)=>A5 (c=(none,out,ia,ib,u,t,o)) (MI κ a.toList b.toList out.toList ia ib) (ia+1<a.size) (ib<b.size) (x+2<=ia+ib))) ?_ ?_ ⟨sm,_,_,_,_,_,_,rfl,m,lia,g,pr⟩) ?_)
   ·rintro y c a6 _ D ⟨sm,out,ia,ib,u,t,o,rfl,m,lia,g,pr⟩;dsimp only
    revert u
    refine Hd (λu=>?_) λ_=>rfl;rw[aN];refine zG (wT ?_);refine zG (kR (arr:=b) g λp e=>?_);refine zG (Sz P (show kindOf _=kd from sm.k.trans R) d.sa d.ga (a3 _ _ e) (show ia<a.size by omega) λk b9 b2 Z=>?_);have mk:=Sw d m e b2;dsimp only;refine mC (λa8=>?_) λa8=>?_
    ·refine mC (λz=>?_) λz=>?_
     ·exact zI ⟨sm.set _,.inl ⟨_,_,rfl,fP d mk (yO z)⟩⟩
     have b8:ia+k+1≠a.size:=λe=>z (oS.mpr e);refine mC (λy=>?_) λy=>?_
     ·exact zI ⟨sm.set _,.inl ⟨_,_,rfl,Sx d mk (by have:=yO y;omega)⟩⟩
     have c2:ia+k≠a.size:=λe=>y (oS.mpr e);have K:=aO d mk e λy D=>kG (Z y D);refine zG (kF e ?_);refine mC (λz=>?_) λz=>?_
     ·exact zI ⟨sm.set _,.inl ⟨_,_,rfl,dC d K (by have:=yO z;omega)⟩⟩
     have b4:ib+1≠b.size:=λe=>z (oS.mpr e);refine zG (kR (arr:=a) (i:=(ia+k)) ⋯ λq f=>?_);refine zG (aM P (show kindOf _=kd from sm.k.trans R) d.sb d.gb (a1 _ _ f) (show ib+1+(b.size-(ib+1))<=b.size by omega) ⋯ λk2 b5 S Y=>?_);have v:=He (k:=k2) d K f λx I=>by
      obtain⟨j,M,C⟩:=dB I;exact kG (S j x M (nW.mpr C))
     have nx:∀y∈b.toList.drop (ib+1+k2),le' κ q y:=λy D=>by
      obtain⟨j,M,C⟩:=Cn D;have U:=(nF.mp C).1;rw[zL]at U;exact Y (j-(ib+1)) y ⋯ ⋯ (by rw[show ib+1+(j-(ib+1))=j by omega];exact nW.mpr C)
     dsimp only;refine mC (λW=>?_) λW=>?_
     ·refine mC (λz=>?_) λz=>?_
      ·exact zI ⟨sm.set _,.inl ⟨_,_,rfl,dC d v (by have:=yO z;omega)⟩⟩
      have b0:ib+1+k2≠b.size:=λe=>z (oS.mpr e);have l:=cQ d v f nx;refine zG (kF f ?_);refine mC (λz=>?_) λz=>?_
      ·exact zI ⟨sm.set _,.inl ⟨_,_,rfl,fP d l (yO z)⟩⟩
      have T:(ia+k)+1+1≠a.size:=λe=>z (oS.mpr e);refine mC (λ_=>?_) λ_=>?_
      ·exact zI ⟨sm.set _,.inr ⟨_,_,_,_,_,_,rfl,l,⋯,⋯,⋯⟩⟩
      ·exact zI ⟨sm.set _,_,_,_,_,_,_,rfl,l,⋯,⋯,⋯⟩
     ·have a0:k2=0:=⋯
      subst a0;rw[Cl]at v;simp only[Nat.add_zero]at v nx;have l:=cQ d v f nx;refine zG (kF f ?_);refine mC (λz=>?_) λz=>?_
      ·exact zI ⟨sm.set _,.inl ⟨_,_,rfl,fP d l (yO z)⟩⟩
      have T:(ia+k)+1+1≠a.size:=λe=>z (oS.mpr e);refine mC (λ_=>?_) λ_=>?_
      ·exact zI ⟨sm.set _,.inr ⟨_,_,_,_,_,_,rfl,l,⋯,⋯,⋯⟩⟩
      ·exact zI ⟨sm.set _,_,_,_,_,_,_,rfl,l,⋯,⋯,⋯⟩
    ·have k0:k=0:=⋯
     subst k0;rw[Cl]at mk;simp only[Nat.add_zero]at mk Z;have K:=aO d mk e λy D=>kG (Z y D);refine zG (kF e ?_);refine mC (λz=>?_) λz=>?_
     ·exact zI ⟨sm.set _,.inl ⟨_,_,rfl,dC d K (by have:=yO z;omega)⟩⟩
     have b4:ib+1≠b.size:=λe=>z (oS.mpr e);refine zG (kR (arr:=a) (i:=ia) ⋯ λq f=>?_);refine zG (aM P (show kindOf _=kd from sm.k.trans R) d.sb d.gb (a1 _ _ f) (show ib+1+(b.size-(ib+1))<=b.size by omega) ⋯ λk2 b5 S Y=>?_);have v:=He (k:=k2) d K f λx I=>by
      obtain⟨j,M,C⟩:=dB I;exact kG (S j x M (nW.mpr C))
     have nx:∀y∈b.toList.drop (ib+1+k2),le' κ q y:=λy D=>by
      obtain⟨j,M,C⟩:=Cn D;have U:=(nF.mp C).1;rw[zL]at U;exact Y (j-(ib+1)) y ⋯ ⋯ (by rw[show ib+1+(j-(ib+1))=j by omega];exact nW.mpr C)
     dsimp only;refine mC (λW=>?_) λW=>?_
     ·refine mC (λz=>?_) λz=>?_
      ·exact zI ⟨sm.set _,.inl ⟨_,_,rfl,dC d v (by have:=yO z;omega)⟩⟩
      have b0:ib+1+k2≠b.size:=λe=>z (oS.mpr e);have l:=cQ d v f nx;refine zG (kF f ?_);refine mC (λz=>?_) λz=>?_
      ·exact zI ⟨sm.set _,.inl ⟨_,_,rfl,fP d l (yO z)⟩⟩
      have T:ia+1+1≠a.size:=λe=>z (oS.mpr e);refine mC (λ_=>?_) λ_=>?_
      ·exact zI ⟨sm.set _,.inr ⟨_,_,_,_,_,_,rfl,l,⋯,⋯,⋯⟩⟩
      ·exact zI ⟨sm.set _,_,_,_,_,_,_,rfl,l,⋯,⋯,⋯⟩
     ·have a0:k2=0:=⋯
      subst a0;rw[Cl]at v;simp only[Nat.add_zero]at v nx;have l:=cQ d v f nx;refine zG (kF f ?_);refine mC (λz=>?_) λz=>?_
      ·exact zI ⟨sm.set _,.inl ⟨_,_,rfl,fP d l (yO z)⟩⟩
      have T:ia+1+1≠a.size:=λe=>z (oS.mpr e);refine mC (λ_=>?_) λ_=>?_
      ·exact zI ⟨sm.set _,.inr ⟨_,_,_,_,_,_,rfl,l,⋯,⋯,⋯⟩⟩
      ·exact zI ⟨sm.set _,_,_,_,_,_,_,rfl,l,⋯,⋯,⋯⟩
   ·rintro c a6 ⟨sm,out,ia,ib,u,t,o,rfl,m,lia,g,pr⟩;exact⟨sm,.inr ⟨_,_,_,_,_,_,rfl,m,lia,g,pr⟩⟩
   ·rintro c a6 ⟨sm,⟨r,G,rfl,L⟩|⟨out,ia,ib,u,t,o,rfl,m,lia,g,pr⟩⟩
    ·exact zI ⟨sm,_,_,rfl,L⟩
    dsimp only;rw[aN];refine zG (wT (zI ⟨sm.set _,_,_,_,_,rfl,m,lia,g,⋯⟩))
 ·rintro c V ⟨sm,out,ia,ib,u,rfl,m,lia,g,pr⟩;omega
 ·rintro c V ⟨sm,r,G,rfl,L⟩;exact zI (h r V sm L)
end
def Ck:Array Keyed->Array Keyed->StateT SortSt Sem (Array Keyed):=sortPriv%PySem.Builtin.mergeHi
theorem Su(a b:Array Keyed):Ck a b=(do
 rule "list.sort.merge-hi"
 let d:=a.size+b.size
 let done (out:Array Keyed) (na nb:Nat):=a.extract 0 na++b.extract 0 nb++out.reverse
 let c (out:Array Keyed) (na nb:Nat):=b.extract 0 nb++a.extract 0 na++out.reverse
 let mut na:=a.size-1
 let mut nb:=b.size
 let mut out:Array Keyed:=#[←elem' a na]
 if na == 0 then return done out na nb
 if nb == 1 then return c out na nb
 let mut minGallop:=gallopOf (←get)
 for _ in[0:d] do
  let mut acount:=0
  let mut bcount:=0
  for _ in[0:d] do
   let some aWins ←lt' (←elem' b (nb-1)) (←elem' a (na-1))|return done out na nb
   if aWins then
    na:=na-1;out:=out.push (←elem' a na);acount:=acount+1;bcount:=0
    if na == 0 then return done out na nb
    if acount≥minGallop then break
   else
    nb:=nb-1;out:=out.push (←elem' b nb);bcount:=bcount+1;acount:=0
    if nb == 1 then return c out na nb
    if bcount≥minGallop then break
  rule "list.sort.gallop"
  minGallop:=minGallop+1
  for _ in[0:d] do
   if minGallop > 1 then minGallop:=minGallop-1
   cP minGallop
   let some at_ ←jQ false (←elem' b (nb-1)) a 0 na (na-1)|return done out na nb
   let k:=na-at_
   acount:=k
   if k > 0 then
    out:=out++(a.extract at_ na).reverse;na:=at_
    if na == 0 then return done out na nb
   nb:=nb-1;out:=out.push (←elem' b nb)
   if nb == 1 then return c out na nb
   let some at_ ←jQ true (←elem' a (na-1)) b 0 nb (nb-1)|return done out na nb
   let k:=nb-at_
   bcount:=k
   if k > 0 then
    out:=out++(b.extract at_ nb).reverse;nb:=at_
    if nb == 1 then return c out na nb
    if nb == 0 then return done out na nb
   na:=na-1;out:=out.push (←elem' a na)
   if na == 0 then return done out na nb
   if acount<7 && bcount<7 then break
  minGallop:=minGallop+1
  cP minGallop
 unsupported "internal:list.sort.merge-bound"):=rfl
def revK(κ:PyProof.Rows.KeyKind):PyProof.Rows.KeyKind where
 α:=κ.α
 blt:=λa b=>κ.blt b a
 irrefl:=κ.irrefl
 trans:=λa b c h1 h2=>κ.trans c b a h2 h1
 negTrans:=λa b c h=>(κ.negTrans c b a h).symm
 total:=λa b h1 h2=>κ.total a b h2 h1
 keyOf:=κ.keyOf
 dflt:=κ.dflt
section
variable {prog:Program} {w:World} {A:Around} {E:VP} {s:Shared} {κ:PyProof.Rows.KeyKind} {kd:SortKind}
theorem Hc{x y:Keyed}:le' (revK κ) x y↔le' κ y x:=Iff.rfl
theorem fQ{l:List Keyed}(h:Srt κ l):Srt (revK κ) l.reverse:=List.pairwise_reverse.mpr h
theorem Ss{l:List Keyed}(h:Srt (revK κ) l):Srt κ l.reverse:=List.pairwise_reverse.mpr h
def MH(κ:PyProof.Rows.KeyKind)(a b out:Array Keyed)(na nb:Nat):Prop:=MI (revK κ) a.toList.reverse b.toList.reverse out.toList (a.size-na) (b.size-nb)
theorem Cj{a:Array Keyed}{n:Nat}{p:Keyed}(h:n<a.size)(e:a[n]?=some p):a.toList.reverse[a.size-(n+1)]?=some p:=by
 rw[rK (by rw[zL];omega),zL,show a.size-1-(a.size-(n+1))=n by omega];exact nW.mp e
theorem dD{a:Array Keyed}{n:Nat}(h:n<=a.size):a.toList.reverse.drop (a.size-n)=(a.toList.take n).reverse:=by
 rw[List.drop_reverse,zL,show a.size-(a.size-n)=n by omega]
theorem aP{a:Array Keyed}{n:Nat}{y:Keyed}(h:n<=a.size)(b:y∈a.toList.reverse.drop (a.size-n)):∃i,i<n/\a[i]?=some y:=by
 rw[dD h]at b;obtain⟨i,hi,e⟩:=wP (List.mem_reverse.mp b);rw[yG]at hi;refine⟨i,⋯,?_⟩;rw[nW,←e,List.getElem_take];exact xN _
theorem Ci{a b r:Array Keyed}{l:List Keyed}(e:r.toList.reverse=l)(h:Res (revK κ) a.toList.reverse b.toList.reverse l):Res κ a.toList b.toList r.toList:=by
 subst e;refine⟨?_,?_⟩
 ·refine(qX r.toList).symm.trans (h.1.trans ?_);exact((qX _).append (qX _))
 ·have:=Ss h.2
  rwa[List.reverse_reverse]at this
theorem dE{a:Array Keyed}{n:Nat}:(a.extract 0 n).toList=a.toList.take n:=by
 have:=Co a 0 n;rw[wQ,oH]at this;exact this
theorem fR{a b out:Array Keyed}{c:Nat}(d:MG κ a b)(h:MH κ a b out 0 c)(e:c<=b.size):Res κ a.toList b.toList (a.extract 0 0++b.extract 0 c++out.reverse).toList:=by
 refine Ci (l:=out.toList++b.toList.reverse.drop (b.size-c)) ?_ ((MI.symm h).all (fQ d.sb) (by simp)).symm;rw[yL,yL,dE,dE,dD e,tP];simp
theorem Hb{a b out:Array Keyed}{c:Nat}(d:MG κ a b)(h:MH κ a b out c 0)(e:c<=a.size):Res κ a.toList b.toList (a.extract 0 c++b.extract 0 0++out.reverse).toList:=by
 refine Ci (l:=out.toList++a.toList.reverse.drop (a.size-c)) ?_ (MI.all h (fQ d.sa) (by simp));rw[yL,yL,dE,dE,dD e,tP];simp
theorem dF{a b out:Array Keyed}{d:Nat}(c:MG κ a b)(h:MH κ a b out d 1)(g:d<=a.size):Res κ a.toList b.toList (b.extract 0 1++a.extract 0 d++out.reverse).toList:=by
 have j:=c.nb;obtain⟨p,e⟩:=lQ (a:=b) (i:=0) ⋯;obtain⟨q,f⟩:=lQ (a:=a) (i:=0) (by have:=c.na;omega);refine Ci (l:=out.toList++a.toList.reverse.drop (a.size-d)++b.toList.reverse.drop (b.size-1)) ?_ (Res.symm ((MI.symm h).last (fQ c.sa) (Cj ⋯ e) (by rw[List.length_reverse,zL];omega) λy i=>?_))
 ·rw[yL,yL,dE,dE,dD g,dD j,tP];simp
 ·exact eZ c.sa (nW.mp f) (c.fst p q e f) y (by simpa using List.mem_reverse.mp i)
theorem dG{a b out:Array Keyed}{c d:Nat}{p:Keyed}(j:MG κ a b)(h:MH κ a b out (c+1) d)(g:c<a.size)(k:d<=b.size)(e:a[c]?=some p)(f:∀i y,i<d->b[i]?=some y->le' κ y p):MH κ a b (out.push p) c d:=by
 unfold MH at h ⊢;rw[uW,show a.size-c=a.size-(c+1)+1 by omega];exact MI.push h (fQ j.sa) (Cj g e) λy l=>by
  obtain⟨i,hi,m⟩:=aP k l;exact f i y hi m
theorem Cg{a b out:Array Keyed}{d c:Nat}{p:Keyed}(k:MG κ a b)(h:MH κ a b out d (c+1))(j:c<b.size)(g:d<=a.size)(e:b[c]?=some p)(f:∀i y,i<d->a[i]?=some y->le' κ y p):MH κ a b (out.push p) d c:=by
 unfold MH at h ⊢;rw[uW,show b.size-c=b.size-(c+1)+1 by omega];exact(MI.push (MI.symm h) (fQ k.sb) (Cj j e) λy l=>by
  obtain⟨i,hi,m⟩:=aP g l;exact f i y hi m).symm
theorem Ha{a:Array Keyed}{n m:Nat}(h:n<=a.size)(b:m<=n):(a.extract m n).reverse.toList=(a.toList.reverse.drop (a.size-n)).take (n-m):=by
 rw[dD h,tP,List.take_reverse,yG,zL,show min n a.size-(n-m)=m by omega];simp only[Array.toList_extract,List.extract_eq_take_drop];rw[List.drop_take]
theorem Sr{a b out:Array Keyed}{c d m:Nat}{p:Keyed}(g:MG κ a b)(h:MH κ a b out c d)(l:c<=a.size)(r:m<=c)(q:d<=b.size)(v:0<d)(e:b[d-1]?=some p)(k:∀i x,m<=i->i<c->a[i]?=some x->le' κ p x):MH κ a b (out++(a.extract m c).reverse) m d:=by
 unfold MH at h ⊢;rw[yL,Ha l r,show a.size-m=a.size-c+(c-m) by omega];refine MI.ext h (fQ g.sa) λx n y o=>?_;obtain⟨i,hi,t⟩:=aP q o;obtain⟨j,u,f⟩:=dB n;rw[rK (by rw[zL];omega),zL]at f;have l1:le' κ y p:=gU g.sb (show i<=d-1 by omega) (nW.mp t) (nW.mp e);exact Hc.mpr (kA l1 (k _ x ⋯ ⋯ (nW.mpr f)))
theorem Iz{a b out:Array Keyed}{d c m:Nat}{p:Keyed}(g:MG κ a b)(h:MH κ a b out d c)(l:c<=b.size)(r:m<=c)(q:d<=a.size)(v:0<d)(e:a[d-1]?=some p)(k:∀i x,m<=i->i<c->b[i]?=some x->le' κ p x):MH κ a b (out++(b.extract m c).reverse) d m:=by
 unfold MH at h ⊢;rw[yL,Ha l r,show b.size-m=b.size-c+(c-m) by omega];refine(MI.ext (MI.symm h) (fQ g.sb) λx n y o=>?_).symm;obtain⟨i,hi,t⟩:=aP q o;obtain⟨j,u,f⟩:=dB n;rw[rK (by rw[zL];omega),zL]at f;have l1:le' κ y p:=gU g.sa (show i<=d-1 by omega) (nW.mp t) (nW.mp e);exact Hc.mpr (kA l1 (k _ x ⋯ ⋯ (nW.mpr f)))
theorem So(f:Cmp prog w A s κ kd){st:SortSt}{b:Array Keyed}{ib c:Nat}{q:Keyed}{n:Nat}{Q:Option Nat->SortSt->Prop}(y:kindOf st=kd)(o:Srt κ b.toList)(l:∀x∈b.toList,Gd κ x)(v:Gd κ q)(C:ib+n<=b.size)(hh:c<n)
  (h:∀k,k<=n->(∀i x,i<k->b[ib+i]?=some x->le' κ x q)->(∀i x,k<=i->i<n->b[ib+i]?=some x->lq κ q x=true)->Q (some k) st):wpS (model prog w) A E s (jQ false q b ib n c) Q st:=by
 refine cO f (B:=λi=>!lq κ q (b.getD (ib+i) q)) y v hh (λi hi=>?_) (λi j z D d=>?_) λk t m u=>h k t (λi x hi e=>?_) λi x hi g e=>?_
 ·obtain⟨p,e⟩:=lQ (a:=b) (i:=ib+i) ⋯;refine⟨p,e,l p (yF (nW.mp e)),?_⟩;rw[show b.getD (ib+i) q=p by simp[Array.getD_eq_getD_getElem?,e]];rfl
 ·obtain⟨p,e⟩:=lQ (a:=b) (i:=ib+i) ⋯;obtain⟨r,a⟩:=lQ (a:=b) (i:=ib+j) ⋯;rw[show b.getD (ib+j) q=r by simp[Array.getD_eq_getD_getElem?,a]]at d;rw[show b.getD (ib+i) q=p by simp[Array.getD_eq_getD_getElem?,e]];have l1:le' κ r q:=by unfold le';simpa using d
  have:=kA (gU o (show ib+i<=ib+j by omega) (nW.mp e) (nW.mp a)) l1;unfold le' at this;rw[this];rfl
 ·have:=m i hi;rw[show b.getD (ib+i) q=x by simp[Array.getD_eq_getD_getElem?,e]]at this;unfold le';simpa using this
 ·have:=u i hi g;rw[show b.getD (ib+i) q=x by simp[Array.getD_eq_getD_getElem?,e]]at this;simpa using this
theorem Cf{a out:Array Keyed}{n:Nat}:out++(a.extract n n).reverse=out:=by simp;omega
theorem Sn(X:Cmp prog w A s κ kd){st:SortSt}{a b:Array Keyed}{Q:Array Keyed->SortSt->Prop}(Y:kindOf st=kd)(j:MG κ a b)
  (h:∀r C,Sm st C->Res κ a.toList b.toList r.toList->Q r C):wpS (model prog w) A E s (Ck a b) Q st:=by
 have c4:=j.na;have c3:=j.nb;have a3:∀i p,a[i]?=some p->Gd κ p:=λi p e=>j.ga p (yF (nW.mp e));have a5:∀i p,b[i]?=some p->Gd κ p:=λi p e=>j.gb p (yF (nW.mp e));rw[Su];refine zG (qE (wJ ⟨rfl,?_⟩));refine zG (kR ⋯ λa8 a4=>?_);dsimp only;have V:MH κ a b #[a8] (a.size-1) b.size:=by
  have b5:MH κ a b #[] (a.size-1+1) b.size:=by
   unfold MH;rw[show a.size-(a.size-1+1)=0 by omega,vN];exact⟨by simp,List.Pairwise.nil,λx W=>by simp at W,λx W=>by simp at W⟩
  exact dG j b5 ⋯ (zE _) a4 λi y _ o=>j.top a8 a4 y (yF (nW.mp o))
 refine mC (λz=>?_) λz=>?_
 ·have l:=yO z;rw[l]at V ⊢;exact zI (h _ _ (Sm.refl _) (fR j V (zE _)))
 have b6:a.size-1≠0:=λe=>z (oS.mpr e);refine mC (λy=>?_) λy=>?_
 ·have c1:=yO y;refine zI (h _ _ (Sm.refl _) ?_);rw[c1]at V ⊢;exact dF j V ⋯
 have c5:b.size≠1:=λe=>y (oS.mpr e);refine zG (tD ?_);refine zG (wN (xH (I:=λx c C=>Sm st C/\E4 λ(g d:Nat)(out:Array Keyed)(J:Nat)=>A7 (c=(none,g,d,out,J)) (MH κ a b out g d) (0<g) (g<a.size) (1<d) (d<=b.size) (x+g+d<a.size+b.size))
  (Q:=λc C=>Sm st C/\∃r K,c=(some r,K)/\Res κ a.toList b.toList r.toList) ?_ ?_ ⟨Sm.refl _,_,_,_,_,rfl,V,⋯,⋯,⋯,⋯,⋯⟩) ?_)
 ·rintro x c Z _ W ⟨sm,g,d,out,J,rfl,v,l1,l2,I,D,pr⟩;dsimp only;refine zG (wN (xH (I:=λy c C=>Sm st C/\E5 λ(g d:Nat)(out:Array Keyed)(G F:Nat)=>A8 (c=(none,g,d,out,G,F)) (MH κ a b out g d) (0<g) (g<a.size) (1<d) (d<=b.size) (x+g+d<a.size+b.size) (1<=y->x+1+g+d<a.size+b.size))
   (Q:=λc C=>Sm st C/\((∃r K,c=(some r,K)/\Res κ a.toList b.toList r.toList)\/E5 λ(g d:Nat)(out:Array Keyed)(G F:Nat)=>A7 (c=(none,g,d,out,G,F)) (MH κ a b out g d) (0<g) (g<a.size) (1<d) (d<=b.size) (x+1+g+d<a.size+b.size))) ?_ ?_ ⟨sm,g,d,out,0,0,rfl,v,l1,l2,I,D,pr,⋯⟩) ?_)
  ·rintro y c b0 _ b9 ⟨sm,g,d,out,G,F,rfl,v,l1,l2,I,D,pr,_⟩;obtain⟨n,rfl⟩:∃n,g=n+1:=⟨g-1,⋯⟩;obtain⟨m,rfl⟩:∃m,d=m+1:=⟨d-1,⋯⟩;dsimp only;refine zG (kR (arr:=b) (i:=m+1-1) ⋯ λp e=>?_);refine zG (kR (arr:=a) (i:=n+1-1) ⋯ λq f=>?_);refine zG (cN X (by rw[sm.k];exact Y) (a5 _ _ e) (a3 _ _ f) ?_);dsimp only;cases hl:lq κ p q with
   |true =>
    rw[zF rfl];have M:=dG j v (show n<a.size by omega) ⋯ f λi y hi o=>kA (gU j.sb (show i<=m by omega) (nW.mp o) (nW.mp e)) (kG hl);refine zG (kF f ?_);refine mC (λz=>?_) λz=>?_
    ·have l:n=0:=yO z;subst l;exact zI ⟨sm,.inl ⟨_,_,rfl,fR j M ⋯⟩⟩
    have b2:n≠0:=λe=>z (oS.mpr e);refine mC (λ_=>?_) λ_=>?_
    ·exact zI ⟨sm,.inr ⟨n,m+1,_,_,_,rfl,M,⋯,⋯,⋯,⋯,⋯⟩⟩
    ·exact zI ⟨sm,n,m+1,_,_,_,rfl,M,⋯,⋯,⋯,⋯,⋯,⋯⟩
   |false =>
    rw[zD (by simp)];have M:=Cg j v (show m<b.size by omega) ⋯ e λi y hi o=>kA (gU j.sa (show i<=n by omega) (nW.mp o) (nW.mp f)) hl;refine zG (kF e ?_);refine mC (λz=>?_) λz=>?_
    ·have l:m=1:=yO z;subst l;exact zI ⟨sm,.inl ⟨_,_,rfl,dF j M ⋯⟩⟩
    have b2:m≠1:=λe=>z (oS.mpr e);refine mC (λ_=>?_) λ_=>?_
    ·exact zI ⟨sm,.inr ⟨n+1,m,_,_,_,rfl,M,⋯,⋯,⋯,⋯,⋯⟩⟩
    ·exact zI ⟨sm,n+1,m,_,_,_,rfl,M,⋯,⋯,⋯,⋯,⋯,⋯⟩
  ·rintro c b0 ⟨sm,g,d,out,G,F,rfl,v,l1,l2,I,D,pr,b4⟩;exact⟨sm,.inr ⟨_,_,_,_,_,rfl,v,l1,l2,I,D,b4 ⋯⟩⟩
  ·rintro c b0 ⟨sm,⟨r,K,rfl,S⟩|⟨g,d,out,G,F,rfl,v,l1,l2,I,D,pr⟩⟩
   ·exact zI ⟨sm,_,_,rfl,S⟩
   dsimp only;refine zG (qE (wJ ⟨rfl,?_⟩));refine zG (wN (xH (I:=λy c C=>Sm st C/\E6 λ(g d:Nat)(out:Array Keyed)(J G F:Nat)=>A7 (c=(none,g,d,out,J,G,F)) (MH κ a b out g d) (0<g) (g<a.size) (1<d) (d<=b.size) (x+1+g+d<a.size+b.size))
    (Q:=λc C=>Sm st C/\((∃r K,c=(some r,K)/\Res κ a.toList b.toList r.toList)\/E6 λ(g d:Nat)(out:Array Keyed)(J G F:Nat)=>A7 (c=(none,g,d,out,J,G,F)) (MH κ a b out g d) (0<g) (g<a.size) (1<d) (d<=b.size) (x+1+g+d<a.size+b.size))) ?_ ?_ ⟨sm,_,_,_,_,_,_,rfl,v,l1,l2,I,D,pr⟩) ?_)
   ·rintro y c a9 _ b9 ⟨sm,g,d,out,J,G,F,rfl,v,l1,l2,I,D,pr⟩;dsimp only
    revert J
    refine Hd (λJ=>?_) λ_=>rfl;rw[aN];refine zG (wT ?_);refine zG (kR (arr:=b) (i:=d-1) ⋯ λp e=>?_);refine zG (So X (show kindOf _=kd from sm.k.trans Y) j.sa j.ga (a5 _ _ e) (show 0+g<=a.size by omega) ⋯ λk b8 a7 c0=>?_);have mk:=Sr (m:=k) j v ⋯ b8 D ⋯ e λi x hi U R=>kG (c0 i x hi U (by rw[wQ];exact R));dsimp only;refine mC (λa6=>?_) λa6=>?_
    ·refine mC (λz=>?_) λz=>?_
     ·have l:k=0:=yO z;subst l;exact zI ⟨sm.set _,.inl ⟨_,_,rfl,fR j mk D⟩⟩
     have b6:k≠0:=λe=>z (oS.mpr e)
     -- the other's last comes out
     obtain⟨m,rfl⟩:∃m,d=m+1:=⟨d-1,⋯⟩;have P:=Cg j mk (show m<b.size by omega) ⋯ e λi y hi o=>a7 i y hi (by rw[wQ];exact o);refine zG (kF (show b[m+1-1]?=some p from e) ?_);refine mC (λz=>?_) λz=>?_
     ·have l:m=1:=yO z;subst l;exact zI ⟨sm.set _,.inl ⟨_,_,rfl,dF j P ⋯⟩⟩
     have b7:m≠1:=λe=>z (oS.mpr e);have c2:0<m:=⋯
     refine zG (kR (arr:=a) (i:=k-1) ⋯ λq f=>?_);refine zG (aM X (show kindOf _=kd from sm.k.trans Y) j.sb j.gb (a3 _ _ f) (show 0+(m+1-1)<=b.size by omega) ⋯ λk2 L O a0=>?_);replace L:k2<=m:=L;have u:=Iz (m:=k2) j P ⋯ L ⋯ ⋯ f λi x hi U R=>a0 i x hi U (by rw[wQ];exact R);obtain⟨n,N⟩:∃n,k=n+1:=⟨k-1,⋯⟩;dsimp only;refine mC (λT=>?_) λT=>?_
     ·refine mC (λz=>?_) λz=>?_
      ·have l:k2=1:=yO z;subst l;exact zI ⟨sm.set _,.inl ⟨_,_,rfl,dF j u ⋯⟩⟩
      have b3:k2≠1:=λe=>z (oS.mpr e);refine mC (λz=>?_) λz=>?_
      ·have l:k2=0:=yO z;subst l;exact zI ⟨sm.set _,.inl ⟨_,_,rfl,Hb j u ⋯⟩⟩
      have b1:k2≠0:=λe=>z (oS.mpr e);rw[N]at u f ⊢;have t:=dG j u (show n<a.size by omega) ⋯ f λi y hi o=>kG (O i y hi (by rw[wQ];exact o));refine zG (kF (show a[n+1-1]?=some q from f) ?_);refine mC (λz=>?_) λz=>?_
      ·have l:n=0:=yO z;subst l;exact zI ⟨sm.set _,.inl ⟨_,_,rfl,fR j t ⋯⟩⟩
      have a2:n≠0:=λe=>z (oS.mpr e);refine mC (λ_=>?_) λ_=>?_
      ·exact zI ⟨sm.set _,.inr ⟨n,_,_,_,_,_,rfl,t,⋯,⋯,⋯,⋯,⋯⟩⟩
      ·exact zI ⟨sm.set _,n,_,_,_,_,_,rfl,t,⋯,⋯,⋯,⋯,⋯⟩
     ·have a1:k2=m:=by
       have:¬ m-k2 > 0:=T;omega
      subst a1;rw[Cf]at u;rw[N]at u f ⊢;have t:=dG j u (show n<a.size by omega) ⋯ f λi y hi o=>kG (O i y hi (by rw[wQ];exact o));refine zG (kF (show a[n+1-1]?=some q from f) ?_);refine mC (λz=>?_) λz=>?_
      ·have l:n=0:=yO z;subst l;exact zI ⟨sm.set _,.inl ⟨_,_,rfl,fR j t ⋯⟩⟩
      have a2:n≠0:=λe=>z (oS.mpr e);refine mC (λ_=>?_) λ_=>?_
      ·exact zI ⟨sm.set _,.inr ⟨n,_,_,_,_,_,rfl,t,⋯,⋯,⋯,⋯,⋯⟩⟩
      ·exact zI ⟨sm.set _,n,_,_,_,_,_,rfl,t,⋯,⋯,⋯,⋯,⋯⟩
    ·have k0:k=g:=by
      have:¬ g-k > 0:=a6;omega
     subst k0;rw[Cf]at mk
     -- the other's last comes out
     obtain⟨m,rfl⟩:∃m,d=m+1:=⟨d-1,⋯⟩;have P:=Cg j mk (show m<b.size by omega) ⋯ e λi y hi o=>a7 i y hi (by rw[wQ];exact o);refine zG (kF (show b[m+1-1]?=some p from e) ?_);refine mC (λz=>?_) λz=>?_
     ·have l:m=1:=yO z;subst l;exact zI ⟨sm.set _,.inl ⟨_,_,rfl,dF j P ⋯⟩⟩
     have b7:m≠1:=λe=>z (oS.mpr e);have c2:0<m:=⋯
     refine zG (kR (arr:=a) (i:=k-1) ⋯ λq f=>?_);refine zG (aM X (show kindOf _=kd from sm.k.trans Y) j.sb j.gb (a3 _ _ f) (show 0+(m+1-1)<=b.size by omega) ⋯ λk2 L O a0=>?_);replace L:k2<=m:=L;have u:=Iz (m:=k2) j P ⋯ L ⋯ ⋯ f λi x hi U R=>a0 i x hi U (by rw[wQ];exact R);obtain⟨n,N⟩:∃n,k=n+1:=⟨k-1,⋯⟩;dsimp only;refine mC (λT=>?_) λT=>?_
     ·refine mC (λz=>?_) λz=>?_
      ·have l:k2=1:=yO z;subst l;exact zI ⟨sm.set _,.inl ⟨_,_,rfl,dF j u ⋯⟩⟩
      have b3:k2≠1:=λe=>z (oS.mpr e);refine mC (λz=>?_) λz=>?_
      ·have l:k2=0:=yO z;subst l;exact zI ⟨sm.set _,.inl ⟨_,_,rfl,Hb j u ⋯⟩⟩
      have b1:k2≠0:=λe=>z (oS.mpr e);rw[N]at u f ⊢;have t:=dG j u (show n<a.size by omega) ⋯ f λi y hi o=>kG (O i y hi (by rw[wQ];exact o));refine zG (kF (show a[n+1-1]?=some q from f) ?_);refine mC (λz=>?_) λz=>?_
      ·have l:n=0:=yO z;subst l;exact zI ⟨sm.set _,.inl ⟨_,_,rfl,fR j t ⋯⟩⟩
      have a2:n≠0:=λe=>z (oS.mpr e);refine mC (λ_=>?_) λ_=>?_
      ·exact zI ⟨sm.set _,.inr ⟨n,_,_,_,_,_,rfl,t,⋯,⋯,⋯,⋯,⋯⟩⟩
      ·exact zI ⟨sm.set _,n,_,_,_,_,_,rfl,t,⋯,⋯,⋯,⋯,⋯⟩
     ·have a1:k2=m:=by
       have:¬ m-k2 > 0:=T;omega
      subst a1;rw[Cf]at u;rw[N]at u f ⊢;have t:=dG j u (show n<a.size by omega) ⋯ f λi y hi o=>kG (O i y hi (by rw[wQ];exact o));refine zG (kF (show a[n+1-1]?=some q from f) ?_);refine mC (λz=>?_) λz=>?_
      ·have l:n=0:=yO z;subst l;exact zI ⟨sm.set _,.inl ⟨_,_,rfl,fR j t ⋯⟩⟩
      have a2:n≠0:=λe=>z (oS.mpr e);refine mC (λ_=>?_) λ_=>?_
      ·exact zI ⟨sm.set _,.inr ⟨n,_,_,_,_,_,rfl,t,⋯,⋯,⋯,⋯,⋯⟩⟩
      ·exact zI ⟨sm.set _,n,_,_,_,_,_,rfl,t,⋯,⋯,⋯,⋯,⋯⟩
   ·rintro c a9 ⟨sm,g,d,out,J,G,F,rfl,v,l1,l2,I,D,pr⟩;exact⟨sm,.inr ⟨_,_,_,_,_,_,rfl,v,l1,l2,I,D,pr⟩⟩
   ·rintro c a9 ⟨sm,⟨r,K,rfl,S⟩|⟨g,d,out,J,G,F,rfl,v,l1,l2,I,D,pr⟩⟩
    ·exact zI ⟨sm,_,_,rfl,S⟩
    dsimp only;rw[aN];refine zG (wT (zI ⟨sm.set _,_,_,_,_,rfl,v,l1,l2,I,D,pr⟩))
 ·rintro c Z ⟨sm,g,d,out,J,rfl,v,l1,l2,I,D,pr⟩;omega
 ·rintro c Z ⟨sm,r,K,rfl,S⟩;exact zI (h r Z sm S)
end
theorem Sl(i:Nat):mergeAt' i=(do
 let s ←get
 let (some (sa,na,power),some (sb,nb,_)):=((pendingOf s)[i]?,(pendingOf s)[i+1]?)|unsupported "internal:list.sort.pending"
 set (SortSt.mk' (kindOf s) (arrOf s) (((pendingOf s).setIfInBounds i (sa,na+nb,power)).eraseIdxIfInBounds (i+1)) (gallopOf s) (failedOf s))
 let some k ←jQ false (←elem' (arrOf s) sb) (arrOf s) sa na 0|return false
 let (sa,na):=(sa+k,na-k)
 if na == 0 then return true
 let some nb ←jQ true (←elem' (arrOf s) (sa+na-1)) (arrOf s) sb nb (nb-1)|return false
 if nb == 0 then return true
 let x:=(arrOf s).extract sa sb
 let y:=(arrOf s).extract sb (sb+nb)
 let b ←if na<=nb then Cm x y else Ck x y
 modify λs=>setArr s (b.toList.zipIdx.foldl (λa(p,j)=>a.setIfInBounds (sa+j) p) (arrOf s))
 return (failedOf (←get)).isNone):=rfl
section
variable {prog:Program} {w:World} {A:Around} {E:VP} {s:Shared} {κ:PyProof.Rows.KeyKind} {kd:SortKind}
def seg(l:List Keyed)(i j:Nat):List Keyed:=(l.drop i).take (j-i)
theorem Sk{st a:SortSt}{Q:PUnit->SortSt->Prop}(h:Q ⟨⟩ a):wpS (model prog w) A E s (set a:StateT SortSt Sem PUnit) Q st:=by
 unfold wpS;rw[StateT.run_set];exact zB ⟨rfl,h⟩
theorem Ce{l:List Keyed}{i j k:Nat}(a:i<=j)(b:j<=k):seg l i k=seg l i j++seg l j k:=by
 unfold seg;rw[show k-i=(j-i)+(k-j) by omega,qQ,oK,show i+(j-i)=j by omega]
theorem Iy{l:List Keyed}{i j:Nat}(h:i<=j):l.take i++seg l i j++l.drop j=l:=by
 unfold seg;have:l.take j=l.take i++(l.drop i).take (j-i):=by
  conv=>lhs;rw[show j=i+(j-i) by omega]
  exact qQ
 rw[←this,xU]
theorem cR{l:List Keyed}{i j t:Nat}:(seg l i j)[t]?=if t<j-i then l[i+t]? else none:=by
 unfold seg;rw[List.getElem?_take];split
 ·rw[vQ]
 ·rfl
theorem iP{l:List Keyed}{i j:Nat}{x:Keyed}(h:x∈seg l i j):∃t,t<j-i/\l[i+t]?=some x:=dB h
theorem Cd{l:List Keyed}{i j:Nat}(h:j<=l.length):(seg l i j).length=j-i:=by
 unfold seg;rw[yG,tL];omega
theorem aQ{l:List Keyed}{i j:Nat}(d:Srt κ (seg l i j)){a u:Nat}{x y:Keyed}(b:a<=u)(e:u<j-i)(f:l[i+a]?=some x)(c:l[i+u]?=some y):le' κ x y:=
 gU d b (by rw[cR,zF ⋯];exact f) (by rw[cR,zF e];exact c)
theorem iQ(a:Array Keyed)(i j:Nat):(a.extract i j).toList=seg a.toList i j:=by
 unfold seg;simp only[Array.toList_extract,List.extract_eq_take_drop]
theorem Ix:∀(m:List Keyed)(c b:Nat)(a:Array Keyed),b+c+m.length<=a.size->((m.zipIdx c).foldl (λa(x:Keyed×Nat)=>a.setIfInBounds (b+x.2) x.1) a).toList=a.toList.take (b+c)++m++a.toList.drop (b+c+m.length)
 |[],c,b,a,_=>by simp
 | p:: m,c,b,a,h=>by
  rw[zR]at h;have hl:b+c<a.toList.length:=by rw[zL];omega
  rw[uH,vC,Ix m (c+1) b _ (by rw[Array.size_setIfInBounds];omega),Array.toList_setIfInBounds,zR];show List.take (b+(c+1)) (a.toList.set (b+c) p)++m++List.drop (b+(c+1)+m.length) (a.toList.set (b+c) p)=_;have e1:List.take (b+(c+1)) (a.toList.set (b+c) p)=a.toList.take (b+c)++[p]:=by
   rw[show b+(c+1)=b+c+1 by omega,yY,List.take_set_of_le (zE _),xR hl];rfl
  have d:List.drop (b+(c+1)+m.length) (a.toList.set (b+c) p)=a.toList.drop (b+c+(m.length+1)):=by
   rw[List.drop_set_of_lt ⋯,show b+(c+1)+m.length=b+c+(m.length+1) by omega]
  rw[e1,d];simp
theorem Sj(g:Cmp prog w A s κ kd){st:SortSt}{b:Array Keyed}{ib c:Nat}{q:Keyed}{n:Nat}{Q:Option Nat->SortSt->Prop}(D:kindOf st=kd)(t:∀i j x y,i<=j->j<n->b[ib+i]?=some x->b[ib+j]?=some y->le' κ x y)(m:∀x∈b.toList,Gd κ x)(C:Gd κ q)(F:ib+n<=b.size)(hh:c<n)
  (h:∀k,k<=n->(∀i x,i<k->b[ib+i]?=some x->le' κ x q)->(∀i x,k<=i->i<n->b[ib+i]?=some x->lq κ q x=true)->Q (some k) st):wpS (model prog w) A E s (jQ false q b ib n c) Q st:=by
 refine cO g (B:=λi=>!lq κ q (b.getD (ib+i) q)) D C hh (λi hi=>?_) (λi j f z d=>?_) λk u o v=>h k u (λi x hi e=>?_) λi x hi l e=>?_
 ·obtain⟨p,e⟩:=lQ (a:=b) (i:=ib+i) ⋯;refine⟨p,e,m p (yF (nW.mp e)),?_⟩;rw[show b.getD (ib+i) q=p by simp[Array.getD_eq_getD_getElem?,e]];rfl
 ·obtain⟨p,e⟩:=lQ (a:=b) (i:=ib+i) ⋯;obtain⟨r,a⟩:=lQ (a:=b) (i:=ib+j) ⋯;rw[show b.getD (ib+j) q=r by simp[Array.getD_eq_getD_getElem?,a]]at d;rw[show b.getD (ib+i) q=p by simp[Array.getD_eq_getD_getElem?,e]];have l1:le' κ r q:=by unfold le';simpa using d
  have:=kA (t i j p r f z e a) l1;unfold le' at this;rw[this];rfl
 ·have:=o i hi;rw[show b.getD (ib+i) q=x by simp[Array.getD_eq_getD_getElem?,e]]at this;unfold le';simpa using this
 ·have:=v i hi l;rw[show b.getD (ib+i) q=x by simp[Array.getD_eq_getD_getElem?,e]]at this;simpa using this
theorem Si(g:Cmp prog w A s κ kd){st:SortSt}{b:Array Keyed}{ib c:Nat}{q:Keyed}{n:Nat}{Q:Option Nat->SortSt->Prop}(D:kindOf st=kd)(t:∀i j x y,i<=j->j<n->b[ib+i]?=some x->b[ib+j]?=some y->le' κ x y)(m:∀x∈b.toList,Gd κ x)(C:Gd κ q)(F:ib+n<=b.size)(hh:c<n)
  (h:∀k,k<=n->(∀i x,i<k->b[ib+i]?=some x->lq κ x q=true)->(∀i x,k<=i->i<n->b[ib+i]?=some x->le' κ q x)->Q (some k) st):wpS (model prog w) A E s (jQ true q b ib n c) Q st:=by
 refine cO g (B:=λi=>lq κ (b.getD (ib+i) q) q) D C hh (λi hi=>?_) (λi j f z d=>?_) λk u o v=>h k u (λi x hi e=>?_) λi x hi l e=>?_
 ·obtain⟨p,e⟩:=lQ (a:=b) (i:=ib+i) ⋯;refine⟨p,e,m p (yF (nW.mp e)),?_⟩;rw[show b.getD (ib+i) q=p by simp[Array.getD_eq_getD_getElem?,e]];rfl
 ·obtain⟨p,e⟩:=lQ (a:=b) (i:=ib+i) ⋯;obtain⟨r,a⟩:=lQ (a:=b) (i:=ib+j) ⋯;rw[show b.getD (ib+j) q=r by simp[Array.getD_eq_getD_getElem?,a]]at d;rw[show b.getD (ib+i) q=p by simp[Array.getD_eq_getD_getElem?,e]];exact KeyOrd.klt_of_kle_of_klt (O:=κ.toKeyOrd) (t i j p r f z e a) d
 ·have:=o i hi;rw[show b.getD (ib+i) q=x by simp[Array.getD_eq_getD_getElem?,e]]at this;exact this
 ·have:=v i hi l;rw[show b.getD (ib+i) q=x by simp[Array.getD_eq_getD_getElem?,e]]at this;exact this
theorem Sh(M:Cmp prog w A s κ kd){st:SortSt}{i b c J f b7:Nat}{Q:Bool->SortSt->Prop}(c7:kindOf st=kd)(U:∀x∈(arrOf st).toList,Gd κ x)(b6:failedOf st=none)(e1:(pendingOf st)[i]?=some (b,c,J))(Z:(pendingOf st)[i+1]?=some (b+c,f,b7))
  (d4:1<=c)(d3:1<=f)(d6:b+c+f<=(arrOf st).size)(I:Srt κ (seg (arrOf st).toList b (b+c)))(G:Srt κ (seg (arrOf st).toList (b+c) (b+c+f)))
  (h:∀n X,kindOf n=kd->failedOf n=none->pendingOf n=((pendingOf st).setIfInBounds i (b,c+f,J)).eraseIdxIfInBounds (i+1)->(arrOf n).toList=(arrOf st).toList.take b++X++(arrOf st).toList.drop (b+c+f)->X.Perm (seg (arrOf st).toList b (b+c+f))->Srt κ X->Q true n):
  wpS (model prog w) A E s (mergeAt' i) Q st:=by
 rw[Sl];refine zG (tD ?_);rw[e1,Z];dsimp only;refine zG (Sk ?_);generalize hst:SortSt.mk' (kindOf st) (arrOf st) (((pendingOf st).setIfInBounds i (b,c+f,J)).eraseIdxIfInBounds (i+1)) (gallopOf st) (failedOf st)=C;have k1:kindOf C=kd:=by rw[←hst];exact c7
 have a7:arrOf C=arrOf st:=by rw[←hst]
 have a2:pendingOf C=((pendingOf st).setIfInBounds i (b,c+f,J)).eraseIdxIfInBounds (i+1):=by rw[←hst]
 have W:failedOf C=none:=by rw[←hst];exact b6
 clear hst e1 Z;generalize harr:arrOf st=arr at*
 generalize pendingOf st=d0 at*;have c8:arr.toList.length=arr.size:=zL;have N:∀d x,arr[d]?=some x->Gd κ x:=λd x e=>U x (yF (nW.mp e))
 -- already in order
 have stay:Srt κ (seg arr.toList b (b+c+f))->Q true C:=λc5=>h C _ k1 W a2 (by rw[a7,Iy ⋯]) (List.Perm.refl _) c5;have T:seg arr.toList b (b+c+f)=seg arr.toList b (b+c)++seg arr.toList (b+c) (b+c+f):=Ce ⋯ ⋯;refine zG (kR (arr:=arr) (i:=b+c) ⋯ λp ep=>?_);refine zG (Sj M k1 (λd u x y S c1 o F=>aQ I S ⋯ (nW.mp o) (nW.mp F)) U (N _ _ ep) ⋯ ⋯ λk d2 a1 c2=>?_);dsimp only;have O:∀y∈seg arr.toList (b+c) (b+c+f),le' κ p y:=λy m=>by
  obtain⟨d,v,l⟩:=iP m;exact aQ G (zY d) v (nW.mp ep) l
 refine mC (λz=>?_) λz=>?_
 ·have c9:c-k=0:=yO z;refine zI (stay ?_);rw[T];refine nE.mpr ⟨I,G,λx g y m=>?_⟩;obtain⟨d,v,l⟩:=iP g;exact kA (a1 d x ⋯ (nW.mpr l)) (O y m)
 have d1:c-k≠0:=λe=>z (oS.mpr e);refine zG (kR (arr:=arr) (i:=b+k+(c-k)-1) ⋯ λq K=>?_);rw[show b+k+(c-k)-1=b+(c-1) by omega]at K;refine zG (Si M k1 (λd u x y S c1 o F=>aQ G S ⋯ (nW.mp o) (nW.mp F)) U (N _ _ K) ⋯ ⋯ λk2 d5 b0 a4=>?_);dsimp only;have V:∀x∈seg arr.toList b (b+c),le' κ x q:=λx g=>by
  obtain⟨d,v,l⟩:=iP g;exact aQ I (show d<=c-1 by omega) ⋯ l (nW.mp K)
 refine mC (λy=>?_) λy=>?_
 ·have d8:k2=0:=yO y;refine zI (stay ?_);rw[T];refine nE.mpr ⟨I,G,λx g y m=>?_⟩;obtain⟨d,v,l⟩:=iP m;exact kA (V x g) (a4 d y ⋯ ⋯ (nW.mpr l))
 have d7:k2≠0:=λe=>y (oS.mpr e)
 -- the parts
 have R:seg arr.toList b (b+c)=seg arr.toList b (b+k)++seg arr.toList (b+k) (b+c):=Ce ⋯ ⋯;have L:seg arr.toList (b+c) (b+c+f)=seg arr.toList (b+c) (b+c+k2)++seg arr.toList (b+c+k2) (b+c+f):=Ce ⋯ ⋯;have a6:=I;have a0:=G;rw[R]at a6;rw[L]at a0;obtain⟨b3,b1,b8⟩:=nE.mp a6;obtain⟨b2,b4,c6⟩:=nE.mp a0;have a8:∀x∈seg arr.toList b (b+k),le' κ x p:=λx g=>by
  obtain⟨d,v,l⟩:=iP g;exact a1 d x ⋯ (nW.mpr l)
 have b5:∀x∈seg arr.toList (b+k) (b+c),le' κ p x:=λx g=>by
  obtain⟨d,v,l⟩:=iP g;exact kG (c2 (k+d) x ⋯ ⋯ (by rw[show b+(k+d)=b+k+d by omega];exact nW.mpr l))
 have b9:∀y∈seg arr.toList (b+c) (b+c+k2),le' κ y q:=λy m=>by
  obtain⟨d,v,l⟩:=iP m;exact kG (b0 d y ⋯ (nW.mpr l))
 have c3:∀y∈seg arr.toList (b+c+k2) (b+c+f),le' κ q y:=λy m=>by
  obtain⟨d,v,l⟩:=iP m;exact a4 (k2+d) y ⋯ ⋯ (by rw[show b+c+(k2+d)=b+c+k2+d by omega];exact nW.mpr l)
 have a3:MG κ (arr.extract (b+k) (b+c)) (arr.extract (b+c) (b+c+k2)):=by
  refine⟨by rw[iQ];exact b1,by rw[iQ];exact b2,λx g=>?_,λx g=>?_,by rw[qI];omega,by rw[qI];omega,λx o y m=>?_,λx y o F=>?_⟩
  ·rw[iQ]at g;obtain⟨d,_,l⟩:=iP g;exact N _ x (nW.mpr l)
  ·rw[iQ]at g;obtain⟨d,_,l⟩:=iP g;exact N _ x (nW.mpr l)
  ·rw[iQ]at m;rw[nW,iQ,cR,qI]at o;split at o
   ·rw[show b+k+(min (b+c) arr.size-(b+k)-1)=b+(c-1) by omega,nW.mp K]at o;cases o;exact b9 y m
   ·cases o
  ·rw[nW,iQ,cR,zF ⋯,tE,nW.mp ep]at o;cases o;rw[nW,iQ]at F;exact b5 y (yF F)
 have a5:∀(r:Array Keyed)(n:SortSt),Sm C n->Res κ (arr.extract (b+k) (b+c)).toList (arr.extract (b+c) (b+c+k2)).toList r.toList->wpS (model prog w) A E s (do
   modify λs=>setArr s (r.toList.zipIdx.foldl (λa(p,j)=>a.setIfInBounds (b+k+j) p) (arrOf s))
   return (failedOf (←get)).isNone) Q n:=λr n sm t=>by
  rw[iQ,iQ]at t;refine zG (wT (zG (tD (zI ?_))));have Y:failedOf n=none:=sm.f.trans W;show Q (failedOf n).isNone _;rw[Y];have c0:r.toList.length=(c-k)+k2:=by
   rw[t.1.length_eq,yA,Cd ⋯,Cd ⋯];omega
  refine h _ (seg arr.toList b (b+k)++r.toList++seg arr.toList (b+c+k2) (b+c+f)) (sm.k.trans k1) Y (sm.p.trans a2) ?_ ?_ ?_
  ·show(List.foldl _ (arrOf n) _).toList=_;rw[sm.a,a7,Ix r.toList 0 (b+k) arr ⋯,c0];have c4:arr.toList.take (b+k+0)=arr.toList.take b++seg arr.toList b (b+k):=by
    unfold seg;rw[tE,qQ,show b+k-b=k by omega]
   have a9:arr.toList.drop (b+k+0+(c-k+k2))=seg arr.toList (b+c+k2) (b+c+f)++arr.toList.drop (b+c+f):=by
    unfold seg;rw[show b+k+0+(c-k+k2)=b+c+k2 by omega]
    conv=>lhs;rw[←xU (b+c+f-(b+c+k2)) (arr.toList.drop (b+c+k2))]
    rw[oK,show b+c+k2+(b+c+f-(b+c+k2))=b+c+f by omega]
   rw[c4,a9];simp only[List.append_assoc]
  ·rw[T,R,L];have:=(t.1.append_left (seg arr.toList b (b+k))).append_right (seg arr.toList (b+c+k2) (b+c+f));simp only[List.append_assoc]at this ⊢;exact this
  ·have mem:∀x∈r.toList,x∈seg arr.toList (b+k) (b+c)\/x∈seg arr.toList (b+c) (b+c+k2):=λx g=>oW.mp (t.1.mem_iff.mp g);refine nE.mpr ⟨nE.mpr ⟨b3,t.2,λx g y m=>?_⟩,b4,λx g y m=>?_⟩
   ·rcases mem y m with D|D
    ·exact b8 x g y D
    ·exact kA (a8 x g) (O y (by rw[L];exact xI _ D))
   ·rcases oW.mp g with D|D
    ·exact kA (a8 x D) (O y (by rw[L];exact yP _ m))
    ·rcases mem x D with P|P
     ·exact kA (V x (by rw[R];exact yP _ P)) (c3 y m)
     ·exact c6 x P y m
 refine mC (λ_=>?_) λ_=>?_
 ·exact zG (Sv M k1 a3 λr n sm t=>a5 r n sm t)
 ·exact zG (Sn M k1 a3 λr n sm t=>a5 r n sm t)
theorem cS(e:Cmp prog w A s κ kd){st:SortSt}{i j:Nat}{Q:Option Bool->SortSt->Prop}(d:kindOf st=kd)(a:∀x∈(arrOf st).toList,Gd κ x)(hi:i<(arrOf st).size)(f:j<(arrOf st).size)
  (h:∀x y,(arrOf st)[i]?=some x->(arrOf st)[j]?=some y->Q (some (lq κ x y)) st):wpS (model prog w) A E s (ltAt' i j) Q st:=by
 rw[ltAt'_eq];refine zG (tD ?_);refine zG (kR hi λx c=>?_);refine zG (kR f λy b=>?_);exact cN e d (a x (yF (nW.mp c))) (a y (yF (nW.mp b))) (h x y c b)
structure Ch(lo hi:Nat)(st st':SortSt):Prop where
 k:kindOf st'=kindOf st
 p:pendingOf st'=pendingOf st
 f:failedOf st'=failedOf st
 z:(arrOf st').size=(arrOf st).size
 m:(arrOf st').Perm (arrOf st)
 o:∀i,i<lo\/hi<=i->(arrOf st')[i]?=(arrOf st)[i]?
theorem Ch.refl(lo hi:Nat)(st:SortSt):Ch lo hi st st:=⟨rfl,rfl,rfl,rfl,pZ _,λ_ _=>rfl⟩
theorem Ch.trans{lo hi:Nat}{a b c:SortSt}(d:Ch lo hi a b)(e:Ch lo hi b c):Ch lo hi a c:=⟨e.k.trans d.k,e.p.trans d.p,e.f.trans d.f,e.z.trans d.z,e.m.trans d.m,λi hi=>(e.o i hi).trans (d.o i hi)⟩
theorem Ch.wide{lo hi hi':Nat}{a b:SortSt}(h:Ch lo hi a b)(hh:hi<=hi'):Ch lo hi' a b:=⟨h.k,h.p,h.f,h.z,h.m,λi hi=>h.o i ⋯⟩
theorem Ch.good{lo hi:Nat}{a b:SortSt}(h:Ch lo hi a b)(d:∀x∈(arrOf a).toList,Gd κ x):∀x∈(arrOf b).toList,Gd κ x:=λx c=>d x ((h.m.toList.mem_iff).mp c)
def Up(κ:PyProof.Rows.KeyKind)(a:Array Keyed)(lo hi:Nat):Prop:=∀i j x y,lo<=i->i<=j->j<hi->a[i]?=some x->a[j]?=some y->le' κ x y
def Dn(κ:PyProof.Rows.KeyKind)(a:Array Keyed)(lo hi:Nat):Prop:=∀i j x y,lo<=i->i<=j->j<hi->a[i]?=some x->a[j]?=some y->le' κ y x
theorem Up.one{a:Array Keyed}{lo:Nat}:Up κ a lo (lo+1):=λi j x y e f d c b=>by
 have:i=j:=⋯
 subst this;rw[c]at b;cases b;exact gH _
theorem Up.more{a:Array Keyed}{lo hi hi':Nat}(h:Up κ a lo hi)(hl:lo<hi)(o:hi<a.size)(g:∀x y,a[hi-1]?=some x->a[hi]?=some y->le' κ x y)(m:hi'=hi+1:=by omega):Up κ a lo hi':=λi j x y d l n c b=>by
 subst m;rcases uL j hi with q|q
 ·exact h i j x y d l q c b
 ·have k:j=hi:=⋯
  subst k;rcases uL i j with f|f
  ·obtain⟨u,e⟩:=lQ (a:=a) (i:=j-1) ⋯;exact kA (h i (j-1) x u d ⋯ ⋯ c e) (g u y e b)
  ·have:i=j:=⋯
   subst this;rw[c]at b;cases b;exact gH _
theorem Up.same{a b:Array Keyed}{lo hi:Nat}(h:Up κ a lo hi)(e:∀i,lo<=i->i<hi->b[i]?=a[i]?):Up κ b lo hi:=λi j x y d g c k f=>h i j x y d g c (by rw[←e i d ⋯];exact k) (by rw[←e j ⋯ c];exact f)
theorem Dn.more{a:Array Keyed}{lo hi hi':Nat}(h:Dn κ a lo hi)(hl:lo<hi)(o:hi<a.size)(g:∀x y,a[hi-1]?=some x->a[hi]?=some y->le' κ y x)(m:hi'=hi+1:=by omega):Dn κ a lo hi':=λi j x y d l n c b=>by
 subst m;rcases uL j hi with q|q
 ·exact h i j x y d l q c b
 ·have k:j=hi:=⋯
  subst k;rcases uL i j with f|f
  ·obtain⟨u,e⟩:=lQ (a:=a) (i:=j-1) ⋯;exact kA (g u y e b) (h i (j-1) x u d ⋯ ⋯ c e)
  ·have:i=j:=⋯
   subst this;rw[c]at b;cases b;exact gH _
abbrev mir(a:Array Keyed)(i j:Nat):Array Keyed:=mirror a i j ((j-i)/2)
theorem gW{a:Array Keyed}{i j k:Nat}(b:j<=a.size):(mir a i j)[k]?=if i<=k/\k<j then a[i+j-1-k]? else a[k]?:=getElem?_mirror_all b k
theorem Dn.turned{a:Array Keyed}{lo hi c b:Nat}(h:Dn κ a lo hi)(u:Up κ a c b)(hl:lo<=c)(o:b<=hi)(n:hi<=a.size):Dn κ (mir a c b) lo hi:=λi j x y l m g e d=>by
 rw[gW ⋯]at e d
 by_cases k:c<=i/\i<b
 ·rw[zF k]at e
  by_cases f:c<=j/\j<b
  ·rw[zF f]at d;exact u _ _ y x ⋯ (show c+b-1-j<=c+b-1-i by omega) ⋯ d e
  ·rw[zD f]at d;exact h _ _ x y ⋯ (show c+b-1-i<=j by omega) g e d
 ·rw[zD k]at e
  by_cases f:c<=j/\j<b
  ·rw[zF f]at d;exact h _ _ x y l (show i<=c+b-1-j by omega) ⋯ e d
  ·rw[zD f]at d;exact h _ _ x y l m g e d
theorem Dn.up{a:Array Keyed}{lo hi:Nat}(h:Dn κ a lo hi)(b:hi<=a.size):Up κ (mir a lo hi) lo hi:=λi j x y f g e d c=>by
 rw[gW b,zF ⟨f,⋯⟩]at d;rw[gW b,zF ⟨⋯,e⟩]at c;exact h _ _ y x ⋯ (show lo+hi-1-j<=lo+hi-1-i by omega) ⋯ c d
theorem aR{st:SortSt}{i j:Nat}{Q:Unit->SortSt->Prop}(b:j<=(arrOf st).size)(h:∀a,Ch i j st a->arrOf a=mir (arrOf st) i j->Q () a):wpS (model prog w) A E s (reverseSlice' i j) Q st:=by
 rw[reverseSlice'_eq];refine wT (h _ ⟨rfl,rfl,rfl,mirror_size _ _ _ _,mirror_perm _ _ _ _,λk c=>?_⟩ rfl);exact(gW b).trans (zD ⋯)
theorem Iw(t:Cmp prog w A s κ kd){st:SortSt}{lo n0 a:Nat}{f:Nat->Option (Option Nat)×Nat->StateT SortSt Sem (ForInStep (Option (Option Nat)×Nat))}{Q:Option (Option Nat)×Nat->SortSt->Prop}(F:kindOf st=kd)(D:∀x∈(arrOf st).toList,Gd κ x)(K:lo+a<=(arrOf st).size)(I:1<=n0)(m:n0<=a)(C:Up κ (arrOf st) lo (lo+n0))
  (r:∀x c,f x c=(do
   let o ←ltAt' (lo+c.2) (lo+c.2-1)
   match o with
    |some l=>if l=true then pure (ForInStep.done (none,c.2)) else pure (ForInStep.yield (none,c.2+1))
    |_=>pure (ForInStep.done (some none,c.2))))
  (h:∀n,n0<=n->n<=a->Up κ (arrOf st) lo (lo+n)->(n=a\/∀x y,(arrOf st)[lo+n]?=some x->(arrOf st)[lo+n-1]?=some y->lq κ x y=true)->Q (none,n) st):
  wpS (model prog w) A E s (forIn [n0:a] ((none,n0):Option (Option Nat)×Nat) f) Q st:=by
 refine wN (xH (I:=λx c b=>b=st/\c=(none,x)/\n0<=x/\x<=a/\Up κ (arrOf st) lo (lo+x))
  (Q:=λc b=>b=st/\∃n,c=(none,n)/\n0<=n/\n<=a/\Up κ (arrOf st) lo (lo+n)/\(n=a\/∀x y,(arrOf st)[lo+n]?=some x->(arrOf st)[lo+n-1]?=some y->lq κ x y=true)) ?_ ?_ ⟨rfl,rfl,zE _,m,C⟩) ?_
 ·rintro x c b J G ⟨rfl,rfl,g,i,d⟩;rw[r];dsimp only;refine zG (cS t F D ⋯ ⋯ λp q ep k=>?_);dsimp only;cases hl:lq κ p q with
  |true =>
   rw[zF rfl];refine zI ⟨rfl,x,rfl,g,i,d,.inr λu v e j=>?_⟩;rw[ep]at e;rw[k]at j;cases e;cases j;exact hl
  |false =>
   rw[zD (by simp)];refine zI ⟨rfl,rfl,⋯,⋯,?_⟩;refine Up.more d ⋯ ⋯ λu v e j=>?_;rw[k]at e;rw[ep]at j;cases e;cases j;exact hl
 ·rintro c b ⟨rfl,rfl,g,i,d⟩;exact⟨rfl,_,rfl,g,i,d,.inl ⋯⟩
 ·rintro c b ⟨rfl,n,rfl,g,i,d,z⟩;exact h n g i d z
theorem Iv{b:Type}{c:Prop}[Decidable c]{P T:StateT SortSt Sem b}{R:SortSt->Prop}{st:SortSt}{Q:b->SortSt->Prop}(d:c->(∀a,R a->wpS (model prog w) A E s P Q a)->wpS (model prog w) A E s T Q st)(e:¬ c->R st)(go:∀a,R a->wpS (model prog w) A E s P Q a):wpS (model prog w) A E s (if c then T else P) Q st:=
 mC (λx=>d x go) λx=>go st (e x)
theorem Sg(t:Cmp prog w A s κ kd){st:SortSt}{lo o:Nat}{Q:Option Nat->SortSt->Prop}(M:kindOf st=kd)(K:∀x∈(arrOf st).toList,Gd κ x)(b0:lo+o<=(arrOf st).size)(a2:1<=o)
  (h:∀n b,1<=n->n<=o->Ch lo (lo+n) st b->Up κ (arrOf b) lo (lo+n)->Q (some n) b):wpS (model prog w) A E s (countRun' lo o) Q st:=by
 rw[countRun'_eq];refine zG (Iw t M K b0 (zE _) a2 Up.one (λx c=>rfl) λn T Y up nx=>?_);dsimp only;refine mC (λz=>?_) λz=>?_
 ·exact zI (h n st T Y (Ch.refl _ _ _) up)
 have R:n≠o:=λe=>z (oS.mpr e);have S:=nx.resolve_left R;refine Iv (R:=λD=>Ch lo (lo+n) st D/\Dn κ (arrOf D) lo (lo+n+1)) (λy go=>?_) (λy=>?_) λD a7=>?_
 ·refine zG (cS t M K ⋯ ⋯ λp q ep l=>?_);dsimp only;cases hl:lq κ p q with
  |true =>
   rw[zF rfl];exact zI (h n st T Y (Ch.refl _ _ _) up)
  | false =>
   rw[zD (by simp)];refine zG (aR ⋯ λD r X=>?_);refine go D ⟨r,Dn.more (hi:=lo+n) ?_ ⋯ (by rw[r.z];omega) λu v d g=>?_⟩
   ·-- all alike
    rw[X];intro i j x y b1 b2 W I C;rw[gW ⋯,zF ⟨b1,⋯⟩]at I;rw[gW ⋯,zF ⟨⋯,W⟩]at C;exact up _ _ y x ⋯ (show lo+(lo+n)-1-j<=lo+(lo+n)-1-i by omega) ⋯ C I
   ·rw[r.o _ (.inr (zE _))]at g;rw[X,gW ⋯,zF ⋯,show lo+(lo+n)-1-(lo+n-1)=lo by omega,ep]at d;cases d;exact kA (kG (S v q g l)) hl
 ·have:n=1:=⋯
  subst this;refine⟨Ch.refl _ _ _,Dn.more (hi:=lo+1) (λi j x y b1 b2 W I C=>?_) ⋯ ⋯ λu v d g=>kG (S v u g d)⟩;have:i=j:=⋯
  subst this;rw[I]at C;cases C;exact gH _
 ·obtain⟨r,dn⟩:=a7;refine zG (qE (wJ ⟨rfl,?_⟩));refine zG (wN (xH (I:=λx c b=>∃f,c=(none,x,f)/\n+1<=x/\x<=o/\f+1<=x/\Ch lo (lo+x) st b/\Dn κ (arrOf b) lo (lo+x)/\Up κ (arrOf b) (lo+x-(f+1)) (lo+x))
   (Q:=λc b=>∃x f,c=(none,x,f)/\n+1<=x/\x<=o/\f+1<=x/\Ch lo (lo+x) st b/\Dn κ (arrOf b) lo (lo+x)/\Up κ (arrOf b) (lo+x-(f+1)) (lo+x)) ?_ ?_ ⟨0,rfl,zE _,⋯,⋯,r.wide ⋯,dn,by rw[show lo+(n+1)=lo+n+1 by omega];exact Up.one⟩) ?_)
  ·rintro x c b c0 b7 ⟨f,rfl,L,F,J,ch,dn,up⟩;have a1:kindOf b=kd:=ch.k.trans M;have V:=ch.good K;have R:=ch.z;dsimp only;refine zG (cS t a1 V ⋯ ⋯ λp q ep l=>?_);dsimp only;cases hl:lq κ p q with
   |true =>
    rw[zF rfl];refine mC (λN=>?_) λN=>?_
    ·refine zG (aR ⋯ λk a G=>zI ?_);have O:Ch lo (lo+x) b k:=⟨a.k,a.p,a.f,a.z,a.m,λi hi=>a.o i ⋯⟩;refine⟨0,rfl,⋯,⋯,⋯,(ch.trans O).wide ⋯,?_,by rw[show lo+(x+1)-(0+1)=lo+x by omega];exact Up.one⟩;refine Dn.more (hi:=lo+x) (by rw[G];exact Dn.turned dn up ⋯ (zE _) ⋯) ⋯ (by rw[a.z];omega) λu v d g=>?_;rw[a.o _ (.inr (zE _)),ep]at g;cases g;rw[G,gW ⋯,zF ⋯]at d;have l1:le' κ q u:=dn _ _ u q ⋯ (show lo+x-(f+1)+(lo+x)-1-(lo+x-1)<=lo+x-1 by omega) ⋯ d l;exact kA (kG hl) l1
    ·refine zI ⟨0,rfl,⋯,⋯,⋯,ch.wide ⋯,?_,by rw[show lo+(x+1)-(0+1)=lo+x by omega];exact Up.one⟩;refine Dn.more dn ⋯ ⋯ λu v d g=>?_;rw[l]at d;rw[ep]at g;cases d;cases g;exact kG hl
   | false =>
    rw[zD (by simp)];refine zG (cS t a1 V ⋯ ⋯ λb9 b5 a0 Z=>?_);rw[l]at a0;rw[ep]at Z;cases a0;cases Z;dsimp only;cases hl2:lq κ q p with
    |true =>
     rw[zF rfl];exact zI ⟨x,f,rfl,L,F,J,ch,dn,up⟩
    | false =>
     rw[zD (by simp)];refine zI ⟨f+1,rfl,⋯,⋯,⋯,ch.wide ⋯,?_,?_⟩
     ·refine Dn.more dn ⋯ ⋯ λu v d g=>?_;rw[l]at d;rw[ep]at g;cases d;cases g;exact hl2
     ·have:=Up.more (hi':=lo+(x+1)) up ⋯ ⋯ λu v d g=>by
       rw[l]at d;rw[ep]at g;cases d;cases g;exact hl
      rw[show lo+(x+1)-(f+1+1)=lo+x-(f+1) by omega];exact this
  ·rintro c b ⟨f,rfl,L,F,J,ch,dn,up⟩;exact⟨_,f,rfl,L,F,J,ch,dn,up⟩
  ·rintro c b ⟨x,f,rfl,L,F,J,ch,dn,up⟩;dsimp only;refine Iv (R:=λk=>Ch lo (lo+x) st k/\Dn κ (arrOf k) lo (lo+x)) (λN a8=>?_) (λN=>⟨ch,dn⟩) λk a9=>?_
   ·have R:=ch.z;refine zG (aR ⋯ λk a G=>?_);have O:Ch lo (lo+x) b k:=⟨a.k,a.p,a.f,a.z,a.m,λi hi=>a.o i ⋯⟩;exact a8 k ⟨ch.trans O,by rw[G];exact Dn.turned dn up ⋯ (zE _) ⋯⟩
   ·obtain⟨a,a4⟩:=a9;have b8:=a.z;refine zG (aR ⋯ λa5 U a3=>?_);have P:=a.trans U;have b4:=U.z;refine zG (Iw t (P.k.trans M) (P.good K) ⋯ ⋯ F (by rw[a3];exact Dn.up a4 ⋯) (λ_ _=>rfl) λm b6 b3 a6 _=>?_);dsimp only;exact zI (h m a5 ⋯ b3 (P.wide ⋯) a6)
theorem Sf{x y z:Keyed}(a:lq κ x y=true)(b:le' κ y z):lq κ x z=true:=KeyOrd.klt_of_klt_of_kle (O:=κ.toKeyOrd) a b
theorem Up.put{a:Array Keyed}{lo k l:Nat}{p:Keyed}(e:Up κ a lo (lo+k))(m:lo+k<a.size)(ep:a[lo+k]?=some p)(hl:l<=k)(n:∀i u,lo<=i->i<lo+l->a[i]?=some u->le' κ u p)(q:∀i u,lo+l<=i->i<lo+k->a[i]?=some u->lq κ p u=true):
  Up κ (bubble a (lo+k) (lo+k-(lo+l))) lo (lo+(k+1)):=λi j x y d o r c b=>by
 rw[getElem?_bubble m _ ⋯,show lo+k-(lo+k-(lo+l))=lo+l by omega]at c b
 by_cases f:i=lo+l
 ·rw[zF f,ep]at c;cases c
  by_cases b1:j=lo+l
  ·rw[zF b1,ep]at b;cases b;exact gH _
  ·rw[zD b1,zF ⋯]at b;exact kG (q _ _ ⋯ ⋯ b)
 ·rw[zD f]at c
  by_cases g:lo+l<i/\i<=lo+k
  ·rw[zF g]at c;rw[zD ⋯,zF ⋯]at b;exact e _ _ _ _ ⋯ (show i-1<=j-1 by omega) ⋯ c b
  ·rw[zD g]at c
   by_cases b1:j=lo+l
   ·rw[zF b1,ep]at b;cases b;exact n _ _ d ⋯ c
   ·rw[zD b1]at b
    by_cases b2:lo+l<j/\j<=lo+k
    ·rw[zF b2]at b;exact e _ _ _ _ d (show i<=j-1 by omega) ⋯ c b
    ·rw[zD b2]at b;exact e _ _ _ _ d o ⋯ c b
theorem Se(L:Cmp prog w A s κ kd){st:SortSt}{lo n ok:Nat}{Q:Bool->SortSt->Prop}(S:kindOf st=kd)(N:∀x∈(arrOf st).toList,Gd κ x)(Z:lo+n<=(arrOf st).size)(D:1<=ok)(C:ok<=n)(M:Up κ (arrOf st) lo (lo+ok))
  (h:∀a,Ch lo (lo+n) st a->Up κ (arrOf a) lo (lo+n)->Q true a):wpS (model prog w) A E s (binarySort' lo n ok) Q st:=by
 rw[binarySort'_eq];refine zG (wN (xH (I:=λk c a=>c=(none,())/\ok<=k/\k<=n/\Ch lo (lo+n) st a/\Up κ (arrOf a) lo (lo+k))
  (Q:=λc a=>c=(none,())/\Ch lo (lo+n) st a/\Up κ (arrOf a) lo (lo+n)) ?step ?fin ?init) ?post)
 case post =>
  rintro c a ⟨rfl,b,d⟩;exact zI (h a b d)
 case init=>rw[show max ok 1=ok by omega];exact⟨rfl,zE _,C,Ch.refl _ _ _,M⟩
 case fin =>
  rintro c a ⟨K,O,P,b,d⟩;rw[show max (max ok 1) n=n by omega]at d;exact⟨K,b,d⟩
 case step =>
  rintro k c a W X ⟨rfl,O,P,b,d⟩;have T:=b.z;have R:kindOf a=kd:=b.k.trans S;have F:=b.good N;obtain⟨p,ep⟩:=lQ (a:=arrOf a) (i:=lo+k) ⋯;refine zG (wN (xH (I:=λx c g=>g=a/\∃l r,c=(none,l,r)/\l<=r/\r<=k/\r-l<=k-x /\
    (∀i u,lo<=i->i<lo+l->(arrOf a)[i]?=some u->le' κ u p)/\(∀i u,lo+r<=i->i<lo+k->(arrOf a)[i]?=some u->lq κ p u=true))
   (Q:=λc g=>g=a/\∃l r,c=(none,l,r)/\l<=k /\
    (∀i u,lo<=i->i<lo+l->(arrOf a)[i]?=some u->le' κ u p)/\(∀i u,lo+l<=i->i<lo+k->(arrOf a)[i]?=some u->lq κ p u=true)) ?istep ?ifin ?iinit) ?ipost)
  case iinit=>exact⟨rfl,0,k,rfl,⋯,⋯,⋯,λi u _ hi=>⋯,λi u D Y=>⋯⟩
  case ifin =>
   rintro c g ⟨rfl,l,r,rfl,z,m,J,e,f⟩;have:l=r:=⋯
   subst this;exact⟨rfl,l,l,rfl,m,e,f⟩
  case istep =>
   rintro x c g _ V ⟨rfl,l,r,rfl,z,m,J,e,f⟩;dsimp only;refine mC (λI=>?_) λI=>?_
   ·have:l=r:=⋯
    subst this;exact zI ⟨rfl,l,l,rfl,m,e,f⟩
   ·refine zG (cS L R F ⋯ ⋯ λU q y t=>?_);rw[ep]at y;cases y;dsimp only;cases hless:lq κ p q with
    |true =>
     rw[zF rfl];refine zI ⟨rfl,l,(l+r)/2,rfl,⋯,⋯,⋯,e,λi u o v j=>?_⟩;exact Sf hless (d _ _ _ _ ⋯ o v t j)
    |false =>
     rw[zD (by simp)];refine zI ⟨rfl,(l+r)/2+1,r,rfl,⋯,⋯,⋯,λi u o v j=>?_,f⟩;exact kA (d _ _ _ _ o (show i<=lo+(l+r)/2 by omega) ⋯ j t) hless
  case ipost =>
   rintro c g ⟨rfl,l,r,rfl,G,e,f⟩;show wpS _ _ _ _ (do moveDown' (lo+k) (lo+l);pure (ForInStep.yield (none,()))) _ _;rw[moveDown'_eq];refine zG (wT (zI ⟨rfl,⋯,⋯,b.trans ⟨rfl,rfl,rfl,bubble_size _ _ _,bubble_perm _ _ _,λi hi=>?_⟩,d.put ⋯ ep G e f⟩));exact(getElem?_bubble ⋯ _ ⋯ i).trans (by rw[zD ⋯,zD ⋯])
def Run(κ:PyProof.Rows.KeyKind)(a:Array Keyed):Nat->List (Nat×Nat×Nat)->Nat->Prop
 |s,[],e=>s=e
 |s,x:: xs,e=>x.1=s/\1<=x.2.1/\Up κ a s (s+x.2.1)/\Run κ a (s+x.2.1) xs e
theorem Run.le{a:Array Keyed}:∀{xs:List (Nat×Nat×Nat)}{s e:Nat},Run κ a s xs e->s+xs.length<=e
 |[],s,e,h=>by have:s=e:=h;simp[this]
 |x:: xs,s,e,h=>by have:=Run.le h.2.2.2;have:=h.2.1;simp only[List.length_cons];omega
theorem Run.app{a:Array Keyed}:∀{xs ys:List (Nat×Nat×Nat)}{s e:Nat},Run κ a s (xs++ys) e ↔ ∃m,Run κ a s xs m/\Run κ a m ys e
 |[],ys,s,e=>⟨λh=>⟨s,rfl,h⟩,λ⟨m,b,c⟩=>by cases(show s=m from b);exact c⟩
 |x:: xs,ys,s,e=>⟨λ⟨b,c,d,f⟩=>let ⟨m,j,i⟩:=Run.app.mp f;⟨m,⟨b,c,d,j⟩,i⟩,λ⟨m,⟨b,c,d,f⟩,g⟩=>⟨b,c,d,Run.app.mpr ⟨m,f,g⟩⟩⟩
theorem Run.same{a b:Array Keyed}:∀{xs:List (Nat×Nat×Nat)}{s e:Nat},(∀i,s<=i->i<e->b[i]?=a[i]?)->Run κ a s xs e->Run κ b s xs e
 |[],_,_,_,h=>h
 |x:: xs,s,e,q,h=>by
  have:=Run.le h.2.2.2;exact⟨h.1,h.2.1,h.2.2.1.same λi c d=>q i c ⋯,Run.same (λi c d=>q i ⋯ d) h.2.2.2⟩
theorem aS{a:Array Keyed}{i j:Nat}(h:Up κ a i j):Srt κ (seg a.toList i j):=by
 rw[Srt,oU];intro d u c e f;have e1:=xN c;have b:=xN e;rw[cR]at e1 b;split at e1
 ·split at b
  ·exact h _ _ _ _ ⋯ (show i+d<=i+u by omega) ⋯ (nW.mpr e1) (nW.mpr b)
  ·cases b
 ·cases e1
theorem Sd{a:Array Keyed}{l X r:List Keyed}{i j:Nat}(e:a.toList=l++X++r)(hl:l.length=i)(k:X.length=j-i)(h:Srt κ X):Up κ a i j:=λp q x y n o m d b=>by
 have d:=nW.mp d;have b:=nW.mp b;rw[e,yK,zX ⋯,yB ⋯]at d b;rcases uL p q with c|c
 ·have g:p-l.length<X.length:=⋯
  have f:q-l.length<X.length:=⋯
  rw[xN g]at d;rw[xN f]at b;cases d;cases b;exact(oU.mp h) _ _ g f ⋯
 ·have:p=q:=⋯
  subst this;rw[d]at b;cases b;exact gH _
structure Wt(κ:PyProof.Rows.KeyKind)(kd:SortKind)(a₀:Array Keyed)(hi:Nat)(st:SortSt):Prop where
 k:kindOf st=kd
 f:failedOf st=none
 m:(arrOf st).Perm a₀
 r:Run κ (arrOf st) 0 (pendingOf st).toList hi
theorem Wt.z{a₀:Array Keyed}{hi:Nat}{st:SortSt}(h:Wt κ kd a₀ hi st):(arrOf st).size=a₀.size:=h.m.size_eq
theorem Wt.good{a₀:Array Keyed}{hi:Nat}{st:SortSt}(h:Wt κ kd a₀ hi st)(b:∀x∈a₀.toList,Gd κ x):∀x∈(arrOf st).toList,Gd κ x:=λx a=>b x ((h.m.toList.mem_iff).mp a)
theorem Sc{p:Array (Nat×Nat×Nat)}{xs ys:List (Nat×Nat×Nat)}{e f g:Nat×Nat×Nat}(h:p.toList=xs++e:: f:: ys):((p.setIfInBounds xs.length g).eraseIdxIfInBounds (xs.length+1)).toList=xs++g:: ys:=by
 have a:xs.length+1<(p.setIfInBounds xs.length g).size:=by
  rw[Array.size_setIfInBounds,←zL,h];simp
 rw[Array.eraseIdxIfInBounds,dif_pos a,Array.toList_eraseIdx,Array.toList_setIfInBounds,h,List.set_append_right _ _ (zE _),vN];rw[uD ⋯];simp
theorem Cc(y:Cmp prog w A s κ kd){a₀:Array Keyed}(F:∀x∈a₀.toList,Gd κ x){st:SortSt}{i hi:Nat}{xs ys:List (Nat×Nat×Nat)}{e f:Nat×Nat×Nat}{Q:Bool->SortSt->Prop}(c:Wt κ kd a₀ hi st)(hh:hi<=a₀.size)(d:(pendingOf st).toList=xs++e:: f:: ys)(v:i=xs.length)
  (h:∀a,Wt κ kd a₀ hi a->(pendingOf a).toList=xs++(e.1,e.2.1+f.2.1,e.2.2):: ys->(∀j,hi<=j->(arrOf a)[j]?=(arrOf st)[j]?)->Q true a):wpS (model prog w) A E s (mergeAt' i) Q st:=by
 subst v;have hr:=c.r;rw[d]at hr;obtain⟨m,r1,k,C,D,r,G,t,r2⟩:=Run.app.mp hr;have l1:=r1.le;have l2:=r2.le;have J:=c.z;have e1:(pendingOf st)[xs.length]?=some (m,e.2.1,e.2.2):=by
  rw[←yI,d,zX (zE _),vN,←k];rfl
 have u:(pendingOf st)[xs.length+1]?=some (m+e.2.1,f.2.1,f.2.2):=by
  rw[←yI,d,zX ⋯,Nat.add_sub_cancel_left,←r];rfl
 refine Sh y c.k (c.good F) c.f e1 u C G ⋯ (aS D) (aS t) λa X k' z o g n p=>?_;have I:X.length=e.2.1+f.2.1:=by rw[n.length_eq,Cd (by rw[zL];omega)];omega
 have lt:((arrOf st).toList.take m).length=m:=by rw[yG,zL];omega
 have ps:(pendingOf a).toList=xs++(e.1,e.2.1+f.2.1,e.2.2):: ys:=by
  rw[o,←k];exact Sc d
 have up:Up κ (arrOf a) m (m+e.2.1+f.2.1):=Sd g lt ⋯ p;have lo:∀j,j<m->(arrOf a)[j]?=(arrOf st)[j]?:=λj b=>by
  rw[←yI,←yI,g,yK,yB ⋯,wE b]
 have l:∀j,m+e.2.1+f.2.1<=j->(arrOf a)[j]?=(arrOf st)[j]?:=λj b=>by
  rw[←yI,←yI,g,zX (by rw[yA];omega),vQ];congr 1;rw[yA];omega
 refine h a ⟨k',z,?_,?_⟩ ps λj b=>l j ⋯
 ·refine Array.Perm.trans (Array.perm_iff_toList_perm.mpr ?_) c.m;have q:=(n.append_left ((arrOf st).toList.take m)).append_right ((arrOf st).toList.drop (m+e.2.1+f.2.1));rw[Iy ⋯]at q;rw[g];exact q
 ·rw[ps];refine Run.app.mpr ⟨m,r1.same λj _ b=>lo j b,k,(show 1<=e.2.1+f.2.1 by omega),?_,?_⟩
  ·show Up κ _ m (m+(e.2.1+f.2.1));rw[←rE];exact up
  ·show Run κ _ (m+(e.2.1+f.2.1)) _ _;rw[←rE];exact r2.same λj b _=>l j b
theorem Run.modify{a:Array Keyed}{f:Nat×Nat×Nat->Nat×Nat×Nat}(b:∀e,(f e).1=e.1/\(f e).2.1=e.2.1):∀{xs:List (Nat×Nat×Nat)}{i s e:Nat},Run κ a s xs e->Run κ a s (xs.modify i f) e
 |[],i,s,e,h=>by cases i <;> exact h
 |x:: xs,0,s,e,h=>by
  show(f x).1=s/\1<=(f x).2.1/\Up κ a s (s+(f x).2.1)/\Run κ a (s+(f x).2.1) xs e;rw[(b x).1,(b x).2];exact h
 |x:: xs,i+1,s,e,h=>⟨h.1,h.2.1,h.2.2.1,Run.modify b h.2.2.2⟩
theorem Sb{b:Prop}[Decidable b]{z:Nat}(h:¬ z<=1):(if b then z-2-1 else z-2)+1<z:=by split <;> omega
theorem Cb{p:Array (Nat×Nat×Nat)}{i:Nat}(h:i+1<p.size):∃xs e f ys,p.toList=xs++e:: f:: ys/\xs.length=i:=by
 have h':i+1<p.toList.length:=by rw[zL];exact h
 refine⟨p.toList.take i,p.toList[i],p.toList[i+1],p.toList.drop (i+2),?_,by rw[yG];omega⟩;rw[←vZ,←vZ,xU]
theorem Wt.push{a₀:Array Keyed}{lo n:Nat}{st:SortSt}(h:Wt κ kd a₀ lo st)(a:1<=n)(b:Up κ (arrOf st) lo (lo+n)):Wt κ kd a₀ (lo+n) (setPending st ((pendingOf st).push (lo,n,0))):=
 ⟨h.k,h.f,h.m,by
  show Run κ (arrOf st) 0 ((pendingOf st).push (lo,n,0)).toList (lo+n);rw[uW];exact Run.app.mpr ⟨lo,h.r,rfl,a,b,rfl⟩⟩
theorem Sa(G:Cmp prog w A s κ kd){a₀:Array Keyed}(J:∀x∈a₀.toList,Gd κ x){st:SortSt}{Q:Unit->SortSt->Prop}(b0:kindOf st=kd)(a0:failedOf st=none)(a3:pendingOf st=#[])(T:arrOf st=a₀)
  (h:∀a,kindOf a=kd->failedOf a=none->(arrOf a).Perm a₀->Up κ (arrOf a) 0 a₀.size->Q () a):wpS (model prog w) A E s sortRuns' Q st:=by
 rw[sortRuns'_eq];refine zG (tD ?_);rw[T];dsimp only;have a1:Wt κ kd a₀ 0 st:=⟨b0,a0,by rw[T],by rw[a3];rfl⟩;refine zG (wN (xH (I:=λx c a=>∃lo,c=(none,lo)/\x<=lo/\lo<=a₀.size/\Wt κ kd a₀ lo a)
  (Q:=λc a=>c=(none,a₀.size)/\Wt κ kd a₀ a₀.size a) ?step ?fin ⟨0,rfl,zE _,zY _,a1⟩) ?post)
 case fin =>
  rintro c a ⟨lo,rfl,X,S,g⟩;have:lo=a₀.size:=⋯
  subst this;exact⟨rfl,g⟩
 case step =>
  rintro x c a b4 b2 ⟨lo,rfl,X,S,g⟩;dsimp only;refine mC (λz=>?_) λz=>?_
  ·have:lo=a₀.size:=⋯
   subst this;exact zI ⟨rfl,g⟩
  have b5:=g.z;refine zG (Sg G g.k (g.good J) ⋯ ⋯ λn U N b3 k O=>?_);dsimp only;have W:∀l,kindOf l=kindOf a->pendingOf l=pendingOf a->failedOf l=failedOf a->(arrOf l).Perm (arrOf a)->(∀i,i<lo->(arrOf l)[i]?=(arrOf a)[i]?)->Wt κ kd a₀ lo l:=λl e1 a2 Y a9 Z=>⟨e1.trans g.k,Y.trans g.f,a9.trans g.m,by rw[a2];exact g.r.same λi _ hi=>Z i hi⟩;refine mC (λy=>?_) λy=>?_
  ·refine zG (qE (wJ ⟨rfl,?_⟩));have b1:=k.z;refine zG (Se G (k.k.trans g.k) (k.good (g.good J)) ⋯ N ⋯ O λl C t=>?_);rw[zD (by simp)];obtain⟨u,K,r,t⟩:Wt κ kd a₀ lo l/\1<=min (a₀.size-lo) (minRun' a₀.size a₀.size 0)/\lo+min (a₀.size-lo) (minRun' a₀.size a₀.size 0)<=a₀.size/\Up κ (arrOf l) lo (lo+min (a₀.size-lo) (minRun' a₀.size a₀.size 0)):=⟨W l (C.k.trans k.k) (C.p.trans k.p) (C.f.trans k.f) (C.m.trans k.m) λi hi=>(C.o i (.inl hi)).trans (k.o i (.inl hi)),⋯,⋯,t⟩
   revert K r t
   generalize min (a₀.size-lo) (minRun' a₀.size a₀.size 0)=n;intro K r t;refine zG (tD ?_);cases hb:(pendingOf l).back? with
   |none =>
    dsimp only;exact zG (wT (zI ⟨lo+n,rfl,⋯,r,u.push K t⟩))
   | some D =>
    obtain⟨v,k1,a5⟩:=D;dsimp only;generalize power' a₀.size (2*v+k1) (2*v+k1+k1+n) a₀.size=F;refine zG (wN (xH (I:=λx c a=>c=(none,())/\Wt κ kd a₀ lo a/\Up κ (arrOf a) lo (lo+n))
     (Q:=λc a=>c=(none,())/\Wt κ kd a₀ lo a/\Up κ (arrOf a) lo (lo+n)) ?istep1 (λc a hh=>hh) ⟨rfl,u,t⟩) ?ipost1)
    case istep1 =>
     rintro x c b _ _ ⟨rfl,d,m⟩;refine zG (tD ?_)
     by_cases I:(pendingOf b).size > 1
     ·rw[zF I];obtain⟨xs,e,f,ys,ep,p⟩:=Cb (p:=pendingOf b) (i:=(pendingOf b).size-2) ⋯;have R:(pendingOf b)[(pendingOf b).size-2]?=some e:=by
       rw[←yI,ep,zX ⋯,p,vN];rfl
      rw[R];dsimp only;refine mC (λ_=>zI ⟨rfl,d,m⟩) λ_=>?_;refine zG (Cc G J d S ep p.symm λV o M P=>?_);rw[zD (by simp)];exact zI ⟨rfl,o,m.same λi hi _=>P i hi⟩
     ·rw[zD I];exact zI ⟨rfl,d,m⟩
    case ipost1 =>
     rintro c b ⟨rfl,d,m⟩;dsimp only;refine zG (wT ?_);have o:Wt κ kd a₀ lo (setPending b ((pendingOf b).modify ((pendingOf b).size-1) λx=>(x.1,x.2.1,F))):=⟨d.k,d.f,d.m,by
      show Run κ (arrOf b) 0 ((pendingOf b).modify _ _).toList lo;rw[Array.toList_modify];exact Run.modify (f:=λx=>(x.1,x.2.1,F)) (λe=>⟨rfl,rfl⟩) d.r⟩
     exact zG (wT (zI ⟨lo+n,rfl,⋯,r,o.push K m⟩))
  ·have u:=W U k.k k.p k.f k.m λi hi=>k.o i (.inl hi);have r:lo+n<=a₀.size:=⋯
   refine zG (tD ?_);cases hb:(pendingOf U).back? with
   |none =>
    dsimp only;exact zG (wT (zI ⟨lo+n,rfl,⋯,r,u.push N O⟩))
   | some D =>
    obtain⟨v,k1,a5⟩:=D;dsimp only;generalize power' a₀.size (2*v+k1) (2*v+k1+k1+n) a₀.size=F;refine zG (wN (xH (I:=λx c a=>c=(none,())/\Wt κ kd a₀ lo a/\Up κ (arrOf a) lo (lo+n))
     (Q:=λc a=>c=(none,())/\Wt κ kd a₀ lo a/\Up κ (arrOf a) lo (lo+n)) ?istep (λc a hh=>hh) ⟨rfl,u,O⟩) ?ipost)
    case istep =>
     rintro x c b _ _ ⟨rfl,d,m⟩;refine zG (tD ?_)
     by_cases I:(pendingOf b).size > 1
     ·rw[zF I];obtain⟨xs,e,f,ys,ep,p⟩:=Cb (p:=pendingOf b) (i:=(pendingOf b).size-2) ⋯;have R:(pendingOf b)[(pendingOf b).size-2]?=some e:=by
       rw[←yI,ep,zX ⋯,p,vN];rfl
      rw[R];dsimp only;refine mC (λ_=>zI ⟨rfl,d,m⟩) λ_=>?_;refine zG (Cc G J d S ep p.symm λV o M P=>?_);rw[zD (by simp)];exact zI ⟨rfl,o,m.same λi hi _=>P i hi⟩
     ·rw[zD I];exact zI ⟨rfl,d,m⟩
    case ipost =>
     rintro c b ⟨rfl,d,m⟩;dsimp only;refine zG (wT ?_);have o:Wt κ kd a₀ lo (setPending b ((pendingOf b).modify ((pendingOf b).size-1) λx=>(x.1,x.2.1,F))):=⟨d.k,d.f,d.m,by
      show Run κ (arrOf b) 0 ((pendingOf b).modify _ _).toList lo;rw[Array.toList_modify];exact Run.modify (f:=λx=>(x.1,x.2.1,F)) (λe=>⟨rfl,rfl⟩) d.r⟩
     exact zG (wT (zI ⟨lo+n,rfl,⋯,r,o.push N m⟩))
 case post =>
  rintro c a ⟨rfl,g⟩;dsimp only;have a8:=g.r.le;rw[zL]at a8;refine zG (wN (xH (I:=λx c a=>c=(none,())/\Wt κ kd a₀ a₀.size a/\((pendingOf a).size<=1\/(pendingOf a).size+x<=a₀.size))
   (Q:=λc a=>c=(none,())/\Wt κ kd a₀ a₀.size a/\(pendingOf a).size<=1) ?fstep ?ffin ⟨rfl,g,.inr ⋯⟩) ?fpost)
  case ffin =>
   rintro c b ⟨rfl,d,L⟩;exact⟨rfl,d,⋯⟩
  case fstep =>
   rintro x c b _ _ ⟨rfl,d,L⟩;refine zG (tD ?_);refine mC (λq=>zI ⟨rfl,d,q⟩) λq=>?_;generalize hi:(if Option.any (λx=>decide (x<(pendingOf b)[(pendingOf b).size-2+1]?.elim 0 λx=>x.2.1)) (if(pendingOf b).size-2 > 0 then Option.map (λx=>x.2.1) (pendingOf b)[(pendingOf b).size-2-1]? else none)=true then(pendingOf b).size-2-1 else(pendingOf b).size-2)=i;have hi':i+1<(pendingOf b).size:=by
    rw[←hi];exact Sb q
   obtain⟨xs,e,f,ys,ep,p⟩:=Cb hi';refine zG (Cc G J d (zE _) ep p.symm λV o M _=>?_);rw[zD (by simp)];refine zI ⟨rfl,o,.inr ?_⟩;have a7:=vA List.length ep;have a6:=vA List.length M;simp only[Array.length_toList,List.length_append,List.length_cons]at a7 a6;omega
  case fpost =>
   rintro c b ⟨rfl,d,L⟩;refine zI (h b d.k d.f d.m ?_);have hr:=d.r;rw[←zL]at L
   match hl:(pendingOf b).toList,hr,L with
   |[],hr,_ =>
    have:0=a₀.size:=hr;rw[←this];exactλi j x y _ _ a4=>absurd a4 (oA _)
   |[D],hr,_ =>
    have:0+D.2.1=a₀.size:=hr.2.2.2;rw[←this];exact hr.2.2.1
end
def gX(prog:Program)(w:World)(n:Nat):Prop:=∀{A:Around}{E:VP}{s:Shared}{κ:PyProof.Rows.KeyKind}{kd:SortKind}{a₀:Array Keyed}{st:SortSt}{Q:Unit->SortSt->Prop},a₀.size=n->2<=n->Cmp prog w A s κ kd->(∀x∈a₀.toList,Gd κ x)->kindOf st=kd->failedOf st=none->pendingOf st=#[]->arrOf st=a₀ ->
 (∀st',kindOf st'=kd->failedOf st'=none->(arrOf st').Perm a₀->Up κ (arrOf st') 0 a₀.size->Q () st')->wpS (model prog w) A E s sortRuns' Q st
section
variable {prog:Program} {w:World}
theorem Tz(n:Nat):gX prog w n:=λ_ _ b c f d e a h=>Sa b c f d e a h
end
mutual
def fl:PyData->LI'
 |.int i=>[i]
 |.tuple xs=>flA xs
 |_=>[]
def flA:List PyData->LI'
 |[]=>[]
 |d:: ds=>fl d++flA ds
end
mutual
def sm:PyData->PyData->Bool
 |.int _,.int _=>true
 |.tuple xs,.tuple ys=>smA xs ys
 |_,_=>false
def smA:List PyData->List PyData->Bool
 |[],[]=>true
 |x:: xs,y:: ys=>sm x y && smA xs ys
 |_,_=>false
end
mutual
theorem fS:∀(x y:PyData),sm x y=true->(fl x).length=(fl y).length
 |.int _,y,h=>by cases y <;> simp[sm]at h <;> simp[fl]
 |.tuple xs,y,h=>by cases y <;> simp[sm]at h <;> simp[fl];exact Iu _ _ h
 |.none,y,h=>by simp[sm]at h
 |.bool _,y,h=>by simp[sm]at h
 |.str _,y,h=>by simp[sm]at h
 |.list _,y,h=>by simp[sm]at h
 |.dict _,y,h=>by simp[sm]at h
theorem Iu:∀(xs ys:List PyData),smA xs ys=true->(flA xs).length=(flA ys).length
 |[],ys,h=>by cases ys <;> simp[smA]at h <;> rfl
 |x:: xs,ys,h=>by
  cases ys <;> simp[smA]at h;simp only[flA,List.length_append];rw[fS _ _ h.1,Iu _ _ h.2]
end
mutual
theorem fT:∀(x y:PyData),sm x y=true->fl x=fl y->x=y
 |.int _,y,h,e=>by cases y <;> simp[sm]at h;simp[fl]at e;rw[e]
 |.tuple xs,y,h,e=>by cases y <;> simp[sm]at h;simp only[fl]at e;rw[Ir _ _ h e]
 |.none,y,h,e=>by simp[sm]at h
 |.bool _,y,h,e=>by simp[sm]at h
 |.str _,y,h,e=>by simp[sm]at h
 |.list _,y,h,e=>by simp[sm]at h
 |.dict _,y,h,e=>by simp[sm]at h
theorem Ir:∀(xs ys:List PyData),smA xs ys=true->flA xs=flA ys->xs=ys
 |[],ys,h,e=>by cases ys <;> simp[smA]at h;rfl
 |x:: xs,ys,h,e=>by
  cases ys <;> simp[smA]at h;simp only[flA]at e;obtain⟨e1,a⟩:=List.append_inj e (fS _ _ h.1);rw[fT _ _ h.1 e1,Ir _ _ h.2 a]
end
def lx(a b:LI'):Bool:=decide (a<b)
theorem dH:∀(a l1 l2:LI'),lx (a++l1) (a++l2)=lx l1 l2
 |[],_,_=>rfl
 |x:: a,l1,l2=>by
  rw[←dH a l1 l2]
  refine decide_eq_decide.mpr ?_
  simp[List.cons_lt_cons_iff]
theorem dI:∀(a b l1 l2:LI'),a.length=b.length->a≠b->lx (a++l1) (b++l2)=lx a b
 |[],[],_,_,_,h=>absurd rfl h
 |[],_:: _,_,_,h,_=>by simp at h
 |_:: _,[],_,_,h,_=>by simp at h
 |x:: a,y:: b,l1,l2,h,c=>by
  refine decide_eq_decide.mpr ?_
  simp only[List.cons_append,List.cons_lt_cons_iff]
  by_cases e:x=y
  ·subst e;have:=decide_eq_decide.mp (dI a b l1 l2 (by simpa using h) (by simpa using c));rw[this]
  ·simp[e]
section
variable {prog:Program} {w:World} {E:VP}
theorem eqT{n:Nat}(f:n<=4){A:Around}{s:Shared}{v u:Value}{x y:PyData}{as bs:LA}{Q:Bool->Shared->Prop}(c:tT n x=true)(d:tT n y=true)(r1:Reads s.heap v x as)(r2:Reads s.heap u y bs)(g:A.units+8<cLine)(h:Q (decide (x=y)) s):wpAny (model prog w) A (eqBool v u) Q E s:=by
 have a:=gF n _ c;have b:=gF n _ d;have l1:=gC n _ a;have l2:=gC n _ b;refine PySem.SeqAt.eqBoolOverData _ _ _ _ _ _ _ _ _ _ _ _ r1 r2 l1.1 l2.1 ⋯ ?_;rw[←SeqAt.same_eq_eqv _ _ (aD n _ _ a b)];have e:=aE n _ _ a b
 by_cases z:x=y
 ·rw[zM z]at h;rw[e.mpr z];exact h
 ·rw[zJ z]at h;have:same x y=false:=by
   cases q:same x y with
   |false=>rfl
   |true=>exact absurd (e.mp q) z
  rw[this];exact h
theorem ltT:∀(n:Nat),n<=4->∀{A:Around}{s:Shared}{v u:Value}{x y:PyData}{as bs:LA}{Q:VP},tT n x=true->tT n y=true->sm x y=true->Reads s.heap v x as->Reads s.heap u y bs->A.units+8+n<cLine->Q (.bool (lx (fl x) (fl y))) s->wpAny (model prog w) A (richCompare .Lt v u) Q E s:=by
 intro n
 induction n with
 |zero =>
  intro U A s v u x y as bs Q F z C r1 r2 a3 h;cases r1 <;> simp[tT]at F;cases r2 <;> simp[tT]at z;refine wpAny_lt_int ?_;simpa [fl,lx,wA]using h
 | succ n S =>
  intro U A s v u x y as bs Q F z C r1 r2 a3 h;cases r1 <;> simp only[tT,Bool.false_eq_true]at F
  case int =>
   cases r2 <;> simp only[sm,Bool.false_eq_true]at C;refine wpAny_lt_int ?_;simpa [fl,lx,wA]using h
  case tuple a o vs m xs hg hc hd hr =>
   cases r2 <;> simp only[sm,Bool.false_eq_true]at C;rename_i b a6 us b6 ys N a7 Y a0;simp only[tT]at z;have O:s.TypeIs (.ref a) "tuple" := ⟨o,hg,hc⟩;have M:s.TypeIs (.ref b) "tuple" := ⟨a6,N,a7⟩;refine wpAny_richCompare_same_room (op:=.Lt) O M PySem.F.slot_tuple_lt (xF PySem.F.slot_tuple_lt O PySem.F.entry_tuple_lt ?_ (PySem.F.args_tuple_lt_2 _ _)) ⋯;show wpAny _ _ (isInstance (.ref b) (.type "tuple") >>= _) _ _ s;refine zA (vM M rJ ?_);simp only[Bool.not_true,Bool.false_eq_true,if_false];refine zA (uP hg hd ?_);refine zA (uP N Y ?_);refine zA ?_;refine pM _
    (λrest r t=>r.1=none/\t=s/\∃d g i k G K,rest=List.zip i k/\ReadsAll s.heap i d G/\ReadsAll s.heap k g K/\d.all (tT n)=true/\g.all (tT n)=true/\smA d g=true/\lx (flA d) (flA g)=lx (flA xs) (flA ys)/\(i.length+us.size=k.length+vs.size))
    _ ?_ ?_ _ _ ⟨rfl,rfl,xs,ys,vs.toList,us.toList,_,_,rfl,hr,a0,F,z,C,rfl,by simp;omega⟩
   ·rintro⟨p,q⟩ rest r t ⟨I,rfl,d,g,i,k,G,K,l,J,D,j,tb,c,f,L⟩;cases J with
    |nil=>simp at l
    | @cons a9 a2 d' Z b7 b0 r1 T =>
     cases D with
     |nil=>simp[smA]at c
     |@cons b5 a5 P V b1 b3 r2 X =>
      simp only[List.zip_cons_cons,List.cons.injEq,Prod.mk.injEq]at l;obtain⟨⟨rfl,rfl⟩,rfl⟩:=l;rw[yV,zN]at j tb;simp only[smA,Bool.and_eq_true]at c;refine zA (eqT (n:=n) ⋯ j.1 tb.1 r1 r2 (by show A.units+1+8<cLine;omega) ?_)
      by_cases e:d'=P
      ·subst e;rw[zM rfl];simp only[Bool.not_true,Bool.false_eq_true,if_false];refine zB ⟨rfl,rfl,Z,V,a2,a5,_,_,rfl,T,X,j.2,tb.2,c.2,?_,by simp at L;omega⟩;rw[←f];simp only[flA];rw[dH]
      ·rw[zJ e];simp only[Bool.not_false,if_true];have a8:fl d'≠fl P:=λq=>e (fT _ _ c.1 q);simp only[flA]at f;rw[dI _ _ _ _ (fS _ _ c.1) a8]at f;refine zA (wJ ?_);refine zA (S ⋯ j.1 tb.1 c.1 r1 r2 (by show A.units+1+8+n<cLine;omega) ?_);rw[f];exact zA (zB (zB (zB ⟨_,rfl,(λe=>nomatch e),h⟩)))
   ·rintro⟨r1,r2⟩ t ⟨I,rfl,d,g,i,k,G,K,l,J,D,j,tb,c,f,L⟩;simp only at I;subst I;cases J with
    |cons b2 b4 =>
     cases D with
     |nil=>simp[smA]at c
     |cons a1 W=>simp at l
    | nil =>
     cases D with
     |cons a1 W=>simp[smA]at c
     |nil =>
      have a4:vs.size=us.size:=by simp at L;omega
      have R:lx (flA xs) (flA ys)=false:=by rw[←f];simp[flA,lx]
      refine zB ⟨_,rfl,(λe=>nomatch e),?_⟩;show Q (.bool (decide (vs.size<us.size))) t;have h':Q (.bool (lx (flA xs) (flA ys))) t:=h;rw[R]at h';rw[a4,zJ (yZ _)];exact h'
end
mutual
theorem Ca:∀(d x y:PyData),sm d x=true->sm d y=true->sm x y=true
 |.int _,x,y,a,b=>by cases x <;> simp[sm]at a;cases y <;> simp[sm]at b;simp[sm]
 |.tuple xs,x,y,a,b=>by cases x <;> simp[sm]at a;cases y <;> simp[sm]at b;simp only[sm];exact Iq _ _ _ a b
 |.none,x,y,a,b=>by simp[sm]at a
 |.bool _,x,y,a,b=>by simp[sm]at a
 |.str _,x,y,a,b=>by simp[sm]at a
 |.list _,x,y,a,b=>by simp[sm]at a
 |.dict _,x,y,a,b=>by simp[sm]at a
theorem Iq:∀(d x y:List PyData),smA d x=true->smA d y=true->smA x y=true
 |[],x,y,a,b=>by cases x <;> simp[smA]at a;cases y <;> simp[smA]at b;simp[smA]
 |d:: ds,x,y,a,b=>by
  cases x <;> simp[smA]at a;cases y <;> simp[smA]at b;simp only[smA,Bool.and_eq_true];exact⟨Ca _ _ _ a.1 b.1,Iq _ _ _ a.2 b.2⟩
end
theorem Ty(a:LI'):lx a a=false:=zJ (List.lt_irrefl a)
theorem Tx(a b c:LI')(d:lx a b=true)(e:lx b c=true):lx a c=true:=zM (List.lt_trans (xT d) (xT e))
theorem Ip(a b:LI')(c:lx a b=false)(d:lx b a=false):a=b:=List.le_antisymm (oZ.mp (sF d)) (oZ.mp (sF c))
theorem Tw(a b c:LI')(h:lx a c=true):lx a b=true\/lx b c=true:=by
 cases h1:lx a b with
 |true=>exact .inl rfl
 | false =>
  refine .inr ?_;cases h2:lx b c with
  |true=>rfl
  |false =>
   have e1:b<=a:=oZ.mp (sF h1);have d:c<=b:=oZ.mp (sF h2);exact absurd (xT h) (oZ.mpr (List.le_trans d e1))
open Classical in
def keyT(h:Heap)(d0:PyData)(v:Value):Option (LI'):=if q:∃d,tT 4 d=true/\sm d0 d=true/\∃as,Reads h v d as then some (fl q.choose) else none
theorem aT{h:Heap}{d0 d:PyData}{v:Value}{as:LA}(a:tT 4 d=true)(z:sm d0 d=true)(r:Reads h v d as):keyT h d0 v=some (fl d):=by
 have q:∃d,tT 4 d=true/\sm d0 d=true/\∃as,Reads h v d as:=⟨d,a,z,as,r⟩;unfold keyT;rw[dif_pos q];obtain⟨t',c,e,b⟩:=q.choose_spec;rw[PySem.SeqAt.Reads.unique _ _ _ _ _ (gC 4 _ (gF 4 _ t')).1 b r]
theorem aU{h:Heap}{d0:PyData}{v:Value}{a:LI'}(e:keyT h d0 v=some a):∃d as,tT 4 d=true/\sm d0 d=true/\Reads h v d as/\a=fl d:=by
 unfold keyT at e
 by_cases q:∃d,tT 4 d=true/\sm d0 d=true/\∃as,Reads h v d as
 ·rw[dif_pos q]at e;obtain⟨t',c,f,b⟩:=q.choose_spec;exact⟨_,f,t',c,b,by cases e;rfl⟩
 ·rw[dif_neg q]at e;cases e
def iA(h:Heap)(d0:PyData):PyProof.Rows.KeyKind where
 α:=LI'
 blt:=lx
 irrefl:=Ty
 trans:=Tx
 negTrans:=Tw
 total:=Ip
 keyOf:=keyT h d0
 dflt:=[]
section
variable {prog:Program} {w:World} {A:Around} {s:Shared}
theorem katT(r:A.units+16<cLine){Q:Bool->Shared->Prop}:∀(c a:List PyData)(f j:LW)(l m:LA)(i:Nat),ReadsAll s.heap f c l->ReadsAll s.heap j a m->c.all (tT 3)=true->a.all (tT 3)=true->smA c a=true->Q (lx (flA c) (flA a)) s->PySem.W.KatLex prog w A false false Q (f.zip j) i s
 | [],a,f,j,l,m,i,k,n,_,_,b,h=>by
  cases k;cases a with
  |cons _ _=>simp[smA]at b
  |nil =>
   cases n;refine PySem.W.kat_nil ?_;simpa [flA,lx]using h
 | d :: c,a,f,j,l,m,i,k,n,g,tb,b,h=>by
  cases a with
  |nil=>simp[smA]at b
  | cons e a =>
   cases k with
   | cons r1 o =>
    cases n with
    |cons r2 p =>
     rw[yV,zN]at g tb;simp only[smA,Bool.and_eq_true]at b;rw[vP];refine pN (eqT (n:=3) ⋯ g.1 tb.1 r1 r2 ⋯ ?_);simp only[flA]at h
     by_cases z:d=e
     ·subst z;rw[zM rfl];rw[dH]at h;exact pY (katT r c a _ _ _ _ (i+1) o p g.2 tb.2 b.2 h)
     ·rw[zJ z];rw[dI _ _ _ _ (fS _ _ b.1) λq=>z (fT _ _ b.1 q)]at h;refine oF ?_;show wpAny (model prog w) A (oneLt' false _ _) Q _ s;exact PySem.W.kat_one _ _ (ltT 3 ⋯ g.1 tb.1 b.1 r1 r2 ⋯ h)
theorem cmpT(C:A.units+16<cLine){d0:PyData}(f:∃l,d0=.tuple l):Cmp prog w A s (iA s.heap d0) (tuples' false):=by
 intro E x y a b Q p q h;obtain⟨l,rfl⟩:=f;obtain⟨d,as,i,g,r1,rfl⟩:=aU p;obtain⟨e,bs,j,n,r2,rfl⟩:=aU q;have z:=Ca _ _ _ g n;cases r1 <;> simp only[sm,Bool.false_eq_true]at g
 case tuple a o vs m xs hg hc f hr =>
  cases r2 <;> simp only[sm,Bool.false_eq_true]at n;rename_i b D us F ys t G v k;simp only[tT]at i j;simp only[sm]at z;have hl:vs.size=us.size:=by
   have e1:∀{h:Heap}{vs:LW}{xs:List PyData}{as:LA},ReadsAll h vs xs as->vs.length=xs.length:=by
    intro h vs xs as r
    induction xs generalizing vs as with
    |nil=>cases r;rfl
    |cons x xs c=>cases r with|cons r1 r2=>simp[c r2]
   have u:∀{xs ys:List PyData},smA xs ys=true->xs.length=ys.length:=by
    intro xs
    induction xs with
    |nil=>intro ys h;cases ys <;> simp[smA]at h;rfl
    |cons x xs c=>intro ys h;cases ys <;> simp[smA]at h;simp[c h.2]
   have:=e1 hr;have:=e1 k;have:=u z;simp only[Array.length_toList]at*
   omega
  refine PySem.W.kat_lt hg f t v ?_;rw[zJ ⋯];exact katT C xs ys _ _ _ _ 0 hr k i j z h
end
theorem Dz{h h':Heap}(g:∀b o,h.get? b=some o->o.cls=.type "tuple" -> h'.get? b=some o):∀(n:Nat){v:Value}{d:PyData}{as:LA},tT n d=true->Reads h v d as->Reads h' v d as:=by
 intro n
 induction n with
 |zero =>
  intro v d as c r;cases r <;> simp[tT]at c;exact .int _ _
 | succ n f =>
  have all:∀(xs:List PyData)(vs:LW)(as:LA),xs.all (tT n)=true->ReadsAll h vs xs as->ReadsAll h' vs xs as:=by
   intro xs
   induction xs with
   |nil=>intro vs as _ r;cases r;exact .nil
   | cons d ds e =>
    intro vs as c r;cases r with
    |cons r1 r2 =>
     rw[yV,zN]at c;exact .cons (f c.1 r1) (e _ _ c.2 r2)
  intro v d as c r;cases r <;> simp only[tT,Bool.false_eq_true]at c
  case int=>exact .int _ _
  case tuple a o vs k xs hg hc hdd hr=>exact .tuple (g _ _ hg hc) hc hdd (all _ _ _ c hr)
theorem Paired.perm{f i:Type}{F:f->i->Prop}{ys g:List i}(p:ys.Perm g):∀{xs:List f},Paired F xs ys->∃e,e.Perm xs/\Paired F e g:=by
 induction p with
 |nil=>intro xs h;exact⟨xs,List.Perm.refl _,h⟩
 | cons x p j =>
  intro xs h;cases h with
  |@cons a b l1 l2 c d =>
   obtain⟨e,k,h'⟩:=j d;exact⟨a:: e,k.cons _,.cons c h'⟩
 | swap x y l =>
  intro xs h;cases h with
  |@cons a b l1 l2 c d =>
   cases d with
   |@cons r C m I o q=>exact⟨r:: a:: m,List.Perm.swap ..,.cons o (.cons c q)⟩
 |trans G D t v =>
  intro xs h;obtain⟨z,u,c⟩:=t h;obtain⟨w,n,d⟩:=v c;exact⟨w,n.trans u,d⟩
theorem Paired.mem{b c:Type}{F:b->c->Prop}{xs:List b}{ys:List c}(h:Paired F xs ys):∀x∈xs,∃y∈ys,F x y:=by
 induction h with
 |nil=>intro x a;cases a
 |cons g i d =>
  intro x a;rcases xM.mp a with e|a
  ·subst e;exact⟨_,.head _,g⟩
  ·obtain⟨y,f,q⟩:=d x a;exact⟨y,.tail _ f,q⟩
theorem ord_of{κ:PyProof.Rows.KeyKind}{c:Type}{F:c->Value->Prop}{k:c->κ.α}(a:∀p v,F p v->κ.keyOf v=some (k p)):∀(L:List Keyed)(ps:List c),(∀e∈L,e.1=e.2)->L.Pairwise (le' κ)->Paired F ps (L.map (·.2))->ps.Pairwise λp q=>κ.blt (k q) (k p)=false
 |[],ps,_,_,h=>by cases h;exact .nil
 | e:: L,ps,f,d,h=>by
  cases h with
  |@cons p b l1 l2 r j =>
   rw[List.pairwise_cons]at d;refine .cons (λq n=>?_) (ord_of a L l1 (λx m=>f x (.tail _ m)) d.2 j);obtain⟨v,t,o⟩:=Paired.mem j q n;obtain⟨y,g,rfl⟩:=nD.mp t;have l:=d.1 y g;have k1:ky κ e=k p:=by unfold ky;rw[f e (.head _),a _ _ r];rfl
   have k2:ky κ y=k q:=by unfold ky;rw[f y (.tail _ g),a _ _ o];rfl
   have i:κ.blt (ky κ y) (ky κ e)=false:=l;rw[k1,k2]at i;exact i
structure TV(K:Frag)(H:Hp)(d0:PyData)(p:V×PyData)(v:Value):Prop where
 r:RelV p.1 v
 t:tT 4 p.2=true
 z:sm d0 p.2=true
 d:Dt K H p.1 p.2
theorem TV.vals{K:Frag}{H:Hp}{d0:PyData}{ps:List (V×PyData)}{vs:LW}(h:Paired (TV K H d0) ps vs):Vals (ps.map (·.1)) vs:=by
 induction h with
 |nil=>exact .nil
 |cons a _ b=>exact .cons a.r b
theorem Io{K:Frag}{H:Hp}{d0:PyData}:∀{ps:List (V×PyData)}{vs:LW},Vals (ps.map (·.1)) vs->(∀p∈ps,tT 4 p.2=true/\sm d0 p.2=true/\Dt K H p.1 p.2)->Paired (TV K H d0) ps vs
 |[],vs,h,_=>by cases h;exact .nil
 |p:: ps,vs,h,q=>by
  cases h with
  |cons b c=>exact .cons ⟨b,(q p (.head _)).1,(q p (.head _)).2.1,(q p (.head _)).2.2⟩ (Io c λx a=>q x (.tail _ a))
theorem cT:∀{vs:LW}{e:Keyed},e∈vs.zip vs->e.1=e.2
 |[],e,h=>by cases h
 |v:: vs,e,h=>by
  rw[vP]at h;rcases xM.mp h with h|h
  ·rw[h]
  ·exact cT h
theorem mU{a b:Type}{F:a->b->Prop}{xs:List a}{ys:List b}(h:Paired F xs ys):xs.length=ys.length:=by
 induction h with
 |nil=>rfl
 |cons _ _ c=>simp[c]
theorem aV{b c:Type}{F:b->c->Prop}{xs:List b}{ys:List c}(h:Paired F xs ys):∀y∈ys,∃x∈xs,F x y:=by
 induction h with
 |nil=>intro x a;cases a
 |cons g i d =>
  intro x a;rcases xM.mp a with e|a
  ·subst e;exact⟨_,.head _,g⟩
  ·obtain⟨y,f,q⟩:=d x a;exact⟨y,.tail _ f,q⟩
theorem Im{l:List Keyed}{n:Nat}(h:l.length=n):seg l 0 n=l:=by
 unfold seg;rw[oH,Nat.sub_zero,yJ ⋯]
section
variable {X:Cx} {pins:PN} {σ:St} {H:Hp} {s:Shared} {a:Addr} {A:Around} {E:VP} {vs:LW} {ps:List (V×PyData)} {n0:Nat} {R:VP} {d0:PyData} {l0 l1:List PyData}
theorem Tv(c0:gX X.prog X.w vs.length)(c2:A.units+16<cLine)(I:Inv X pins σ H s)(b5:FpOk X pins H a)(D:s.heap.get? a=some (seqObj "list" vs.toArray n0))(W:vs.length<=sizeLine)(Z:d0=.tuple (.tuple l1:: l0))(w:Paired (TV X.K H d0) ps vs)
  (h:∀(n:List (V×PyData)) H' K,Inv X pins σ H' K->Same H H'->H' a=some (.lst (n.map (·.1)))->n.Perm ps->n.Pairwise (λp q=>lx (fl q.2) (fl p.2)=false)->R .none K):
  wpAny (model X.prog X.w) A (Builtin.«list.sort» ⟨[.ref a],[]⟩) (λM K=>∃v,M=.done (.ret v)/\R v K) E s:=by
 obtain⟨U,N,d3,a3,a1,a4⟩:=b5;rw[list_sort_plain];have c9:a<s.heap.objs.size:=zK D;refine zA (listItems_at D rfl ?_);refine zA (tS D rfl ?_ (by rw[zV];exact W) (zY _));obtain⟨e1,a5⟩:∃e1,(s.heap.update a (Obj.mapSeq λ_=>(#[]:Array Value))).get? a=some (seqObj "list" #[] e1):=⟨_,rM D (λ_=>#[])⟩;have b0:=xY s.heap a (Obj.mapSeq λ_=>(#[]:Array Value));have c1:Inv X pins σ H {s with heap:=s.heap.update a (Obj.mapSeq λ_=>(#[]:Array Value)),toks:=s.toks}:=I.turned (λb o j q=>(b0.2 b j).trans q) U N a3 a1 a4;refine zA (rA a5 rfl ?_);refine zA (qD ?_ W);refine zA (qP ?_ (zY _));refine yN ?_;have F:(((s.heap.update a (Obj.mapSeq λ_=>(#[]:Array Value))).push (seqObj "tuple" vs.toArray 0)).push (seqObj "list" #[] 0)).get? a=some (seqObj "list" #[] e1):=zC _ (zC _ a5);have y:Inv X pins σ H {s with heap:=((s.heap.update a (Obj.mapSeq λ_=>(#[]:Array Value))).push (seqObj "tuple" vs.toArray 0)).push (seqObj "list" #[] 0),toks:=s.toks}:=c1.kept λb o q=>zC _ (zC _ q);show wpAny (model X.prog X.w) A _ _ E {s with heap:=((s.heap.update a (Obj.mapSeq λ_=>(#[]:Array Value))).push (seqObj "tuple" vs.toArray 0)).push (seqObj "list" #[] 0),toks:=s.toks};generalize ((s.heap.update a (Obj.mapSeq λ_=>(#[]:Array Value))).push (seqObj "tuple" vs.toArray 0)).push (seqObj "list" #[] 0)=f at*
 dsimp only;have M:∀d:SortSt,(arrOf d).Perm (pairsOf vs)->Srt (iA f d0) (arrOf d).toList->R .none {s with heap:=f.update a (Obj.mapSeq λ_=>(arrOf d).map (·.2))}:=by
  intro d L c6;have pl:(arrOf d).toList.Perm (vs.zip vs):=by rw[←tK];exact Array.perm_iff_toList_perm.mp L
  have O:∀e∈(arrOf d).toList,e.1=e.2:=λe O=>cT (pl.mem_iff.mp O);have c5:vs.Perm ((arrOf d).toList.map (·.2)):=by
   have:=(pl.map (·.2)).symm;rw[List.map_snd_zip (zE _)]at this;exact this
  obtain⟨n,a2,a0⟩:=Paired.perm c5 w;have b1:∀p v,TV X.K H d0 p v->(iA f d0).keyOf v=some (fl p.2):=λp v i=>by
   obtain⟨as,r⟩:=i.d.reads y i.r;exact aT i.t i.z r
  have c3:=ord_of (κ:=iA f d0) (k:=λp:V×PyData=>fl p.2) b1 _ n O c6 a0;have b9:((arrOf d).map (·.2)).toList=(arrOf d).toList.map (·.2):=Array.toList_map ..;generalize (arrOf d).map (·.2)=out at*
  have G:=xY f a (Obj.mapSeq λ_=>out);obtain⟨P,Y⟩:∃P,(f.update a (Obj.mapSeq λ_=>out)).get? a=some (seqObj "list" (out) P):=⟨_,rM F λ_=>out⟩;generalize f.update a (Obj.mapSeq λ_=>out)=c8 at*
  refine h n (upd H a (.lst (n.map (·.1)))) _ ?_ ?_ nN a2 c3
  ·have C:∀b u,H b=some u->b≠a:=λb u e z=>by rw[z,U]at e;cases e
   refine Inv.step (s:={s with heap:=f,toks:=s.toks}) (h':=c8) (H':=upd H a (.lst (n.map (·.1)))) (I:=y) (g':=s.gens) (d':=s.drawn) (t':=s.toks) (ch:=[a]) (λb j=>?_) (λb o _ _ g e _=>(G.2 b (λz=>g (by simp[z]))).trans e) (λb o _ _ g e _=>⟨o.slots,(G.2 b (λz=>g (by simp[z]))).trans e⟩)
    (λb o g e q=>by rw[nO (λz=>g (by simp[z]))];exact q) (λb o g e=>⟨o,(G.2 b (λz=>g (by simp[z]))).trans e⟩) (λb xs e=>by rw[nO (C _ _ e)];exact e) (λb o u e=>by rw[nO (C _ _ e)];exact e)
    (λb ps e=>⟨#[],by rw[nO (C _ _ e),e];simp⟩) (λm S=>?_) (λb u e=>?_) y.bare
   ·have e:b=a:=by simpa using j
    subst e;exact⟨a3,N,a1,a4⟩
   ·obtain⟨o,es,ep,D,r⟩:=S;exact⟨o,es,ep,(G.2 _ (zT N)).trans D,r⟩
   ·by_cases j:b=a
    ·subst j;rw[nN]at e;cases e;refine⟨?_,(arrOf d).toList.map (·.2),P,TV.vals a0,by rw[Y,←b9]⟩;rw[yM,a2.length_eq,mU w];exact W
    ·rw[nO j]at e;refine(y.hok b u e).stay (λc v g q=>(G.2 c ?_).trans q) (λc q=>by rw[nO (C _ _ q)];exact q) λc xs q=>by rw[nO (C _ _ q)];exact q
     rcases g with z|z
     ·rw[z];exact j
     ·exact C c _ z
  ·intro b u q;rw[nO (λz=>by rw[z,U]at q;cases q)];exact q
 have hsz:vs.toArray.size=vs.length:=by simp
 by_cases t:vs.toArray.size<2
 ·rw[zF t,zF t];refine zA (zB ?_);rw[StateT.run_pure];refine zA (zB ?_);dsimp only;refine zA (rA F rfl ?_);refine zA (tS F rfl ?_ (zY _) (by rw[qB];show(pairsOf vs).size<=_;rw[sH];omega));simp only[bne_self_eq_false,Bool.false_eq_true,if_false];refine zB ⟨_,rfl,M (SortSt.mk' general' (vs.toArray.zip vs.toArray) #[] 7 none) (pZ _) ?_⟩;show Srt _ (pairsOf vs).toList;rw[tK]
  match vs,hsz,t with
  |[],_,_=>exact .nil
  |[_],_,_=>exact .cons (λ_ h=>nomatch h) .nil
  |_:: _:: _,_,t=>simp at t;omega
 ·rw [zD t,zD t];have c7:∀{ps:List (V×PyData)}{vs:LW},Paired (TV X.K H d0) ps vs->∃fs,PySem.W.KatTups f vs fs/\fs.length=vs.length/\∀v∈fs,∃b o,v=.ref b/\f.get? b=some o/\o.cls=.type "tuple" := by
   intro ps vs w
   induction w with
   |nil=>exact⟨[],PySem.W.KatTups.nil,rfl,λ_ h=>nomatch h⟩
   | @cons p v ps vs i _ a7 =>
    obtain⟨fs,k,l,b3⟩:=a7;obtain⟨as,r⟩:=i.d.reads y i.r;have z:=i.z;rw[Z]at z;generalize p.2=dd at*
    cases r <;> simp only[sm,Bool.false_eq_true]at z
    case tuple b o us m xs hg g hd hr =>
     cases xs with
     |nil=>simp[smA]at z
     | cons x xs =>
      simp only[smA,Bool.and_eq_true]at z;cases hr0:us.toList with
      |nil=>rw[hr0]at hr;cases hr
      | cons u d2 =>
       rw[hr0]at hr;cases hr with
       | cons r1 r2 =>
        have a6:=z.1;cases r1 <;> simp only[sm,Bool.false_eq_true]at a6
        case tuple b2 o2 us2 m2 xs2 hg2 Y hd2 hr2 =>
         refine⟨.ref b2:: fs,PySem.W.KatTups.cons hg g hd ?_ k,by simp[l],λv J=>?_⟩
         ·rw[←yI,hr0];rfl
         ·rcases xM.mp J with e|J
          ·exact⟨b2,o2,e,hg2,Y⟩
          ·exact b3 v J
  obtain⟨fs,b8,d1,a8⟩:=c7 w;refine zA (PySem.W.kat_kind (s:={s with heap:=f,toks:=s.toks}) (T:=.type "tuple") b8 ⋯ (λv J=>?_) rfl ?_)
  ·obtain⟨b,o,rfl,j,g⟩:=a8 v J;exactλA Q E s k q=>uJ (T:= "tuple") ⟨o,k _ _ j,g⟩ q
  have a9:(Value.type "tuple" != Value.type "tuple")=false:=∅
  rw[a9];refine zA (yQ (c0 (κ:=iA f d0) (kd:=tuples' false) (a₀:=pairsOf vs) (st:=SortSt.mk' (tuples' false) (vs.toArray.zip vs.toArray) #[] 7 none)
   (Q:=λ_ d=>(arrOf d).Perm (pairsOf vs)/\failedOf d=none/\Up (iA f d0) (arrOf d) 0 (pairsOf vs).size) (sH _) ⋯ (cmpT (s:={s with heap:=f,toks:=s.toks}) c2 ⟨_,Z⟩) (λx T=>?_) rfl rfl rfl rfl λd _ c4 b6 b7=>⟨b6,c4,b7⟩) ?_ λ_ _ e=>e)
  ·rw[tK]at T;have e:=cT T;have S:x.2∈vs:=(uO (a:=x.1) (b:=x.2) T).2;obtain⟨p,_,i⟩:=aV w x.2 S;obtain⟨as,r⟩:=i.d.reads y i.r;exact⟨fl p.2,by rw[e];exact aT i.t i.z r⟩
  rintro⟨⟨⟩,d⟩ K ⟨rfl,L,b4,up⟩;dsimp only;refine zA (rA F rfl ?_);refine zA (tS F rfl ?_ (zY _) (by refine yC (sN ((qB ..).trans (L.size_eq.trans (sH _)))) ?_;omega));rw[b4];simp only[bne_self_eq_false,Bool.false_eq_true,if_false];refine zB ⟨_,rfl,M d L ?_⟩;have:=aS up
  rwa[Im (by rw[zL];exact L.size_eq)]at this
end
abbrev Asc(ps:List (V×PyData)):Prop:=ps.Pairwise λp q=>lx (fl q.2) (fl p.2)=false
section
variable {X:Cx} {pins:PN} {σ:St} {H:Hp} {s:Shared} {d0:PyData} {l0 l1:List PyData}
theorem Tu{N:Nat}(u:∀n,n<=N->gX X.prog X.w n)(z:X.A.units+64<cLine){ps:List (V×PyData)}{its:LW}{v:Value}{Q:VK}(g:its.length<=sizeLine)(l:its.length<=N)(j:d0=.tuple (.tuple l1:: l0))(r:Paired (TV X.K H d0) ps its)
  (m:∀(i:LW->Shared->Prop)(k:VP),(∀a,Inv X pins σ H a->i its a)->wpAny (model X.prog X.w) X.A.in1 (collect v) i k s)
  (h:∀q(c:List (V×PyData)) H',Same H H'->H q=none->H' q=some (.lst (c.map (·.1)))->c.Perm ps->Asc c->Q (.ref q) H'):
  wpAny (model X.prog X.w) X.A (call (.builtin "sorted") [v]) (EP X pins σ Q) X.xe s:=by
 refine sE kind_sorted plain_sorted entry_sorted (args_sorted1 _) ?_;unfold Builtin.«sorted»;refine zA (m:=checkCount "sorted" 1 1 _) (zB ?_);refine zA (m _ _ λa I=>?_);refine zA (qP ?_ g);have d:(a.heap.push (seqObj "list" its.toArray 0)).get? a.heap.objs.size=some (seqObj "list" its.toArray 0):=zQ _ rfl;have f:H a.heap.objs.size=none:=I.hok.fresh (zE _);have x:=I.fpOk (zE _) f;have t:Inv X pins σ H {a with heap:=a.heap.push (seqObj "list" its.toArray 0),toks:=a.toks}:=I.kept λb o q=>zC _ q;refine zA (yN (xF slot_list_sort ⟨_,d,rfl⟩ entry_list_sort ?body (args_list_sort _)));show wpAny (model X.prog X.w) X.A.in1.in1 (Builtin.«list.sort» ⟨[.ref a.heap.objs.size],[]⟩) _ _ {a with heap:=a.heap.push (seqObj "list" its.toArray 0),toks:=a.toks};refine Tv (u _ l) (A:=X.A.in1.in1) (by show X.A.units+1+1+16<cLine;omega) t x d g j r λc H' y w sm e p o=>?_;exact zB ⟨_,rfl,.ref a.heap.objs.size,H',w,rfl,h _ c H' sm f e p o⟩
end
def RawD(h:Heap)(d:Addr)(es:Array DictEntry)(ep:Nat):Prop:=∃o,h.get? d=some o/\o.ExactDict/\o.data=.dict es ep
theorem RawD.at{h h':Heap}{d:Addr}{es:Array DictEntry}{ep:Nat}(x:RawD h d es ep)(e:∀o,h.get? d=some o->h'.get? d=some o):RawD h' d es ep:=let ⟨o,a,r⟩:=x;⟨o,e _ a,r⟩
section
variable {prog:Program} {w:World} {A:Around} {E:VP} {s:Shared} {d it:Addr} {es:Array DictEntry} {ep i:Nat}
theorem RawD.typeIs(x:RawD s.heap d es ep):s.TypeIs (.ref d) "dict" := let ⟨o,b,a,_⟩:=x;⟨o,b,a.1⟩
theorem Tt{Q:VP}(g:(d == sysModules)=false)(e:RawD s.heap d es ep)
  (f:Q (.ref s.heap.objs.size) {s with heap:=s.heap.push {cls:=.type "dict_keyiterator",data:=.fields #[.ref d,.int 0 0,.int es.size 0,.int ep 0]}}):wpAny (model prog w) A (pyIter (.ref d)) Q E s:=by
 obtain⟨o,c,j,b⟩:=id e;have a:=e.typeIs;refine wpAny_pyIter_slot a PySem.F.slot_dict_iter (xF PySem.F.slot_dict_iter a PySem.F.entry_dict_iter ?_ (PySem.F.args_dict_iter_1 _));unfold Builtin.«dict.__iter__»;refine zA ?_;unfold Builtin.Dict.dictSlotNone;refine zA (wpAny_notOrdered_dict a ?_);show wpAny _ _ (pure (Value.ref d)) _ _ s;refine zB ?_;show wpAny _ _ (Builtin.Dict.showsAll d >>= _) _ _ s;unfold Builtin.Dict.showsAll;rw[zD (by rw[g];exact yH)];refine zA (zB ?_);refine zA (sQ c b ?_);refine zA (pU c b ?_);exact zA (xD (zB ⟨_,rfl,"dict_keyiterator",_,⟨_,zQ _ rfl,rfl⟩,PySem.F.slot_dict_keyiterator_next.lookup,f⟩))
theorem Ts{Q:Option Value->Shared->Prop}(a:s.heap.IsKeyIter it d i es.size ep)(m:RawD s.heap d es ep)(hi:i<es.size)
  (k:∀h',h'.IsKeyIter it d (i+1) es.size ep->Heap.SameBut it s.heap h'->Q (some es[i].key) {s with heap:=h'}):wpAny (model prog w) A (pyNext (.ref it)) Q E s:=by
 obtain⟨o,c,j,b⟩:=id a;obtain⟨od,f,n,e⟩:=id m;unfold pyNext;refine zA (vF (xO (name:=Str.ofString "__next__") a.typeIs wM
  (xF wM a.typeIs PySem.F.entry_dict_keyiterator_next ?_ (PySem.F.args_dict_keyiterator_next_1 _))))
 refine zA (zB ?_);refine zA ?_;refine zA ?_
 first|refine zA (vH a.typeIs (zB ?_))|refine zA (uF a.typeIs (zB ?_))
 refine zA (wpAny_fieldsOf c b ?_);have l:Builtin.Dict_items.ownsTuple "dict_keyiterator"=false:=∅
 simp only[l,Bool.false_eq_true,if_false];show wpAny _ _ (if(Value.ref d == Value.none)=true then _ else _) _ _ s;rw[zD (show¬ ((Value.ref d == Value.none)=true) from yH)];refine zA (zB ?_);refine zA (sQ f e ?_);rw[zD (by simp)];refine zA (zB ?_);refine zA (pU f e ?_);rw[zD (by simp)];refine zB ?_;simp only[show¬ ((i:Int)<0) from⋯,if_false,Int.toNat_natCast,Array.getElem?_eq_getElem hi];refine zA ?_
 first|refine zA (vH a.typeIs (zB ?_))|refine zA (uF a.typeIs (zB ?_))
 refine zA (wpAny_isOneOf_keyiter a.typeIs ?_);show wpAny _ _ (setField (.ref it) 1 (rawInt ((i:Int)+1)) >>= _) _ _ s;refine zA (vL c b (by simp) ?_);have g:(s.heap.update it (Obj.mapFields (·.setIfInBounds 1 (rawInt ((i:Int)+1))))).IsKeyIter it d (i+1) es.size ep:=
  ⟨_,xA _ c (tH (wU b _)),(pF ..).trans j,by rw[wU b];simp[rawInt]⟩
 refine zA (yN ?_);refine zA (wpAny_isOneOf_keyiter (s:={s with heap:=s.heap.update it (Obj.mapFields (·.setIfInBounds 1 (rawInt ((i:Int)+1))))}) g.typeIs ?_);show wpAny _ _ (pure es[i].key) _ _ _;exact zB (zB ⟨_,rfl,zB (k _ g (xY ..))⟩)
theorem Tr{Q:Option Value->Shared->Prop}(hh:A.handled=none)(a:s.heap.IsKeyIter it d es.size es.size ep)(k:RawD s.heap d es ep)
  (g:∀h',Heap.ExtBut it s.heap h'->Q none {s with heap:=h'}):wpAny (model prog w) A (pyNext (.ref it)) Q E s:=by
 obtain⟨o,f,l,e⟩:=id a;obtain⟨od,c,m,b⟩:=id k;unfold pyNext;refine zA (vF (xO (name:=Str.ofString "__next__") a.typeIs wM
  (xF wM a.typeIs PySem.F.entry_dict_keyiterator_next ?_ (PySem.F.args_dict_keyiterator_next_1 _))))
 refine zA (zB ?_);refine zA ?_;refine zA ?_
 first|refine zA (vH a.typeIs (zB ?_))|refine zA (uF a.typeIs (zB ?_))
 refine zA (wpAny_fieldsOf f e ?_);have j:Builtin.Dict_items.ownsTuple "dict_keyiterator"=false:=∅
 simp only[j,Bool.false_eq_true,if_false];show wpAny _ _ (if(Value.ref d == Value.none)=true then _ else _) _ _ s;rw[zD (show¬ ((Value.ref d == Value.none)=true) from yH)];refine zA (zB ?_);refine zA (sQ c b ?_);rw[zD (by simp)];refine zA (zB ?_);refine zA (pU c b ?_);rw[zD (by simp)];refine zB ?_;simp only[show¬ ((es.size:Int)<0) from⋯,if_false,Int.toNat_natCast,Array.getElem?_eq_none (Nat.le_refl _)];refine zA ?_
 first|refine zA (vH a.typeIs (zB ?_))|refine zA (uF a.typeIs (zB ?_))
 show wpAny _ _ (setField (.ref it) 0 .none >>= _) _ _ s;refine zA (vL f e (by simp) ?_);show wpAny _ _ (newExc (.type "StopIteration") [] >>= _) _ _ _;refine zA ?_;simp only[newExc,newTuple];refine zA (xD ?_ (by size_fits));refine zA (m:=firstArgMember _ _) (wpAny_of_eq (a:=Value.none) (by first|rfl|(simp only[firstArgMember];rfl)) ?_);refine xD ?_ (by size_fits);simp only[raiseNew];refine zA (wpAny_handled ?_);rw[show A.in1.handled=none from hh];refine zA (zB (wpAny_throw ?_));refine zA (vM (T:= "StopIteration") (b:=true) ⟨_,zQ _ rfl,rfl⟩ oJ ?_);exact zB (g _ (((xY ..).extBut.push _).push _))
theorem Tq(hh:A.handled=none)(I d:Addr)(l:d≠I)(es:Array DictEntry)(ep:Nat):
  Walks prog w A I [I,d] [I] es.size (λi v=>(es[i]?).map (·.key)=some v) (λi h=>h.IsKeyIter I d i es.size ep/\RawD h d es ep) where
 sub:=λb a=>by simp at a;simp[a]
 frame:=λ_ _ _ st g=>⟨st.1.at λo e=>g I (by simp) o e,st.2.at λo e=>g d (by simp) o e⟩
 item:=λi s Q E hi st c=>by
  refine Ts st.1 st.2 hi λh' k f=>?_;exact c _ h' s.toks (by simp[hi]) ⟨k,st.2.at λo e=>(f.2 d l).trans e⟩ λb o a e=>(f.2 b (λh=>a (by simp[h]))).trans e
 done:=λs Q E st c=>Tr hh st.1 st.2 λh' j=>c h' s.toks λb o a e=>j b o (λh=>a (by simp[h])) e
 self:=λ_ _ _ _ st c=>wpAny_pyIter_keyiter st.1 c
theorem Tp:typeLookup (.type "dict") "__len__"=pure (some (.builtin "dict.__len__")):=PySem.F.slot_dict_len.lookup
theorem To{Q:LW->Shared->Prop}(hh:A.handled=none)(M:(d == sysModules)=false)(c:RawD s.heap d es ep)(S:es.size<=sizeLine)
  (h:∀h' tk,(∀b o,s.heap.get? b=some o->h'.get? b=some o)->Q (es.toList.map (·.key)) {s with heap:=h',toks:=tk}):wpAny (model prog w) A (collect (.ref d)) Q E s:=by
 obtain⟨o,V,Y,X⟩:=id c;have r:@LT.lt Nat _ d s.heap.objs.size:=zK V;unfold collect;refine zA (wpAny_runValue (tZ PySem.F.entry_proto_collect ?_));rw[tO PySem.F.plain_proto_collect _];show wpAny _ A.in1 (newList [] >>= λl=>again (.builtin "list.__iadd__" ⟨[l,.ref d],[]⟩)) _ _ s;refine zA (xD ?_);refine zB ⟨qO PySem.F.plain_list_iadd _,tZ PySem.F.entry_list_iadd ?_⟩;rw[tO PySem.F.plain_list_iadd _];have L:(s.heap.push {cls:=.type "list",data:=.seq ([]:LW).toArray}).get? s.heap.objs.size=some {cls:=.type "list",data:=.seq ([]:LW).toArray}:=zQ _ rfl;have t:RawD (s.heap.push {cls:=.type "list",data:=.seq ([]:LW).toArray}) d es ep:=c.at λo e=>zC _ e;have k1:∀b o,s.heap.get? b=some o->(s.heap.push {cls:=.type "list",data:=.seq ([]:LW).toArray}).get? b=some o:=λb o e=>zC _ e;have q:(s.heap.push {cls:=.type "list",data:=.seq ([]:LW).toArray}).objs.size=s.heap.objs.size+1:=size_push' _ _;show wpAny _ A.in1 (Builtin.List.listExtendWith (.ref s.heap.objs.size) (.ref d) (.ref s.heap.objs.size)) _ _ {s with heap:=s.heap.push {cls:=.type "list",data:=.seq ([]:LW).toArray}};generalize s.heap.push {cls:=.type "list",data:=.seq ([]:LW).toArray}=a at*
 unfold Builtin.List.listExtendWith;refine zA (uJ (s:={s with heap:=a}) (T:= "dict") (RawD.typeIs (s:={s with heap:=a}) t) ?_);have e1:Builtin.List.listSameRef (.ref s.heap.objs.size) (.ref d)=false:=by simp only[Builtin.List.listSameRef,beq_eq_false_iff_ne];exact zT (zW r)
 rw[zD (by rw[e1];decide)];refine zA (Tt (s:={s with heap:=a}) M t ?_);have p:RawD (a.push {cls:=.type "dict_keyiterator",data:=.fields #[.ref d,.int 0 0,.int es.size 0,.int ep 0]}) d es ep:=t.at λo e=>zC _ e;have K:(a.push {cls:=.type "dict_keyiterator",data:=.fields #[.ref d,.int 0 0,.int es.size 0,.int ep 0]}).IsKeyIter a.objs.size d 0 es.size ep:=⟨_,zQ _ rfl,rfl,rfl⟩;have F:(a.push {cls:=.type "dict_keyiterator",data:=.fields #[.ref d,.int 0 0,.int es.size 0,.int ep 0]}).get? s.heap.objs.size=_:=zC _ L;have k2:∀b o,a.get? b=some o->(a.push {cls:=.type "dict_keyiterator",data:=.fields #[.ref d,.int 0 0,.int es.size 0,.int ep 0]}).get? b=some o:=λb o e=>zC _ e;generalize a.push {cls:=.type "dict_keyiterator",data:=.fields #[.ref d,.int 0 0,.int es.size 0,.int ep 0]}=f at*
 refine zA (yN ?_);unfold Builtin.List.listLengthHint;refine zA (wpAny_specialOf (s:={s with heap:=f}) (RawD.typeIs (s:={s with heap:=f}) p) Tp ?_);generalize hid:("dict.__len__" :String)=x
 (fail_if_success (clear hid x))
 wp_delta
 rw[show splitId x=some ("dict","__len__") from by subst hid;decide +kernel];subst hid;refine zA (vM (b:=true) (RawD.typeIs (s:={s with heap:=f}) p) (by rw[isSubtype_type];kernel_rfl) ?_);refine zA (uJ (s:={s with heap:=f}) (T:= "dict") (RawD.typeIs (s:={s with heap:=f}) p) ?_);refine zB ?_;rw[zF ∅];refine zA (wJ ?_);refine zA ?_;show wpAny _ A.in1 (updateSeq s.heap.objs.size (·.push .none) >>= λ_=>updateSeq s.heap.objs.size (·.pop)) _ _ _;refine zA (wpAny_updateSeq F rfl ?_);have C:=xA (Obj.mapSeq (·.push Value.none)) F rfl;refine wpAny_updateSeq C rfl ?_;have N:=xA (Obj.mapSeq (·.pop)) C rfl;have T:d≠a.objs.size:=zW (by rw[q];exact pC r);have G:s.heap.objs.size≠a.objs.size:=by rw[q];exact zW (uG _)
 have D:s.heap.objs.size≠d:=zT (zW r);have u:∀b o,b≠s.heap.objs.size->f.get? b=some o->((f.update s.heap.objs.size (Obj.mapSeq (·.push Value.none))).update s.heap.objs.size (Obj.mapSeq (·.pop))).get? b=some o:=
  λb o m e=>(xJ _ _ (zT m)).trans ((xJ _ _ (zT m)).trans e)
 have I:=(Tq (prog:=prog) (w:=w) (A:=A.in1) hh a.objs.size d T es ep).toS;refine zB ⟨qO PySem.F.plain_extend_loop _,codeAny_extend_loopS I S s.heap.objs.size (λc=>by rcases xM.mp c with z|z;exact G z;exact D (oP.mp z)) _ es.size 0 _ _ _ rfl (zY _)
  ⟨K.at λo e=>u _ _ (zT G) e,p.at λo e=>u _ _ (zT D) e⟩ N (ItemsOf.nil _) λk n W c P y=>?_⟩
 show wpAny _ A (load s.heap.objs.size >>= _) _ _ k;refine zA (wpAny_load P ?_);have J:n.toList=es.toList.map (·.key):=by
  refine List.ext_getElem? ?_
  intro j;rw[zH,yI,yI];cases hj:n[j]? with
  |some v=>exact(y.2 j v hj).symm
  |none =>
   have:n.size<=j:=Array.getElem?_eq_none_iff.mp hj;rw[Array.getElem?_eq_none (by rw[←y.1];exact this)];rfl
 show wpAny _ _ (pure n.toList) Q E k;rw[J];have O:k={s with heap:=k.heap,toks:=k.toks}:=by
  obtain⟨_,g,R,U,_⟩:=c;cases k;cases g;cases R;cases U;rfl
 rw[O];refine zB (h _ _ λb o e=>c.heap b o ?_ (u b o ?_ (k2 _ _ (k1 _ _ e))))
 ·have m:@LT.lt Nat _ b s.heap.objs.size:=zK e;intro c;rcases xM.mp c with z|z
  ·exact absurd z (zW m)
  ·rw[oP.mp z,q]at m;exact absurd m (Nat.not_lt.mpr (tW _))
 ·exact zW (zK e)
end
def Tn(K:Frag)(N:Nat):List V->Hp->VK->Prop:=λxs H Q=>∃(a:Addr)(kvs:List (PyData×V))(l0 l1:List PyData),xs=[.ref a]/\kvs.length<=N/\DTr K H a kvs/\(∀kv∈kvs,sm (.tuple (.tuple l1:: l0)) kv.1=true) /\
 ∀q(ps':List (V×PyData)) H',Same H H'->H q=none->H' q=some (.lst (ps'.map (·.1)))->(∀p∈ps',tT 4 p.2=true/\Dt K H p.1 p.2)->(ps'.map (·.2)).Perm (kvs.map (·.1))->Asc ps'->Q (.ref q) H'
section
variable {X:Cx}
theorem Tm{N:Nat}(P:∀n,n<=N->gX X.prog X.w n)(T:X.A.units+64<cLine)(O:X.calm=true):kD X (.builtin "sorted") (Tn X.K N):=by
 intro a7 s b0 H xs us Q I r h;obtain⟨a,kvs,f,l1,rfl,a9,g,c,q⟩:=h;obtain⟨u,rfl,J⟩:=jM r;cases J;obtain⟨xs,e,i,dd⟩:=gG I g;obtain⟨o,es,ep,F,S,W,k,_⟩:=id dd;have b1:=g.len;have K:RawD s.heap a es ep:=⟨o,F,S,W⟩;have a3:es.toList.map (·.key)=xs.map λx=>Value.ref x.2.1:=by rw[k,yW];rfl
 have pr:∀{kvs:List (PyData×V)}{xs:List (PyData×Addr×Value)},KP X.K H kvs xs->(∀d∈kvs,sm (.tuple (.tuple l1:: f)) d.1=true)->Paired (TV X.K H (.tuple (.tuple l1:: f))) (xs.map λx=>(V.ref x.2.1,x.1)) (xs.map λx=>Value.ref x.2.1)/\(xs.map (·.1))=kvs.map (·.1):=by
  intro kvs xs i
  induction i with
  |nil=>intro _;exact⟨.nil,rfl⟩
  |@cons p q ps a4 b a6 C =>
   intro c;obtain⟨M,G⟩:=C λd Y=>c d (.tail _ Y);have z:=c p (.head _);rw[b.1]at z;have w:=b.2.1.1;have j:=b.2.1.2;rw[b.1]at w j;refine⟨.cons ⟨rfl,w,z,j⟩ M,?_⟩;rw[zO,zO,G,b.1]
 obtain⟨m,l⟩:=pr i c;have b2:xs.length=kvs.length:=by have:=vA List.length l;simpa using this
 have le:es.size=xs.length:=by have:=vA List.length k;simpa using this
 refine Tu P T (d0:=.tuple (.tuple l1:: f)) (its:=xs.map λx=>Value.ref x.2.1) (ps:=xs.map λx=>(V.ref x.2.1,x.1)) (by rw[yM];omega) (by rw[yM];omega) rfl m (λa5 a8 a1=>?_) λU R H' Z D a2 y as=>?_
 ·refine To (I.ok.hd O) g.sys K ⋯ λh' tk a0=>?_;rw[a3];exact a1 _ (I.kept (t':=tk) a0)
 ·refine q U R H' Z D a2 (λp L=>?_) ?_ as
  ·obtain⟨v,_,t⟩:=Paired.mem m p (y.mem_iff.mp L);exact⟨t.t,t.d⟩
  ·have:=y.map (·.2);rw[yW]at this;rw[←l];exact this
end
open Sem (wp)
theorem Tl:typeLookup (.type "list") (Str.ofString "keys")=pure none:=am_miss_of_fast (by kernel_rfl)
theorem Tk:typeLookup (.type "list") "__getattr__"=pure none:=by rw[typeLookup_type,builtinLookup_eq_fast];kernel_rfl
section
variable {prog:Program} {w:World} {A:Around} {E:VP} {h:Heap} {g:Array GenState} {d:Drawn} {t:Nat} {os:OsState} {a:Addr} {o:Obj}
theorem Tj{tk:Tok}{Q:PySem.Fin->Shared->Prop}(hh:A.handled=none)(c:h.get? a=some o)(b:o.cls=.type "list")(i:o.dict=none){xs:Array Value}{n:Nat}(j:o.data=.seq xs n)(f:∀h' tk e,Heap.NewAttrErr h h' e (.ref a) (Str.ofString "keys")->E (.ref e) ⟨h',g,d,tk,os⟩):
  wpAny (model prog w) A (Builtin.«object.__getattribute__» ⟨[.ref a,.str (Str.ofString "keys") tk],[]⟩) Q E ⟨h,g,d,t,os⟩:=by
 have l:(⟨h,g,d,t,os⟩:Shared).TypeIs (.ref a) "list" := ⟨_,c,b⟩;have k:=Tl;unfold Builtin.«object.__getattribute__»
 repeat (any_goals (first|assumption|wp_step))
 rw[j];dsimp only;unfold instanceDict
 repeat (any_goals (first|assumption|wp_step))
 rw[b,i];dsimp only;simp only[Bool.not_false,Bool.true_or,if_true]
 repeat (any_goals (first|assumption|wp_step))
 exact wpAny_raiseAttrError hh f (attrMsg_fits (nofun) (by size_fits))
theorem Ti{Q:Option Value->Shared->Prop}(hh:A.handled=none)(c:h.get? a=some o)(f:o.cls=.type "list")(k:o.dict=none){xs:Array Value}{n:Nat}(m:o.data=.seq xs n)(j:∀h' tk,(∀b i,h.get? b=some i->h'.get? b=some i)->Q none ⟨h',g,d,tk,os⟩):
  wpAny (model prog w) A (getAttr? (.ref a) (Str.ofString "keys")) Q E ⟨h,g,d,t,os⟩:=by
 have l:∀t,(⟨h,g,d,t,os⟩:Shared).TypeIs (.ref a) "list" := λt=>⟨_,c,f⟩;have z:(⟨h,g,d,t+1,os⟩:Shared).TypeIs (.ref a) "list" := ⟨_,c,f⟩;have u:=sub_AttributeError;have r:=PySem.F.slot_list_getattribute.lookup;have q:=PySem.F.slot_list_getattribute.bind (.ref a);have x:=Tk;unfold getAttr? getAttrBy?;refine zA (oO ?_);refine zA (vF ?_);unfold getAttrBy
 repeat (any_goals (first|assumption|((with_reducible show wpAny _ _ (call (Value.builtin "list.__getattribute__") _ _) _ _ _);refine xF PySem.F.slot_list_getattribute (l _) PySem.F.entry_list_ga (Tj hh c f k m λh' v e c=>?_) (PySem.F.args_list_getattribute_2 _ _))|wp_step))
 obtain⟨t',p,y⟩:=c.there
 repeat (any_goals (first|assumption|wp_step))
 exact j _ _ c.keeps
end
theorem aW:plainId "dict.update.loop"=true:=nofun
theorem Il:entryFor table "dict.update.loop"=some Builtin.«dict.update.loop»:=entryFor_of_fast (by kernel_rfl)
structure Ent where
 p:Addr
 k:PyData
 b:Addr
 v:Value
def Ent.ok(h:Heap)(t:Ent):Prop:=(∃o n,h.get? t.p=some o/\o.cls=.type "tuple" /\ o.data=.seq #[.ref t.b,t.v] n)/\isT h t.k t.b
theorem Ent.up{h h':Heap}{a:Ent}(x:a.ok h)(e:∀b o,h.get? b=some o->o.cls=.type "tuple" -> h'.get? b=some o):a.ok h':=by
 obtain⟨⟨o,n,g,c,f⟩,d,as,i⟩:=x;exact⟨⟨o,n,e _ _ g c,c,f⟩,d,as,Dz e 4 d i⟩
def putP(xs:List (PyData×Addr×Value))(t:Ent):List (PyData×Addr×Value):=storedH xs t.k t.b t.v
theorem Th(xs:List (PyData×Addr×Value))(k:PyData)(b:Addr)(v:Value):(storedH xs k b v).length<=xs.length+1:=by
 unfold storedH;split <;> simp
section
variable {prog:Program} {w:World} {A:Around} {R:Result->Shared->Prop} {d it l:Addr} {items:Array Value}
theorem Ik(hh:A.handled=none)(a9:A.units+32<cLine)(t:d≠it)(L:d≠l)(T:l≠it):
  ∀(rest:List Ent)(i:Nat)(xs:List (PyData×Addr×Value))(s:Shared),(∀j,items[i+j]?=rest[j]?.map λa=>Value.ref a.p)->s.heap.IsListIter it l i->s.heap.IsList l items->s.heap.DictOfH (kZ prog w) d xs->(∀a∈rest,a.ok s.heap)->xs.length+rest.length<=sizeLine ->
  (∀h' tk,(∀b o,b≠it->b≠d->s.heap.get? b=some o->h'.get? b=some o)->h'.DictOfH (kZ prog w) d (rest.foldl putP xs)->R (.ok (.ret .none)) {s with heap:=h',toks:=tk}) ->
  codeAny (model prog w) A (.builtin "dict.update.loop" ⟨[.ref d,.ref it,.int i 0,.none],[]⟩) R s
 | [],i,xs,s,q,m,hl,D,_,_,u=>by
  refine tZ Il ?_;rw[tO aW _];show wpAny _ A.in1 (pyNext (.ref it) >>= _) _ _ s;refine zA (wpAny_pyNext_list_end (i:=i) hh m hl (by simpa using q 0) λh' y=>?_);show wpAny _ _ (Builtin.Dict.addKeywords d [] >>= _) _ _ _;refine zA (zB (zB ?_));obtain⟨o,es,ep,c,J⟩:=D;exact u h' s.toks (λb o b7 _ e=>y b o b7 e) ⟨o,es,ep,y d o t c,by
   obtain⟨f,I,G,v,C⟩:=J;refine⟨f,I,G,λx F=>?_,C⟩;obtain⟨a,as,r⟩:=v x F;refine⟨a,as,Dz (λb o e g=>y b o (λz=>?_) e) 4 a r⟩;obtain⟨b6,e1,a4,_⟩:=m;rw[z,e1]at e;cases e;rw[a4]at g;simp at g⟩
 | a:: rest,i,xs,s,q,m,hl,D,Y,S,u=>by
  refine tZ Il ?_;rw[tO aW _];show wpAny _ A.in1 (pyNext (.ref it) >>= _) _ _ s;have a7:items[i]?=some (.ref a.p):=by simpa using q 0
  refine zA (wpAny_pyNext_list_item (i:=i) m hl a7 λc b4 n=>?_);obtain⟨b6,a0,U,_⟩:=id m;have P:∀b o,s.heap.get? b=some o->o.cls=.type "tuple" -> c.get? b=some o:=λb o e g=>(n.2 b (λz=>by rw[z,a0]at e;cases e;rw[U]at g;simp at g)).trans e;have M:c.DictOfH (kZ prog w) d xs:=by
   obtain⟨o,es,ep,k,f,I,G,v,C⟩:=D;exact⟨o,es,ep,(n.2 d t).trans k,f,I,G,λx F=>let ⟨a,as,r⟩:=v x F;⟨a,as,Dz P 4 a r⟩,C⟩
  have a1:c.IsList l items:=by
   obtain⟨o,k,f⟩:=hl;exact⟨o,(n.2 l T).trans k,f⟩
  have N:∀t'∈a:: rest,t'.ok c:=λt' K=>Ent.up (Y t' K) P;obtain⟨⟨op,c0,O,a6,V⟩,Z⟩:=N a (.head _);refine zA (yN ?_);have a2:xs.length<=sizeLine:=by
   have:=S;simp only[List.length_cons]at this;omega
  refine zA (wpAny_tryCatch ?_);unfold Builtin.Dict.pairItems;refine zA (uJ (s:={s with heap:=c}) (T:= "tuple") ⟨op,O,a6⟩ ?_);rw[zF ∅];refine zA (wK (s:={s with heap:=c}) O V (zB ?_));show wpAny _ A.in1 (holding [.ref a.b,a.v] (dictSet d (.ref a.b) a.v)) _ _ _;refine yN ?_;refine wpAny_dictSet_heap (knd:=kZ prog w) (s:={s with heap:=c}) (hsz:=a2) (show A.units+1+8<cLine by omega) Z M λJ a5 p=>?_;obtain⟨c2,c1,b8,W,a3,b9,_⟩:=id M;have a8:∀b o,c.get? b=some o->o.cls=.type "tuple" -> J.get? b=some o:=λb o e g=>(p.2 b (λz=>by rw[z,W]at e;cases e;rw[a3.1]at g;simp at g)).trans e;refine zB ⟨qO aW _,?_⟩;have b5:(rawInt ((i:Int)+1))=.int ((i+1:Nat):Int) 0:=rfl;rw[b5];refine Ik hh a9 t L T rest (i+1) (storedH xs a.k a.b a.v) _ (λj=>?_) ?_ ?_ a5 (λt' K=>Ent.up (N t' (.tail _ K)) a8) ?_ λb0 b3 k3 X=>?_
  ·have:=q (j+1);rw[List.getElem?_cons_succ]at this;rw[←this];congr 1;omega
  ·obtain⟨o,k,f⟩:=b4;exact⟨o,(p.2 it (zT t)).trans k,f⟩
  ·obtain⟨o,k,f⟩:=a1;exact⟨o,(p.2 l (zT L)).trans k,f⟩
  ·have:=Th xs a.k a.b a.v;have:=S;simp only[List.length_cons]at this;omega
  ·exact u b0 b3 (λb o b1 b2 e=>k3 b o b1 b2 ((p.2 b b2).trans ((n.2 b b1).trans e))) X
end
section
variable {prog:Program} {w:World} {A:Around} {E:VP} {s:Shared} {l:Addr}
theorem Tg{Q:VP}{es:List Ent}{o:Obj}{n:Nat}(hh:A.handled=none)(V:A.units+48<cLine)(d:s.heap.get? l=some o)(f:o.cls=.type "list")(J:o.dict=none)(m:o.data=.seq (es.map λc=>Value.ref c.p).toArray n)(D:∀c∈es,c.ok s.heap)(S:es.length<=sizeLine)
  (h:∀h' tk,(∀b o,s.heap.get? b=some o->h'.get? b=some o)->h'.DictOfH (kZ prog w) s.heap.objs.size (es.foldl putP [])->Q (.ref s.heap.objs.size) {s with heap:=h',toks:=tk}):
  wpAny (model prog w) A (call (.type "dict") [.ref l]) Q E s:=by
 have u:@LT.lt Nat _ l s.heap.objs.size:=zK d;refine callType_codes (Q₁:=λt q=>t=.ref s.heap.objs.size/\q={s with heap:=s.heap.push {cls:=.type "dict",data:=.dict #[]}}) PySem.F.kt_called_dict (PySem.F.kt_typeCall_dict_1 _) PySem.F.entry_dict_init (kt_code_dict_new _ ⟨rfl,rfl⟩) ?_;rintro t q ⟨rfl,rfl⟩;have p:(s.heap.push {cls:=.type "dict",data:=.dict #[]}).DictOfH (kZ prog w) s.heap.objs.size []:=Heap.DictOfH.new s.heap;have k1:∀b o,s.heap.get? b=some o->(s.heap.push {cls:=.type "dict",data:=.dict #[]}).get? b=some o:=λb o e=>zC _ e;have U:(s.heap.push {cls:=.type "dict",data:=.dict #[]}).objs.size=s.heap.objs.size+1:=size_push' _ _;generalize s.heap.push {cls:=.type "dict",data:=.dict #[]}=g at*
 have y:=Heap.DictOfH.typeIs (s:={s with heap:=g}) p;refine⟨y,PySem.F.args_dict_init_2 _ _,?_⟩;unfold Builtin.«dict.__init__»;refine zA ?_;unfold Builtin.Dict.selfAndRest;refine zA (wpAny_notOrdered_dict y ?_);show wpAny _ _ (pure (s.heap.objs.size,[Value.ref l])) _ _ _;refine zB ?_;show wpAny _ _ (Builtin.Dict.updateFrom "dict.__init__" s.heap.objs.size (.ref l) [] .none) _ _ {s with heap:=g};unfold Builtin.Dict.updateFrom;refine zA (uJ (s:={s with heap:=g}) (T:= "list") ⟨o,k1 _ _ d,f⟩ ?_);rw[zF ∅];refine zA (Ti (A:=A.in1.in1) hh (k1 _ _ d) f J m λa v k2=>?_);rw[zF (by rfl)];refine zA (wJ ?_);have T:a.IsList l (es.map λc=>Value.ref c.p).toArray:=⟨o,k2 _ _ (k1 _ _ d),f,n,m⟩;refine zA (sU (s:={s with heap:=a,toks:=v}) T ?_);have i:s.heap.objs.size+1<=a.objs.size:=by
  obtain⟨od,_,_,e,_⟩:=id p;exact(show @LT.lt Nat _ s.heap.objs.size a.objs.size from zK (k2 _ _ e))
 have k3:∀b o,a.get? b=some o->(a.push {cls:=.type "list_iterator",data:=.fields #[.ref l,.int 0 0]}).get? b=some o:=λb o e=>zC _ e;have O:(a.push {cls:=.type "list_iterator",data:=.fields #[.ref l,.int 0 0]}).IsListIter a.objs.size l 0:=⟨_,zQ _ rfl,rfl,rfl⟩;show wpAny _ _ _ _ _ {s with heap:=a.push {cls:=.type "list_iterator",data:=.fields #[.ref l,.int 0 0]},toks:=v};generalize a.push {cls:=.type "list_iterator",data:=.fields #[.ref l,.int 0 0]}=R at*
 have k:∀b o,s.heap.get? b=some o->R.get? b=some o:=λb o e=>k3 _ _ (k2 _ _ (k1 _ _ e));refine zA (zB ?_);refine zB ⟨qO aW _,?_⟩;refine Ik (A:=A.in1) (items:=(es.map λc=>Value.ref c.p).toArray) hh (by show A.units+1+32<cLine;omega) (zW (zP (uG _) i)) (zT (zW u)) (zW (zP (pC u) i)) es 0 [] _ (λj=>by simp) O
  ⟨o,k _ _ d,f,n,m⟩ ?_ (λc C=>Ent.up (D c C) λb o e _=>k b o e) (by simpa using S) λG K L I=>?_
 ·obtain⟨od,N,ep,e,r⟩:=id p;obtain⟨r1,r2,F,_,P⟩:=r;exact⟨od,N,ep,k3 _ _ (k2 _ _ e),r1,r2,F,λx M=>(nomatch M),P⟩
 ·refine⟨rfl,h G K (λb o e=>?_) I⟩;have z:@LT.lt Nat _ b s.heap.objs.size:=zK e;exact L b o (zW (zP (pC z) i)) (zW z) (k _ _ e)
end
def Tf(K:Frag):List V->Hp->VK->Prop:=λxs H Q=>∃(l:Addr)(ts:List (Addr×PyData×Addr×V)),xs=[.ref l]/\SqL K H l (ts.map λt=>V.ref t.1)/\(∀t∈ts,SqT K H t.1 [.ref t.2.2.1,t.2.2.2]/\tT 4 t.2.1=true/\Dt K H (.ref t.2.2.1) t.2.1)/\(ts.map (·.2.1)).Nodup /\
 ∀D H',Same H H'->H D=none->DTr K H' D (ts.map λt=>(t.2.1,t.2.2.2))->Q (.ref D) H'
theorem Td{kvs:List (PyData×V)}{k:PyData}(h:k∉kvs.map (·.1)):vT kvs k=none:=by
 induction kvs with
 |nil=>rfl
 |cons p r a =>
  rw[zO,xM,not_or]at h;rw[jJ (λe=>h.1 e.symm)];exact a h.2
section
variable {X:Cx}
theorem Tc(b0:X.A.units+64<cLine)(R:X.calm=true):kD X (.type "dict") (Tf X.K):=by
 intro a5 s a7 H xs us Q I r h;obtain⟨l,ts,rfl,S,b,C,q⟩:=h;obtain⟨u,rfl,L⟩:=jM r;cases L;obtain⟨its,a0,⟨o,n0,e,c,od,dd⟩,v⟩:=I.list S;have mk:∀(ts:List (Addr×PyData×Addr×V))(its:LW),Vals (ts.map λa=>V.ref a.1) its->(∀a∈ts,SqT X.K H a.1 [.ref a.2.2.1,a.2.2.2]/\tT 4 a.2.1=true/\Dt X.K H (.ref a.2.2.1) a.2.1) ->
   ∃es:List Ent,its=es.map (λa=>Value.ref a.p)/\Paired (λa(e:Ent)=>e.k=a.2.1/\e.b=a.2.2.1/\RelV a.2.2.2 e.v/\e.ok s.heap) ts es:=by
  intro ts
  induction ts with
  |nil=>intro its r _;cases r;exact⟨[],rfl,.nil⟩
  | cons a ts i =>
   intro its r b;cases r with
   | cons r1 r2 =>
    obtain⟨es,e1,g⟩:=i _ r2 λx j=>b x (.tail _ j);obtain⟨d,k,n⟩:=b a (.head _);obtain⟨a4,M,⟨op,Y,W,a3,T⟩,_⟩:=I.tuple d;cases M with
    | cons U m =>
     cases m with
     |cons m O =>
      cases O;cases U;cases r1;rename_i v2;refine⟨⟨a.1,a.2.1,a.2.2.1,v2⟩:: es,by rw[zO,←e1],.cons ⟨rfl,rfl,m,⟨op,a3,Y,W,T⟩,gS I k n⟩ g⟩
 obtain⟨es,e1,g⟩:=mk ts its a0 b;subst e1;have a1:ts.length=es.length:=mU g;refine Tg (es:=es) (I.ok.hd R) ⋯ e c od (by rw[dd]) (λa p=>?_) (by rw[←a1];simpa using v) λh' tk Z D=>?_
 ·obtain⟨_,_,z⟩:=aV g a p;exact z.2.2.2
 have a2:∀(ts:List (Addr×PyData×Addr×V))(es:List Ent),Paired (λa(e:Ent)=>e.k=a.2.1/\e.b=a.2.2.1/\RelV a.2.2.2 e.v/\e.ok s.heap) ts es->(∀a∈ts,tT 4 a.2.1=true/\Dt X.K H (.ref a.2.2.1) a.2.1)->∀(kvs:List (PyData×V))(xs:List (PyData×Addr×Value)),KP X.K H kvs xs->(kvs.map (·.1)++ts.map (·.2.1)).Nodup->KP X.K H (kvs++ts.map λa=>(a.2.1,a.2.2.2)) (es.foldl putP xs):=by
  intro ts es pr
  induction pr with
  |nil=>intro _ kvs xs f _;rw[List.map_nil,wO];exact f
  | @cons a e ts es K _ i =>
   intro b kvs xs f nd;obtain⟨d,k,n,_⟩:=K;have st:=f.put a.2.1 (b a (.head _)).1 (b a (.head _)).2 n;have J:a.2.1∉kvs.map (·.1):=λP=>by
    have:=(qZ.mp nd).2.2 _ P a.2.1 (by simp);exact this rfl
   have ep:pT kvs a.2.1 a.2.2.2=kvs++[(a.2.1,a.2.2.2)]:=by
    unfold pT;rw[Td J];rfl
   rw[ep,←d,←k]at st;have:=i (λx j=>b x (.tail _ j)) _ _ st (by rw[yX,yK];simpa [d]using nd);rw[yK]at this;rw[d]at this;show KP X.K H _ (List.foldl putP (storedH xs e.k e.b e.v) es);rw[d];exact this
 have f:=a2 ts es g (λa p=>(b a p).2) [] [] .nil (by simpa using C);rw[pQ]at f;obtain⟨a9,a6,a8,y,N,G,F,_,w⟩:=D;have t:H s.heap.objs.size=none:=I.hok.fresh (zE _);have sm:Same H (upd H s.heap.objs.size (lD s.heap.objs.size (es.foldl putP []))):=Same.new t;refine⟨.ref s.heap.objs.size,_,I.laid (a:=s.heap.objs.size) (o:=lD s.heap.objs.size (es.foldl putP [])) (t':=tk) Z (zE _) (aJ y N G F),rfl,?_⟩;refine q _ _ sm t ⟨by rw[yM];simpa using v,oV.mpr (zT (zW (aK I))),_,nN,w,f.keeps (lY sm)⟩
end
open Classical in
section
variable {prog:Program} {w:World} {E:VP}
theorem geT:∀(n:Nat),n<=4->∀{A:Around}{s:Shared}{v u:Value}{x y:PyData}{as bs:LA}{Q:VP},tT n x=true->tT n y=true->sm x y=true->Reads s.heap v x as->Reads s.heap u y bs->A.units+8+n<cLine->Q (.bool (!lx (fl x) (fl y))) s->wpAny (model prog w) A (richCompare .GtE v u) Q E s:=by
 intro n
 induction n with
 |zero =>
  intro U A s v u x y as bs Q F z C r1 r2 a3 h;cases r1 <;> simp[tT]at F;cases r2 <;> simp[tT]at z;refine PyProof.Rows.ge_int ?_;simpa [fl,lx,wA,←decide_not,Int.not_lt]using h
 | succ n S =>
  intro U A s v u x y as bs Q F z C r1 r2 a3 h;cases r1 <;> simp only[tT,Bool.false_eq_true]at F
  case int =>
   cases r2 <;> simp only[sm,Bool.false_eq_true]at C;refine PyProof.Rows.ge_int ?_;simpa [fl,lx,wA,←decide_not,Int.not_lt]using h
  case tuple a o vs m xs hg hc hd hr =>
   cases r2 <;> simp only[sm,Bool.false_eq_true]at C;rename_i b a6 us b6 ys N a7 Y a0;simp only[tT]at z;have O:s.TypeIs (.ref a) "tuple" := ⟨o,hg,hc⟩;have M:s.TypeIs (.ref b) "tuple" := ⟨a6,N,a7⟩;refine wpAny_richCompare_same_room (op:=.GtE) O M PySem.F.slot_tuple_ge (xF PySem.F.slot_tuple_ge O PySem.F.entry_tuple_ge ?_ (PySem.F.args_tuple_ge_2 _ _)) ⋯;show wpAny _ _ (isInstance (.ref b) (.type "tuple") >>= _) _ _ s;refine zA (vM M rJ ?_);simp only[Bool.not_true,Bool.false_eq_true,if_false];refine zA (uP hg hd ?_);refine zA (uP N Y ?_);refine zA ?_;refine pM _
    (λrest r t=>r.1=none/\t=s/\∃d g i k G K,rest=List.zip i k/\ReadsAll s.heap i d G/\ReadsAll s.heap k g K/\d.all (tT n)=true/\g.all (tT n)=true/\smA d g=true/\lx (flA d) (flA g)=lx (flA xs) (flA ys)/\(i.length+us.size=k.length+vs.size))
    _ ?_ ?_ _ _ ⟨rfl,rfl,xs,ys,vs.toList,us.toList,_,_,rfl,hr,a0,F,z,C,rfl,by simp;omega⟩
   ·rintro⟨p,q⟩ rest r t ⟨I,rfl,d,g,i,k,G,K,l,J,D,j,tb,c,f,L⟩;cases J with
    |nil=>simp at l
    | @cons a9 a2 d' Z b7 b0 r1 T =>
     cases D with
     |nil=>simp[smA]at c
     |@cons b5 a5 P V b1 b3 r2 X =>
      simp only[List.zip_cons_cons,List.cons.injEq,Prod.mk.injEq]at l;obtain⟨⟨rfl,rfl⟩,rfl⟩:=l;rw[yV,zN]at j tb;simp only[smA,Bool.and_eq_true]at c;refine zA (eqT (n:=n) ⋯ j.1 tb.1 r1 r2 (by show A.units+1+8<cLine;omega) ?_)
      by_cases e:d'=P
      ·subst e;rw[zM rfl];simp only[Bool.not_true,Bool.false_eq_true,if_false];refine zB ⟨rfl,rfl,Z,V,a2,a5,_,_,rfl,T,X,j.2,tb.2,c.2,?_,by simp at L;omega⟩;rw[←f];simp only[flA];rw[dH]
      ·rw[zJ e];simp only[Bool.not_false,if_true];have a8:fl d'≠fl P:=λq=>e (fT _ _ c.1 q);simp only[flA]at f;rw[dI _ _ _ _ (fS _ _ c.1) a8]at f;refine zA (wJ ?_);refine zA (S ⋯ j.1 tb.1 c.1 r1 r2 (by show A.units+1+8+n<cLine;omega) ?_);rw[f];exact zA (zB (zB (zB ⟨_,rfl,(λe=>nomatch e),h⟩)))
   ·rintro⟨r1,r2⟩ t ⟨I,rfl,d,g,i,k,G,K,l,J,D,j,tb,c,f,L⟩;simp only at I;subst I;cases J with
    |cons b2 b4 =>
     cases D with
     |nil=>simp[smA]at c
     |cons a1 W=>simp at l
    | nil =>
     cases D with
     |cons a1 W=>simp[smA]at c
     |nil =>
      have a4:vs.size=us.size:=by simp at L;omega
      have R:lx (flA xs) (flA ys)=false:=by rw[←f];simp[flA,lx]
      refine zB ⟨_,rfl,(λe=>nomatch e),?_⟩;show Q (.bool (decide (vs.size≥us.size))) t;have h':Q (.bool (!lx (flA xs) (flA ys))) t:=h;rw[R]at h';rw[a4,zM (zE _)];exact h'
end
def Ta(K:Frag)(ge:Bool):R2:=λx y H Q=>∃d e,tT 4 d=true/\tT 4 e=true/\sm d e=true/\Dt K H x d/\Dt K H y e/\Q (.bl (if ge=true then !lx (fl d) (fl e) else lx (fl d) (fl e))) H
section
variable {X:Cx}
theorem Uz(l:X.A.units+64<cLine):OpR X (compareOp .GtE) (Ta X.K true):=by
 intro k s j H x y v u Q I a f h;obtain⟨d,e,b,c,z,g,i,q⟩:=h;obtain⟨as,r1⟩:=g.reads I a;obtain⟨bs,r2⟩:=i.reads I f;exact geT 4 (zE _) b c z r1 r2 ⋯ ⟨.bl _,H,I,rfl,q⟩
end
structure FunD(K:Frag)(x qual:Str)(st:Stmt)(f:Addr)(fd:FuncData)(ds:LW):Prop where
 ex:∃(oc:Value)(od:Option Addr)(T:Addr)(kV doc pm:Value)(an:Option Addr)(cdv ct:Value)(osl:Array (Option Value)),
  fd=PySem.W.fnOf x qual (iL st) (jF st) (nP st) (.ref T) kV doc pm an cdv ct/\K.lookup f=some ⟨oc,od,.func fd,osl⟩/\PySem.W.codeIn K cdv qual=true/\∃(o2:Value)(d2:Option Addr)(n2:Nat)(s2:Array (Option Value)),K.lookup T=some ⟨o2,d2,.seq ds.toArray n2,s2⟩
 kp:PySem.W.keepIn K (.ref f)=true
section
variable {P:Program} {w:World} {K:Frag} {mg:MT} {base:Heap}
theorem FunD.binds{x e:Str}{st:Stmt}{f:Addr}{g:FuncData}{ps:List Str}{ds:LW}(F:FunD K x e st f g ds)
  (h:∀(T:Addr)(kV c d:Value)(a:Option Addr)(cdv b:Value)(us:LW),us.length+ds.length=ps.length->∃k,bindArgs (PySem.W.fnOf x e (iL st) (jF st) (nP st) (.ref T) kV c d a cdv b) ⟨us,[]⟩=seqItems? (.ref T) >>= k/\k (some ds.toArray)=pure (ps.zip (us++ds))):lT K g ps ds:=by
 obtain⟨t,od,T,kV,c,d,a,cdv,b,l,rfl,r,m,p,o,n,q,lt⟩:=F.ex;intro s us j hl;obtain⟨k,e1,i⟩:=h T kV c d a cdv b us (by simpa using hl);exact BindsTo.of_defaults (T:=T) rfl (j _ _ lt) rfl e1 i
theorem FunD.bindsA{x e:Str}{st:Stmt}{f:Addr}{g:FuncData}{ps:List Str}{ds:LW}(F:FunD K x e st f g ds)
  (h:∀(T:Addr)(kV c d:Value)(a:Option Addr)(cdv b:Value)(us:LW),us.length=ps.length->∃k,bindArgs (PySem.W.fnOf x e (iL st) (jF st) (nP st) (.ref T) kV c d a cdv b) ⟨us,[]⟩=seqItems? (.ref T) >>= k/\k (some ds.toArray)=pure (ps.zip us)):lT K g ps []:=by
 obtain⟨t,od,T,kV,c,d,a,cdv,b,l,rfl,r,m,p,o,n,q,lt⟩:=F.ex;intro s us j hl;rw[wO]at hl ⊢;obtain⟨k,e1,i⟩:=h T kV c d a cdv b us hl;exact BindsTo.of_defaults (T:=T) rfl (j _ _ lt) rfl e1 i
theorem Uy{x a:Str}{st:Stmt}{f T:Addr}{o m:Value}{od j b:Option Addr}{i n:Array (Option Value)}{kV e g cdv d:Value}{ds:LW}{p:Nat}(l:K.lookup f=some ⟨o,od,.func (PySem.W.fnOf x a (iL st) (jF st) (nP st) (.ref T) kV e g b cdv d),i⟩)
  (c:PySem.W.codeIn K cdv a=true)(k:PySem.W.keepIn K (.ref f)=true)(l2:K.lookup T=some ⟨m,j,.seq ds.toArray p,n⟩):FunD K x a st f (PySem.W.fnOf x a (iL st) (jF st) (nP st) (.ref T) kV e g b cdv d) ds:=⟨⟨o,od,T,kV,e,g,b,cdv,d,i,rfl,l,c,m,j,p,n,l2⟩,k⟩
end
end L2
namespace PySem
section
variable {prog:Program} {w:World} {A:Around} {E:VP} {h:Heap} {g:Array GenState} {d:Drawn} {t:Nat} {os:OsState}
variable {nm q:Str} {C N:Addr} {bs bm bmB:LW} {hdct:Bool} {sn:List Str} {sub:LW} {ab:Bool} {col:Option Bool} {dd:Option Addr} {k0 k1 k2 k3 k5:Option Value} {B newId initId:String}
abbrev xTup(us:LW):Obj:={cls:=.type "tuple",data:=.seq us.toArray}
abbrev xExc(C t:Addr)(dx:Option Addr):Obj:={cls:=.ref C,dict:=dx,data:=.fields #[.ref t,.none,.none,.none,.bool false,.none]}
abbrev gY(h:Heap)(C:Addr)(us:LW):Heap:=(h.push (xTup us)).push (xExc C h.objs.size none)
theorem Ux(F:ExcBaseFacts B newId initId bmB)(T:OwnTail h bmB bm){mN:MT}{us:LW}{f:Addr}{k:Obj}{Q:Fin->Shared->Prop}
  (a:h.get? C=some (excClassObj nm q C N bs bm hdct sn sub ab col dd k0 k1 k2 k3 k5 newId))(u:h.Ns N mN)(hi:mN "__init__"=some (.ref f))(z:h.get? f=some k)(m:k.cls=.type "function")(y:us.length<=sizeLine)
  (l:wpAny (model prog w) A (call (.ref f) (.ref (h.objs.size+1):: us)) (λr j=>r=.none/\Q (.done (.ret (.ref (h.objs.size+1)))) j) E ⟨gY h C us,g,d,t,os⟩):
  wpAny (model prog w) A (Builtin.«type.__call__» ⟨.ref C:: us,[]⟩) Q E ⟨h,g,d,t,os⟩:=by
 repeat (first|with_reducible refine uY a ?_|with_reducible refine wpAny_madeBy_exc a ?_|wp_step)
 refine codeAny_call_builtin_code (qJ _ F.quiet) (wpAny_check_new_subT F T a (codeAny_exc_new_subT F T a ?_ y));show wpAny _ _ _ _ _ _;have c:∀b o,h.get? b=some o->(gY h C us).get? b=some o:=λb o e=>zC _ (zC _ e);have i:=c _ _ a;have n:=c _ _ z;have D:=u.keeps c;have G:(gY h C us).get? (h.objs.size+1)=some (xExc C h.objs.size none):=by heap_get
 have I:(Value.ref C:: bm).contains (.ref C)=true:=by simp
 have v:=T.keeps c;unfold isInstance
 repeat (first|with_reducible refine uY G ?_|(with_reducible refine wpAny_isSubtype_exc i ?_;rw[I])|wp_step)
 show wpAny _ _ (typeLookup (.ref C) _) _ _ _;refine wpAny_typeLookup_tail i D v F.mroIs F.init.lookup ?_;rw[hi];refine yN (zA ?_);unfold bindSpecial;refine zA (uJ (T:= "function") ⟨_,n,m⟩ ?_);rw[zF ∅];refine zB (zA (yQ l (λr j hr=>?_) λ_ _ x=>x));obtain⟨rfl,p⟩:=hr
 wp_walk
 exact p
theorem Uw(F:ExcBaseFacts B newId initId bmB)(T:OwnTail h bmB bm){mN:MT}{us:LW}{b:Addr}{c:Obj}{Q:VP}
  (a:h.get? C=some (excClassObj nm q C N bs bm hdct sn sub ab col dd k0 k1 k2 k3 k5 newId))(i:h.Ns N mN)(hi:mN "__init__"=some (.ref b))(l:h.get? b=some c)(f:c.cls=.type "function")(j:us.length<=sizeLine)
  (e:wpAny (model prog w) (A.under (.builtin "type.__call__" ⟨.ref C:: us,[]⟩)) (call (.ref b) (.ref (h.objs.size+1):: us)) (λr k=>r=.none/\Q (.ref (h.objs.size+1)) k) E ⟨gY h C us,g,d,t,os⟩):
  wpAny (model prog w) A (call (.ref C) us) Q E ⟨h,g,d,t,os⟩:=by
 have n:=tc_lookup;have m:=tc_bind (.ref C);have o:(⟨h,g,d,t,os⟩:Shared).TypeIs (.ref C) "type" := ⟨_,a,rfl⟩;refine uN (codeAny_of_tree ?_);show wpAny _ _ (callAny (.ref C) _) _ _ _
 repeat (any_goals (first|assumption|with_reducible refine uY a ?_|wp_step))
 refine⟨rfl,codeAny_call_builtin_at (qJ _ (nofun)) entry_typeCall (wpAny_check_type_call_sub a (Ux F T a i hi l f j ?_))⟩;exact e
theorem Uv{env:Env}{s:Shared}{x:Sem Value}{Q:Flow->Shared->Prop}(l:bm.contains (.type "BaseException")=true)(hh:A.handled=none){M:Model}
  (h:wpAny M A x (λv a=>∃e t c,v=.ref e/\a.heap.get? C=some (excClassObj nm q C N bs bm hdct sn sub ab col dd k0 k1 k2 k3 k5 newId)/\a.heap.get? e=some (xExc C t c)/\E (.ref e) a) E s):
  wpAny M A (raiseStmt env (some x) none) Q E s:=by
 have i:(Value.ref C:: bm).contains (.type "BaseException")=true:=by rw[List.contains_cons,l,Bool.or_true]
 unfold raiseStmt;refine zA (yQ h (λv a f=>?_) λ_ _ x=>x);obtain⟨e,t,c,rfl,b,k,j⟩:=f;obtain⟨m,g,d,tk,os⟩:=a
 repeat (first|with_reducible refine uY k ?_|with_reducible refine uY b ?_|(with_reducible refine wpAny_isSubtype_exc b ?_;rw[i])|wp_step)
 exact wpAny_raiseNew_none hh j
end
end PySem
namespace L2
open PySem PySem.Spec PyProof.Rows
open PySem.W (Frag)
def XObj(e C:Addr)(od:Option Addr):HO:=.ext λh=>∃t,h.get? e=some (xExc C t od)
theorem Dy{P:Program}{w:World}{H:Hp}{h:Heap}{e C t:Addr}{od:Option Addr}(q:h.get? e=some (xExc C t od)):mI P w H h e (XObj e C od):=⟨⟨t,q⟩,⟨_,q⟩,λ_ _⟨t,z⟩k=>⟨t,k _ z⟩⟩
def rmv(H:Hp)(e:Addr):Hp:=λb=>if b=e then none else H b
theorem iI{H:Hp}{e b:Addr}(h:b≠e):rmv H e b=H b:=zD h
theorem Dx{H:Hp}{e:Addr}:rmv H e e=none:=zF rfl
theorem Uu{H:Hp}{e:Addr}{o:HO}(h:H e=some o):upd H e o=H:=by
 funext b
 by_cases q:b=e
 ·rw[q,nN,h]
 ·exact nO q
section
variable {X:Cx} {pins:PN} {σ:St} {H:Hp} {s:Shared} {e C:Addr} {b0:Option Addr}
theorem Inv.untrack(I:Inv X pins σ H s)(k:H e=some (XObj e C b0)):Inv X pins σ (rmv H e) s:=by
 have u:=I.base;have t:∀{b o},rmv H e b=some o->b≠e/\H b=some o:=λ{b o}z=>by
  by_cases q:b=e
  ·rw[q,Dx]at z;cases z
  ·rw[iI q]at z;exact⟨q,z⟩
 have ne:∀{b o},H b=some o->o≠XObj e C b0->b≠e:=λ{b o}z d q=>by rw[q,k]at z;exact d (zZ z).symm
 have f:∀b,H b=none->rmv H e b=none:=λb z=>by
  by_cases q:b=e
  ·rw[q,Dx]
  ·rw[iI q];exact z
 refine⟨I.ok,I.os,I.bare,⟨u.keep,u.slot,λb o q n g=>f _ (u.free b o q n g),u.there,λb xs q=>?_,λb o v q=>?_,λb ps q=>?_⟩,I.loc,I.cell,f _ I.free,λx c q=>f _ (I.freeC x c q),λp j=>?_,λa o q=>?_,I.len⟩
 ·have:=u.tups b xs q;rw[iI (ne this (by intro z;cases z))];exact this
 ·have:=u.frzs b o v q;rw[iI (ne this (by intro z;cases z))];exact this
 ·obtain⟨m,e1⟩:=u.tbls b ps q;exact⟨m,by rw[iI (ne e1 (by intro z;cases z))];exact e1⟩
 ·obtain⟨e1,l,r⟩:=I.pin p j;exact⟨e1,f _ l,r⟩
 ·obtain⟨_,i⟩:=t q;exact(I.hok a o i).stay (λ_ _ _ z=>z) (λb z=>by rw[iI (ne z (by intro z;cases z))];exact z) λb xs z=>by rw[iI (ne z (by intro z;cases z))];exact z
end
section
variable {M:Model} {A:Around} {E:VP} {s:Shared}
theorem Ut{base:Heap}{env:Env}{outer:List Env}{L e C a:Addr}{b:Option Addr}{Q:Unit->Shared->Prop}(v:A.frames=some (env:: outer))(d:env.frame=some L)(o:base.StaysIn s.heap)(hl:s.heap.FunFrames base (env:: outer))(f:s.heap.get? e=some (xExc C a b))(c:base.get? e=none)
  (j:∀h',Heap.FlyingW base outer e (.ref C) (.ref a) h'->Dc h' e b->s.heap.UpToSlots h'->Q () {s with heap:=h'}):wpAny M A (leaving env (.ref e)) Q E s:=by
 unfold leaving noteFrame;simp only[d];refine zA (zA (xB f rfl (x:=.none) rfl ?_));rw[zD ∅];refine Bi v hl d f o c rfl (by simp) (a0:=.ref a) rfl (od:=b) (λ_ q=>q) λp⟨r,g,n,u⟩m=>?_;exact bO (s:={s with heap:=p}) ⟨r,c,g,n⟩ m λt⟨k1,k2,⟨_,_,k3⟩,i⟩k l=>j t ⟨k1,k2,k3,i⟩ k (Heap.UpToSlots.trans u l)
end
def Ij(X:Cx)(EX:XE):Prop:=∀(pins:PN)(σ:St)(H:Hp)(s:Shared)(e C t:Addr)(dx:Option Addr),Inv X pins σ H s->H e=none->X.s₀.heap.get? e=none->s.heap.get? e=some (xExc C t dx)->EX σ (.ref C) dx H->X.xe (.ref e) s
section
variable {P:Program} {w:World} {K:Frag} {mg:MT} {base:Heap} {N:List Str} {qual:Str} {scope:Scope} {f:Addr} {cd:Value} {A:Around} {outer:List Env} {s₀:Shared} {H₀:Hp} {E:XK}
theorem Us:Ij (cxOf (CX1 P w) P w K mg base N qual scope f cd A outer s₀ H₀ E) (λ_ C od H=>E C od H):=by
 intro L O H s e C J r I i x m l;have G:=PySem.W.funFrames_hide (as:=e:: frs (cxOf (CX1 P w) P w K mg base N qual scope f cd A outer s₀ H₀ E).stack) I.stack (λenv d a n=>.tail _ (nB.mpr ⟨env,d,n⟩));refine Ut I.ok.frames rfl (λb o q=>qL _ q) G m (rQ _ (.head _)) λh' k p y=>?_;obtain⟨g,_,j,D⟩:=k;obtain⟨un,ok,u⟩:=bP I rfl rfl rfl g y λb o q F t=>rZ _ q λd=>by
  rcases xM.mp d with z|z
  ·subst z;rcases t with⟨M,c⟩|⟨v,c⟩
   ·rw[x]at c;cases c
   ·rw[i]at c;cases c
  ·exact F z
 exact⟨e,.ref C,r,H,_,_,rfl,I.os,I.bare,un,ok,⟨g,rQ _ (.head _),j,D⟩,u,p,l⟩
end
def aX(K:Frag)(C:Addr)(bmB:LW)(newId:String)(f:Addr):Bool:=
 (K.lookup f).any (λo=>o.cls == .type "function") &&
 (K.lookup C).any λob=>match ob with
  |⟨.type "type",_,.cls c1,sl⟩=>(match c1.mro,sl.toList with
   |.ref C1:: bm,[_,_,_,_,some (.builtin nw),_]=>C1 == C && nw == newId && !c1.hasDel && PySem.W.tailIn K bmB bm && PySem.W.nsOkIn K c1.ns && PySem.W.nsIn K c1.ns "__init__" == some (some (.ref f))
   |_,_=>false)
  |_=>false
theorem Ur{K:Frag}{h:Heap}{N:Addr}{x:Str}{v:Value}(X:K.In h)(g:h.Ns N (h.nsMap N))(e:PySem.W.nsIn K N x=some (some v)):h.nsMap N x=some v:=by
 obtain⟨o,es,ep,f,b,_,a⟩:=g;unfold PySem.W.nsIn at e;split at e
 ·rename_i c d k j l q;have:=X _ _ q;rw[f]at this;cases this;cases b;split at e
  ·rename_i i;cases e;rw[←a];unfold nsFind findBy;rw[←Array.find?_toList,i];rfl
  ·split at e <;> cases e
 ·cases e
theorem Ii{K:Frag}{h:Heap}{C f:Addr}{i:LW}{newId:String}(KX:K.In h)(j:aX K C i newId f=true):
  ∃bm N nm e bs d sn sub ab col dd k0 k1 k2 k3 k5 mN b,h.get? C=some (excClassObj nm e C N bs bm d sn sub ab col dd k0 k1 k2 k3 k5 newId)/\h.Ns N mN/\mN "__init__"=some (.ref f)/\OwnTail h i bm/\h.get? f=some b/\b.cls=.type "function" := by
 unfold aX at j;obtain⟨c,a⟩:=Bool.and_eq_true_iff.mp j;obtain⟨b,r,c⟩:=rF c;obtain⟨G,p,a⟩:=rF a;split at a
 ·next dd o k =>
  split at a
  ·next F bm k0 k1 k2 k3 q k5 y es =>
   simp only[Bool.and_eq_true,beq_iff_eq,Bool.not_eq_true']at a;obtain⟨⟨⟨⟨⟨e1,u⟩,n⟩,D⟩,g⟩,t⟩:=a;subst e1 u;cases o with
   | mk nm bs w ns e d sn sub ab col v =>
    have x:w=Value.ref F:: bm:=y;have m:v=false:=n;subst x m;have z:k=#[k0,k1,k2,k3,some (Value.builtin q),k5]:=by
     cases k with
     |mk l=>exact vA Array.mk es
    subst z;exact⟨bm,ns,nm,e,bs,d,sn,sub,ab,col,dd,k0,k1,k2,k3,k5,_,b,KX _ _ p,pW (qN KX g),Ur KX (pW (qN KX g)) t,PySem.W.tail_of_in KX D,KX _ _ r,oS.mp c⟩
  ·cases a
 ·cases a
section
variable {X:Cx} {CX:CXT} {EX:XE} {k:Nat} {C f:Addr} {fd:FuncData} {ps:List Str} {sp:Sp} {dvs:List V} {ds:LW} {x:Str} {np p cpos pos:Pos} {e e₀:Expr} {es rest:List Expr} {t:TA} {bmB:LW} {B newId initId:String}
def Uq(C:Addr)(sp:Sp)(EX:XE)(t:TA):TS:=λ_ σ H=>t σ H λvs H1=>vs.length<=sizeLine/\∀e,H1 e=none->sp (.ref e:: vs) (upd H1 e (XObj e C none)) (λv H2=>v=.non/\∃od,H2 e=some (XObj e C od)/\EX σ (.ref C) od (rmv H2 e)) E0
theorem Uo(b2:X.calm=true)(b1:Ij X EX)(b4:Gl X x)(b0:X.mg x=some (.ref C))(b3:aX X.K C bmB newId f=true)(P:ExcBaseFacts B newId initId bmB)(F:FnOk X.prog X.w X.K X.mg X.base CX k f fd ps sp)
  (hr:Room (k+1) X.A)(c0:lT X.K fd ps [])(a1:eF CX X E0)(a2:PA X (e₀:: rest) t)
  (a9:(x == ("__debug__" :Str))=false:=by decide)(G:starEach (e₀:: rest) X.env=(false,eval e₀ X.env):: starEach rest X.env:=by rfl)(a5:(backTo cpos (starEach rest X.env)).any (·.1)=false:=by rfl):
  PS X (.Raise (some (.Call (.Name x np) (e₀:: rest) [] cpos)) none pos) (Uq C sp EX t):=by
 intro g s j H D I h;obtain⟨bm,N,nm,q,bs,a8,sn,sub,ab,col,dd,k0,k1,k2,k3,k5,mN,c4,K,a6,a3,T,Z,U⟩:=Ii I.mod.kin b3;have y:(backTo cpos (starEach (e₀:: rest) X.env)).any (·.1)=false:=by
  rw[G];show(false || (backTo cpos (starEach rest X.env)).any (·.1))=false;rw[a5];rfl
 rw[arm_exec_Raise];refine zA (wF (Uv (C:=C) (nm:=nm) (q:=q) (N:=N) (bs:=bs) (bm:=bm) (hdct:=a8) (sn:=sn) (sub:=sub) (ab:=ab) (col:=col) (dd:=dd) (k0:=k0) (k1:=k1) (k2:=k2) (k3:=k3) (k5:=k5) (newId:=newId) (T.hasType P.hasBase) (I.ok.hd b2)
  (zA (yQ (wpAny_Call_ofName (iV I b4 b0 ?_ a9)) (λv c3 W=>zA (wF (zB W))) λ_ _ x=>x))))
 unfold callWith;have R:=a2 cpos g s j H _ I h;rw[G]at R y ⊢;refine zA (yN (yQ (uC (Q:=λa c=>∃us,a=⟨us,[]⟩/\AP X g j _ us c) (thn R λus c2 z=>⟨us,rfl,z⟩)) (λa c b8=>zA (wF ?_)) λ_ _ x=>x));obtain⟨us,rfl,vs,a0,d,r,b6,c1⟩:=b8;simp only[y];have O:=d.bk _ _ K;have hl:us.length<=sizeLine:=by rw[←r.length];exact b6
 have M:=c1 (c.heap.objs.size+1) (d.hok.fresh (tW _));have b9:∀b o,c.heap.get? b=some o->(gY c.heap C us).get? b=some o:=λb o e=>zC _ (zC _ e);have a4:(gY c.heap C us).get? (c.heap.objs.size+1)=some (xExc C c.heap.objs.size none):=by
  have:=zQ (c.heap.push (xTup us)) (o:=xExc C c.heap.objs.size none) rfl
  rwa[xP]at this
 have l:Inv X g j (upd a0 (c.heap.objs.size+1) (XObj (c.heap.objs.size+1) C none)) {c with heap:=gY c.heap C us}:=d.laid (t':=c.toks) b9 (tW _) (Dy a4);have r2:Vals (V.ref (c.heap.objs.size+1):: vs) (Value.ref (c.heap.objs.size+1):: us):=.cons rfl r;have b7:(Value.ref (c.heap.objs.size+1):: us++[]).length=ps.length:=by rw[wO,←r2.length];exact F.len _ _ _ _ M
 have L:=c0 {c with heap:=gY c.heap C us} (Value.ref (c.heap.objs.size+1):: us) l.kIn b7;rw[wO]at L;have run:=F.run _ X.stack _ _ ⟨Value.ref (c.heap.objs.size+1):: us,[]⟩ _ _ _ E0 (hr.make C us []) (l.env0.make C us []) L r2 M;obtain⟨c9,c7,c5,c8,c6⟩:=c;refine zA (wpAny_keeperOf_exc O ?_);refine zA (Uw P (T.keeps d.bk) O (a6.keeps d.bk) a3 (d.bk _ _ Z) U hl (uN (tI run λa7 m i=>?_)));cases a7 with
 |error w=>exact a1 g j _ _ w m l i
 | ok fl =>
  cases fl with
  |ret u =>
   obtain⟨v,H',n,b5,w,od,J,Y⟩:=l.after i;subst w;refine⟨b5,zA (yN (wpAny_point (zB ?_)))⟩;obtain⟨⟨t',S⟩,_⟩:=(show mI X.prog X.w H' m.heap _ (XObj _ C od) from n.hok _ _ J);refine⟨_,t',od,rfl,n.bk _ _ K,S,b1 g j (rmv H' _) m _ C t' od (n.untrack J) Dx (Heap.get?_none_of_le (yC d.sz (tW _))) S Y⟩
  |next=>exact False.elim i
  |brk=>exact False.elim i
  |cont=>exact False.elim i
def Ih(C:Addr)(sp:Sp)(dvs:List V)(EX:XE)(t:TA):TE:=λσ H Q=>t σ H λvs H1=>∀x dx,H1 x=none->H1 dx=none->dx≠x ->
 sp (.ref x:: (vs++dvs)) (upd (upd H1 dx (.own x)) x (.ins C dx [])) (λv H2=>v=.non/\Q (.ref x) H2) λC' od H'=>EX σ C' od H'
theorem Um{g:PN}{d:St}{H:Hp}{s:Shared}{Q:VK}{us:LW}{vs:List V}(M:Mk X.K C f)(F:FnOk X.prog X.w X.K X.mg X.base (CX1 X.prog X.w) k f fd ps sp)(hr:Room (k+1) X.A)(m:lT X.K fd ps ds)(P:Vals dvs ds)
  (Y:eP X EX)(O:X.ex=[])(I:Inv X g d H s)(r:Vals vs us)
  (h:∀x i,H x=none->H i=none->i≠x->sp (.ref x:: (vs++dvs)) (upd (upd H i (.own x)) x (.ins C i [])) (λv K=>v=.non/\Q (.ref x) K) λl od H'=>EX d l od H'):
  wpAny (model X.prog X.w) X.A (call (.ref C) us) (EP X g d Q) X.xe s:=by
 have y:=h (s.heap.objs.size+1) s.heap.objs.size (I.hok.fresh (tW _)) (I.hok.fresh (zE _)) (zW (uG _));have a:=Inv.made (C:=C) I;have r2:Vals (V.ref (s.heap.objs.size+1):: (vs++dvs)) (Value.ref (s.heap.objs.size+1):: (us++ds)):=.cons rfl (r.append P);have hl:(Value.ref (s.heap.objs.size+1):: us++ds).length=ps.length:=r2.length.symm.trans (F.len _ _ _ _ y);refine uN (Ng (f:=f) I.kIn M.makes M.init (oS.mp M.fn) (tI (F.run _ X.stack _ _ ⟨Value.ref (s.heap.objs.size+1):: us,[]⟩ (Value.ref (s.heap.objs.size+1):: (us++ds)) _ _ _ (hr.make C us [])
  (a.env0.make C us []) (m _ (Value.ref (s.heap.objs.size+1):: us) a.kIn hl) r2 y) λR D c=>?_))
 cases R with
 | error J =>
  obtain⟨e,l,od,H',a2,a0,rfl,a3,S,un,ok,fl,G,N,q⟩:=c;have n:Inv X g d H' D:=a.call' a3 un ok S λb z=>absurd z (by simp);refine Y g d H' D e l od n ⟨⟨a2,a0,fl,λb o e1 m j=>G b o e1 m ?_,λp w=>?_⟩,N⟩ q
  ·rcases j with⟨W,a6⟩|j
   ·obtain⟨a1,T⟩:=a.base.there b W a6 (by rw[O];simp);exact .inl ⟨a1,T⟩
   ·exact .inr j
  ·obtain⟨e1,a7,ne,a4,_⟩:=n.pin p w;refine G p.1 p.2 e1 (λU=>?_) (.inl ⟨_,(a.pin p w).1⟩);rcases xM.mp (a.stkSub p.1 U) with z|z
   ·exact ne z
   ·exact a4 z
 | ok fl =>
  cases fl with
  |ret u =>
   obtain⟨v,H',a5,Z,J,L⟩:=a.after c;subst J;exact⟨Z,⟨V.ref (s.heap.objs.size+1),H',a5,rfl,L⟩⟩
  |next=>exact False.elim c
  |brk=>exact False.elim c
  |cont=>exact False.elim c
theorem Ul(M:Mk X.K C f)(F:FnOk X.prog X.w X.K X.mg X.base (CX1 X.prog X.w) k f fd ps sp)(hr:Room (k+1) X.A)(n:Gl X x)(o:X.mg x=some (.ref C))(v:lT X.K fd ps ds)(i:Vals dvs ds)(b:eP X EX)
  (c:PA X (e:: es) t)(d:X.ex=[]:=by rfl)(l:(x == ("__debug__" :Str))=false:=by decide)(u:starEach (e:: es) X.env=(false,eval e X.env):: starEach es X.env:=by rfl)(j:(backTo pos (starEach es X.env)).any (·.1)=false:=by rfl):
  PE X (.Call (.Name x p) (e:: es) [] pos) (Ih C sp dvs EX t):=by
 intro m s g H Q I h;refine wC (iV I n o ?_ l);refine sG (h₀:=X.base) I.ok.mod.kin M.kp (thn (c pos m s g H _ I h) λus w⟨vs,y,a,r,q⟩=>⟨a.kIn,?_⟩) u j;exact Um M F hr v i b d a r q
theorem FunD.okX{P:Program}{w:World}{K:Frag}{b:MT}{base:Heap}{x a:Str}{st:Stmt}{f:Addr}{fd:FuncData}{ds:LW}{N ps:List Str}{k:Nat}{sp:Sp}(F:FunD K x a st f fd ds)(d:nZ N ps (nP st))(len:∀vs H Q E,sp vs H Q E->vs.length=ps.length)
  (g:∀(cdv:Value)(A:Around)(outer:List Env)(s:Shared)(H:Hp)(vs:List V)(Q:VK)(E:XK),Room k (A.deeper (envOfC a (nP st) s.heap.objs.size f cdv))->sp vs H Q E ->
   ∃t,PSs (cxOf (CX1 P w) P w K b base N a (nP st) f cdv A outer s H E) (jF st) t/\t {nx:=λ_ H'=>Q .non H',rt:=Q} (jE N vs) H):FnOk P w K b base (CX1 P w) (k+1) f fd ps sp:=by
 obtain⟨q,od,T,kV,o,r,l,cdv,n,m,rfl,i,j,_⟩:=F.ex;exact Bp i j d len λA outer s H vs Q E hr c=>g cdv A outer s H vs Q E hr c
end
structure XIn(K:Frag)(C C0 f:Addr):Prop where
 cl:aX K C [.type "ValueError",.type "Exception",.type "BaseException",.type "object"] "ValueError.__new__" f=true
 ga:PySem.W.specialIn K (.ref C0) "__getattribute__"=some (some (.builtin "type.__getattribute__"))
 rd:PySem.W.readsIn K C0 (.type "type")=true
 fi:PySem.W.findCls K (.ref C0) (.type "type") "__init__"=some (.val (.builtin "ValueError.__init__"))
def Dw:LW->Bool
 |.ref _:: r=>Dw r
 |l=>l == [.type "ValueError",.type "Exception",.type "BaseException",.type "object"]
theorem Ig(a:Value):∀{l:LW},Dw l=true->refuseLoop a "__setattr__" l=pure ()/\l.contains (.type "object")=true
 |.ref c:: r,e=>by
  obtain⟨b,d⟩:=Ig a (l:=r) e;exact⟨by rw[refuseLoop_ref];exact b,by rw[List.contains_cons,d,Bool.or_true]⟩
 |[],e=>by cases e
 |.type n:: r,e=>by rw[show Value.type n:: r=_ from oS.mp e];exact⟨PySem.F.store_ValueError.passes a,∅⟩
structure XSt(K:Frag)(C:Addr)(x:Str):Prop where
 sa:PySem.W.findIn K (.ref C) "__setattr__"=some (some (.builtin "object.__setattr__"))
 mr:((PySem.W.clsIn K C).any λc1=>Dw c1.mro && c1.hasDict)=true
 tk:PySem.W.takerIn K C x=some none
section
variable {X:Cx} {C C0 f:Addr} {x nm:Str} {np apos cpos pos:Pos} {e o:Expr} {es:List Expr} {te to:TE} {t:TA}
def Ie(C:Addr)(t:TA):TE:=λσ H Q=>t σ H λvs H1=>∃p b r,vs=.ref p:: r/\H1 p=some (XObj p C b)/\r.length<=sizeLine/\Q .non H1
theorem Uk{pl:Sem Bool}(Z:Gl X x)(S:X.mg x=some (.ref C0))(g:XIn X.K C C0 f)(K:PA X (e:: es) t)(P:(x == ("__debug__" :Str))=false:=by decide)
  (W:starEach (e:: es) X.env=(false,eval e X.env):: starEach es X.env:=by rfl)(M:(backTo cpos (starEach es X.env)).any (·.1)=false:=by rfl)
  (G:eval (.Call (.Attribute (.Name x np) "__init__" apos) (e:: es) [] cpos) X.env=(do
   let m ←eval (.Name x np) X.env
   standAt apos.atName
   let (f,first) ←holding [m] (getMethod m "__init__" pl)
   callWith cpos f first (backTo cpos (starEach (e:: es) X.env)) (backToKw cpos (keywordEach [] X.env))):=by rfl):
  PE X (.Call (.Attribute (.Name x np) "__init__" apos) (e:: es) [] cpos) (Ie C t):=by
 intro R s V H Q I h;refine PySem.W.methodCall_KW (pl:=pl) (iV I Z S ?_ P) G;refine PySem.W.method_cls I.kIn g.ga (PySem.W.cls_value I.kIn g.rd g.fi (by rfl) ?_);have Y:=I.tok (s.toks+1);have v:=K cpos R _ V H _ Y h;show wpAny _ _ (callWith cpos (.builtin "ValueError.__init__") [] (backTo cpos (starEach (e:: es) X.env)) []) _ _ _;rw[W]at v ⊢;refine sZ (by show(false || (backTo cpos (starEach es X.env)).any (·.1))=false;rw[M];rfl) (uC (thn v λus w⟨vs,n,k,r,q⟩=>?_));obtain⟨p,b,J,rfl,i,a2,a1⟩:=q;obtain⟨u,c,rfl,U,O⟩:∃u c,us=u:: c/\RelV (.ref p) u/\Vals J c:=by cases r with|cons a b=>exact⟨_,_,rfl,a,b⟩
 obtain rfl:u=Value.ref p:=U;obtain⟨⟨t',l⟩,_⟩:=(show mI X.prog X.w n w.heap _ (XObj _ C b) from k.hok _ _ i);obtain⟨bm,N,nm,q,bs,a8,sn,sub,ab,col,dd,k0,k1,k2,k3,k5,mN,a6,L,a7,a9,T,a5,a4⟩:=Ii k.kIn g.cl;have F:=yR;have hl:c.length<=sizeLine:=by rw[←O.length];exact a2
 obtain⟨d,b2,b0,a0,b1⟩:=w;refine uN (uA F.init.plain F.initEntry (wpAny_check_init_subT F T L l rfl ?_));have b3:p≠d.objs.size:=zW (zK l);have j:(d.push (xTup c)).get? p=some (xExc C t' b):=zC _ l;unfold Builtin.«BaseException.__init__»;refine zA (qD ?_ hl);refine zA (zA (xB j rfl rfl (zA (vL j rfl (by show 0<6;decide) (qG (zB ?_))))));have D:((d.push (xTup c)).update p (Obj.mapFields (·.setIfInBounds 0 (.ref d.objs.size)))).get? p=some (xExc C d.objs.size b):=xA _ j rfl;refine⟨.non,n,?_,rfl,a1⟩;have y:=k.write (h':=(d.push (xTup c)).update p (Obj.mapFields (·.setIfInBounds 0 (.ref d.objs.size)))) (x:=p) (e:=p) (t':=a0) (o:=XObj p C b) (by rw[i];exact True.intro) (.inl rfl) (λb u a3 z=>(xJ _ _ (zT a3)).trans (zC _ z)) ⟨_,D⟩ (Dy D);rw[Uu i]at y;exact y
def XDct(a:Addr)(f:Str)(v:V):HO:=.ext λh=>∃mA u,h.Ns1 a mA/\mA f=some u/\RelV v u
theorem Uj{P:Program}{w:World}{H:Hp}{h:Heap}{a:Addr}{f:Str}{v:V}{b:MT}{u:Value}(q:h.Ns1 a b)(e:b f=some u)(r:RelV v u):mI P w H h a (XDct a f v):=
 ⟨⟨b,u,q,e,r⟩,let ⟨_,_,_,z,_⟩:=q;⟨_,z⟩,λ_ _⟨b,u,⟨od,es,ep,z,c⟩,e,r⟩k=>⟨b,u,⟨od,es,ep,k _ z,c⟩,e,r⟩⟩
def XNew(a:Addr):HO:=.ext λh=>∃o,h.get? a=some o
theorem Ui{P:Program}{w:World}{H:Hp}{h:Heap}{a:Addr}{o:Obj}(q:h.get? a=some o):mI P w H h a (XNew a):=⟨⟨o,q⟩,⟨o,q⟩,λ_ _⟨o,z⟩k=>⟨o,k _ z⟩⟩
def IdX(C:Addr)(nm:Str)(te to:TE):TS:=λD σ H=>te σ H λv H1=>to σ H1 λy H2=>∃p,y=.ref p/\H2 p=some (XObj p C none)/\∀dx,H2 dx=none->dx≠p->D.nx σ (upd (upd H2 dx (XDct dx nm v)) p (XObj p C (some dx)))
open Builtin Builtin.ObjectAttr in
theorem Uh(xs:XSt X.K C nm)(J:PE X e te)(a8:PE X o to)(b8:swapsWith e (some (.Attribute o nm apos)) pos.line X.env=pure false:=by rfl):PS X (.Assign [.Attribute o nm apos] e pos) (IdX C nm te to):=by
 intro S s U H D I h;refine plainObj_wpAny_Assign_Attribute (thn (J S s U H _ I h) λu a1⟨v,a0,c1,c4,g⟩=>thn (a8 S a1 U a0 _ c1 g) λY d⟨y,j,F,c6,p,c8,T,Z⟩=>?_) b8;subst c8;obtain rfl:Y=Value.ref p:=c6;obtain⟨⟨t',G⟩,_⟩:=(show mI X.prog X.w j d.heap _ (XObj _ C none) from F.hok _ _ T);have k:=F.kIn;have ia:PySem.W.InstAt d.heap p (xExc C t' none) C none:=⟨G,rfl,rfl,trivial⟩;refine PySem.W.set_plain k ia xs.sa ?_;have l:=PySem.F.store_object;obtain⟨L,N,b1⟩:=rF xs.mr;obtain⟨M,a2⟩:=Bool.and_eq_true_iff.mp b1;obtain⟨a3,b2⟩:=Ig (.ref p) M;have ne:L.mro.isEmpty=false:=by cases q:L.mro with|nil=>rw[q]at M;cases M|cons _ _=>rfl
 have sub:PySem.W.Looks (model X.prog X.w) d.heap (isInstance (.ref p) (.type "object")) true:=ia.type.andThen (tX k (by unfold PySem.W.mroIn;rw[N,Option.bind_some,zD (by rw[ne];decide),b2]));refine uA l.slot.plain l.entry (@PySem.W.check_slot (model X.prog X.w) _ _ {d with toks:=d.toks+1} "object.__setattr__" "object" "__setattr__" (.ref p) [.str nm d.toks,u] [] _ l.kind l.split sub (l.args (.ref p) (.str nm d.toks) u) ?_);obtain⟨W,a5,hr⟩:=Option.bind_eq_some_iff.mp xs.tk;have b0:PySem.W.Looks (model X.prog X.w) d.heap (mroOf (.ref C)) L.mro:=(rY k N).andThen .now;have c3:PySem.W.Looks (model X.prog X.w) d.heap (storeTaker? W) none:=by
  cases W with
  |none=>exact .now
  |some a =>
   obtain⟨b,n,a9⟩:=Option.map_eq_some_iff.mp hr;refine(PySem.W.looks_takesIn k n).andThen ?_;cases b
   ·exact .now
   ·cases a9
 have up:∀{O:Type}{m:Sem O}{a:O},PySem.W.Looks (model X.prog X.w) d.heap m a->PySem.W.Looks (model X.prog X.w) {d with toks:=d.toks+1}.heap m a:=λz=>z;rw[PySem.W.osa_eq,refuse_eq];refine zA (zA (wY (up ia.type) (zA (wY (up b0) ?_))));rw[a3];refine zB (zA (wY (up ia.type) (zA (wY (up (wH k a5)) (zA (wY (up c3) ?_))))));obtain⟨c,b7,a7,w,b5⟩:=d;have c2:c.get? p=some ⟨.ref C,none,.fields #[.ref t',.none,.none,.none,.bool false,.none],#[]⟩:=G;refine zA (zB (zA (zA (qF c2 (zA (wY (s:=⟨c,b7,a7,w+1,b5⟩) (rY k N) ?_))))));rw[a2];have i:p≠c.objs.size:=zW (zK G);have r:(c.push {cls:=.type "dict",data:=.dict #[]}).get? p=some (xExc C t' none):=zC _ G;refine zA (wpAny_alloc' (zA (wpAny_update' r (zB ?_))));have b4:((c.push {cls:=.type "dict",data:=.dict #[]}).update p λo=>{cls:=o.cls,dict:=some c.objs.size,data:=o.data,slots:=o.slots}).get? c.objs.size=some {cls:=.type "dict",data:=.dict #[]}:=
  (rX _ _ _ _ i.symm).trans (Heap.get?_push_at rfl rfl)
 have c9:((c.push {cls:=.type "dict",data:=.dict #[]}).update p λo=>{cls:=o.cls,dict:=some c.objs.size,data:=o.data,slots:=o.slots}).Ns c.objs.size (λ_=>none):=
  ⟨_,#[],_,b4,rfl,λe J=>absurd J (by simp),λ_=>rfl⟩
 show wpAny _ _ (storeInDict c.objs.size (.str nm w) nm u) _ _ _;unfold storeInDict newKeyGuard;refine zA (zB (zA (wpAny_nsSet1 (Heap.Ns1.of_empty c9) λh' V R=>?_)));obtain⟨d2,d1,d0,P,b6,a4⟩:=V.count (Within.cons nm u Within.nil);refine zA (wpAny_lookBehind P (by rw[b6];exact pastItsLine_dict (yC a4 (by rw[zR,List.length_nil,sizeLine_eq];omega))) (zB ?_));have d3:h'.get? p=some (xExc C t' (some c.objs.size)):=(R.2 p i).trans (xA _ r rfl);have b9:j c.objs.size=none:=F.hok.fresh (zE _);refine⟨_,_,?_,Z c.objs.size b9 i.symm⟩;have c5:=F.laid (h':=c.push {cls:=.type "dict",data:=.dict #[]}) (t':=w) (a:=c.objs.size) (o:=XNew c.objs.size) (λb u z=>zC _ z) (zE _) (Ui (Heap.get?_push_at rfl rfl));have b3:(upd j c.objs.size (XNew c.objs.size)) p=some (XObj p C none):=by rw[nO i];exact T
 have c0:=c5.write (h':=(c.push {cls:=.type "dict",data:=.dict #[]}).update p λo=>{cls:=o.cls,dict:=some c.objs.size,data:=o.data,slots:=o.slots}) (x:=p) (e:=p) (t':=w) (o:=XObj p C (some c.objs.size)) (by rw[b3];exact True.intro) (.inl rfl)
  (λb q n z=>(rX _ _ _ _ n).trans z) ⟨_,xA _ r rfl⟩ (Dy (xA _ r rfl))
 have a6:(upd (upd j c.objs.size (XNew c.objs.size)) p (XObj p C (some c.objs.size))) c.objs.size=some (XNew c.objs.size):=by rw[nO i.symm,nN]
 have c7:upd (upd (upd j c.objs.size (XNew c.objs.size)) p (XObj p C (some c.objs.size))) c.objs.size (XDct c.objs.size nm v)=upd (upd j c.objs.size (XDct c.objs.size nm v)) p (XObj p C (some c.objs.size)):=by
  funext b
  by_cases g:b=c.objs.size
  ·subst g;rw[nN,nO i.symm,nN]
  ·by_cases K:b=p
   ·subst K;rw[nO g,nN,nN]
   ·rw[nO g,nO K,nO g,nO K,nO g]
 rw[←c7];exact c0.write (h':=h') (x:=c.objs.size) (e:=c.objs.size) (o:=XDct c.objs.size nm v) (by rw[a6];exact True.intro) (.inl rfl) (λb q n z=>(R.2 b n).trans z) ⟨_,P⟩ (Uj (u:=u) V (by simp) c4)
end
theorem Ug{prog:Program}{w:World}{A:Around}{E:VP}{s:Shared}{K:Frag}{x C:Addr}{f od:Obj}{nm:Str}{v:Value}{c:Bool}{Q:VP}(F:cF K C)(r:PySem.W.findIn K (.ref C) nm=some none)(o:PySem.W.hasDictIn K C=true)(KX:K.In s.heap)
  (b:PySem.W.InstAt s.heap x f C (some od))(hl:PySem.W.lookIn nm od=some (some v))(a:PySem.W.handedIn v=true)(h:Q v {s with toks:=s.toks+1}):wpAny (model prog w) A (getAttr (.ref x) nm c) Q E s:=by
 obtain⟨hh,g,d,e,G⟩:=s;have j:PySem.W.Looks (model prog w) hh (typeOf (.ref x)) (.ref C):=b.type;have k:=wH (M:=model prog w) KX F.ga;have m:=wH (M:=model prog w) KX F.gt;have t:=tX (M:=model prog w) KX F.bx;have p:=PySem.W.looks_find (M:=model prog w) KX b (PySem.W.findObj_own o r rfl hl);unfold getAttr getAttrBy;refine zA (oO (yN (zA (j.at (zA (k.at ?_))))));show wpAny _ _ (getAttrByItsOwn _ _ _ _ _ _) _ _ _;unfold getAttrByItsOwn;refine zA (show wpAny _ _ (hookBefore (.ref C)) _ _ _ from m.at ?_);refine zA (vF (yN ?_));unfold callGetattribute;rw[zD (show¬ (c && onTheHeap (Value.builtin "BaseException.__getattribute__"))=true by cases c <;> decide)];unfold boundAndCalled;rw[PySem.F.attr_ValueError.ga.bind (.ref x)];refine zA (zB (uN ?_));refine uA PySem.F.attr_ValueError.ga.plain PySem.F.entry_bexc_ga ?_;have u:builtinKind "BaseException.__getattribute__"=some .slot:=nofun
 have l:splitId "BaseException.__getattribute__"=some ("BaseException","__getattribute__"):=nofun
 have D:=PySem.F.args_bexc_ga (.ref x) (.str nm e);have n:PySem.W.Looks (model prog w) hh (isInstance (.ref x) (.type "BaseException")) true:=j.andThen t;show wpAny _ _ (checkBuiltinCall "BaseException.__getattribute__" ⟨[.ref x,.str nm e],[]⟩) _ _ _;simp only[checkBuiltinCall,u,l];refine zA (n.at ?_)
 repeat wp_step
 refine qF b.at_ ?_;show wpAny _ _ (pure f.cls) _ _ _;rw[b.cls];refine zB (zA (p.at ?_))
 repeat wp_step
 cases v <;> first|exact zB h|skip;rename_i i;dsimp only;rw[zD]
 ·exact zB h
 ·replace a:(withoutEnding? i "#data").isNone=true:=a;intro q;cases z:withoutEnding? i "#data" with
  |none=>rw[z]at q;cases q
  |some y=>rw[z]at a;cases a
structure XGt(K:Frag)(C:Addr)(f:Str):Prop where
 F:cF K C
 na:PySem.W.findIn K (.ref C) f=some none
 hd:PySem.W.hasDictIn K C=true
theorem Ic{a b:Type}(f:a->b):∀(l:List a)(j:Nat),(l.map f).eraseIdx j=(l.eraseIdx j).map f
 |[],_=>rfl
 |_:: _,0=>rfl
 |x:: l,j+1=>by show f x:: (l.map f).eraseIdx j=_;rw[Ic f l j];rfl
def Uf:List V->Hp->VK->Prop:=λvs H Q=>∃x p b,vs=[x,.ref p]/\H p=some (.tup [.ty "list",.ty "tuple"])/\((∃i,x=.int i/\b=false)\/∃a xs,x=.ref a/\H a=some (.lst xs)/\b=true)/\Q (.bl b) H
theorem Ib{X:Cx}(f:PySem.W.kitOne X.K (.type "int") (.type "list")=some false)(w:PySem.W.kitOne X.K (.type "int") (.type "tuple")=some false):kD X (.builtin "isinstance") Uf:=by
 intro k s o H xs us Q I C h;obtain⟨x,p,b,rfl,l,m,q⟩:=h;obtain⟨u,v,rfl,r1,r2⟩:=C.two;cases r2;have e:∀tk,EP X k o Q (.bool b) {s with toks:=tk}:=λtk=>⟨.bl b,H,I.tok tk,rfl,q⟩;obtain⟨_,its,r,⟨⟨K,od,L,D⟩,e1,d,n,c⟩⟩:=(show mI X.prog X.w H s.heap p (.tup _) from I.hok p _ l);obtain⟨F,G,rfl,t,g⟩:=r.two;cases t;cases g;dsimp only at d c;subst d c;rcases m with⟨i,rfl,rfl⟩|⟨a,ys,rfl,j,rfl⟩
 ·obtain⟨J,rfl⟩:=r1;exact PySem.W.kia_tup PySem.W.kitx_int I.kIn True.intro e1 (by unfold PySem.W.kitAny;rw[f];show PySem.W.kitAny _ _ _=_;unfold PySem.W.kitAny;rw[w];rfl) (λz=>nomatch z) e
 ·cases r1;obtain⟨_,_,n,_,y⟩:=(show mI X.prog X.w H s.heap a (.lst ys) from I.hok a _ j);exact PySem.W.kia_tup pE I.kIn ⟨_,y,rfl⟩ e1 (by rfl) (λz=>nomatch z) e
def KB(K:Frag)(fd:FuncData)(ps:List Str)(nm:Str):Prop:=
 ∀(s:Shared)(us:LW)(u:Value),K.In s.heap->us.length+1=ps.length->BindsTo s fd ⟨us,[(nm,u)]⟩ (ps.zip (us++[u]))
def vI(kvs:List (Key×V))(i:Int):Option V:=(kvs.find? λkv=>decide (kv.1=Sum.inl i)).map (·.2)
theorem Ia{kvs:List (Key×V)}{vs:List (Key×Value)}(r:KV kvs vs)(i:Int):RelO (vI kvs i) (valueAt vs (Sum.inl i)):=by
 induction r with
 |nil=>exact True.intro
 |@cons p q _ _ h _ a =>
  obtain⟨b,c⟩:=h;unfold vI valueAt at a ⊢;rw[uT,uT,←b]
  by_cases z:p.1=Sum.inl i
  ·rw[zM z];exact c
  ·rw[zJ z];exact a
theorem Ue{kvs:List (Key×V)}{vs:List (Key×Value)}(r:KV kvs vs){k:Key}{v:V}{u:Value}(h:RelV v u):KV (kvs++[(k,v)]) (vs++[(k,u)]):=by
 induction r with
 |nil=>exact .cons ⟨rfl,h⟩ .nil
 |cons a _ b=>exact .cons a b
theorem Ud{kvs:List (Key×V)}{vs:List (Key×Value)}(r:KV kvs vs):kvs.length=vs.length:=by
 induction r with
 |nil=>rfl
 |cons _ _ a=>rw[zR,zR,a]
theorem Dv{kvs:List (Key×V)}{i j:Int}{v:V}(h:vI kvs i=none):vI (kvs++[(Sum.inl i,v)]) j=if j=i then some v else vI kvs j:=by
 unfold vI at h ⊢;rw[List.find?_append]
 by_cases e:j=i
 ·subst e;rw[zF rfl];cases z:kvs.find? λa=>decide (a.1=Sum.inl j) with
  |none=>simp
  |some p=>rw[z]at h;cases h
 ·rw[zD e];cases z:kvs.find? λa=>decide (a.1=Sum.inl j) with
  |none =>
   have:¬ (Sum.inl i:Key)=Sum.inl j:=λq=>e (Sum.inl.inj q).symm;simp[this]
  |some p=>rfl
def Jz:TE:=λ_ H Q=>∀p,H p=none->Q (.ref p) (upd H p (.dK []))
def Jy:R2:=λx y H Q=>∃a kvs i v,x=.ref a/\y=.int i/\H a=some (.dK kvs)/\vI kvs i=some v/\Q v H
def Uc:TSet:=λx y v H Q=>∃a kvs i,x=.ref a/\y=.int i/\H a=some (.dK kvs)/\vI kvs i=none/\kvs.length<sizeLine/\Q (upd H a (.dK (kvs++[(Sum.inl i,v)])))
section
variable {X:Cx} {pos:Pos}
theorem Ub:PE X (.Dict [] [] pos) Jz:=λb s a H Q I h =>
 wpAny_Dict_empty ⟨.ref s.heap.objs.size,_,I.laid (a:=s.heap.objs.size) (o:=.dK []) (t':=s.toks) (λ_ _ q=>zC _ q) (zE _)
  ⟨zY _,oV.mpr (zT (zW (aK I))),[],.nil,Heap.DictOf.new s.heap⟩,rfl,h _ (I.hok.fresh (zE _))⟩
theorem ix_I:IxR X Jy:=by
 intro t p w s n H x y v u Q I c d h l;obtain⟨a,kvs,i,z,rfl,rfl,e,j,q⟩:=h;cases c;obtain⟨b,rfl⟩:=(show∃b,u=Value.int i b from d);obtain⟨_,_,vs,r,dd⟩:=(show mI X.prog X.w H s.heap a (.dK kvs) from I.hok _ _ e);obtain⟨w',k,f⟩:=RelO.some_of (v:=z) (o:=valueAt vs (Sum.inl i)) (by rw[←j];exact Ia r i);have ty:s.TypeIs (.ref a) "dict" := let ⟨o,_,_,g,m,_⟩:=dd;⟨o,g,m.1⟩
 refine uU (x:=w') ty PySem.F.slot_dict_getitem.lookup ?_ l;exact wpAny_getItem_of (Fw X.prog X.w i b) dd.mapOf k ⟨rfl,z,H,I.tok _,f,q⟩
theorem Ua:PSet X Uc:=by
 intro J s G H o i v F y u Q I x l m h;obtain⟨a,kvs,j,rfl,rfl,e,n,hl,q⟩:=h;cases x;obtain⟨b,rfl⟩:=(show∃b,y=Value.int j b from l);obtain⟨_,D,vs,r,dd⟩:=(show mI X.prog X.w H s.heap a (.dK kvs) from I.hok _ _ e);have p:vs.length<=sizeLine:=by rw[←Ud r];omega
 have k:valueAt vs (Sum.inl j:Key)=none:=by
  have:=Ia r j;rw[n]at this;cases z:valueAt vs (Sum.inl j:Key) with
  |none=>rfl
  |some w=>rw[z]at this;exact this.elim
 refine wpAny_setItem_pairs (Fw X.prog X.w j b) dd (λh' f C=>?_) p;rw[stored_absent k]at f;obtain⟨d,t⟩:∃d,h'.get? a=some d:=let ⟨o,_,_,z,_⟩:=f;⟨o,z⟩
 exact⟨_,I.write (x:=a) (e:=a) (o:=.dK (kvs++[(Sum.inl j,v)])) (by rw[e];exact True.intro) (.inl rfl) (λc o g z=>(C.2 c g).trans z) ⟨d,t⟩ ⟨by rw[yA];exact hl,D,_,Ue r m,f⟩,q⟩
end
section
variable {prog:Program} {w:World} {A:Around} {s:Shared}
theorem katP(r:A.units+16<cLine){Q:Bool->Shared->Prop}:∀(c a:List PyData)(f j:LW)(l m:LA)(i:Nat),ReadsAll s.heap f c l->ReadsAll s.heap j a m->c.all (tT 3)=true->a.all (tT 3)=true->smA c a=true->Q (lx (flA c) (flA a)) s->PySem.W.KatLex prog w A true false Q (f.zip j) (i+1) s
 | [],a,f,j,l,m,i,k,n,_,_,b,h=>by
  cases k;cases a with
  |cons _ _=>simp[smA]at b
  |nil =>
   cases n;refine PySem.W.kat_nil ?_;simpa [flA,lx]using h
 | d :: c,a,f,j,l,m,i,k,n,g,tb,b,h=>by
  cases a with
  |nil=>simp[smA]at b
  | cons e a =>
   cases k with
   | cons r1 o =>
    cases n with
    |cons r2 p =>
     rw[yV,zN]at g tb;simp only[smA,Bool.and_eq_true]at b;rw[vP];refine pN (eqT (n:=3) ⋯ g.1 tb.1 r1 r2 ⋯ ?_);simp only[flA]at h
     by_cases z:d=e
     ·subst z;rw[zM rfl];rw[dH]at h;exact pY (katP r c a _ _ _ _ (i+1) o p g.2 tb.2 b.2 h)
     ·rw[zJ z];rw[dI _ _ _ _ (fS _ _ b.1) λq=>z (fT _ _ b.1 q)]at h;refine oF ?_;show wpAny (model prog w) A (oneLt' false _ _) Q _ s;exact PySem.W.kat_one _ _ (ltT 3 ⋯ g.1 tb.1 b.1 r1 r2 ⋯ h)
theorem Vz(x:A.units+16<cLine){Q:Bool->Shared->Prop}{k0:Int}{l b a:List PyData}{m n:LW}{t u:LA}(c:smA (.int k0:: l) b=true)(f:smA (.int k0:: l) a=true)(r:ReadsAll s.heap m b t)(v:ReadsAll s.heap n a u)(k:b.all (tT 3)=true)(tb:a.all (tT 3)=true)(g:smA b a=true)(h:Q (lx (flA b) (flA a)) s):PySem.W.KatLex prog w A true false Q (m.zip n) 0 s:=by
 cases b with
 |nil=>simp[smA]at c
 | cons d b =>
  cases a with
  |nil=>simp[smA]at f
  | cons e a =>
   simp only[smA,Bool.and_eq_true]at c f;cases r with
   | cons r1 p =>
    cases v with
    | cons r2 o =>
     rw[yV,zN]at k tb;simp only[smA,Bool.and_eq_true]at g;rw[vP];refine pN (eqT (n:=3) ⋯ k.1 tb.1 r1 r2 ⋯ ?_);simp only[flA]at h
     by_cases z:d=e
     ·subst z;rw[zM rfl];rw[dH]at h;exact pY (katP x b a _ _ _ _ 0 p o k.2 tb.2 g.2 h)
     ·rw[zJ z];rw[dI _ _ _ _ (fS _ _ g.1) λq=>z (fT _ _ g.1 q)]at h;refine oF ?_;show wpAny (model prog w) A (oneLt' true _ _) Q _ s;have c:=c.1;have f:=f.1;cases r1 <;> simp only[sm,Bool.false_eq_true]at c;cases r2 <;> simp only[sm,Bool.false_eq_true]at f;refine oneLt_int ?_;have q:∀i j:Int,lx [i] [j]=decide (i<j):=λi j=>by
       unfold lx;rw[decide_eq_decide,wA];simp
      simp only[fl,q]at h;exact h
theorem cmpP(D:A.units+16<cLine){d0:PyData}(g:∃k l,d0=.tuple (.int k:: l)):Cmp prog w A s (iA s.heap d0) (tuples' true):=by
 intro E x y a b Q q t h;obtain⟨k0,l,rfl⟩:=g;obtain⟨d,as,j,c,r1,rfl⟩:=aU q;obtain⟨e,bs,n,i,r2,rfl⟩:=aU t;have z:=Ca _ _ _ c i;cases r1 <;> simp only[sm,Bool.false_eq_true]at c
 case tuple a o vs m xs hg hc g hr =>
  cases r2 <;> simp only[sm,Bool.false_eq_true]at i;rename_i b F us G ys u I C p;simp only[tT]at j n;simp only[sm]at z;have hl:vs.size=us.size:=by
   have e1:∀{h:Heap}{vs:LW}{xs:List PyData}{as:LA},ReadsAll h vs xs as->vs.length=xs.length:=by
    intro h vs xs as r
    induction xs generalizing vs as with
    |nil=>cases r;rfl
    |cons x xs f=>cases r with|cons r1 r2=>simp[f r2]
   have v:∀{xs ys:List PyData},smA xs ys=true->xs.length=ys.length:=by
    intro xs
    induction xs with
    |nil=>intro ys h;cases ys <;> simp[smA]at h;rfl
    |cons x xs f=>intro ys h;cases ys <;> simp[smA]at h;simp[f h.2]
   have:=e1 hr;have:=e1 p;have:=v z;simp only[Array.length_toList]at*
   omega
  refine PySem.W.kat_lt hg g u C ?_;rw[zJ ⋯];exact Vz D c i hr p j n z h
end
section
variable {X:Cx} {pins:PN} {σ:St} {H:Hp} {s:Shared} {a:Addr} {A:Around} {E:VP} {vs:LW} {ps:List (V×PyData)} {n0:Nat} {R:VP} {d0:PyData} {l0:List PyData} {k0:Int}
theorem Vy(b9:gX X.prog X.w vs.length)(c1:A.units+16<cLine)(I:Inv X pins σ H s)(b4:FpOk X pins H a)(F:s.heap.get? a=some (seqObj "list" vs.toArray n0))(Z:vs.length<=sizeLine)(a0:d0=.tuple (.int k0:: l0))(y:Paired (TV X.K H d0) ps vs)
  (h:∀(j:List (V×PyData)) H' L,Inv X pins σ H' L->Same H H'->H' a=some (.lst (j.map (·.1)))->j.Perm ps->j.Pairwise (λp q=>lx (fl q.2) (fl p.2)=false)->R .none L):
  wpAny (model X.prog X.w) A (Builtin.«list.sort» ⟨[.ref a],[]⟩) (λO L=>∃v,O=.done (.ret v)/\R v L) E s:=by
 obtain⟨Y,P,d3,a4,a2,a5⟩:=b4;rw[list_sort_plain];have c9:a<s.heap.objs.size:=zK F;refine zA (listItems_at F rfl ?_);refine zA (tS F rfl ?_ (by rw[zV];exact Z) (zY _));obtain⟨e1,a6⟩:∃e1,(s.heap.update a (Obj.mapSeq λ_=>(#[]:Array Value))).get? a=some (seqObj "list" #[] e1):=⟨_,rM F (λ_=>#[])⟩;have b1:=xY s.heap a (Obj.mapSeq λ_=>(#[]:Array Value));have c0:Inv X pins σ H {s with heap:=s.heap.update a (Obj.mapSeq λ_=>(#[]:Array Value)),toks:=s.toks}:=I.turned (λb o w q=>(b1.2 b w).trans q) Y P a4 a2 a5;refine zA (rA a6 rfl ?_);refine zA (qD ?_ Z);refine zA (qP ?_ (zY _));refine yN ?_;have G:(((s.heap.update a (Obj.mapSeq λ_=>(#[]:Array Value))).push (seqObj "tuple" vs.toArray 0)).push (seqObj "list" #[] 0)).get? a=some (seqObj "list" #[] e1):=zC _ (zC _ a6);have C:Inv X pins σ H {s with heap:=((s.heap.update a (Obj.mapSeq λ_=>(#[]:Array Value))).push (seqObj "tuple" vs.toArray 0)).push (seqObj "list" #[] 0),toks:=s.toks}:=c0.kept λb o q=>zC _ (zC _ q);show wpAny (model X.prog X.w) A _ _ E {s with heap:=((s.heap.update a (Obj.mapSeq λ_=>(#[]:Array Value))).push (seqObj "tuple" vs.toArray 0)).push (seqObj "list" #[] 0),toks:=s.toks};generalize ((s.heap.update a (Obj.mapSeq λ_=>(#[]:Array Value))).push (seqObj "tuple" vs.toArray 0)).push (seqObj "list" #[] 0)=f at*
 dsimp only;have O:∀d:SortSt,(arrOf d).Perm (pairsOf vs)->Srt (iA f d0) (arrOf d).toList->R .none {s with heap:=f.update a (Obj.mapSeq λ_=>(arrOf d).map (·.2))}:=by
  intro d M c5;have pl:(arrOf d).toList.Perm (vs.zip vs):=by rw[←tK];exact Array.perm_iff_toList_perm.mp M
  have S:∀e∈(arrOf d).toList,e.1=e.2:=λe S=>cT (pl.mem_iff.mp S);have c4:vs.Perm ((arrOf d).toList.map (·.2)):=by
   have:=(pl.map (·.2)).symm;rw[List.map_snd_zip (zE _)]at this;exact this
  obtain⟨j,a3,a1⟩:=Paired.perm c4 y;have b2:∀p v,TV X.K H d0 p v->(iA f d0).keyOf v=some (fl p.2):=λp v g=>by
   obtain⟨as,r⟩:=g.d.reads C g.r;exact aT g.t g.z r
  have c2:=ord_of (κ:=iA f d0) (k:=λp:V×PyData=>fl p.2) b2 _ j S c5 a1;have b8:((arrOf d).map (·.2)).toList=(arrOf d).toList.map (·.2):=Array.toList_map ..;generalize (arrOf d).map (·.2)=out at*
  have J:=xY f a (Obj.mapSeq λ_=>out);obtain⟨T,c6⟩:∃T,(f.update a (Obj.mapSeq λ_=>out)).get? a=some (seqObj "list" (out) T):=⟨_,rM G λ_=>out⟩;generalize f.update a (Obj.mapSeq λ_=>out)=c8 at*
  refine h j (upd H a (.lst (j.map (·.1)))) _ ?_ ?_ nN a3 c2
  ·have D:∀b u,H b=some u->b≠a:=λb u e z=>by rw[z,Y]at e;cases e
   refine Inv.step (s:={s with heap:=f,toks:=s.toks}) (h':=c8) (H':=upd H a (.lst (j.map (·.1)))) (I:=C) (g':=s.gens) (d':=s.drawn) (t':=s.toks) (ch:=[a]) (λb w=>?_) (λb o _ _ i e _=>(J.2 b (λz=>i (by simp[z]))).trans e) (λb o _ _ i e _=>⟨o.slots,(J.2 b (λz=>i (by simp[z]))).trans e⟩)
    (λb o i e q=>by rw[nO (λz=>i (by simp[z]))];exact q) (λb o i e=>⟨o,(J.2 b (λz=>i (by simp[z]))).trans e⟩) (λb xs e=>by rw[nO (D _ _ e)];exact e) (λb o u e=>by rw[nO (D _ _ e)];exact e)
    (λb ps e=>⟨#[],by rw[nO (D _ _ e),e];simp⟩) (λm U=>?_) (λb u e=>?_) C.bare
   ·have e:b=a:=by simpa using w
    subst e;exact⟨a4,P,a2,a5⟩
   ·obtain⟨o,es,ep,F,r⟩:=U;exact⟨o,es,ep,(J.2 _ (zT P)).trans F,r⟩
   ·by_cases w:b=a
    ·subst w;rw[nN]at e;cases e;refine⟨?_,(arrOf d).toList.map (·.2),T,TV.vals a1,by rw[c6,←b8]⟩;rw[yM,a3.length_eq,mU y];exact Z
    ·rw[nO w]at e;refine(C.hok b u e).stay (λc v i q=>(J.2 c ?_).trans q) (λc q=>by rw[nO (D _ _ q)];exact q) λc xs q=>by rw[nO (D _ _ q)];exact q
     rcases i with z|z
     ·rw[z];exact w
     ·exact D c _ z
  ·intro b u q;rw[nO (λz=>by rw[z,Y]at q;cases q)];exact q
 have hsz:vs.toArray.size=vs.length:=by simp
 by_cases t:vs.toArray.size<2
 ·rw[zF t,zF t];refine zA (zB ?_);rw[StateT.run_pure];refine zA (zB ?_);dsimp only;refine zA (rA G rfl ?_);refine zA (tS G rfl ?_ (zY _) (by rw[qB];show(pairsOf vs).size<=_;rw[sH];omega));simp only[bne_self_eq_false,Bool.false_eq_true,if_false];refine zB ⟨_,rfl,O (SortSt.mk' general' (vs.toArray.zip vs.toArray) #[] 7 none) (pZ _) ?_⟩;show Srt _ (pairsOf vs).toList;rw[tK]
  match vs,hsz,t with
  |[],_,_=>exact .nil
  |[_],_,_=>exact .cons (λ_ h=>nomatch h) .nil
  |_:: _:: _,_,t=>simp at t;omega
 ·rw [zD t,zD t];have c7:∀{ps:List (V×PyData)}{vs:LW},Paired (TV X.K H d0) ps vs->∃fs,PySem.W.KatTups f vs fs/\fs.length=vs.length/\∀v∈fs,∃n N,v=Value.int n N:=by
   intro ps vs y
   induction y with
   |nil=>exact⟨[],PySem.W.KatTups.nil,rfl,λ_ h=>nomatch h⟩
   | @cons p v ps vs g _ a8 =>
    obtain⟨fs,k,l,N⟩:=a8;obtain⟨as,r⟩:=g.d.reads C g.r;have z:=g.z;rw[a0]at z;generalize p.2=dd at*
    cases r <;> simp only[sm,Bool.false_eq_true]at z
    case tuple b o us m xs hg i hd hr =>
     cases xs with
     |nil=>simp[smA]at z
     | cons x xs =>
      simp only[smA,Bool.and_eq_true]at z;cases hr0:us.toList with
      |nil=>rw[hr0]at hr;cases hr
      | cons u d2 =>
       rw[hr0]at hr;cases hr with
       | cons r1 r2 =>
        have a7:=z.1;cases r1 <;> simp only[sm,Bool.false_eq_true]at a7
        case int n2 t2 =>
         refine⟨Value.int n2 t2:: fs,PySem.W.KatTups.cons hg i hd ?_ k,by simp[l],λv K=>?_⟩
         ·rw[←yI,hr0];rfl
         ·rcases xM.mp K with e|K
          ·exact⟨_,_,e⟩
          ·exact N v K
  obtain⟨fs,b7,d1,a9⟩:=c7 y;refine zA (PySem.W.kat_kind (s:={s with heap:=f,toks:=s.toks}) (T:=.type "int") b7 ⋯ (λv K=>?_) rfl ?_)
  ·obtain⟨n,N,rfl⟩:=a9 v K;exactλA Q E s k q=>uJ (T:= "int") rfl q
  have b0:(Value.type "int" != Value.type "tuple")=true:=∅
  rw[b0];refine zA (yQ (b9 (κ:=iA f d0) (kd:=tuples' true) (a₀:=pairsOf vs) (st:=SortSt.mk' (tuples' true) (vs.toArray.zip vs.toArray) #[] 7 none)
   (Q:=λ_ d=>(arrOf d).Perm (pairsOf vs)/\failedOf d=none/\Up (iA f d0) (arrOf d) 0 (pairsOf vs).size) (sH _) ⋯ (cmpP (s:={s with heap:=f,toks:=s.toks}) c1 ⟨_,_,a0⟩) (λx W=>?_) rfl rfl rfl rfl λd _ c3 b5 b6=>⟨b5,c3,b6⟩) ?_ λ_ _ e=>e)
  ·rw[tK]at W;have e:=cT W;have U:x.2∈vs:=(uO (a:=x.1) (b:=x.2) W).2;obtain⟨p,_,g⟩:=aV y x.2 U;obtain⟨as,r⟩:=g.d.reads C g.r;exact⟨fl p.2,by rw[e];exact aT g.t g.z r⟩
  rintro⟨⟨⟩,d⟩ L ⟨rfl,M,b3,up⟩;dsimp only;refine zA (rA G rfl ?_);refine zA (tS G rfl ?_ (zY _) (by refine yC (sN ((qB ..).trans (M.size_eq.trans (sH _)))) ?_;omega));rw[b3];simp only[bne_self_eq_false,Bool.false_eq_true,if_false];refine zB ⟨_,rfl,O d M ?_⟩;have:=aS up
  rwa[Im (by rw[zL];exact M.size_eq)]at this
end
def Vx(K:Frag)(N:Nat):List V->Hp->VK->Prop:=λxs H Q=>∃(p:Addr)(ps:List (V×PyData))(k0:Int)(l0:List PyData),xs=[.ref p]/\ps.length<=N/\SqL K H p (ps.map (·.1))/\(∀q∈ps,tT 4 q.2=true/\sm (.tuple (.int k0:: l0)) q.2=true/\Dt K H q.1 q.2) /\
 ∀q(ps':List (V×PyData)) H',Same H H'->H q=none->H' q=some (.lst (ps'.map (·.1)))->ps'.Perm ps->Asc ps'->Q (.ref q) H'
section
variable {X:Cx} {pins:PN} {σ:St} {H:Hp} {s:Shared} {d0:PyData} {l0:List PyData} {k0:Int}
theorem Vw{N:Nat}(u:∀n,n<=N->gX X.prog X.w n)(z:X.A.units+64<cLine){ps:List (V×PyData)}{its:LW}{v:Value}{Q:VK}(g:its.length<=sizeLine)(l:its.length<=N)(j:d0=.tuple (.int k0:: l0))(r:Paired (TV X.K H d0) ps its)
  (m:∀(i:LW->Shared->Prop)(k:VP),(∀a,Inv X pins σ H a->i its a)->wpAny (model X.prog X.w) X.A.in1 (collect v) i k s)
  (h:∀q(c:List (V×PyData)) H',Same H H'->H q=none->H' q=some (.lst (c.map (·.1)))->c.Perm ps->Asc c->Q (.ref q) H'):
  wpAny (model X.prog X.w) X.A (call (.builtin "sorted") [v]) (EP X pins σ Q) X.xe s:=by
 refine sE kind_sorted plain_sorted entry_sorted (args_sorted1 _) ?_;unfold Builtin.«sorted»;refine zA (m:=checkCount "sorted" 1 1 _) (zB ?_);refine zA (m _ _ λa I=>?_);refine zA (qP ?_ g);have d:(a.heap.push (seqObj "list" its.toArray 0)).get? a.heap.objs.size=some (seqObj "list" its.toArray 0):=zQ _ rfl;have f:H a.heap.objs.size=none:=I.hok.fresh (zE _);have x:=I.fpOk (zE _) f;have t:Inv X pins σ H {a with heap:=a.heap.push (seqObj "list" its.toArray 0),toks:=a.toks}:=I.kept λb o q=>zC _ q;refine zA (yN (xF slot_list_sort ⟨_,d,rfl⟩ entry_list_sort ?body (args_list_sort _)));show wpAny (model X.prog X.w) X.A.in1.in1 (Builtin.«list.sort» ⟨[.ref a.heap.objs.size],[]⟩) _ _ {a with heap:=a.heap.push (seqObj "list" its.toArray 0),toks:=a.toks};refine Vy (u _ l) (A:=X.A.in1.in1) (by show X.A.units+1+1+16<cLine;omega) t x d g j r λc H' y w sm e p o=>?_;exact zB ⟨_,rfl,.ref a.heap.objs.size,H',w,rfl,h _ c H' sm f e p o⟩
theorem Vv{N:Nat}(v:∀n,n<=N->gX X.prog X.w n)(w:X.A.units+64<cLine):kD X (.builtin "sorted") (Vx X.K N):=by
 intro pins s σ H xs us Q I r h;obtain⟨p,ps,k0,l0,rfl,l,g,i,q⟩:=h;obtain⟨u,rfl,j⟩:=jM r;cases j;obtain⟨its,k,pl,m⟩:=I.list g;obtain⟨o,n0,e,c,_,dd⟩:=id pl;have t:s.heap.IsList p its.toArray:=⟨o,e,c,n0,dd⟩;have a:=Io (d0:=.tuple (.int k0:: l0)) k i;have d:its.length<=sizeLine:=by rw[←mU a];simpa using m
 refine Vw v w d (by rw[←mU a];exact l) rfl a (λz y x=>collect_list t (x _ ?_) d) q;refine I.kept (h':=(s.heap.push (seqObj "list" #[] 0)).update s.heap.objs.size (Obj.mapSeq (·++its.toArray))) (t':=s.toks) λb o q=>?_;have f:b<s.heap.objs.size:=zK q;rw[rX _ _ _ _ (zW f),Heap.get?_push_ne _ _ _ (zW f)];exact q
end
theorem Vu{prog:Program}{w:World}(d:Addr)(b:(d == sysModules)=false):
  MeetsIn prog w (Builtin.«dict.__len__» ⟨[.ref d],[]⟩) (λ_ R s=>∃es ep,RawD s.heap d es ep/\R (.ok (.ret (.int es.size s.toks))) {s with toks:=s.toks+1}):=
 .of_wp λA R s⟨es,ep,e,h⟩=>by
  obtain⟨o,c,f,a⟩:=e;show wpAny _ _ (dictSize d >>= _) _ _ s;unfold dictSize;refine zA (zA (sQ c a (zB ?_)));show wpAny _ _ (Builtin.Dict.pendingCount d >>= _) _ _ s;refine zA (wpAny_pendingCount_other b ?_);refine wpAny_ret_mkInt ?_;rw[tE];exact h
theorem Vt{prog:Program}{w:World}{A:Around}{E:VP}{s:Shared}{d:Addr}{es:Array DictEntry}{ep:Nat}{Q:VP}(c:(d == sysModules)=false)(a:RawD s.heap d es ep)(e:(es.size:Int)<2^63)
  (h:Q (.int es.size (s.toks+1)) {s with toks:=s.toks+1+1}):wpAny (model prog w) A (call (.builtin "len") [.ref d]) Q E s:=by
 have b:=a.typeIs;refine sE kind_len plain_len entry_len (args_len1 _) ?_;unfold Builtin.«len»;refine zA (m:=oneArg "len" _) (zB ?_);refine zA (m:=callSpecial? (.ref d) (Str.ofString "__len__")) (xO (name:=Str.ofString "__len__") b PySem.F.slot_dict_len
  (call_meetsIn PySem.F.slot_dict_len b PySem.F.entry_dict_len (PySem.F.args_dict_len_1 _) (Vu d c) ⟨es,ep,a,?_⟩))
 show wpAny _ _ _ _ _ {s with toks:=s.toks+1};refine zA (yN (zB ?_));refine zA (qG ?_);show wpAny _ _ (if((es.size:Nat):Int)<0 then _ else _) _ _ _;rw[zD ⋯];show wpAny _ _ (if((es.size:Nat):Int)≥2^63 then _ else _) _ _ _;rw[zD ⋯];exact zA (wpAny_mkInt (zB ⟨_,rfl,h⟩))
def Vs(K:Frag):List V->Hp->VK->Prop:=λxs H Q=>∃a kvs,xs=[.ref a]/\DTr K H a kvs/\Q (.int kvs.length) H
theorem Vr{X:Cx}:kD X (.builtin "len") (Vs X.K):=by
 intro p s m H xs us Q I r h;obtain⟨a,kvs,rfl,g,q⟩:=h;obtain⟨u,rfl,b⟩:=jM r;cases b;have l:=dX;obtain⟨xs,e,i,dd⟩:=gG I g;obtain⟨o,es,ep,f,j,c,k,_⟩:=id dd;have n:=g.len;have d:RawD s.heap a es ep:=⟨o,f,j,c⟩;have l1:es.size=kvs.length:=by
  rw[mU i,←zL,k,yM]
 exact Vt g.sys d ⋯ ⟨.int kvs.length,H,I.tok _,⟨s.toks+1,by rw[l1]⟩,q⟩
end L2
namespace Cw
open PySem L2
abbrev pa':List Str:=["_law_members","_law_words","_law_makers_here","_law_d","_law_most"]
abbrev pb':List Str:=["_law_script","_law_at","_law_d","_law_spot_here","_law_sort"]
abbrev pc':List Str:=["_law_words","_law_makers_here","_law_many","_law_most"]
abbrev pd':List Str:=["_law_words","_law_makers_here","_law_d","_law_most"]
abbrev pe':List Str:=["_law_word","_law_makers_here","_law_most"]
abbrev pf':List Str:=["_law_rows_here","_law_tops","_law_under"]
abbrev pg':List Str:=["_law_words","_law_makers_here","_law_d"]
abbrev ph':List Str:=["_law_word","_law_makers_here","_law_d"]
abbrev pi':List Str:=["_law_sort","_law_box_here","_law_d"]
abbrev pj':List Str:=["_law_members","_law_d","_law_most"]
abbrev pk':List Str:=["_law_rows_here","_law_box_here"]
abbrev pl':List Str:=["_law_box_here","_law_many"]
abbrev pm':List Str:=["self","d","makers","most"]
abbrev pn':List Str:=["_law_box_here","_law_d"]
abbrev po':List Str:=["_law_one","_law_other"]
abbrev pp':List Str:=["_law_script","_law_k"]
abbrev pq':List Str:=["_law_script","_law_d"]
abbrev pr':List Str:=["rows","tops","under"]
abbrev pt':List Str:=["d","makers","most"]
abbrev pu':List Str:=["_law_one","_law_d"]
abbrev pv':List Str:=["self","apart"]
abbrev pw':List Str:=["rows","i","k"]
abbrev px':List Str:=["one","other"]
abbrev py':List Str:=["rows","spot"]
abbrev pz':List Str:=["_law_script"]
abbrev pA':List Str:=["_law_found"]
abbrev pB':List Str:=["rows"]
abbrev pC':List Str:=["self"]
open PySem.W (nsIn keepIn codeIn findIn fnOf mg_of kitOne)
open PyProof.Rows (mulOk_of_bits)
theorem zqe{a b:Type}{l:List a}{f:a->b}:(l.map f).length=l.length:=yM ..
theorem zqa{b:Type}{l:List b}{i:Nat}{a:b}(h:l[i]?=some a):∃h:i<l.length,l[i]=a:=nF.mp h
theorem zqb{b:Type}{l:List b}{i:Nat}{a:b}(h:l[i]?=some a):a∈l:=yF h
theorem zqc{b:Type}{l:List b}{i:Nat}{a:b}:l.getD i a=l[i]?.getD a:=tU
theorem zqd{a:Type}{l:List a}{i:Nat}(h:i<l.length):l[i]?=some l[i]:=xN h
open PySem.W (Frag)
abbrev LM:=List (LI')
def top(i:Nat):Stmt:=PySem.Challenge.pw_crystalwords_k41_whole_closed.main.body.getD i (.Pass ⟨0,0,0,0⟩)
abbrev s_17:Stmt:=top 2
abbrev N_17:List Str:=["thing"]
abbrev s_3:Stmt:=eO (top 8) 0
abbrev N_3:List Str:=pv'
abbrev s_14:Stmt:=top 10
abbrev N_14:List Str:=["one","other","greater","lesser","remainder"]
abbrev s_18:Stmt:=top 12
abbrev N_18:List Str:=["tops","under","common","top"]
abbrev aY:Stmt:=top 13
abbrev N_q:List Str:=["one","under"]
abbrev aZ:Stmt:=top 15
abbrev N_t:List Str:=["size"]
abbrev s_1k:Stmt:=top 16
abbrev N_1k:List Str:=px'
abbrev s_1b:Stmt:=top 17
abbrev N_1b:List Str:=pB'
abbrev s_16:Stmt:=top 18
abbrev N_16:List Str:=pw'
abbrev s_4:Stmt:=top 19
abbrev N_4:List Str:=["rows","total","sign","k","number"]
abbrev s_15:Stmt:=top 21
abbrev N_15:List Str:=py'
abbrev s_1g:Stmt:=top 22
abbrev N_1g:List Str:=["rows","tops","under","axes"]
abbrev s_1e:Stmt:=top 23
abbrev N_1e:List Str:=["d"]
abbrev s_1c:Stmt:=top 24
abbrev N_1c:List Str:=["one","spot","tops"]
abbrev s_1a:Stmt:=top 25
abbrev N_1a:List Str:=["one","other","columns","rows"]
abbrev s_1i:Stmt:=top 26
abbrev N_1i:List Str:=["one"]
abbrev Du:Stmt:=top 29
abbrev N_s:List Str:=["most"]
abbrev Dr:Stmt:=top 30
abbrev N_r:List Str:=["d","makers","maker"]
abbrev s_12:Stmt:=top 31
abbrev N_12:List Str:=["d","makers","most","steps","found","words","at","number","step","reached"]
abbrev s_0:Stmt:=eO (top 32) 0
abbrev N_0:List Str:=["self","d","makers","most","words"]
abbrev Dq:Stmt:=eO (top 32) 1
abbrev N_a:List Str:=pC'
abbrev s_8:Stmt:=eO (top 32) 2
abbrev N_8:List Str:=pC'
abbrev s_5:Stmt:=eO (top 32) 3
abbrev N_5:List Str:=pC'
abbrev s_9:Stmt:=eO (top 32) 4
abbrev N_9:List Str:=pC'
abbrev Dp:Stmt:=top 34
abbrev N_w:List Str:=["_law_script","_law_k","_law_cells"]
abbrev s_1:Stmt:=top 35
abbrev N_1:List Str:=["_law_box_here","_law_many","_law_digit","_law_number"]
abbrev Do:Stmt:=top 36
abbrev N_i:List Str:=pA'
abbrev Dm:Stmt:=top 37
abbrev N_g:List Str:=po'
abbrev Az:Stmt:=top 38
abbrev N_m:List Str:=["_law_d"]
abbrev Ay:Stmt:=top 39
abbrev N_j:List Str:=["_law_one","_law_other","_law_d","_law_found","_law_i"]
abbrev Dl:Stmt:=top 40
abbrev N_v:List Str:=["_law_box_here","_law_d","_law_rows_here","_law_k"]
abbrev Ax:Stmt:=top 41
abbrev N_f:List Str:=["_law_box_here","_law_d","_law_left","_law_rows_here","_law_i","_law_at","_law_sign"]
abbrev Aw:Stmt:=top 42
abbrev N_x:List Str:=["_law_box_here","_law_d","_law_rows_here","_law_k","_law_i","_law_j","_law_by"]
abbrev s_13:Stmt:=top 43
abbrev N_13:List Str:=pi'
abbrev Av:Stmt:=top 44
abbrev N_p:List Str:=["_law_rows_here","_law_box_here","_law_d","_law_k","_law_i","_law_j","_law_by","_law_row"]
abbrev cU:Stmt:=top 45
abbrev N_l:List Str:=["_law_rows_here","_law_tops","_law_under","_law_by","_law_top"]
abbrev s_11:Stmt:=top 46
abbrev N_11:List Str:=["_law_rows_here","_law_tops","_law_under","_law_by","_law_top"]
abbrev Au:Stmt:=top 47
abbrev N_k:List Str:=["_law_script","_law_at","_law_d","_law_spot_here","_law_sort","_law_box_here","_law_rows_here","_law_under","_law_tops","_law_i","_law_far"]
abbrev s_10:Stmt:=top 48
abbrev N_10:List Str:=["_law_script","_law_d","_law_box_here","_law_under"]
abbrev At:Stmt:=top 49
abbrev N_h:List Str:=["_law_script","_law_box_here","_law_d","_law_many","_law_sort","_law_spot_here"]
abbrev s_6:Stmt:=top 50
abbrev N_6:List Str:=["_law_one","_law_other","_law_rows_here","_law_tops","_law_i","_law_far"]
abbrev Dk:Stmt:=top 51
abbrev N_c:List Str:=["_law_word","_law_makers_here","_law_d","_law_done","_law_number"]
abbrev Dj:Stmt:=top 52
abbrev N_o:List Str:=["_law_word","_law_makers_here","_law_most","_law_number"]
abbrev Di:Stmt:=top 53
abbrev N_z:List Str:=["_law_e"]
abbrev s_2:Stmt:=top 54
abbrev N_2:List Str:=["_law_words","_law_makers_here","_law_d","_law_known","_law_made","_law_size","_law_k","_law_word"]
abbrev s_7:Stmt:=top 55
abbrev N_7:List Str:=["_law_words","_law_makers_here","_law_many","_law_most","_law_word"]
abbrev Dh:Stmt:=top 56
abbrev N_y:List Str:=["_law_words","_law_makers_here","_law_d","_law_most","_law_seen","_law_one"]
abbrev As:Stmt:=top 57
abbrev N_e:List Str:=["_law_one","_law_d","_law_row"]
abbrev Dg:Stmt:=top 58
abbrev N_u:List Str:=["_law_members","_law_d","_law_most","_law_k"]
abbrev Df:Stmt:=top 59
abbrev N_n:List Str:=["_law_members","_law_words","_law_makers_here","_law_d","_law_most","_law_lengths","_law_k","_law_one","_law_maker_here","_law_onward"]
abbrev s_1j:Stmt:=top 60
abbrev N_1j:List Str:=["_law_script","_law_d","_law_makers_here","_law_box_here","_law_most","_law_handed","_law_group","_law_words","_law_only_here","_law_e"]
local macro_rules | `(tactic| walk_at "s")=>`(tactic| exact ⟨rfl,rfl,rfl,by decide +kernel,rfl,by decide +kernel,by decide +kernel⟩)
local macro_rules | `(tactic| walk_at "v")=>`(tactic| (intro _ _ _ _ h; first | (obtain ⟨_,hh,_⟩:=h; subst hh; rfl) | (obtain ⟨_,_,hh,_⟩:=h; subst hh; rfl) | (obtain ⟨_,_,_,hh,_⟩:=h; subst hh; rfl) | (obtain ⟨_,_,_,_,hh,_⟩:=h; subst hh; rfl) | (obtain ⟨_,_,_,_,_,hh,_⟩:=h; subst hh; rfl) | (obtain ⟨_,_,_,_,_,_,hh,_⟩:=h; subst hh; rfl) | (obtain ⟨_,_,_,_,_,_,_,hh,_⟩:=h; subst hh; rfl) | (obtain ⟨_,_,_,_,_,_,_,_,hh,_⟩:=h; subst hh; rfl) | (obtain ⟨_,_,_,_,_,_,_,_,_,hh,_⟩:=h; subst hh; rfl)))
theorem sc_17:nZ N_17 ["thing"] (nP s_17):=by walk_at "s"
theorem sc_3:nZ N_3 pv' (nP s_3):=by walk_at "s"
theorem sc_14:nZ N_14 px' (nP s_14):=by walk_at "s"
theorem sc_18:nZ N_18 ["tops","under"] (nP s_18):=by walk_at "s"
theorem sc_q:nZ N_q ["one"] (nP aY):=by walk_at "s"
theorem sc_t:nZ N_t ["size"] (nP aZ):=by walk_at "s"
theorem sc_1k:nZ N_1k px' (nP s_1k):=by walk_at "s"
theorem sc_1b:nZ N_1b pB' (nP s_1b):=by walk_at "s"
theorem sc_16:nZ N_16 pw' (nP s_16):=by walk_at "s"
theorem sc_4:nZ N_4 pB' (nP s_4):=by walk_at "s"
theorem sc_15:nZ N_15 py' (nP s_15):=by walk_at "s"
theorem sc_1g:nZ N_1g pr' (nP s_1g):=by walk_at "s"
theorem sc_1e:nZ N_1e ["d"] (nP s_1e):=by walk_at "s"
theorem sc_1c:nZ N_1c ["one","spot"] (nP s_1c):=by walk_at "s"
theorem sc_1a:nZ N_1a px' (nP s_1a):=by walk_at "s"
theorem sc_1i:nZ N_1i ["one"] (nP s_1i):=by walk_at "s"
theorem sc_s:nZ N_s ["most"] (nP Du):=by walk_at "s"
theorem sc_r:nZ N_r ["d","makers"] (nP Dr):=by walk_at "s"
theorem sc_12:nZ N_12 pt' (nP s_12):=by walk_at "s"
theorem sc_0:nZ N_0 pm' (nP s_0):=by walk_at "s"
theorem sc_a:nZ N_a pC' (nP Dq):=by walk_at "s"
theorem sc_8:nZ N_8 pC' (nP s_8):=by walk_at "s"
theorem sc_5:nZ N_5 pC' (nP s_5):=by walk_at "s"
theorem sc_9:nZ N_9 pC' (nP s_9):=by walk_at "s"
theorem sc_w:nZ N_w pp' (nP Dp):=by walk_at "s"
theorem sc_1:nZ N_1 pl' (nP s_1):=by walk_at "s"
theorem sc_i:nZ N_i pA' (nP Do):=by walk_at "s"
theorem sc_g:nZ N_g po' (nP Dm):=by walk_at "s"
theorem sc_m:nZ N_m ["_law_d"] (nP Az):=by walk_at "s"
theorem sc_j:nZ N_j po' (nP Ay):=by walk_at "s"
theorem sc_v:nZ N_v pn' (nP Dl):=by walk_at "s"
theorem sc_f:nZ N_f pn' (nP Ax):=by walk_at "s"
theorem sc_x:nZ N_x pn' (nP Aw):=by walk_at "s"
theorem sc_13:nZ N_13 pi' (nP s_13):=by walk_at "s"
theorem sc_p:nZ N_p pk' (nP Av):=by walk_at "s"
theorem sc_l:nZ N_l pf' (nP cU):=by walk_at "s"
theorem sc_11:nZ N_11 pf' (nP s_11):=by walk_at "s"
theorem sc_k:nZ N_k pb' (nP Au):=by walk_at "s"
theorem sc_10:nZ N_10 pq' (nP s_10):=by walk_at "s"
theorem sc_h:nZ N_h pz' (nP At):=by walk_at "s"
theorem sc_6:nZ N_6 po' (nP s_6):=by walk_at "s"
theorem sc_c:nZ N_c ph' (nP Dk):=by walk_at "s"
theorem sc_o:nZ N_o pe' (nP Dj):=by walk_at "s"
theorem sc_z:nZ N_z ["_law_e"] (nP Di):=by walk_at "s"
theorem sc_2:nZ N_2 pg' (nP s_2):=by walk_at "s"
theorem sc_7:nZ N_7 pc' (nP s_7):=by walk_at "s"
theorem sc_y:nZ N_y pd' (nP Dh):=by walk_at "s"
theorem sc_e:nZ N_e pu' (nP As):=by walk_at "s"
theorem sc_u:nZ N_u pj' (nP Dg):=by walk_at "s"
theorem sc_n:nZ N_n pa' (nP Df):=by walk_at "s"
theorem sc_1j:nZ N_1j pz' (nP s_1j):=by walk_at "s"
set_option genInjectivity false in
structure Adr where
 (a_17 a_3 a_14 a_18 a_q a_t a_1k a_1b a_16 a_4 a_15 a_1g a_1e a_1c a_1a a_1i a_s a_r a_12 a_0 a_a a_8 a_5 a_9 a_w a_1 a_i a_g a_m a_j a_v a_f a_x a_13 a_p a_l a_11 a_k a_10 a_h a_6 a_c a_o a_z a_2 a_7 a_y a_e a_u a_n a_1j:Addr)
 (d_17 d_3 d_14 d_18 d_q d_t d_1k d_1b d_16 d_4 d_15 d_1g d_1e d_1c d_1a d_1i d_s d_r d_12 d_0 d_a d_8 d_5 d_9 d_w d_1 d_i d_g d_m d_j d_v d_f d_x d_13 d_p d_l d_11 d_k d_10 d_h d_6 d_c d_o d_z d_2 d_7 d_y d_e d_u d_n d_1j:FuncData)
 a_19:Addr
 a_1h:Addr
 a_1d:Addr
 a_1f:Addr
 a_1l:Addr
 a_d:Addr
 a_b:Addr
 k_0:Tok
structure Txt(K:Frag)(mg:MT)(t:Adr):Prop where
 F_17:FunT K mg "copied" s_17 t.a_17 t.d_17 ["thing"]
 F_3:Fun K "__init__" "TooMany.__init__" s_3 t.a_3 t.d_3
 b_3:lT K t.d_3 pv' []
 F_14:FunT K mg "divisor" s_14 t.a_14 t.d_14 px'
 F_18:FunT K mg "place" s_18 t.a_18 t.d_18 ["tops","under"]
 F_q:FunT K mg "rest_place" aY t.a_q t.d_q ["one"]
 F_t:FunT K mg "still_rows" aZ t.a_t t.d_t ["size"]
 F_1k:FunT K mg "dot" s_1k t.a_1k t.d_1k px'
 F_1b:FunT K mg "turned" s_1b t.a_1b t.d_1b pB'
 F_16:FunT K mg "without" s_16 t.a_16 t.d_16 pw'
 F_4:FunT K mg "determinant" s_4 t.a_4 t.d_4 pB'
 F_15:FunT K mg "joined" s_15 t.a_15 t.d_15 py'
 F_1g:FunT K mg "deed" s_1g t.a_1g t.d_1g pr'
 F_1e:FunT K mg "still" s_1e t.a_1e t.d_1e ["d"]
 F_1c:FunT K mg "moved" s_1c t.a_1c t.d_1c ["one","spot"]
 F_1a:FunT K mg "behind" s_1a t.a_1a t.d_1a px'
 F_1i:FunT K mg "rest" s_1i t.a_1i t.d_1i ["one"]
 F_s:FunT K mg "check_most" Du t.a_s t.d_s ["most"]
 F_r:FunT K mg "check_axes" Dr t.a_r t.d_r ["d","makers"]
 F_12:FunT K mg "closed" s_12 t.a_12 t.d_12 pt'
 F_0:FunD K "__init__" "Group.__init__" s_0 t.a_0 t.d_0 [.int 200 t.k_0]
 bd_Group___init__:lT K t.d_0 pm' [.int 200 t.k_0]
 b_0:lT K t.d_0 pm' []
 F_a:Fun K "axes" "Group.axes" Dq t.a_a t.d_a
 b_a:lT K t.d_a pC' []
 F_8:Fun K "makers" "Group.makers" s_8 t.a_8 t.d_8
 b_8:lT K t.d_8 pC' []
 F_5:Fun K "members" "Group.members" s_5 t.a_5 t.d_5
 b_5:lT K t.d_5 pC' []
 F_9:Fun K "words" "Group.words" s_9 t.a_9 t.d_9
 b_9:lT K t.d_9 pC' []
 F_w:FunT K mg "_law_box" Dp t.a_w t.d_w pp'
 F_1:FunT K mg "_law_take" s_1 t.a_1 t.d_1 pl'
 F_i:FunT K mg "_law_whole" Do t.a_i t.d_i pA'
 F_g:FunT K mg "_law_common" Dm t.a_g t.d_g po'
 F_m:FunT K mg "_law_still" Az t.a_m t.d_m ["_law_d"]
 F_j:FunT K mg "_law_times" Ay t.a_j t.d_j po'
 F_v:FunT K mg "_law_sixty" Dl t.a_v t.d_v pn'
 F_f:FunT K mg "_law_signed" Ax t.a_f t.d_f pn'
 F_x:FunT K mg "_law_free" Aw t.a_x t.d_x pn'
 F_13:FunT K mg "_law_rows" s_13 t.a_13 t.d_13 pi'
 F_p:FunT K mg "_law_based" Av t.a_p t.d_p pk'
 F_l:FunT K mg "_law_rest" cU t.a_l t.d_l pf'
 F_11:FunT K mg "_law_low" s_11 t.a_11 t.d_11 pf'
 F_k:FunT K mg "_law_maker" Au t.a_k t.d_k pb'
 F_10:FunT K mg "_law_spot" s_10 t.a_10 t.d_10 pq'
 F_h:FunT K mg "_law_makers" At t.a_h t.d_h pz'
 F_6:FunT K mg "_law_product" s_6 t.a_6 t.d_6 po'
 F_c:FunT K mg "_law_walked" Dk t.a_c t.d_c ph'
 F_o:FunT K mg "_law_is_word" Dj t.a_o t.d_o pe'
 F_z:FunT K mg "_law_only" Di t.a_z t.d_z ["_law_e"]
 F_2:FunT K mg "_law_all_walked" s_2 t.a_2 t.d_2 pg'
 F_7:FunT K mg "_law_are_words" s_7 t.a_7 t.d_7 pc'
 F_y:FunT K mg "_law_apart" Dh t.a_y t.d_y pd'
 F_e:FunT K mg "_law_is_deed" As t.a_e t.d_e pu'
 F_u:FunT K mg "_law_rising" Dg t.a_u t.d_u pj'
 F_n:FunT K mg "_law_closed" Df t.a_n t.d_n pa'
 F_1j:FunT K mg "law" s_1j t.a_1j t.d_1j pz'
 z_any:mg "any"=none
 z_sum:mg "sum"=none
 z_zip:mg "zip"=none
 z_enumerate:mg "enumerate"=none
 z_range:mg "range"=none
 z_len:mg "len"=none
 z_abs:mg "abs"=none
 z_isinstance:mg "isinstance"=none
 z_int:mg "int"=none
 z_bool:mg "bool"=none
 z_list:mg "list"=none
 z_tuple:mg "tuple"=none
 z_sorted:mg "sorted"=none
 z_dict:mg "dict"=none
 z_ValueError:mg "ValueError"=none
 m_19:mg "CrystalError"=some (.ref t.a_19)
 m_1h:mg "NoPlace"=some (.ref t.a_1h)
 m_1d:mg "NoDeed"=some (.ref t.a_1d)
 m_1f:mg "NoNumber"=some (.ref t.a_1f)
 m_1l:mg "NoText"=some (.ref t.a_1l)
 m_d:mg "TooMany"=some (.ref t.a_d)
 m_b:mg "Group"=some (.ref t.a_b)
 g_MOST_MEMBERS:∃u,mg "MOST_MEMBERS"=some u/\RelV (.int 200) u
 h_q:kitOne K (.type "list") (.type "list")=some true
 x_1h:PySem.W.excIn K t.a_1h [.type "ValueError",.type "Exception",.type "BaseException",.type "object"] "ValueError.__new__"=true
 x_1d:PySem.W.excIn K t.a_1d [.type "ValueError",.type "Exception",.type "BaseException",.type "object"] "ValueError.__new__"=true
 cl_b:L2.Cls K t.a_b
 mk_b:L2.Mk K t.a_b t.a_0
 me_5:L2.Meth K t.a_b "members" t.a_5
 h_5:findIn K (.ref t.a_b) "dimension"=some none
 h_l:findIn K (.ref t.a_b) "given"=some none
 h_7:findIn K (.ref t.a_b) "ordered"=some none
 h_6:findIn K (.ref t.a_b) "shortest"=some none
 h_8:findIn K (.ref t.a_b) "numbers"=some none
 me_8:L2.Meth K t.a_b "makers" t.a_8
 h_r:kitOne K (.type "int") (.type "list")=some false
 h_s:kitOne K (.type "int") (.type "tuple")=some false
 h_9:L2.XIn K t.a_d t.a_19 t.a_3
 h_a:L2.XSt K t.a_d "apart"
 h_f:PySem.W.exmOne K (.ref t.a_d) (.ref t.a_d)=some true
 x_1f:PySem.W.excIn K t.a_1f [.type "ValueError",.type "Exception",.type "BaseException",.type "object"] "ValueError.__new__"=true
 ym:PySem.W.exmOne K (.ref t.a_d) (.ref t.a_19)=some true
 h_t:findIn K (.ref t.a_d) "__getattribute__"=some (some (.builtin "BaseException.__getattribute__"))
 h_u:findIn K (.ref t.a_d) "__getattr__"=some none
 h_v:findIn K (.ref t.a_d) "__class__"=some (some (.builtin "object.__class__"))
 h_w:PySem.W.mroIn K t.a_d (.type "object")=some true
 h_x:PySem.W.mroIn K t.a_d (.type "BaseException")=some true
 h_y:kitOne K (.ref t.a_d) (.type "ValueError")=some true
 y_1f:kitOne K (.ref t.a_d) (.ref t.a_1f)=some false
 y_1d:kitOne K (.ref t.a_d) (.ref t.a_1d)=some false
 y_d:kitOne K (.ref t.a_d) (.ref t.a_d)=some true
 y_1h:kitOne K (.ref t.a_d) (.ref t.a_1h)=some false
 y_1l:kitOne K (.ref t.a_d) (.ref t.a_1l)=some false
 h_z:PySem.W.specialIn K (.builtin "object.__class__") "__get__"=some (some (.builtin "getset_descriptor.__get__"))
 e_tk:PySem.W.takesIn K (.builtin "object.__class__")=some true
 h_o:findIn K (.ref t.a_d) "apart"=some none
 h_d:PySem.W.hasDictIn K t.a_d=true
 me_9:L2.Meth K t.a_b "words" t.a_9
 me_a:L2.Meth K t.a_b "axes" t.a_a
 y_19:kitOne K (.ref t.a_d) (.ref t.a_19)=some true
 k_tt:kitOne K (.type "tuple") (.type "tuple")=some true
 h_p:kitOne K (.type "int") (.type "int")=some true
 k_ib:kitOne K (.type "int") (.type "bool")=some false
 bl:∀(s:Shared)(u:Value),BindsTo s t.d_1j ⟨[u],[]⟩ [("_law_script",u)]
local macro_rules | `(tactic| walk_at "r")=>`(tactic| simp only [tSeq,tAsg,nX,tVar,qVar,tC,tOp,t_l,t_V,t_W,tUn,bJ,tB,tIfS,tIf,tAnd,tOr,tNot,Mc,tOrV,Mb,tRet,t_U,Ny,Fs,kJ,Pn,mH,tNil,tCB,tTup,tLst,tPar,Gm,tBM,tBM0,tSl,Bn,Bo,List.getElem?_cons_zero,List.getElem?_cons_succ,Option.some.injEq,exists_eq_left',exists_eq_left,List.set_cons_zero,List.set_cons_succ,List.cons.injEq,V.int.injEq,V.bl.injEq,V.ref.injEq,and_true,true_and,List.append_nil,ne_eq,exists_and_left,and_assoc,↓reduceIte,Bool.not_true,Bool.not_false,Bool.false_eq_true])
set_option hygiene false in
local macro_rules | `(tactic|apply $e:term)=>`(tactic|refine $e (by walk_at "v") (λcdv A outer s H vs Q E hr h=>?_))
set_option hygiene false in
local macro_rules | `(tactic|left)=>`(tactic|(subst e1;refine st λN1 e1=>?_;ext))
set_option hygiene false in
local macro_rules | `(tactic|right)=>`(tactic|(refine st λN1 e1=>?_;ext))
set_option hygiene false in
local macro_rules | `(tactic|symm)=>`(tactic|(subst e1;ext))
set_option hygiene false in
local macro_rules | `(tactic|exfalso)=>`(tactic|(refine mK λB eB=>?_;simp only[iSeq];ext))
def gcdI(a b:Int):Int:=(Int.gcd a b:Int)
def absI(u:Int):Int:=if u<0 then -u else u
def gl(u:Int)(ns:LI'):Int:=ns.foldl gcdI (absI u)
theorem Vq(u:Int):0<=absI u:=by unfold absI;split <;> omega
theorem Vp{d u:Int}:d∣absI u↔d∣u:=by
 unfold absI;split
 ·exact Int.dvd_neg
 ·exact Iff.rfl
theorem Jx{d:Int}:∀(ns:LI')(c:Int),d∣ns.foldl gcdI c↔d∣c/\∀f∈ns,d∣f
 |[],c=>by simp
 | f:: r,c=>by
  rw[vC,Jx r];unfold gcdI;rw[Int.dvd_coe_gcd_iff];constructor
  ·rintro⟨⟨g,a⟩,i⟩;refine⟨g,λx b=>?_⟩;rcases xM.mp b with e|e
   ·rw[e];exact a
   ·exact i x e
  ·rintro⟨g,a⟩;exact⟨⟨g,a f yE⟩,λx b=>a x (zU _ b)⟩
theorem dJ{d u:Int}{ns:LI'}:d∣gl u ns↔d∣u/\∀t∈ns,d∣t:=by
 unfold gl;rw[Jx,Vp]
theorem Jw:∀(ns:LI')(c:Int),0<=c->0<=ns.foldl gcdI c
 |[],_,h=>h
 |t:: r,c,_=>Jw r _ (Int.natCast_nonneg _)
theorem Ar(u:Int)(ns:LI'):0<=gl u ns:=Jw ns _ (Vq u)
theorem gl_u(u:Int)(ns:LI'):gl u ns∣u:=(dJ.mp (pI _)).1
theorem Aq{u t:Int}{ns:LI'}(h:t∈ns):gl u ns∣t:=(dJ.mp (pI _)).2 t h
theorem De{u:Int}(ns:LI')(h:u≠0):0<gl u ns:=by
 have:=Ar u ns;rcases Int.lt_or_eq_of_le this with q|q
 ·exact q
 ·obtain⟨k,e⟩:=gl_u u ns;rw[←q,uE]at e;exact absurd e h
theorem Vo{u v:Int}{ns ms:LI'}(h:∀d:Int,(d∣u/\∀t∈ns,d∣t)↔(d∣v/\∀t∈ms,d∣t)):gl u ns=gl v ms:=
 Int.dvd_antisymm (Ar _ _) (Ar _ _) (dJ.mpr ((h _).mp (dJ.mp (pI _)))) (dJ.mpr ((h _).mpr (dJ.mp (pI _))))
theorem Vn(u:Int)(ns:LI')(t:Int):gl u (ns++[t])=gcdI (gl u ns) t:=by unfold gl;rw[vW];rfl
def cs(u:Int)(ns:LI'):Int:=if u<0 then -(gl u ns) else gl u ns
theorem dL{u:Int}(ns:LI')(h:u≠0):cs u ns≠0:=by
 have:=De ns h;unfold cs;split <;> omega
theorem iR{u x:Int}{ns:LI'}(h:gl u ns∣x):cs u ns∣x:=by
 unfold cs;split
 ·exact Int.neg_dvd.mpr h
 ·exact h
theorem gZ{c x:Int}(a:c≠0)(h:c∣x):x.fdiv c*c=x:=by
 obtain⟨k,e⟩:=h;subst e;rw[vE c k,Int.mul_fdiv_cancel _ a]
theorem Ap{u:Int}(ns:LI')(h:u≠0):0<u.fdiv (cs u ns):=by
 have e:=gZ (dL ns h) (iR (gl_u u ns));have g:=De ns h;rcases Int.lt_trichotomy (u.fdiv (cs u ns)) 0 with q|q|q
 ·refine False.elim ?_;unfold cs at e q;split at e
  ·rename_i a;rw[zF a]at q;have:=Int.mul_nonneg_of_nonpos_of_nonpos (uI q) (show -(gl u ns)<=0 by omega);omega
  ·rename_i a;rw[zD a]at q;have:=Int.mul_neg_of_neg_of_pos q g;omega
 ·rw[q,uE]at e;exact absurd e.symm h
 ·exact q
theorem Vm{u:Int}{ns:LI'}(h:0<u)(g:gl u ns=1):cs u ns=1:=by
 unfold cs;rw[zD ⋯,g]
theorem Vl{u:Int}{ns:LI'}(h:0<u)(g:gl u ns=1):(ns.map λt=>t.fdiv (cs u ns))=ns/\u.fdiv (cs u ns)=u:=by
 rw[Vm h g];refine⟨?_,Int.fdiv_one u⟩;rw[show(λt:Int=>t.fdiv 1)=id from funext λt=>Int.fdiv_one t,List.map_id]
theorem Vk{u:Int}(b:0<u)(a:Int):(a.fmod u-a).fmod u=0:=by
 rw[xX a (uI b),xX _ (uI b)];exact Int.emod_eq_zero_of_dvd (by
  have:=Int.emod_add_mul_ediv a u;exact⟨-(a/u),by rw[Int.mul_neg];omega⟩)
theorem Jv(g l:Int):Int.gcd l (Int.fmod g l)=Int.gcd g l:=by
 rw[Int.fmod_def,Int.gcd_sub_mul_left_right,Int.gcd_comm]
theorem Ju(a b:Int):Int.gcd (if a<0 then -a else a) (if b<0 then -b else b)=Int.gcd a b:=by
 split <;> split <;> simp
theorem Ao(a:Int):0<=(if a<0 then -a else a):=by split <;> omega
theorem Jt{g l a b:Int}(h:Int.gcd g l=Int.gcd a b)(c:0<=g)(z:l=0):g=gcdI a b:=by
 rw[z,Int.gcd_zero_right]at h;unfold gcdI;rw[←h];omega
def Db:Sp:=λvs H Q _=>∃a b,vs=[.int a,.int b]/\Q (.int (gcdI a b)) H
abbrev sp_14:Sp:=Db
abbrev sp_g:Sp:=Db
def gI(H:Hp)(p:Addr)(ns:LI')(u:Int):Prop:=∃q,H p=some (.tup [.ref q,.int u])/\H q=some (.tup (ns.map V.int))
theorem gI.up{H H':Hp}{p:Addr}{ns:LI'}{u:Int}(h:gI H p ns u)(s:Same H H'):gI H' p ns u:=let ⟨q,a,b⟩:=h;⟨q,s _ _ a,s _ _ b⟩
def jK(n:Int):Prop:=n.natAbs<2^8990
theorem Js{c:Int}(h:jK c)(z:c≠0):c.natAbs.log2<9000:=zP ((Nat.log2_lt ⋯).mpr h) ∅
theorem Jr{c u:Int}(h:jK u)(z:u≠0)(d:c∣u):jK c:=by
 have:=Int.natAbs_dvd_natAbs.mpr d;have:=Nat.le_of_dvd ⋯ this;unfold jK at*
 omega
def redT(u:Int)(ns:LI'):LI':=ns.map λt=>t.fdiv (cs u ns)
def redU(u:Int)(ns:LI'):Int:=u.fdiv (cs u ns)
def lR(u:Int)(ns:LI'):LI':=ns.map λt=>t.fmod u
def sp_18(K:Frag)(C:Addr):Sp:=λvs H Q E=>E4 λ(b:Bool)(a:Addr)(ns:LI')(u:Int)=>A6 (vs=[.ref a,.int u]) (SqB b K H a (ns.map V.int)) (ns.length<=100) (jK u) (((u=0\/ns=[])->E (.ref C) none H)) ((u≠0->ns≠[]->∀p H',Same H H'->gI H' p (redT u ns) (redU u ns)->Q (.ref p) H'))
theorem Vj{a:Type}{ns:List a}{i:Nat}{n:a}(h:ns[i]?=some n):ns.take (i+1)=ns.take i++[n]:=by
 rw[yY,h];rfl
def sp_1k(K:Frag):Sp:=λvs H Q _=>E6 λ(b1 b2:Bool)(p q:Addr)(ms ns:LI')=>A7 (vs=[.ref p,.ref q]) (SqB b1 K H p (ms.map V.int)) (SqB b2 K H q (ns.map V.int)) (ms.length=ns.length) (ms.length<=1000) ((∀(i:Nat) m n,ms[i]?=some m->ns[i]?=some n->IntMulOk m n)) (∀H',Same H H'->Q (.int (dotI ms ns)) H')
def sp_1b(K:Frag):Sp:=λvs H Q _=>E5 λ(b1 b2:Bool)(a:Addr)(rows:LM)(w:Nat)=>A7 (vs=[.ref a]) (MatB b1 b2 K H a rows) (rows≠[]) ((∀r∈rows,r.length=w)) (w<=1000) (rows.length<=1000) (∀r H',H r=none->Same H H'->MatL H' r (aG w rows)->Q (.ref r) H')
def iS(i k:Nat)(rows:LM):LM:=(rows.eraseIdx i).map λr=>r.eraseIdx k
def sg(k:Nat):Int:=if k%2=0 then 1 else -1
def altS(f:Nat->Int):Nat->Int
 |0=>0
 |k+1=>altS f k+sg k*f k
def detM:Nat->LM->Int
 |0,_=>1
 |1,rows=>(rows.getD 0 []).getD 0 0
 |n+2,rows=>altS (λk=>(rows.getD 0 []).getD k 0*detM (n+1) (iS 0 k rows)) (n+2)
def Sq(n:Nat)(rows:LM):Prop:=rows.length=n/\∀r∈rows,r.length=n
def mV(B:Nat)(rows:LM):Prop:=∀r∈rows,∀x∈r,x.natAbs<2^B
theorem Vi(k:Nat):-sg k=sg (k+1):=by
 unfold sg
 by_cases h:k%2=0
 ·rw[zF h,zD ⋯]
 ·rw[zD h,zF ⋯];rfl
theorem Jq(k:Nat):(sg k).natAbs=1:=by unfold sg;split <;> rfl
theorem Sq.minor{n i k:Nat}{a:LM}(h:Sq (n+1) a)(hi:i<n+1)(c:k<n+1):Sq n (iS i k a):=by
 refine⟨?_,λr hr=>?_⟩
 ·unfold iS;rw[zqe,rO,h.1,zF hi];rfl
 ·obtain⟨z,b,rfl⟩:=nD.mp hr;have hl:=h.2 z (sI b);rw[rO,hl,zF c];rfl
theorem mV.minor{B i k:Nat}{a:LM}(h:mV B a):mV B (iS i k a):=λr hr x b=>by
 obtain⟨z,c,rfl⟩:=nD.mp hr;exact h z (sI c) x (sI b)
theorem Jp{f:Nat->Int}{M:Nat}:∀n:Nat,(∀k<n,(f k).natAbs<=M)->(altS f n).natAbs<=n*M
 |0,_=>by simp[altS]
 |n+1,h=>by
  have b:=Jp n λk d=>h k ⋯;have c:=h n ⋯;show(altS f n+sg n*f n).natAbs<=_;have a:=vX (altS f n) (sg n*f n);rw[xK,Jq,Nat.one_mul]at a;rw[pK];omega
theorem row0{n:Nat}{a:LM}(h:Sq (n+1) a):a[0]?=some (a.getD 0 [])/\a.getD 0 []∈a:=by
 have hl:0<a.length:=by have:=h.1;omega
 have e:a.getD 0 []=a[0]:=by simp[hl]
 rw[e];exact⟨by simp[hl],vK hl⟩
theorem Jo{B:Nat}:∀(n:Nat)(a:LM),1<=n->n<=4->Sq n a->mV B a->(detM n a).natAbs<=2^(n*(B+2))
 |0,_,h,_,_,_=>⋯
 |1,a,_,_,b,c=>by
  have hr:=row0 b;have hl:0<(a.getD 0 []).length:=by rw[b.2 _ hr.2];decide
  have:=c _ hr.2 _ (L2.getD_mem hl);show((a.getD 0 []).getD 0 0).natAbs<=_;have:2^B<=2^(1*(B+2)):=yS ∅ ⋯;omega
 | n+2,a,_,j,b,c=>by
  have hr:=row0 b;have f:∀k<n+2,((a.getD 0 []).getD k 0*detM (n+1) (iS 0 k a)).natAbs<=2^B*2^((n+1)*(B+2)):=λk d=>by
   have hl:k<(a.getD 0 []).length:=by rw[b.2 _ hr.2];exact d
   have g:=c _ hr.2 _ (L2.getD_mem hl);have i:=Jo (n+1) (iS 0 k a) ⋯ ⋯ (b.minor ⋯ d) c.minor;rw[xK];exact wW (tG g) i
  have:=Jp (n+2) f;have e:2^((n+2)*(B+2))=4*(2^B*2^((n+1)*(B+2))):=by
   rw[←tV,show(4:Nat)=2^2 from rfl,←tV];congr 1;rw[Nat.add_mul,Nat.add_mul];omega
  show(altS _ (n+2)).natAbs<=_;rw[e];refine yC this (wG _ ⋯)
theorem mW{x:Int}{B:Nat}(h:x.natAbs<2^B):Builtin.Int.intBits x<=B:=intBits_le_iff.mpr h
def sp_16(K:Frag):Sp:=λvs H Q _=>E7 λ(b1 b2:Bool)(a:Addr)(rows:LM)(i k w:Nat)=>A7 (vs=[.ref a,.int i,.int k]) (MatB b1 b2 K H a rows) ((∀r∈rows,r.length=w)) (k<w) (w<=1000) (rows.length<=1000) (∀r H',H r=none->Same H H'->MatL H' r (iS i k rows)->Q (.ref r) H')
def sp_4(K:Frag):Nat->Sp
 |0=>λ_ _ _ _=>False
 |n+1=>λvs H Q _=>∃(b1 b2:Bool)(a:Addr)(rows:LM)(B:Nat),vs=[.ref a]/\MatB b1 b2 K H a rows/\Sq (n+1) rows/\n<=3/\mV B rows/\B<=1000000/\∀H',Same H H'->Q (.int (detM (n+1) rows)) H'
section
variable {g:TG} {tt:TOx} {fr:List (Str×Nat)} {σ:St} {a:Addr} {H:Hp} {Q:VK} {K:Frag}
theorem Vh{b:Bool}{l:Addr}{xs:List V}(P:Nat->List V->Hp->Prop)(m:H a=none)(f:SqB b K H l xs)(G:xs.length<=1000)(w:P 0 [] (upd H a (.lst [])))
  (hl:∀i zs c,P i zs c->zs.length<=i)(mono:∀i zs c d,P i zs c->jO a c d->P i zs d)
  (k:∀i x c zs,xs[i]?=some x->Same H c->c a=some (.lst zs)->P i zs c->∀C:Option V->Hp->Prop,
   (∀y d,Same c d->P (i+1) (zs++[y]) d->C (some y) d)->(∀d,Same c d->P (i+1) zs d->C none d)->tt (some (.int i):: some x:: lV fr σ) c C)
  (n:∀c ys,Same H c->c a=some (.lst ys)->P xs.length ys c->Q (.ref a) c):
  kL (Ite K b l) (gTup K 2 (kC (nX 0) (kC (nX 1) gNil))) tt 2 fr σ a H Q:=by
 refine aB xs.length P m G w hl mono (λi c hi s=>⟨xs,xs[i],f.up s,by simp[hi]⟩) (λc s=>⟨xs,f.up s,rfl⟩) ?_ n;intro i c zs hi j F p I x M J D C u z;obtain⟨q,x,rfl,t,rfl,v⟩:=D;refine⟨q,[.int i,x],rfl,SqT.of nN,rfl,_,[x],rfl,x,[],rfl,rfl,?_⟩;have sn:Same c (upd c q (.tup [.int i,x])):=Same.new t
 match I,J with
 |[o,L],_ =>
  exact⟨⟨[some (.int i),some x],rfl,rfl⟩,k i x _ zs (v xs (f.up j)) (j.trans sn) (sn _ _ F) (mono _ _ _ _ p sn.x) C (λy d e r=>u y d (sn.trans e) r) λd e r=>z d (sn.trans e) r⟩
end
theorem SqB.cut{b:Bool}{K:Frag}{H:Hp}{p:Addr}{xs:List V}:SqB b K (upd H p (seqO b xs)) p xs:=by
 cases b
 ·exact SqB.lst nN
 ·exact SqB.tup nN
theorem Vg{d:Type}{b:List d}{c a:Nat}{r:d}(e:b[a]?=some r):(b.take (a+1)).eraseIdx c=if a=c then(b.take a).eraseIdx c else(b.take a).eraseIdx c++[r]:=by
 have f:a<b.length:=(zqa e).1;have hl:(b.take a).length=a:=by rw[yG];omega
 rw[yY,e];show(b.take a++[r]).eraseIdx c=_
 by_cases h:a=c
 ·rw[zF h,uD ⋯,hl,h,vN,tR (l:=b.take c) (by rw[yG];omega)];simp
 ·rw[zD h]
  by_cases g:c<a
  ·rw[List.eraseIdx_append_of_lt_length ⋯]
  ·rw[uD ⋯,hl,tR (l:=b.take a) ⋯];congr 1;rw[tR];simp;omega
theorem An{B C:Nat}:∀(ms ns:LI'),(∀x∈ms,x.natAbs<2^B)->(∀y∈ns,y.natAbs<2^C)->(dotI ms ns).natAbs<=ms.length*2^(B+C)
 |[],ns,_,_=>by simp[dotI]
 |m:: ms,[],_,_=>by simp[dotI]
 | m:: ms,n:: ns,b,a=>by
  have i:=An ms ns (λx c=>b x (zU _ c)) (λy g=>a y (zU _ g));have e:dotI (m:: ms) (n:: ns)=m*n+dotI ms ns:=by simp[dotI]
  have f:=b m yE;have d:=a n yE;have j:(m*n).natAbs<=2^(B+C):=by
   rw[xK,tV];exact wW (tG f) (tG d)
  have k:=vX (m*n) (dotI ms ns);rw[e,zR,pK];omega
def idM(d:Nat):LM:=(List.range d).map λi=>(List.range d).map λk=>if i=k then(1:Int) else 0
def sp_t:Sp:=λvs H Q _=>E1 λ(n:Nat)=>A3 (vs=[.int n]) (n<=1000) (∀r H',H r=none->Same H H'->MatL H' r (idM n)->Q (.ref r) H')
def kM(K:Frag)(H:Hp)(p:Addr)(M:LM)(ts:LI')(u:Int):Prop:=∃pr pt,H p=some (.tup [.ref pr,.ref pt,.int u])/\MatB true true K H pr M/\H pt=some (.tup (ts.map V.int))
theorem kM.up{K:Frag}{H H':Hp}{p:Addr}{M:LM}{ts:LI'}{u:Int}(h:kM K H p M ts u)(s:Same H H'):kM K H' p M ts u:=let ⟨pr,pt,a,b,c⟩:=h;⟨pr,pt,s _ _ a,b.up s,s _ _ c⟩
def sp_15(K:Frag):Sp:=λvs H Q _=>E7 λ(b1 b2:Bool)(a p:Addr)(M:LM)(ts:LI')(u:Int)=>A5 (vs=[.ref a,.ref p]) (MatB b1 b2 K H a M) (gI H p ts u) (M.length<=100) (∀q H',Same H H'->kM K H' q M ts u->Q (.ref q) H')
def PlS(K:Frag)(H:Hp)(p:Addr)(ns:LI')(u:Int):Prop:=∃q,SqT K H p [.ref q,.int u]/\SqT K H q (ns.map V.int)
theorem PlS.up{K:Frag}{H H':Hp}{p:Addr}{ns:LI'}{u:Int}(h:PlS K H p ns u)(s:Same H H'):PlS K H' p ns u:=let ⟨q,a,b⟩:=h;⟨q,lY s _ _ a,lY s _ _ b⟩
theorem Jn{K:Frag}{H:Hp}{p:Addr}{ns:LI'}{u:Int}{Q:VK}(h:PlS K H p ns u)(k:∀q,SqT K H q (ns.map V.int)->Q (.ref q) H):rIxB K (.ref p) (.int 0) H Q:=let ⟨q,a,b⟩:=h;⟨true,p,_,_,_,rfl,rfl,(a:SqB true K H p _),rfl,k q b⟩
theorem Da{K:Frag}{H:Hp}{p:Addr}{ns:LI'}{u:Int}{Q:VK}(h:PlS K H p ns u)(k:Q (.int u) H):rIxB K (.ref p) (.int 1) H Q:=let ⟨q,a,b⟩:=h;⟨true,p,_,_,_,rfl,rfl,(a:SqB true K H p _),rfl,k⟩
def sp_q(K:Frag):Sp:=λvs H Q _=>E3 λ(p:Addr)(ns:LI')(u:Int)=>A5 (vs=[.ref p]) (PlS K H p ns u) (ns.length<=100) (0<u) (∀p' H',Same H H'->gI H' p' (lR u ns) u->Q (.ref p') H')
def jR(K:Frag)(H:Hp)(p:Addr)(M:LM)(ts:LI')(u:Int):Prop:=∃v0 v1,SqT K H p [.ref v0,.ref v1,.int u]/\MatB true true K H v0 M/\SqT K H v1 (ts.map V.int)
theorem jR.up{K:Frag}{H H':Hp}{p:Addr}{M:LM}{ts:LI'}{u:Int}(h:jR K H p M ts u)(s:Same H H'):jR K H' p M ts u:=let ⟨e,b,c,d,a⟩:=h;⟨e,b,lY s _ _ c,d.up s,lY s _ _ a⟩
theorem kM.s{K:Frag}{H:Hp}{p:Addr}{M:LM}{ts:LI'}{u:Int}(h:kM K H p M ts u):jR K H p M ts u:=let ⟨e,b,c,d,a⟩:=h;⟨e,b,SqT.of c,d,SqT.of a⟩
theorem fA{K:Frag}{H:Hp}{p:Addr}{M:LM}{ts:LI'}{u:Int}{Q:VK}(h:jR K H p M ts u)(q:∀x,MatB true true K H x M->Q (.ref x) H):rIxB K (.ref p) (.int 0) H Q:=let ⟨x,y,a,b,c⟩:=h;⟨true,p,_,_,_,rfl,rfl,(a:SqB true K H p _),rfl,q x b⟩
theorem cV{K:Frag}{H:Hp}{p:Addr}{M:LM}{ts:LI'}{u:Int}{Q:VK}(h:jR K H p M ts u)(q:∀x,SqT K H x (ts.map V.int)->Q (.ref x) H):rIxB K (.ref p) (.int 1) H Q:=let ⟨x,y,a,c,b⟩:=h;⟨true,p,_,_,_,rfl,rfl,(a:SqB true K H p _),rfl,q y b⟩
theorem fB{K:Frag}{H:Hp}{p:Addr}{M:LM}{ts:LI'}{u:Int}{Q:VK}(h:jR K H p M ts u)(q:Q (.int u) H):rIxB K (.ref p) (.int 2) H Q:=let ⟨x,y,a,b,c⟩:=h;⟨true,p,_,_,_,rfl,rfl,(a:SqB true K H p _),rfl,q⟩
def movT(M:LM)(ts:LI')(u:Int)(ns:LI')(v:Int):LI':=List.zipWith (λr t=>dotI r ns*u+t*v) M ts
def jA(B:Nat)(ns:LI'):Prop:=∀x∈ns,x.natAbs<2^B
structure Fine(d:Nat)(M:LM)(ts:LI')(u:Int):Prop where
 sq:Sq d M
 len:ts.length=d
 pos:0<u
 bm:mV 200000 M
 bt:jA 200000 ts
 bu:u<2^1500
def sp_1c(K:Frag):Sp:=λvs H Q _=>E8 λ(p q:Addr)(M:LM)(ts ns:LI')(u v:Int)(d:Nat)=>A11 (vs=[.ref p,.ref q]) (jR K H p M ts u) (PlS K H q ns v) (Fine d M ts u) (1<=d) (d<=4) (ns.length=d) (jA 200000 ns) (0<v) (v<2^1500) (∀r H',Same H H'->gI H' r (redT (u*v) (movT M ts u ns v)) (redU (u*v) (movT M ts u ns v))->Q (.ref r) H')
def sp_1a(K:Frag):Sp:=λvs H Q _=>E9 λ(p q:Addr)(M N:LM)(ts ns:LI')(u v:Int)(d:Nat)=>A8 (vs=[.ref p,.ref q]) (jR K H p M ts u) (jR K H q N ns v) (Fine d M ts u) (Fine d N ns v) (1<=d) (d<=4) (∀r H',Same H H'->kM K H' r (mulM d N M) (redT (v*u) (movT N ns v ts u)) (redU (v*u) (movT N ns v ts u))->Q (.ref r) H')
def sp_1i(K:Frag):Sp:=λvs H Q _=>E4 λ(p:Addr)(M:LM)(ts:LI')(u:Int)=>A6 (vs=[.ref p]) (jR K H p M ts u) (M.length<=100) (ts.length<=100) (0<u) (∀r H',Same H H'->kM K H' r M (lR u ts) u->Q (.ref r) H')
theorem dM{u:Int}(a:0<u)(b:u<2^1500):u.natAbs<2^1500:=by
 have e:((2^1500:Nat):Int)=(2:Int)^1500:=nofun
 omega
theorem Am{u:Int}{B:Nat}(h:u.natAbs<2^B)(a:B<=8990):jK u:=zP h (yS ∅ a)
theorem Vf{u v:Int}(a:0<u)(d:u<2^1500)(b:0<v)(c:v<2^1500):jK (u*v)/\0<u*v:=by
 refine⟨Am (B:=1500+1500) ?_ ∅,wR a b⟩;rw[xK,tV];exact pH (dM a d) (dM b c)
theorem mV.le{B C:Nat}{M:LM}(h:mV B M)(b:B<=C):mV C M:=λr hr x a=>zP (h r hr x a) (yS ∅ b)
section
variable {P:Program} {w:World} {K:Frag} {mg:MT} {base:Heap} {t:Adr}
def sp_i:Sp:=λvs H Q _=>∃i,vs=[.int i]/\Q (.bl true) H
theorem ok_i(T:Txt K mg t):FnOk P w K mg base CX0 1 t.a_i t.d_i pA' sp_i:=by
 apply T.F_i.ok sc_i
 ·obtain⟨i,rfl,q⟩:=h;refine⟨_,(nM (nV (Bv (mS kU rfl T.z_isinstance (nofun) (nH (pq 0) (nH (jD (v:=.ty "int") rfl T.z_int (nofun) rfl) nI))) (Bw (Ma (mS kU rfl T.z_isinstance (nofun) (nH (pq 0) (nH (jD (v:=.ty "bool") rfl T.z_bool (nofun) rfl) nI)))))))),?_⟩;show tRet _ _ [some (.int i)] H;ext;refine⟨_,_,_,_,rfl,.ty (.int i),rfl,T.h_p,?_⟩;ext;refine⟨_,_,_,_,rfl,.ty (.int i),rfl,T.k_ib,?_⟩;ext;exact q
theorem Ve{a b:Int}{H:Hp}{Q:VK}{E:XK}:Db [.int a,.int b] H Q E=Q (.int (gcdI a b)) H:=propext ⟨λ⟨_,_,e,q⟩=>by cases e;exact q,λq=>⟨_,_,rfl,q⟩⟩
theorem ok_14(T:Txt K mg t):FnOk P w K mg base CX0 1 t.a_14 t.d_14 px' sp_14:=by
 apply T.F_14.ok sc_14
 ·obtain⟨a,b,rfl,k⟩:=h;refine⟨_,(nJ (nU (i:=2) sc_14.nd rfl (Or.inl rfl) (mS dY rfl T.z_abs (nofun) (nH (pq 0) nI)))
   (nJ (nU (i:=3) sc_14.nd rfl (Or.inl rfl) (mS dY rfl T.z_abs (nofun) (nH (pq 1) nI)))
   (nJ (Bu yD (mB jU (pq 3) nK (mD _))
   (nJ (nU (i:=4) sc_14.nd rfl (Or.inl rfl) (nR jT (pq 2) (pq 3)))
   (nJ (nU (i:=2) sc_14.nd rfl (Or.inl rfl) (pq 3))
   (nM (nU (i:=3) sc_14.nd rfl (Or.inl rfl) (pq 4))))))
   (nM (nV (pq 2)))))),?_⟩
  show tSeq _ _ _ [some (.int a),some (.int b),none,none,none] H;ext;refine⟨λm d c=>∃g l r,d=[some (.int a),some (.int b),some (.int g),some (.int l),r]/\c=H/\0<=g/\0<=l/\Int.gcd g l=Int.gcd a b/\m=l.toNat,
   ⟨_,_,_,_,rfl,rfl,Ao a,Ao b,Ju a b,rfl⟩,?_⟩
  rintro m d c ⟨g,l,r,rfl,rfl,i,hl,e,rfl⟩;ext
  by_cases z:l=0
  ·rw[zM z];refine iteF ?_;rw[Jt e i z];exact k
  ·rw[zJ z];refine iteT ⟨λf H'=>f=[some (.int a),some (.int b),some (.int l),some (.int (g.fmod l)),some (.int (g.fmod l))]/\H'=c,?_,z,rfl,rfl⟩;rintro f H' ⟨rfl,rfl⟩;have l1:=sK g (show 0<l by omega);have l2:=uV g (show 0<l by omega);exact⟨(g.fmod l).toNat,⋯,_,_,_,rfl,rfl,hl,l2,by rw[Jv];exact e,rfl⟩
theorem ok_18(T:Txt K mg t):FnOk P w K mg base (CX1 P w) 2 t.a_18 t.d_18 ["tops","under"] (sp_18 K t.a_1h):=by
 have M:=@ok_14 P w K mg base t T;refine T.F_18.okX sc_18 (λvs H Q E h=>?_) (λcdv A outer s H vs Q E hr h=>?_)
 ·obtain⟨b,a,ns,u,rfl,_⟩:=h;rfl
 ·obtain⟨b,a,ns,u,rfl,f,hl,G,v,W⟩:=h;refine⟨_,(nJ (mF (mB kK (pq 1) nK (mD _))
   (nM (iZ rfl iX rfl T.m_1h T.x_1h yR (nH iJ nI)))
   mE)
   (nJ (mF (mB kK (lC T.z_len (pq 0)) nK (mD _))
   (nM (iZ rfl iX rfl T.m_1h T.x_1h yR (nH iJ nI)))
   mE)
   (nJ (nU (i:=2) sc_18.nd rfl (Or.inr rfl) (mS dY rfl T.z_abs (nofun) (nH (pq 1) nI)))
   (nJ (PS.nox (lJ yD rfl (mT (pq 0)) (mP (i:=3) sc_18.nd rfl (Or.inl rfl))
   (nM (nU (i:=2) sc_18.nd rfl (Or.inr rfl) (nS M hr.mo T.F_14 (nH (pq 2) (nH (pq 3) nI)))))))
   (nJ (mF (mB fZ (pq 1) nK (mD _))
   (nM (nU (i:=2) sc_18.nd rfl (Or.inr rfl) (fF fG (pq 2))))
   mE)
   (nM (nV (kQ (nH (lK jX rfl T.z_tuple (nofun) (nH (lE (sc:=nP s_18) (N:=N_18) (fr:=[("common",2)]) (te:=(tOp (rI fL λi j=>.int (i.fdiv j)) (tVar 0) (tVar 1))) rfl rfl (nofun) rfl (nofun) (mT (pq 0)) (λ_ _ _ a2=>(nR gQ (pv 0) (pv 1)))) nI)) (nH (nR gQ (pq 1) (pq 2)) nI)))))))))),?_⟩
  show tSeq _ _ _ [some (.ref a),some (.int u),none,none] H;refine st λN1 e1=>?_;simp only[iY];ext;refine ite2 (λz=>⟨∅,v (.inl (xT z))⟩) (λz=>?_);have k:u≠0:=λq=>z (zM q);subst e1;refine st λN1 e1=>?_;simp only[iY];ext;refine Cu f ?_;ext;refine ite2 (λz=>⟨∅,v (.inr ?_)⟩) (λz=>?_)
  ·have:=xT z;exact vG ⋯
  have Y:ns≠[]:=λq=>z (zM (by rw[q];rfl));left;subst e1;refine st λN1 e1=>lN λB eB=>?_;simp only[iSeq];ext;refine⟨b,⟨_,f⟩,?_⟩;refine jP (g:=nX 3) (tb:=B) (λi g d=>∃v3,g=[some (.ref a),some (.int u),some (.int (gl u (ns.take i))),v3]/\d=H) ⟨_,rfl,rfl⟩ (λi g d _⟨_,_,e⟩=>e ▸ f) ?_ ?_
  ·rintro i x g d hi ⟨v3,rfl,rfl⟩;obtain⟨n,m,rfl⟩:=jY hi;subst eB;ext;simp only[Ve];rw[Vj m,Vn]
   first|trivial|exact⟨_,rfl,rfl⟩
  ·rintro g d ⟨v3,rfl,rfl⟩;rw[zqe,rG];subst e1;refine st λU L=>?_;have c:U [some (.ref a),some (.int u),some (.int (cs u ns)),v3] d:=by
    subst L;have N:jK (cs u ns):=Jr G k (iR (gl_u u ns));have C:∀x,fL x (cs u ns):=λx=>⟨dL ns k,Js N (dL ns k)⟩;ext;exfalso;refine⟨b,⟨_,f⟩,λZ F=>kX (λj y _=>∃n,ns[j]?=some n/\y=.int (n.fdiv (cs u ns))) F f (by rw[zqe];omega) (λ_ _ _ _ r _=>r) ?_ ?_⟩
    ·intro i x o zs O _ _ R a1;obtain⟨n,m,rfl⟩:=jY O;subst eB;show tOp _ _ _ [some (.int n),some (.int (cs u ns))] o R;ext;exact⟨C n,a1 _ o (Same.refl _) ⟨n,m,rfl⟩⟩
    ·intro o ys I e1 a0 S;have X:ys=(redT u ns).map V.int:=by
      unfold redT;rw[yW];exact kE (by simpa using a0) S
     subst X;refine⟨Z,_,rfl,.inl ⟨SqL.of e1,λl J=>?_⟩⟩;ext;refine⟨C u,(by show 2<=sizeLine;decide),λp D=>W k Y p _ ((I.trans (Same.new J)).trans (Same.new D)) ⟨l,nN,?_⟩⟩;rw[nO (lI nN D)];exact nN
   ext;unfold cs at c;refine ite2 (λz=>?_) (λz=>?_)
   ·rw[zF (xT z)]at c;exact c
   ·rw[zD (λq=>z (zM q))]at c;exact c
theorem Vd{H:Hp}{p:Addr}{ns:LI'}{u:Int}{Q:VK}(h:gI H p ns u)(q:∀x,H x=some (.tup (ns.map V.int))->Q (.ref x) H):rIxB K (.ref p) (.int 0) H Q:=let ⟨x,a,b⟩:=h;⟨true,p,_,_,_,rfl,rfl,SqB.tup a,rfl,q x b⟩
theorem Vc{H:Hp}{p:Addr}{ns:LI'}{u:Int}{Q:VK}(h:gI H p ns u)(q:Q (.int u) H):rIxB K (.ref p) (.int 1) H Q:=let ⟨x,a,b⟩:=h;⟨true,p,_,_,_,rfl,rfl,SqB.tup a,rfl,q⟩
theorem ok_q(T:Txt K mg t):FnOk P w K mg base CX0 1 t.a_q t.d_q ["one"] (sp_q K):=by
 apply T.F_q.ok sc_q
 ·obtain⟨p,ns,u,rfl,d,hl,G,m⟩:=h;refine⟨_,(nJ (nU (i:=1) sc_q.nd rfl (Or.inr rfl) (nY (pq 0)))
   (nM (nV (kQ (nH (lK jX rfl T.z_tuple (nofun) (nH (lE (sc:=nP aY) (N:=N_q) (fr:=[("under",1)]) (te:=(tOp (rI (λ_ j=>j≠0) λi j=>.int (i.fmod j)) (tVar 0) (tVar 1))) rfl rfl (nofun) rfl (nofun) (mT (nY (pq 0))) (λ_ _ _ I=>(nR jT (pv 0) (pv 1)))) nI)) (nH (pq 1) nI)))))),?_⟩
  show tSeq _ _ _ [some (.ref p),none] H;right;refine Da d ?_;symm;exfalso;refine Jn d λx a=>⟨true,x,rfl,⟨_,(show SqB true K H x _ from a)⟩,λC D=>kX (λj y _=>∃n,ns[j]?=some n/\y=.int (n.fmod u)) D ((show SqB true K H x _ from a)) (by rw[zqe];omega) (λ_ _ _ _ r _=>r) ?_ ?_⟩
  ·intro i x b zs a _ _ k f;obtain⟨n,q,rfl⟩:=jY a;subst eB;show tOp _ _ _ [some (.int n),some (.int u)] b k;ext;exact⟨⋯,f _ b (Same.refl _) ⟨n,q,rfl⟩⟩
  ·intro b ys e e1 F v;have z:ys=(lR u ns).map V.int:=by
    unfold lR;rw[yW];exact kE (by simpa using F) v
   subst z;refine⟨C,_,rfl,.inl ⟨SqL.of e1,λl g=>?_⟩⟩;refine⟨(by show 2<=sizeLine;decide),λo c=>m o _ ((e.trans (Same.new g)).trans (Same.new c)) ⟨l,nN,?_⟩⟩;rw[nO (lI nN c)];exact nN
theorem ok_1k(T:Txt K mg t):FnOk P w K mg base CX0 1 t.a_1k t.d_1k px' (sp_1k K):=by
 apply T.F_1k.ok sc_1k
 ·obtain⟨b1,b2,p,q,ms,ns,rfl,u,o,hl,F,I,D⟩:=h;refine⟨_,(nM (nV (mS (bZ rfl) rfl T.z_sum (nofun) (nH (hX (xs:=["left","right"]) (fr:=[]) (g:=(gTup K 2 (kC (nX 0) (kC (nX 1) gNil)))) (tt:=(tEl (tOp (rI (λi j=>IntMulOk i j) λi j=>.int (i*j)) (tVar 0) (tVar 1)))) (jW (sc:=nP s_1k) (N:=N_1k) rfl rfl (nofun)) rfl (Hw rfl T.z_zip (nH (pq 0) (nH (pq 1) nI))) (λ_ _ _ g=>(gO rfl (kP (iH (N:=["left","right"]) (i:=0) g rfl (nofun)) (kP (iH (N:=["left","right"]) (i:=1) g rfl (nofun)) gN)))) (λ_ _ _ g=>(iM (nR mZ (pv 0) (pv 1))))) nI)))),?_⟩;show tRet _ _ [some (.ref p),some (.ref q)] H;ext;refine mK λB eB=>?_;simp only[iZip];ext;refine⟨b1,⟨_,u⟩,b2,⟨_,o⟩,λa z=>?_⟩;refine Hu (λj y _=>∃m n,ms[j]?=some m/\ns[j]?=some n/\y=.int (m*n)) z u o (by simpa using hl) (by simpa using F) (λ_ _ _ _ r _=>r) ?_ ?_
  ·intro i x y f zs v d k l C L;obtain⟨m,c,rfl⟩:=jY v;obtain⟨n,b,rfl⟩:=jY d;subst eB;show tOp _ _ _ [some (.int m),some (.int n)] f C;ext;exact⟨I i m n c b,L _ _ (Same.refl _) ⟨m,n,c,b,rfl⟩⟩
  ·intro f zs k l G J;have d:zs=(List.zipWith (·*·) ms ns).map V.int:=by
    refine kE (by simp at G ⊢;omega) λj y e=>?_;obtain⟨m,n,c,b,rfl⟩:=J j y e;exact⟨m*n,by rw[wB,c,b],rfl⟩
   subst d;exact⟨_,rfl,_,SqL.of l,D f k⟩
theorem ok_1b(T:Txt K mg t):FnOk P w K mg base CX0 1 t.a_1b t.d_1b pB' (sp_1b K):=by
 apply T.F_1b.ok sc_1b
 ·obtain⟨b1,b2,a,b,w,rfl,v,a1,C,I,a7,Y⟩:=h;refine⟨_,(nM (nV (hX (xs:=["k"]) (fr:=[("rows",0)]) (g:=(nX 0)) (tt:=(tEl (kW (iSeq K (tVar 1)) (nX 0) (tEl (tOp (rIxB K) (tVar 0) (tVar 1))) 1 [("k",0)]))) (jW (sc:=nP s_1b) (N:=N_1b) rfl rfl (nofun)) rfl (lG rfl T.z_range (nH (lC T.z_len (nY (pq 0))) nI)) (λ_ _ _ m=>(cJ (N:=["k","rows"]) (i:=0) m rfl (nofun) rfl)) (λ_ _ _ m=>(iM (lE (N:=["k","rows"]) (fr:=[("k",0)]) (te:=(tOp (rIxB K) (tVar 0) (tVar 1))) m rfl (nofun) rfl (nofun) (mT (pv 1)) (λ_ _ _ a8=>(mG ix_B (pv 0) (pv 1) (λ_ _=>rfl))))))))),?_⟩;show tRet _ _ [some (.ref a)] H;ext;refine mK λB eB=>?_;simp only[mY];ext;obtain⟨d,o⟩:∃d,b[0]?=some d:=by cases b with|nil=>exact absurd rfl a1|cons r _=>exact⟨r,rfl⟩
  have J:d.length=w:=C d (zqb o);obtain⟨ps,p,k1,k2,k3,M⟩:=v.row o;refine⟨b1,a,_,0,_,rfl,rfl,k1,jH k2 rfl,b2,p,_,rfl,M,?_⟩;rw[zqe,J];refine⟨_,rfl,⋯,⋯,λn q=>?_⟩;rw[zS];refine jG (RowR n λk=>colI k b) q I (RowR.mono (a:=n)) ?_ ?_
  ·intro i g zs hi l X O a3;subst eB;show kW _ _ _ _ _ [some (.int (0+(i:Int))),some (.ref a)] g O;exfalso;obtain⟨xs,u,a6,Z⟩:=(v.up l).walk;refine⟨b1,⟨_,u⟩,λa2 F=>?_⟩;refine kX (λj y _=>∃r,b[j]?=some r/\y=.int (r.getD i 0)) F u ⋯ (λ_ _ _ _ r _=>r) ?_ ?_
   ·intro j x z a9 a4 f a5 S U;obtain⟨p,r,rfl,c,N⟩:=Z j x a4;subst eB;show tOp _ _ _ [some (.ref p),some (.int (0+(i:Int)))] z S;ext;have G:i<r.length:=by rw[C r (zqb c)];exact hi
    exact⟨b2,p,_,_,_,rfl,rfl,N.up f,jH (gR (getD_at G)) ⋯,U _ _ (Same.refl _) ⟨r,c,rfl⟩⟩
   ·intro z ys f L D R;have a0:ys=(colI i b).map V.int:=by
     refine kE (by simp[colI];omega) λj y e=>?_;obtain⟨r,c,rfl⟩:=R j y e;exact⟨r.getD i 0,by unfold colI;rw[zH,c];rfl,rfl⟩
    subst a0;exact a3 _ _ f ⟨a2,rfl,zT (lI X F),L⟩
  ·intro g ys l e1 D W;have:=MatL.of e1 W;rw[D]at this;exact Y n g q l this
theorem ok_16(T:Txt K mg t):FnOk P w K mg base CX0 1 t.a_16 t.d_16 pw' (sp_16 K):=by
 apply T.F_16.ok sc_16
 ·obtain⟨b1,b2,a,R,g,k,w,rfl,a0,b0,b9,b6,b5,a7⟩:=h;refine⟨_,(nM (nV (hX (xs:=["at","row"]) (fr:=[("i",1),("k",2)]) (g:=(gTup K 2 (kC (nX 0) (kC (nX 1) gNil)))) (tt:=(hJ (bJ (tOp (rI0 λi j=>.bl (!decide (i=j))) (tVar 0) (tVar 2))) (tOp rCat (tCB (aA K) (mH (tSl (rSlB K) (tVar 1) Bo (Bn (tVar 3))) tNil)) (tCB (aA K) (mH (tSl (rSlB K) (tVar 1) (Bn (tOp (rI0 λi j=>.int (i+j)) (tVar 3) (tC (.int 1)))) Bo) tNil))))) (jW (sc:=nP s_16) (N:=N_16) rfl rfl (nofun)) rfl (bY rfl T.z_enumerate (nH (pq 0) nI)) (λ_ _ _ I=>(gO rfl (kP (iH (N:=["at","row","i","k"]) (i:=0) I rfl (nofun)) (kP (iH (N:=["at","row","i","k"]) (i:=1) I rfl (nofun)) gN)))) (λ_ _ _ I=>(Gc (mB jU (pv 0) (pv 2) (mD _)) (nR eN (lK hZ rfl T.z_list (nofun) (nH (cD sl_B (pv 1) bN (eG (pv 3))) nI)) (lK hZ rfl T.z_list (nofun) (nH (cD sl_B (pv 1) (eG (nR lH (pv 3) nK)) bN) nI)))))))),?_⟩;show tRet _ _ [some (.ref a),some (.int g),some (.int k)] H;ext;refine Hq λc0 b8 b3 eB=>?_;simp only[cK];ext;obtain⟨xs,O,a1,a9⟩:=a0.walk;refine⟨b1,⟨_,O⟩,λX N=>?_⟩;refine Vh (λt zs b=>kY X b zs (((R.take t).eraseIdx g).map λ(r:LI')=>r.eraseIdx k)) N O ⋯ kY.nil ?_ (λ_ _ _ _ r s=>r.mono s) ?_ ?_
  ·intro i zs b p;rw[p.len,zqe,rO];have:=List.length_take_le i R;split <;> omega
  ·intro i x b zs b4 F a6 p C G M;obtain⟨J,r,rfl,U,o⟩:=a9 i x b4;have b7:r.length=w:=b0 r (zqb U);replace o:=o.up F;rw[Vg U]at G M;subst b3 eB;show hJ _ _ [some (.int i),some (.ref J),some (.int g),some (.int k)] b C;simp only[hJ];ext
   by_cases z:i=g
   ·subst z;rw[zF rfl]at M;rw[zM rfl];exact M b (Same.refl _) p
   ·rw[zD z]at G;rw[zJ (show¬ (i:Int)=g by omega)];refine iteT ?_;refine⟨b2,J,_,rfl,o,λ_=>by rw[zqe,HT.sIx_none,HT.sIx_nat];omega,λl a3=>?_⟩;have sq1:SqB b2 K (upd b l (seqO b2 (cutV (r.map V.int) none (some (k:Int))))) l (cutV (r.map V.int) none (some (k:Int))):=SqB.cut;have m:Same b (upd b l (seqO b2 (cutV (r.map V.int) none (some (k:Int))))):=Same.new a3;generalize upd b l _=n at sq1 m;rw[Qd ⋯]at sq1;refine⟨b2,l,_,rfl,sq1,λd a2=>?_⟩;have S:(upd n d (.lst ((r.take k).map V.int))) d=some (.lst ((r.take k).map V.int)):=nN;have D:Same n (upd n d (.lst ((r.take k).map V.int))):=Same.new a2;generalize upd n d _=y at S D;refine⟨b2,J,_,rfl,(o.up m).up D,λ_=>by rw[zqe,HT.sIx_none,show(k:Int)+1=((k+1:Nat):Int) by omega,HT.sIx_nat];omega,λf a5=>?_⟩;have sq3:SqB b2 K (upd y f (seqO b2 (cutV (r.map V.int) (some ((k:Int)+1)) none))) f (cutV (r.map V.int) (some ((k:Int)+1)) none):=SqB.cut;have v:Same y (upd y f (seqO b2 (cutV (r.map V.int) (some ((k:Int)+1)) none))):=Same.new a5;generalize upd y f _=q at sq3 v;rw[show(k:Int)+1=((k+1:Nat):Int) by omega,Qb ⋯]at sq3;refine⟨b2,f,_,rfl,sq3,λc a8=>?_⟩;have u:Same q (upd q c (.lst ((r.drop (k+1)).map V.int))):=Same.new a8;have Y:(upd q c (.lst ((r.drop (k+1)).map V.int))) c=some (.lst ((r.drop (k+1)).map V.int)):=nN;generalize upd q c _=Z at Y u;refine⟨d,c,_,_,rfl,rfl,u _ _ (v _ _ S),Y,by rw[zqe,zqe,yG,tL];exact tG (fK ⋯),λa4 L=>?_⟩;have W:Same b (upd Z a4 (.lst ((r.take k).map V.int++(r.drop (k+1)).map V.int))):=(((m.trans D).trans v).trans u).trans (Same.new L);refine G _ _ W ?_;rw[yX];refine(p.mono W.x).snoc (λe=>?_) ?_
    ·subst e;rw[u _ _ (v _ _ (D _ _ (m _ _ a6)))]at L;cases L
    ·rw[nN];dsimp only;rw[List.eraseIdx_eq_take_drop_succ,yX]
  ·intro b ys F e1 p;rw[a1,rG]at p;exact a7 X b N F (kY.mat e1 p)
theorem ok_4(T:Txt K mg t):∀n:Nat,FnOk P w K mg base CX0 (n+1) t.a_4 t.d_4 pB' (sp_4 K n)
 |0=>⟨λ_ _ _ _ h=>h.elim,λ_ _ _ _ _ _ _ _ _ _ _ _ _ h=>h.elim⟩
 | n+1=>by
  have X:FnOk P w K mg base CX0 (n+1) t.a_4 t.d_4 pB' (sp_4 K n):=ok_4 T n;have a4:=@ok_16 P w K mg base t T;apply T.F_4.ok sc_4
  ·obtain⟨b1,b2,a,c,B,rfl,g,d,a6,R,a0,M⟩:=h;refine⟨_,(nJ (mF (mB kK (lC T.z_len (pq 0)) nK (mD _))
   (nM (nV (nY (nY (pq 0)))))
   mE)
   (nJ (nU (i:=1) sc_4.nd rfl (Or.inl rfl) nK)
   (nJ (nU (i:=2) sc_4.nd rfl (Or.inl rfl) nK)
   (nJ (lJ yD rfl (bY rfl T.z_enumerate (nH (nY (pq 0)) nI)) (gO rfl (kP (mP (i:=3) sc_4.nd rfl (Or.inl rfl)) (kP (mP (i:=4) sc_4.nd rfl (Or.inl rfl)) gN)))
   (nJ (mF (mB jU (pq 4) nK (mD _))
   (nM (Fr (i:=1) sc_4.nd rfl (Or.inl rfl) (nR mZ (nR mZ (pq 2) (pq 4)) (nS X hr.mo T.F_4 (nH (nS a4 hr.mo T.F_16 (nH (pq 0) (nH nK (nH (pq 3) nI)))) nI))) Fq))
   mE)
   (nM (nU (i:=2) sc_4.nd rfl (Or.inl rfl) (fF fG (pq 2))))))
   (nM (nV (pq 1))))))),?_⟩
   show tSeq _ _ _ [some (.ref a),none,none,none,none] H;obtain⟨y,J⟩:=row0 d;have a2:(c.getD 0 []).length=n+1:=d.2 _ J;right;refine fM g ?_;ext;rw[d.1]
   by_cases z:n=0
   ·subst z;rw[zM (by rfl)];exact iteT (gE g y (getD_at (k:=0) ⋯) rfl rfl (M H (Same.refl _)))
   ·rw[zJ (show¬ ((n+1:Nat):Int)=1 by omega)];refine iteF ?_;obtain⟨n,rfl⟩:∃m,n=m+1:=⟨n-1,⋯⟩;left;left;subst e1;refine st λN1 e1=>lN λa9 eB=>?_;simp only[cK];ext;refine Qe g y rfl λp G=>⟨b2,_,rfl,⟨_,G⟩,?_⟩;generalize hf:(λk=>(c.getD 0 []).getD k 0*detM (n+1) (iS 0 k c))=f;refine Ho (nx:=N1) (rt:=Q) (λk u e=>∃v3 o,u=[some (.ref a),some (.int (altS f k)),some (.int (sg k)),v3,o]/\Same H e) ⟨_,_,rfl,Same.refl _⟩ (λ_ _ _ _⟨_,_,_,b⟩=>G.up b) ?_ ?_
    ·rintro k x q u e V ⟨v3,o,rfl,b⟩ Z;obtain⟨x,I,rfl⟩:=jY V;have S:k<n+2:=by have:=(zqa I).1;omega
     refine⟨q,[.int k,.int x],rfl,SqT.of nN,rfl,_,_,rfl,_,_,rfl,rfl,?_⟩;replace b:=b.trans (Same.new (o:=.tup [.int k,.int x]) Z);generalize upd e q (.tup [.int k,.int x])=D at b;subst eB;show tSeq _ _ _ [some (.ref a),some (.int (altS f k)),some (.int (sg k)),some (.int k),some (.int x)] D;refine st λa1 W=>?_;have O:∀i(j:Int),Same H i->j=altS f (k+1)->a1 [some (.ref a),some (.int j),some (.int (sg k)),some (.int k),some (.int x)] i:=by
      intro i j v a5;subst W a5;ext;rw[Vi];exact⟨rfl,v⟩
     ext;have F:(c.getD 0 []).getD k 0=x:=Qg I;have C:f k=x*detM (n+1) (iS 0 k c):=by rw[←hf];dsimp only;rw[F]
     have N:=d.minor (i:=0) (k:=k) ⋯ S;have L:mV B (iS 0 k c):=R.minor
     by_cases l:x=0
     ·rw[zM l];refine iteF (O D _ b ?_);show _=altS f k+sg k*f k;rw[C,l];simp
     ·rw[zJ l];refine iteT ?_;simp only[tAug,ipI];ext;refine⟨tM (by unfold sg;split <;> decide),b1,b2,a,c,0,k,_,rfl,g.up b,d.2,S,⋯,by rw[d.1];omega,λr i _ v U=>?_⟩;refine⟨false,false,r,_,B,rfl,U.b,N,⋯,L,a0,λY a3=>?_⟩;ext;have a8:=R _ J x (by rw[←F];exact L2.getD_mem ⋯);have a7:=Jo (n+1) _ ⋯ ⋯ N L;refine⟨xG (m:=B+1) (n:=(n+1)*(B+2)+1) (mW ?_) (mW ?_) ?_,?_⟩
      ·rw[xK,Jq,Nat.one_mul,sJ];omega
      ·rw[sJ];have:=pR ((n+1)*(B+2));omega
      ·have:(n+1)*(B+2)<=4*1000002:=wW ⋯ ⋯;omega
      ·refine O Y _ ((b.trans v).trans a3) ?_;show _=altS f k+sg k*f k;rw[C,Int.mul_assoc]
    ·rintro u e ⟨v3,o,rfl,b⟩;symm;rw[zqe,a2];have:altS f (n+2)=detM (n+2) c:=by rw[←hf];rfl
     rw[this];exact M e b
theorem ok_t(T:Txt K mg t):FnOk P w K mg base CX0 1 t.a_t t.d_t ["size"] sp_t:=by
 apply T.F_t.ok sc_t
 ·obtain⟨n,rfl,f,M⟩:=h;refine⟨_,(nM (nV (hX (xs:=["i"]) (fr:=[("size",0)]) (g:=(nX 0)) (tt:=(tEl (kW (mY (mH (tVar 1) tNil)) (nX 0) (tEl (tIf (bJ (tOp (rI0 λi j=>.bl (decide (i=j))) (tVar 1) (tVar 0))) (tC (.int 1)) (tC (.int 0)))) 1 [("i",0)]))) (jW (sc:=nP aZ) (N:=N_t) rfl rfl (nofun)) rfl (lG rfl T.z_range (nH (pq 0) nI)) (λ_ _ _ b=>(cJ (N:=["i","size"]) (i:=0) b rfl (nofun) rfl)) (λ_ _ _ b=>(iM (lE (N:=["i","size"]) (fr:=[("i",0)]) (te:=(tIf (bJ (tOp (rI0 λi j=>.bl (decide (i=j))) (tVar 1) (tVar 0))) (tC (.int 1)) (tC (.int 0)))) b rfl (nofun) rfl (nofun) (lG rfl T.z_range (nH (pv 1) nI)) (λ_ _ _ W=>(Nz (mB kK (pv 1) (pv 0) (mD _)) nK nK)))))))),?_⟩;show tRet _ _ [some (.int n)] H;ext;refine mK λB eB=>?_;simp only[mY];ext;refine⟨⋯,⋯,λc l=>?_⟩;rw[zS];refine jG (RowR c λi=>(List.range n).map λk=>if i=k then(1:Int) else 0) l f (RowR.mono (a:=c)) ?_ ?_
  ·intro i a zs hi g L G R;subst eB;show kW _ _ _ _ _ [some (.int (0+(i:Int))),some (.int n)] a G;refine mK λB eB=>?_;simp only[mY];ext;refine⟨⋯,⋯,λO u=>?_⟩;rw[zS];refine jG (λk y _=>k<n/\y=.int (if i=k then 1 else 0)) u f (λ_ _ _ _ r _=>r) ?_ ?_
   ·intro k p U v q S J o;subst eB;show tIf _ _ _ [some (.int (0+(k:Int))),some (.int (0+(i:Int)))] p J;ext
    by_cases z:i=k
    ·rw[zM ⋯];exact iteT (o _ _ (Same.refl _) ⟨v,by rw[zF z]⟩)
    ·rw[zJ ⋯];exact iteF (o _ _ (Same.refl _) ⟨v,by rw[zD z]⟩)
   ·intro p ys q x d C;have N:ys=((List.range n).map λk=>if i=k then(1:Int) else 0).map V.int:=by
     refine kE (by simpa using d) λj y e=>?_;obtain⟨F,rfl⟩:=C j y e;exact⟨_,by rw[zH,xC F];rfl,rfl⟩
    subst N;exact R _ _ q ⟨O,rfl,zT (lI L u),x⟩
  ·intro a ys g D d I;have m:=MatL.of D I;rw[d]at m;exact M c a l g m
theorem Ez{H:Hp}{a f:Addr}{M:LM}{T:St}{Q:VK}{b1 b2:Bool}(n:MatB b1 b2 K H a M)(hl:M.length<=1000)(m:H f=none)
  (F:∀b zs,Same H b->b f=some (.lst zs)->(∀l,b l=none->MatB true true K (upd b l (.tup zs)) l M)->Q (.ref f) b):kL (Its K b1 a) (nX 0) (tEl (tCB (eX K) (mH (tVar 0) tNil))) 1 [] T f H Q:=by
 cases b2 with
 |false =>
  refine Qa n hl m λb c C=>?_;obtain⟨zs,d,_⟩:=id C;refine F b _ c d λl g=>?_;obtain⟨Z,o,S⟩:=C.tuple (K:=K) g;rw[d]at o;cases o;exact S
 | true =>
  obtain⟨xs,L,a1,U⟩:=n.walk;refine kX (λj y _=>∃p r,y=.ref p/\M[j]?=some r/\SqB true K H p (r.map V.int)) m L ⋯ (λ_ _ _ _ r _=>r) ?_ ?_
  ·intro i x b zs Y c a3 a2 X;obtain⟨p,r,rfl,R,v⟩:=U i x Y;exact⟨_,rfl,p,_,rfl,.inr ⟨v.up c,X _ _ (Same.refl _) ⟨p,r,rfl,R,v⟩⟩⟩
  ·intro b ys c e1 G D;have N:∃ps:LA,ys=ps.map V.ref:=by
    clear e1 G;have:∀(zs:List V),(∀(j:Nat) y,zs[j]?=some y->∃p:Addr,y=.ref p)->∃ps:LA,zs=ps.map V.ref:=by
     intro zs
     induction zs with
     |nil=>intro _;exact⟨[],rfl⟩
     |cons z r I =>
      intro d;obtain⟨p,e⟩:=d 0 z rfl;obtain⟨ps,k⟩:=I λj y q=>d (j+1) y (by simpa using q);exact⟨p:: ps,by rw[e,k];rfl⟩
    exact this ys λj y e=>let ⟨p,r,e1,_⟩:=D j y e;⟨p,e1⟩
   obtain⟨ps,rfl⟩:=N;refine F b _ c e1 λl g=>⟨ps,SqB.tup nN,by simp at G;omega,λi p r k J=>?_⟩;obtain⟨a0,a4,W,u,O⟩:=D i (.ref p) (by simp[k]);cases W;rw[J]at u;cases u;exact O.up (c.trans (Same.new g))
theorem ok_15(T:Txt K mg t):FnOk P w K mg base CX0 1 t.a_15 t.d_15 py' (sp_15 K):=by
 apply T.F_15.ok sc_15
 ·obtain⟨b1,b2,a,p,M,ts,u,rfl,g,f,hl,m⟩:=h;refine⟨_,(nM (nV (kQ (nH (lK jX rfl T.z_tuple (nofun) (nH (lE (sc:=nP s_15) (N:=N_15) (fr:=[]) (te:=(tCB (eX K) (mH (tVar 0) tNil))) rfl rfl (nofun) rfl (nofun) (mT (pq 0)) (λ_ _ _ z=>(lK jX rfl T.z_tuple (nofun) (nH (pv 0) nI)))) nI)) (nH (nY (pq 1)) (nH (nY (pq 1)) nI)))))),?_⟩;show tRet _ _ [some (.ref a),some (.ref p)] H;ext;exfalso;obtain⟨xs,v,_⟩:=g.walk;refine⟨b1,⟨_,v⟩,λo r=>?_⟩;subst eB;refine Ez g ⋯ r λi zs j n b=>?_;refine⟨o,_,rfl,.inl ⟨SqL.of n,λl e=>?_⟩⟩;have c:Same H (upd i l (.tup zs)):=j.trans (Same.new e);replace b:=b l e;generalize upd i l (.tup zs)=y at c b;refine Vd (f.up c) λx k=>Vc (f.up c) ⟨(by show 3<=sizeLine;decide),λq d=>m q _ (c.trans (Same.new d)) ⟨l,x,nN,b.up (Same.new d),Same.new d _ _ k⟩⟩
theorem ok_1i(T:Txt K mg t):FnOk P w K mg base CX0 2 t.a_1i t.d_1i ["one"] (sp_1i K):=by
 have i:=@ok_15 P w K mg base t T;have g:=@ok_q P w K mg base t T;apply T.F_1i.ok sc_1i
 ·obtain⟨p,M,ts,u,rfl,b,hl,j,z,m⟩:=h;refine⟨_,(nM (nV (nS i hr.mo T.F_15 (nH (nY (pq 0)) (nH (nS g hr.mo T.F_q (nH (kQ (nH (nY (pq 0)) (nH (nY (pq 0)) nI))) nI)) nI))))),?_⟩;show tRet _ _ [some (.ref p)] H;ext;refine fA b λx d=>cV b λy v=>fB b ⟨(by show 2<=sizeLine;decide),λl f=>?_⟩;have a:Same H (upd H l (.tup [.ref y,.int u])):=Same.new f;refine⟨l,ts,u,rfl,⟨y,SqT.of nN,lY a _ _ v⟩,j,z,λk C c o=>?_⟩;exact⟨true,true,x,k,M,_,u,rfl,d.up (a.trans c),o,hl,λq n r e=>m q n ((a.trans c).trans r) e⟩
theorem ok_1c(T:Txt K mg t):FnOk P w K mg base CX0 3 t.a_1c t.d_1c ["one","spot"] (sp_1c K):=by
 have X:=@ok_1k P w K mg base t T;have Z:=@ok_18 P w K mg base t T;apply T.F_1c.ok sc_1c
 ·obtain⟨p,q,M,ts,ns,u,v,d,rfl,f,o,a,b8,b7,c2,N,I,k,a9⟩:=h;refine⟨_,(nJ (Ba (i:=2) (xs:=["row","top"]) (fr:=[("one",0),("spot",1)]) (g:=(gTup K 2 (kC (nX 0) (kC (nX 1) gNil)))) (tt:=(tEl (tOp (rI0 λi j=>.int (i+j)) (tOp (rI (λi j=>IntMulOk i j) λi j=>.int (i*j)) (kJ (sp_1k K) [] E0 (mH (tVar 0) (mH (tOp (rIxB K) (tVar 3) (tC (.int 0))) tNil))) (tOp (rIxB K) (tVar 2) (tC (.int 2)))) (tOp (rI (λi j=>IntMulOk i j) λi j=>.int (i*j)) (tVar 1) (tOp (rIxB K) (tVar 3) (tC (.int 1))))))) (jW (sc:=nP s_1c) (N:=N_1c) rfl rfl (nofun)) rfl sc_1c.nd rfl rfl (Hw rfl T.z_zip (nH (nY (pq 0)) (nH (nY (pq 0)) nI))) (λ_ _ _ D=>(gO rfl (kP (iH (N:=["row","top","one","spot"]) (i:=0) D rfl (nofun)) (kP (iH (N:=["row","top","one","spot"]) (i:=1) D rfl (nofun)) gN)))) (λ_ _ _ D=>(iM (nR lH (nR mZ (nS X hr.mo T.F_1k (nH (pv 0) (nH (nY (pv 3)) nI))) (nY (pv 2))) (nR mZ (pv 1) (nY (pv 3)))))))
   (nM (nV (bL Z hr.mo rfl T.F_18.m T.F_18.kp T.F_18.b .nil Be (nH (pq 2) (nH (nR mZ (nY (pq 0)) (nY (pq 1))) nI)))))),?_⟩
  show tSeq _ _ _ [some (.ref p),some (.ref q),none] H;right;refine mK λB eB=>?_;simp only[iZip];ext;refine fA f λx a3=>cV f λy S=>?_;obtain⟨xs,J,l,b1⟩:=a3.walk;refine⟨true,true,x,rfl,y,rfl,⟨_,J⟩,⟨_,(S:SqB true K H y _)⟩,λb4 W=>?_⟩;have a6:∀(i:Nat)(r:LI')(tt:Int),M[i]?=some r->ts[i]?=some tt->(movT M ts u ns v)[i]?=some (dotI r ns*u+tt*v):=λi r tt e1 C=>by
   unfold movT;rw[wB,e1,C]
  refine Hu (λj z _=>∃n,(movT M ts u ns v)[j]?=some n/\z=.int n) W J ((S:SqB true K H y _)) (by rw[l,a.sq.1,zqe,a.len]) (by rw[l,a.sq.1];omega) (λ_ _ _ _ r _=>r) ?_ ?_
  ·intro i b0 c0 g zs a4 b5 b c4 a5 b6;obtain⟨pr,r,rfl,F,a2⟩:=b1 i b0 a4;obtain⟨tt,L,rfl⟩:=jY b5;have c3:r.length=d:=a.sq.2 r (zqb F);have R:=a.bm r (zqb F);subst eB;show tOp _ _ _ [some (.ref pr),some (.int tt),some (.ref p),some (.ref q)] g a5;ext;refine Jn (o.up b) λz b2=>?_;refine⟨true,true,pr,z,r,ns,rfl,a2.up b,(b2:SqB true K g z _),⋯,⋯,λb9 m n e1 C=>xG (mW (R m (zqb e1))) (mW (N n (zqb C))) ∅,λO c=>?_⟩;refine fB (f.up (b.trans c)) ?_;ext;have c1:=An r ns R N;have a1:(dotI r ns).natAbs<2^400010:=by
    have:r.length*2^(200000+200000)<=4*2^(200000+200000):=wG _ ⋯;have e:(2:Nat)^400010=1024*2^(200000+200000):=by rw[show(400010:Nat)=10+(200000+200000) from rfl,tV]
    have:=pR (200000+200000);omega
   refine⟨xG (mW a1) (mW (dM a.pos a.bu)) ∅,?_⟩;refine Da (o.up (b.trans c)) ?_;ext;refine⟨xG (mW (a.bt tt (zqb L))) (mW (dM I k)) ∅,?_⟩;exact b6 _ _ c ⟨_,a6 i r tt F L,rfl⟩
  ·intro g zs b Y a0 a8;have G:(movT M ts u ns v).length=d:=by unfold movT;rw[xZ,a.sq.1,a.len];omega
   have b3:zs=(movT M ts u ns v).map V.int:=kE (by rw[a0,l,a.sq.1,G]) a8;subst b3;symm;refine fB (f.up b) ?_;refine Da (o.up b) ?_;ext;have a7:=Vf a.pos a.bu I k;refine⟨xG (mW (dM a.pos a.bu)) (mW (dM I k)) ∅,?_⟩;refine⟨false,b4,_,_,rfl,SqB.lst Y,⋯,a7.1,λz=>?_,λ_ _ r O c U=>a9 r O (b.trans c) U⟩;rcases z with z|z
   ·omega
   ·rw[z]at G;simp at G;omega
theorem ok_1a(T:Txt K mg t):FnOk P w K mg base CX0 4 t.a_1a t.d_1a px' (sp_1a K):=by
 have b6:=@ok_1k P w K mg base t T;have d9:=@ok_1b P w K mg base t T;have a9:=@ok_1c P w K mg base t T;have d6:=@ok_15 P w K mg base t T;apply T.F_1a.ok sc_1a
 ·obtain⟨p,q,M,N,ts,ns,u,v,d,rfl,J,a0,a,o,b3,b1,d7⟩:=h;refine⟨_,(nJ (nU (i:=2) sc_1a.nd rfl (Or.inr rfl) (nS d9 hr.mo T.F_1b (nH (nY (pq 0)) nI)))
   (nJ (Ba (i:=3) (xs:=["row"]) (fr:=[("columns",2)]) (g:=(nX 0)) (tt:=(tEl (kW (iSeq K (tVar 1)) (nX 0) (tEl (kJ (sp_1k K) [] E0 (mH (tVar 1) (mH (tVar 0) tNil)))) 1 [("row",0)]))) (jW (sc:=nP s_1a) (N:=N_1a) rfl rfl (nofun)) rfl sc_1a.nd rfl rfl (mT (nY (pq 1))) (λ_ _ _ L=>(cJ (N:=["row","columns"]) (i:=0) L rfl (nofun) rfl)) (λ_ _ _ L=>(iM (lE (N:=["row","columns"]) (fr:=[("row",0)]) (te:=(kJ (sp_1k K) [] E0 (mH (tVar 1) (mH (tVar 0) tNil)))) L rfl (nofun) rfl (nofun) (mT (pv 1)) (λ_ _ _ f1=>(nS b6 hr.mo T.F_1k (nH (pv 1) (nH (pv 0) nI))))))))
   (nM (nV (nS d6 hr.mo T.F_15 (nH (pq 3) (nH (nS a9 hr.mo T.F_1c (nH (pq 1) (nH (kQ (nH (nY (pq 0)) (nH (nY (pq 0)) nI))) nI))) nI))))))),?_⟩
  show tSeq _ _ _ [some (.ref p),some (.ref q),none,none] H;right;have e3:M≠[]:=λz=>by have:=a.sq.1;rw[z]at this;simp at this;omega
  refine fA J λx c3=>⟨true,true,x,M,d,rfl,c3,e3,a.sq.2,⋯,by rw[a.sq.1];omega,λc f0 f3 a2 c5=>?_⟩;left;exfalso;refine fA (a0.up a2) λy d1=>?_;obtain⟨xs,a1,a4,e0⟩:=d1.walk;refine⟨true,y,rfl,⟨_,a1⟩,λW b5=>?_⟩;refine kX (RowR W λj=>(List.range d).map λk=>dotI (N.getD j []) (colI k M)) b5 a1 (by rw[a4,o.sq.1];omega) (RowR.mono (a:=W)) ?_ ?_
  ·intro i x D zs e7 F d5 c4 e6;obtain⟨pr,r,rfl,O,c1⟩:=e0 i x e7;have d4:N.getD i []=r:=by rw[zqc,O];rfl
   have c9:r.length=d:=o.sq.2 r (zqb O);have b7:=o.bm r (zqb O);subst eB;show kW _ _ _ _ _ [some (.ref pr),some (.ref c)] D c4;exfalso;obtain⟨f4,X,e8,e5⟩:=((c5.up F).b (K:=K)).walk;refine⟨false,⟨_,X⟩,λe4 a8=>?_⟩;have f6:(aG d M).length=d:=by simp[aG]
   refine kX (λj y _=>y=.int (dotI r (colI j M))/\j<d) a8 X ⋯ (λ_ _ _ _ r _=>r) ?_ ?_
   ·intro j y a5 e9 U b f2 c7 d0;obtain⟨a3,col,rfl,G,R⟩:=e5 j y U;have g:j<d:=by have:=(zqa G).1;omega
    have d2:col=colI j M:=by
     unfold aG at G;rw[zH,xC g]at G;exact(zZ G).symm
    subst eB d2;show kJ _ _ _ _ [some (.ref a3),some (.ref pr)] a5 c7;ext;refine⟨true,false,pr,a3,r,colI j M,rfl,(c1.up F).up b,R.up b,by simp[colI,c9,a.sq.1],⋯,λb4 m n e1 f=>?_,λc2 I=>d0 _ _ I ⟨rfl,g⟩⟩;unfold colI at f;rw[zH]at f;cases eb:M[b4]? with
    |none=>rw[eb]at f;cases f
    |some S =>
     rw[eb]at f;have d8:S.getD j 0=n:=zZ f;subst d8;have a6:=zqb eb;exact xG (mW (b7 m (zqb e1))) (mW (a.bm S a6 _ (L2.getD_mem (by rw[a.sq.2 S a6];exact g)))) ∅
   ·intro a5 ys b b0 a7 b9;have U:ys=((List.range d).map λk=>dotI r (colI k M)).map V.int:=by
     refine kE (by simp;omega) λj y e=>?_;obtain⟨rfl,g⟩:=b9 j y e;exact⟨_,by rw[zH,xC g];rfl,rfl⟩
    subst U;exact e6 _ _ b ⟨e4,rfl,zT (lI d5 a8),by dsimp only;rw[d4];exact b0⟩
  ·intro D ys F f a7 c6;have Y:=MatL.of f c6;have e:(List.range ys.length).map (λj=>(List.range d).map λk=>dotI (N.getD j []) (colI k M))=mulM d N M:=by
    rw[a7,a4];unfold mulM;refine tQ (by simp) λi Z f5=>?_;simp at Z;simp[Z]
   rw[e]at Y;have C:=a2.trans F;symm;refine cV (J.up C) λz e2=>fB (J.up C) ⟨(by show 2<=sizeLine;decide),λl b8=>?_⟩;have b:Same D (upd D l (.tup [.ref z,.int u])):=Same.new b8;refine⟨q,l,N,ns,ts,v,u,d,rfl,(a0.up C).up b,⟨z,SqT.of nN,lY b _ _ e2⟩,o,b3,b1,a.len,a.bt,a.pos,a.bu,λr c2 I c0=>?_⟩;exact⟨false,false,W,r,_,_,_,rfl,((Y.up b).up I).b,c0,by simp[mulM,o.sq.1];omega,λd3 b2 c8 R=>d7 d3 b2 (((C.trans b).trans I).trans c8) R⟩
def Ey(rows:LM)(tops:LI')(u:Int):Prop:=(rows.length=2\/rows.length=3)/\(∀r∈rows,r.length=rows.length)/\tops.length=rows.length/\u≠0/\(detM rows.length rows=1\/detM rows.length rows=-1)
def sp_1g(K:Frag)(C:Addr):Sp:=λvs H Q E=>E9 λ(b1 b2 b3:Bool)(a p:Addr)(rows:LM)(tops:LI')(u:Int)(B:Nat)=>A10 (vs=[.ref a,.ref p,.int u]) (MatB b1 b2 K H a rows) (SqB b3 K H p (tops.map V.int)) (rows.length<=100) (tops.length<=100) (mV B rows) (B<=1000000) (jK u) ((¬ Ey rows tops u->∀H',Same H H'->E (.ref C) none H')) ((Ey rows tops u->∀q H',Same H H'->kM K H' q rows (redT u tops) (redU u tops)->Q (.ref q) H'))
theorem inV2(L x y:Int):inV (.int L) [.int x,.int y]=decide (L=x\/L=y):=by
 have e:inV (.int L) [.int x,.int y]=(eqV (.int x) (.int L) || (eqV (.int y) (.int L) || false)):=rfl;have f:∀a b:Int,eqV (.int a) (.int b)=decide (a=b):=λa b=>by
  first|rfl|(unfold eqV;rfl)|(simp only[eqV];by_cases h:a=b <;> simp[h])
 rw[e,f,f,Bool.or_false]
 by_cases c:x=L
 ·rw[zM c,zM (p:=L=x\/L=y) (Or.inl c.symm)];rfl
 ·rw[zJ c]
  by_cases d:y=L
  ·rw[zM d,zM (p:=L=x\/L=y) (Or.inr d.symm)];rfl
  ·rw[zJ d,zJ (p:=L=x\/L=y) ⋯];rfl
theorem Vb{H:Hp}{Q:VK}{E:XK}{b1 b2:Bool}{a:Addr}{b:LM}{n B:Nat}(f:1<=n)(d:n<=4)(g:MatB b1 b2 K H a b)(c:Sq n b)(i:mV B b)(e:B<=1000000)(q:∀H',Same H H'->Q (.int (detM n b)) H'):sp_4 K n [.ref a] H Q E:=by
 match n,f,d,c,q with
 |m+1,_,d,c,q=>exact⟨b1,b2,a,b,B,rfl,g,c,⋯,i,e,q⟩
theorem ok_1g(T:Txt K mg t):FnOk P w K mg base (CX1 P w) 6 t.a_1g t.d_1g pr' (sp_1g K t.a_1d):=by
 have a5:=@ok_18 P w K mg base t T;have c0:=@ok_15 P w K mg base t T;refine T.F_1g.okX sc_1g (λvs H Q E h=>?_) (λcdv A outer s H vs Q E hr h=>?_)
 ·obtain⟨b1,b2,U,a,p,c,G,u,B,rfl,_⟩:=h;rfl
 ·obtain⟨b1,b2,U,a,p,c,G,u,B,rfl,k,Z,a3,b7,b6,c2,a2,e,c1⟩:=h;obtain⟨n,d8,D⟩:∃n:Nat,n<=3/\((c.length=2\/c.length=3)->n=c.length):=by
   by_cases z:c.length=2\/c.length=3
   ·exact⟨c.length,⋯,λ_=>rfl⟩
   ·exact⟨0,⋯,λh=>absurd h z⟩
  have a9:FnOk P w K mg base CX0 (n+1) t.a_4 t.d_4 pB' (sp_4 K n):=ok_4 T n;refine⟨_,(nJ (nU (i:=3) sc_1g.nd rfl (Or.inr rfl) (lC T.z_len (pq 0)))
   (nJ (mF (mB Bk (pq 3) (kQ (nH nK (nH nK nI))) rfl)
   (nM (iZ rfl iX rfl T.m_1d T.x_1d yR (nH iJ nI)))
   mE)
   (nJ (mF (PW.pt (lU (lP (mS (Ry rfl) rfl T.z_any (nofun) (nH (lE (sc:=nP s_1g) (N:=N_1g) (fr:=[("axes",3)]) (te:=(tOp (rI0 λi j=>.bl (!decide (i=j))) (tCB (eT K) (mH (tVar 0) tNil)) (tVar 1))) rfl rfl (nofun) rfl (nofun) (mT (pq 0)) (λ_ _ _ d7=>(dW jU (lC T.z_len (pv 0)) (pv 1) (mD _)))) nI))) (kN (mB jU (lC T.z_len (pq 1)) (pq 3) (mD _)))))
   (nM (iZ rfl iX rfl T.m_1d T.x_1d yR (nH iJ nI)))
   mE)
   (nJ (mF (mB kK (pq 2) nK (mD _))
   (nM (iZ rfl iX rfl T.m_1d T.x_1d yR (nH iJ nI)))
   mE)
   (nJ (mF (mB Bk (nS a9 hr.mo T.F_4 (nH (pq 0) nI)) (kQ (nH nK (nH (fF fG nK) nI))) rfl)
   (nM (iZ rfl iX rfl T.m_1d T.x_1d yR (nH iJ nI)))
   mE)
   (nM (nV (nS c0 hr.mo T.F_15 (nH (pq 0) (nH (bL a5 hr.mo rfl T.F_18.m T.F_18.kp T.F_18.b .nil Be (nH (pq 1) (nH (pq 2) nI))) nI)))))))))),?_⟩
  show tSeq _ _ _ [some (.ref a),some (.ref p),some (.int u),none] H;right;refine fM k ?_;subst e1;refine st λN1 e1=>?_;simp only[iY];ext;refine⟨by show 2<=sizeLine;decide,λM b5=>?_⟩;have m:Same H (upd H M (.tup [.int 2,.int 3])):=Same.new b5;refine⟨M,_,rfl,.inr (SqT.of nN),rfl,rfl,_,rfl,?_⟩;generalize upd H M (.tup [.int 2,.int 3])=d4 at m;rw[inV2]
  by_cases O:c.length=2\/c.length=3
  case neg =>
   rw[zJ ⋯];refine iteT ?_;simp only[iY];ext;exact⟨∅,e (λg=>O g.1) _ m⟩
  rw[zM ⋯];refine iteF ?_;replace D:=D O;subst D;left;refine mK λC c8=>?_;simp only[iSeq];ext;obtain⟨xs,R,d5,c3⟩:=(k.up m).walk;refine⟨b1,⟨_,R⟩,λc6 a1=>?_⟩;refine kX (λj y _=>∃r,c[j]?=some r/\y=.bl (!decide (r.length=c.length))) a1 R ⋯ (λ_ _ _ _ r _=>r) ?_ ?_
  ·intro i x S zs d2 F d9 b8 d1;obtain⟨pr,W,rfl,b3,b0⟩:=c3 i x d2;subst c8;show tOp _ _ _ [some (.ref pr),some (.int c.length)] S b8;ext;refine Cu (b0.up F) ?_
   try ext
   refine d1 _ _ (Same.refl _) ⟨W,b3,?_⟩
   by_cases z:W.length=c.length
   ·rw[zM z,zM ⋯]
   ·rw[zJ z,zJ ⋯]
  ·intro S ys F a8 e0 L;have c4:ys=(c.map λr=>!decide (r.length=c.length)).map V.bl:=by
    rw[yW];exact kE ⋯ L
   subst c4;refine⟨c6,rfl,_,SqL.of a8,?_⟩
   try ext
   have d:=m.trans F
   by_cases f:∀r∈c,r.length=c.length
   case neg =>
    have J:(c.map λr=>!decide (r.length=c.length)).any id=true:=by
     rw[List.any_eq_true];obtain⟨r,hr⟩:=Classical.not_forall.mp f;obtain⟨b9,L⟩:=Classical.not_imp.mp hr;exact⟨true,nD.mpr ⟨r,b9,by rw[zJ L];rfl⟩,rfl⟩
    rw[J];refine iteT ?_;simp only[iY];ext;exact⟨∅,e (λg=>f g.2.1) _ d⟩
   have J:(c.map λr=>!decide (r.length=c.length)).any id=false:=by
    rw[List.any_eq_false];intro b d0;obtain⟨r,hr,rfl⟩:=nD.mp d0;rw[zM (f r hr)]
    decide
   rw[J];refine iteF ?_;refine Cu (Z.up d) ?_
   try ext
   by_cases o:G.length=c.length
   case neg =>
    rw[zJ ⋯];refine iteT ?_;simp only[iY];ext;exact⟨∅,e (λg=>o g.2.2.1) _ d⟩
   rw[zM ⋯];refine iteF ?_;subst e1;refine st λN1 e1=>?_;simp only[iY];ext;refine ite2 (λz=>⟨∅,e (λg=>g.2.2.2.1 (xT z)) _ d⟩) (λz=>?_);have a0:u≠0:=λq=>z (zM q);left;refine Vb ⋯ ⋯ (k.up d) ⟨rfl,f⟩ b6 c2 λN c5=>?_
   try ext
   refine⟨by show 2<=sizeLine;decide,λI c7=>?_⟩;have Y:Same N (upd N I (.tup [.int 1,.int (-1)])):=Same.new c7;refine⟨I,_,rfl,.inr (SqT.of nN),rfl,rfl,_,rfl,?_⟩;generalize upd N I (.tup [.int 1,.int (-1)])=d6 at Y;have l:=(d.trans c5).trans Y;rw[inV2]
   by_cases v:detM c.length c=1\/detM c.length c=-1
   case neg =>
    rw[zJ v];refine iteT ?_;simp only[iY];ext;exact⟨∅,e (λg=>v g.2.2.2.2) _ l⟩
   rw[zM v];refine iteF ?_;symm;refine⟨U,p,G,u,rfl,Z.up l,b7,a2,λz=>?_,λ_ _ a6 d3 X a7=>⟨b1,b2,a,a6,c,_,_,rfl,k.up (l.trans X),a7,a3,λq c9 a4 b4=>c1 ⟨O,f,o,a0,v⟩ q c9 ((l.trans X).trans a4) b4⟩⟩;rcases z with z|z
   ·exact absurd z a0
   ·rw[z]at o;simp at o;omega
def sp_1e(K:Frag):Sp:=λvs H Q _=>E1 λ(d:Nat)=>A3 (vs=[.int d]) ((d=2\/d=3)) (∀q H',Same H H'->kM K H' q (idM d) (List.replicate d 0) 1->Q (.ref q) H')
theorem Va(ns:LI'):gl 1 ns=1:=Int.eq_one_of_dvd_one (Ar 1 ns) (gl_u 1 ns)
theorem Wz{d:Nat}(b:d=2\/d=3):Ey (idM d) (List.replicate d 0) 1/\mV 1 (idM d):=by
 rcases b with rfl|rfl
 ·exact⟨⟨.inl rfl,∅,∅,∅,.inl ∅⟩,by intro r hr x a;revert r x;decide⟩
 ·exact⟨⟨.inr rfl,∅,∅,∅,.inl ∅⟩,by intro r hr x a;revert r x;decide⟩
theorem Wy:jK 1:=Am (B:=1) ∅ ∅
theorem ok_1e(T:Txt K mg t):FnOk P w K mg base CX0 8 t.a_1e t.d_1e ["d"] (sp_1e K):=by
 have p:=@ok_1g P w K mg base t T;have z:=@ok_t P w K mg base t T;apply T.F_1e.ok sc_1e
 ·obtain⟨d,rfl,i,F⟩:=h;refine⟨_,(nM (nV (bL p hr.mo rfl T.F_1g.m T.F_1g.kp T.F_1g.b .nil Be (nH (nS z hr.mo T.F_t (nH (pq 0) nI)) (nH (nR Gr (mQ (nH nK nI)) (pq 0)) (nH nK nI)))))),?_⟩;show tRet _ _ [some (.int d)] H;ext;refine⟨d,rfl,⋯,λr b _ v o=>?_⟩
  try ext
  refine⟨by show 1<=sizeLine;decide,λl hl=>?_⟩;have c:Same b (upd b l (.lst [.int 0])):=Same.new hl;have k:(upd b l (.lst [.int 0])) l=some (.lst [.int 0]):=nN;generalize upd b l (.lst [.int 0])=a at c k;refine⟨l,d,_,rfl,rfl,k,⋯,⋯,?_,λl2 C=>?_⟩
  ·rw[zS];show 1*d<=sizeLine;have:3<=sizeLine:=∅
   omega
  have e:Same a (upd a l2 (.lst (List.replicate (d:Int).toNat [V.int 0]).flatten)):=Same.new C;have f:(upd a l2 (.lst (List.replicate (d:Int).toNat [V.int 0]).flatten)) l2=some (.lst ((List.replicate d (0:Int)).map V.int)):=by
   rw[nN,zS];rcases i with rfl|rfl <;> rfl
  generalize upd a l2 (.lst (List.replicate (d:Int).toNat [V.int 0]).flatten)=G at e f;obtain⟨g,u⟩:=Wz i;have m:=Vl (u:=1) ∅ (Va (List.replicate d 0));have e1:redT 1 (List.replicate d 0)=List.replicate d 0:=m.1;have x:redU 1 (List.replicate d 0)=1:=m.2;refine⟨false,false,false,r,l2,idM d,List.replicate d 0,1,1,rfl,((o.up c).up e).b,SqB.lst f,by simp[idM];omega,by simp;omega,u,∅,Wy,λn=>absurd g n,λ_ q y D j=>?_⟩;rw[e1,x]at j;exact F q y ((v.trans (c.trans e)).trans D) j
def cW(M:LM)(ts:LI')(u:Int):PyData:=.tuple [matD true true M,eY true ts,.int u]
theorem Wx{M N:LM}{ts ns:LI'}{u v:Int}:cW M ts u=cW N ns v↔(M=N/\ts=ns/\u=v):=by
 unfold cW;simp only[PyData.tuple.injEq,List.cons.injEq,PyData.int.injEq,and_true,Qh,Hr]
theorem Dt.deed{K:Frag}{H:Hp}{p:Addr}{M:LM}{ts:LI'}{u:Int}(h:kM K H p M ts u):Dt K H (.ref p) (cW M ts u):=by
 obtain⟨pr,pt,a,b,c⟩:=h;exact .tup (SqT.of a) (.cons (Dt.matB b) (.cons (Dt.intsB (SqB.tup c)) (.cons (.int u) .nil)))
abbrev Dd:=LM×List Int×Int
def dat(x:Dd):PyData:=cW x.1 x.2.1 x.2.2
theorem fU{x y:Dd}:dat x=dat y↔x=y:=by
 obtain⟨M,ts,u⟩:=x;obtain⟨N,ns,v⟩:=y;unfold dat;rw[Wx];simp
theorem Al{n:Nat}{ds:List PyData}:tT (n+1) (.tuple ds)=ds.all (tT n):=rfl
theorem kH(x:Dd):tT 4 (dat x)=true:=by
 obtain⟨M,ts,u⟩:=x;have hi:∀(n:Nat)(l:LI'),(l.map PyData.int).all (tT n)=true:=λn l=>by
  rw[uK];intro d a;obtain⟨i,_,rfl⟩:=nD.mp a;cases n <;> rfl
 show tT 4 (.tuple [.tuple (M.map λr=>.tuple (r.map PyData.int)),.tuple (ts.map PyData.int),.int u])=true;rw[Al,yV,yV,yV,Al,Al,hi];have:(M.map λr=>PyData.tuple (r.map PyData.int)).all (tT 2)=true:=by
  rw[uK];intro d a;obtain⟨r,_,rfl⟩:=nD.mp a;rw[Al];exact hi 1 r
 rw[this];rfl
def DdAt(K:Frag)(H:Hp)(p:Addr)(x:Dd):Prop:=kM K H p x.1 x.2.1 x.2.2
theorem DdAt.up{K:Frag}{H H':Hp}{p:Addr}{x:Dd}(h:DdAt K H p x)(s:Same H H'):DdAt K H' p x:=kM.up h s
theorem DdAt.dt{K:Frag}{H:Hp}{p:Addr}{x:Dd}(h:DdAt K H p x):Dt K H (.ref p) (dat x):=Dt.deed h
abbrev DdS(K:Frag)(H:Hp)(p:Addr)(x:Dd):Prop:=jR K H p x.1 x.2.1 x.2.2
theorem DdS.up{K:Frag}{H H':Hp}{p:Addr}{x:Dd}(h:DdS K H p x)(s:Same H H'):DdS K H' p x:=jR.up h s
theorem DdAt.s{K:Frag}{H:Hp}{p:Addr}{x:Dd}(h:DdAt K H p x):DdS K H p x:=kM.s h
def nQ(x:Dd):Dd:=(x.1,lR x.2.2 x.2.1,x.2.2)
def behD(d:Nat)(x s:Dd):Dd:=(mulM d s.1 x.1,redT (s.2.2*x.2.2) (movT s.1 s.2.1 s.2.2 x.2.1 x.2.2),redU (s.2.2*x.2.2) (movT s.1 s.2.1 s.2.2 x.2.1 x.2.2))
def mJ(d:Nat)(x s:Dd):Dd:=nQ (behD d x s)
def mO(d:Nat):Dd:=(idM d,List.replicate d 0,1)
abbrev Tb:=List (Dd×List Nat)
def nxt(d:Nat)(x:Dd)(w:List Nat)(tb:Tb)(ks:Dd×Nat):Tb:=if mJ d x ks.1∈tb.map (·.1) then tb else tb++[(mJ d x ks.1,w++[ks.2])]
def jB(d:Nat)(ss:List Dd)(tb:Tb)(i:Nat):Tb:=match tb[i]? with
 |none=>tb
 |some xw=>ss.zipIdx.foldl (nxt d xw.1 xw.2) tb
def mL(d:Nat)(ss:List Dd):Nat->Nat->Tb->Tb
 |0,_,tb=>tb
 |n+1,i,tb=>if i<tb.length then mL d ss n (i+1) (jB d ss tb i) else tb
theorem Ww(d:Nat)(x:Dd)(w:List Nat)(tb:Tb)(ks:Dd×Nat):∃r,nxt d x w tb ks=tb++r:=by
 unfold nxt;split
 ·exact⟨[],by simp⟩
 ·exact⟨_,rfl⟩
theorem cX(d:Nat)(x:Dd)(w:List Nat):∀(l:List (Dd×Nat))(tb:Tb),∃r,l.foldl (nxt d x w) tb=tb++r
 |[],tb=>⟨[],by simp⟩
 |k:: l,tb=>by
  obtain⟨r1,e1⟩:=Ww d x w tb k;obtain⟨r2,a⟩:=cX d x w l (nxt d x w tb k);exact⟨r1++r2,by rw[vC,a,e1,yK]⟩
theorem Jm(d:Nat)(ss:List Dd)(tb:Tb)(i:Nat):∃r,jB d ss tb i=tb++r:=by
 unfold jB;split
 ·exact⟨[],by simp⟩
 ·exact cX ..
theorem Ex(d:Nat)(ss:List Dd):∀(n i:Nat)(tb:Tb),∃r,mL d ss n i tb=tb++r
 |0,i,tb=>⟨[],by simp[mL]⟩
 |n+1,i,tb=>by
  unfold mL;split
  ·obtain⟨r1,e1⟩:=Jm d ss tb i;obtain⟨r2,a⟩:=Ex d ss n (i+1) (jB d ss tb i);exact⟨r1++r2,by rw[a,e1,yK]⟩
  ·exact⟨[],by simp⟩
def kI(d:Nat)(x:Dd):Prop:=Fine d x.1 x.2.1 x.2.2
def TbAt(H:Hp)(tb:Tb)(kvs:List (PyData×V)):Prop:=Paired (λ(x:Dd×List Nat)(kv:PyData×V)=>kv.1=dat x.1/\∃p,kv.2=.ref p/\H p=some (.lst (x.2.map λn=>V.int (n:Nat)))) tb kvs
structure Ak(d:Nat)(ms:List Dd)(G:Nat->Dd->Prop):Prop where
 f1:∀s∈ms,kI d s
 f2:∀s∈ms,kI d (nQ s)
 g:∀n x,n<=201->G n x->kI d x
 g0:G 0 (mO d)
 gs:∀n x s,n<=200->G n x->s∈ms->G (n+1) (mJ d x (nQ s))
def iB(H:Hp)(l:Addr)(W:List (List Nat)):Prop:=∃ws:LA,H l=some (.lst (ws.map V.ref))/\Paired (λp(w:List Nat)=>H p=some (.lst (w.map λn=>V.int (n:Nat)))) ws W
def Apt(H:Hp)(dx:Addr)(W:List (List Nat)):Prop:=∃l,H dx=some (XDct dx "apart" (.ref l))/\iB H l W
def mX(d:Nat)(ss:List Dd)(w:List Nat):Dd:=w.foldl (λx n=>mJ d x (ss.getD n (mO d))) (mO d)
def WdOk(d:Nat)(ss:List Dd)(y:Dd×List Nat):Prop:=y.1=mX d ss y.2/\∀n∈y.2,n<ss.length
def AptE(d:Nat)(ms:List Dd)(most:Nat)(H:Hp)(dx:Addr):Prop:=∃tb:Tb,Apt H dx (tb.map (·.2))/\tb.length=most+1/\(tb.map (·.1)).Nodup/\∀y∈tb,WdOk d (ms.map nQ) y/\y.2.length<=most
def sp_12(K:Frag)(C:Addr):Sp:=λvs H Q E=>E7 λ(b:Bool)(d:Nat)(a:Addr)(ps:LA)(ms:List Dd)(most:Nat)(G:Nat->Dd->Prop)=>A10 (vs=[.int d,.ref a,.int most]) ((d=2\/d=3)) (SqB b K H a (ps.map V.ref)) (Paired (DdS K H) ps ms) (ms.length<=200) (Ak d ms G) (1<=most) (most<=200) (((mL d (ms.map nQ) 201 0 [(mO d,[])]).length<=most->(((mL d (ms.map nQ) 201 0 [(mO d,[])]).map (·.1)).Nodup/\∀y∈mL d (ms.map nQ) 201 0 [(mO d,[])],G y.2.length y.1/\y.2.length<=200)->∀w kvs H',Same H H'->H w=none->DTr K H' w kvs->TbAt H' (mL d (ms.map nQ) 201 0 [(mO d,[])]) kvs->Q (.ref w) H')) ((most<(mL d (ms.map nQ) 201 0 [(mO d,[])]).length->∀dx H',Same H H'->AptE d ms most H' dx->E (.ref C) (some dx) H'))
def sp_s(C:Addr):Sp:=λvs H Q E=>E1 λ(n:Int)=>A3 (vs=[.int n]) (((1<=n/\n<=200)->Q .non H)) ((¬ (1<=n/\n<=200)->∀H',Same H H'->E (.ref C) none H'))
def AxOk(d:Int)(ms:List Dd):Prop:=(d=2\/d=3)/\∀s∈ms,(s.1.length:Int)=d
def sp_r(K:Frag)(C:Addr):Sp:=λvs H Q E=>E5 λ(b:Bool)(d:Int)(a:Addr)(ps:LA)(ms:List Dd)=>A5 (vs=[.int d,.ref a]) (SqB b K H a (ps.map V.ref)) (Paired (DdS K H) ps ms) ((AxOk d ms->∀H',Same H H'->Q .non H')) ((¬ AxOk d ms->∀H',Same H H'->E (.ref C) none H'))
theorem Jl{prog:Program}{w:World}:∀n,n<=201->gX prog w n:=λn _=>Tz n
theorem fV{K:Frag}{H:Hp}{a b:Addr}{kvs:List (PyData×V)}{k:PyData}{v:V}{Q:VK}(g:DTr K H a kvs)(t:tT 4 k=true)(d:Dt K H (.ref b) k)(e:vT kvs k=some v)(q:Q v H):aH K (.ref a) (.ref b) H Q:=⟨a,kvs,b,k,v,rfl,rfl,g,t,d,e,q⟩
theorem cY{K:Frag}{H:Hp}{a b:Addr}{kvs:List (PyData×V)}{k:PyData}{c:Bool}{Q:VK}(g:DTr K H a kvs)(t:tT 4 k=true)(d:Dt K H (.ref b) k)(q:Q (.bl (if c=true then !(vT kvs k).isSome else(vT kvs k).isSome)) H):rInT K c (.ref b) (.ref a) H Q:=⟨a,kvs,b,k,rfl,rfl,g,t,d,q⟩
theorem jL{a b:Type}{f:a->b}{l:List a}{i:Nat}{y:b}(h:(l.map f)[i]?=some y):∃x,l[i]?=some x/\y=f x:=by
 rw[zH]at h;cases hx:l[i]? with
 |none=>rw[hx]at h;cases h
 |some x=>rw[hx]at h;exact⟨x,rfl,(zZ h).symm⟩
def CpOk:Nat->V->Hp->Prop
 |0,x,_=>∃i,x=.int i
 |n+1,x,H=>∃a xs,x=.ref a/\H a=some (.lst xs)/\xs.length<=1000/\∀y∈xs,CpOk n y H
theorem CpOk.up{H H':Hp}(s:Same H H'):∀{n:Nat}{x:V},CpOk n x H->CpOk n x H'
 |0,_,h=>h
 |_+1,_,⟨a,xs,e,h,l,k⟩=>⟨a,xs,e,s _ _ h,l,λy b=>CpOk.up s (k y b)⟩
def CpR:Nat->V->Hp->V->Hp->Prop
 |0,x,_,y,_=>y=x
 |n+1,x,H,y,H'=>∀a xs,x=.ref a->H a=some (.lst xs)->∃l ys,y=.ref l/\H l=none/\H' l=some (.lst ys)/\ys.length=xs.length/\∀(j:Nat) u v,xs[j]?=some u->ys[j]?=some v->CpR n u H v H'
theorem Aj{H H':Hp}{b:Addr}(s:Same H H')(h:H' b=none):H b=none:=by
 cases e:H b with
 |none=>rfl
 |some o=>rw[s _ _ e]at h;cases h
theorem CpR.dn{b H H':Hp}(s:Same b H):∀{n:Nat}{x y:V},CpR n x H y H'->CpR n x b y H'
 |0,_,_,h=>h
 |_+1,_,_,h=>λa xs e c=>let ⟨l,ys,f,k,d,m,g⟩:=h a xs e (s _ _ c);⟨l,ys,f,Aj s k,d,m,λj u v e1 i=>CpR.dn s (g j u v e1 i)⟩
theorem CpR.up{H H' b:Hp}(s:Same H' b):∀{n:Nat}{x y:V},CpR n x H y H'->CpR n x H y b
 |0,_,_,h=>h
 |_+1,_,_,h=>λa xs e c=>let ⟨l,ys,f,k,d,m,g⟩:=h a xs e c;⟨l,ys,f,k,s _ _ d,m,λj u v e1 i=>CpR.up s (g j u v e1 i)⟩
def offH(a:Addr)(H:Hp):Hp:=λb=>if b=a then none else H b
theorem Ew{a:Addr}{H:Hp}:Same (offH a H) H:=λb o e=>by
 unfold offH at e;split at e
 ·cases e
 ·exact e
theorem Ev{a:Addr}{d c:Hp}(s:jO a d c):Same (offH a d) (offH a c):=λb o e=>by
 unfold offH at e ⊢;split at e
 ·cases e
 ·next h=>rw[zD h];exact s b o h e
theorem CpR.off{H H':Hp}{c:Addr}{o:HO}(d:H c=some o):∀{n:Nat}{x y:V},CpR n x H y H'->CpR n x H y (offH c H')
 |0,_,_,h=>h
 |_+1,_,_,h=>λa xs e f=>let ⟨l,ys,i,b,g,p,k⟩:=h a xs e f;⟨l,ys,i,b,by unfold offH;rw[zD (λz=>by rw[z,d]at b;cases b)];exact g,p,λj u v e1 m=>CpR.off d (k j u v e1 m)⟩
def sp_17(n:Nat):Sp:=λvs H Q _=>∃x,vs=[x]/\CpOk n x H/\∀y H',Same H H'->CpR n x H y H'->Q y H'
theorem Jk:∀{w:List Nat}{ys:List V},ys.length=w.length->(∀(j:Nat) u v,(w.map λn=>V.int (n:Nat))[j]?=some u->ys[j]?=some v->v=u)->ys=w.map λn=>V.int (n:Nat)
 |[],[],_,_=>rfl
 |n:: w,y:: ys,hl,h=>by
  rw[zO,←Jk (w:=w) (ys:=ys) (by simpa using hl) λj u v e1 a=>h (j+1) u v (by simpa using e1) (by simpa using a),h 0 _ y rfl rfl]
theorem Jj{H H':Hp}:∀{b:List (List Nat)}{a:LA}{ys:List V},Paired (λp(w:List Nat)=>H p=some (.lst (w.map λn=>V.int (n:Nat)))) a b->ys.length=a.length->(∀(j:Nat) u v,(a.map V.ref)[j]?=some u->ys[j]?=some v->CpR 1 u H v H')->∃vs:LA,ys=vs.map V.ref/\Paired (λp(w:List Nat)=>H p=none/\H' p=some (.lst (w.map λn=>V.int (n:Nat)))) vs b
 |[],[],[],_,_,_=>⟨[],rfl,.nil⟩
 |w:: b,p:: a,y:: ys,.cons i m,hl,h=>by
  obtain⟨vs,rfl,f⟩:=Jj m (by simpa using hl) λj u v e1 c=>h (j+1) u v (by simpa using e1) (by simpa using c);obtain⟨l,zs,e1,c,g,k,e⟩:=h 0 _ y rfl rfl p _ rfl i;have d:=Jk (by simpa using k) e;exact⟨l:: vs,by rw[e1];rfl,.cons ⟨c,by rw[g,d]⟩ f⟩
theorem Ji{a b:Type}{F:a->b->Prop}:∀{xs:List a}{ys:List b},Paired F xs ys->xs.length=ys.length
 |_,_,.nil=>rfl
 |_,_,.cons _ h=>by rw[zR,zR,Ji h]
theorem Jh{c b:Type}{F:c->b->Prop}:∀{xs:List c}{ys:List b},Paired F xs ys->∀x∈xs,∃y∈ys,F x y
 |_,_,.cons h hh,x,a=>by
  rcases xM.mp a with rfl|a
  ·exact⟨_,.head _,h⟩
  ·obtain⟨y,d,f⟩:=Jh hh x a;exact⟨y,.tail _ d,f⟩
theorem iB.cp{H:Hp}{l:Addr}{a:List (List Nat)}(h:iB H l a)(l1:a.length<=1000)(l2:∀w∈a,w.length<=1000):CpOk 2 (.ref l) H:=by
 obtain⟨j,e,b⟩:=h;refine⟨l,_,rfl,e,by rw[zqe];have:=Ji b;omega,λy d=>?_⟩;obtain⟨p,i,rfl⟩:=nD.mp d;obtain⟨w,f,g⟩:=Jh b p i;refine⟨p,_,rfl,g,by rw[zqe];exact l2 w f,λz c=>?_⟩;obtain⟨n,_,rfl⟩:=nD.mp c;exact⟨_,rfl⟩
def Wv(C:Addr):Sp:=λvs H Q _=>E3 λ(e a:Addr)(W:List (List Nat))=>A6 (vs=[.ref e,.ref a]) (H e=some (XObj e C none)) (iB H a W) (W.length<=1000) ((∀w∈W,w.length<=1000)) (∀dx H',(∀b o,b≠e->H b=some o->H' b=some o)->H' e=some (XObj e C (some dx))->Apt (rmv H' e) dx W->Q .non H')
def WdR(a:Addr)(srt:Tb)(j:Nat)(y:V)(H:Hp):Prop:=∃p m,y=V.ref p/\p≠a/\srt[j]?=some m/\H p=some (.lst (m.2.map λn=>V.int ((n:Nat):Int)))
theorem Eu{a:Addr}{H:Hp}:∀{srt:Tb}{ys:List V},ys.length=srt.length->(∀(j:Nat) y,ys[j]?=some y->WdR a srt j y H)->∃b:LA,ys=b.map V.ref/\Paired (λp(x:Dd×List Nat)=>H p=some (.lst (x.2.map λn=>V.int (n:Nat)))) b srt
 |[],[],_,_=>⟨[],rfl,.nil⟩
 | m:: srt,y:: ys,hl,h=>by
  obtain⟨p,c,e1,_,r,q⟩:=h 0 y rfl;cases r;obtain⟨b,f,o⟩:=Eu (a:=a) (H:=H) (srt:=srt) (ys:=ys) (by simpa using hl) λj i k=>by
   obtain⟨p,c,l,d,e,g⟩:=h (j+1) i (by simpa using k);exact⟨p,c,l,d,by simpa using e,g⟩
  exact⟨p:: b,by rw[e1,f];rfl,.cons q o⟩
structure TK(K:Frag)(H H':Hp):Prop where
 k:∀b xs,H b=some (.tup xs)->H' b=some (.tup xs)
 t:∀b xs,SqT K H b xs->SqT K H' b xs
theorem TK.trans{K:Frag}{H f d:Hp}(a:TK K H f)(b:TK K f d):TK K H d:=⟨λc xs e=>b.k _ _ (a.k _ _ e),λc xs e=>b.t _ _ (a.t _ _ e)⟩
theorem TK.off{K:Frag}{H H':Hp}{a:Addr}{o:HO}(e:H a=some o)(f:∀xs,o≠.tup xs)(g:∀d u,o≠.frz d u)(h:∀c,c≠a->H' c=H c):TK K H H':=by
 have k:∀b xs,H b=some (.tup xs)->H' b=some (.tup xs):=λb xs q=>by
  rw[h b λz=>f xs (by rw[z,e]at q;exact zZ q)];exact q
 refine⟨k,λb xs q=>?_⟩;rcases q with(q|⟨d,q⟩)|q
 ·exact .inl (.inl (k _ _ q))
 ·exact .inl (.inr ⟨d,by rw[h b λz=>g _ _ (by rw[z,e]at q;exact zZ q)];exact q⟩)
 ·exact .inr q
theorem MatB.tk{K:Frag}{H H':Hp}{a:Addr}{M:LM}(h:MatB true true K H a M)(s:TK K H H'):MatB true true K H' a M:=let ⟨ps,b,c,d⟩:=h;⟨ps,s.t _ _ b,c,λi p r e1 e=>s.t _ _ (d i p r e1 e)⟩
theorem DdAt.tk{K:Frag}{H H':Hp}{p:Addr}{x:Dd}(h:DdAt K H p x)(s:TK K H H'):DdAt K H' p x:=let ⟨pr,pt,a,b,c⟩:=h;⟨pr,pt,s.k _ _ a,MatB.tk b s,s.k _ _ c⟩
theorem DdS.tk{K:Frag}{H H':Hp}{p:Addr}{x:Dd}(h:DdS K H p x)(s:TK K H H'):DdS K H' p x:=let ⟨pr,pt,a,b,c⟩:=h;⟨pr,pt,s.t _ _ a,MatB.tk b s,s.t _ _ c⟩
theorem DTr.tk{K:Frag}{H H':Hp}{a:Addr}{kvs:List (PyData×V)}(h:DTr K H a kvs)(s:TK K H H')(e:H' a=H a):DTr K H' a kvs:=by
 obtain⟨l,y,xs,b,n,r⟩:=h;exact⟨l,y,xs,e.trans b,n,r.keeps s.t⟩
structure CI(K:Frag)(H0:Hp)(qs:LA)(ss:List Dd)(as af aw:Addr)(tb:Tb)(H:Hp):Prop where
 s:∀b o,H0 b=some o->H b=some o
 st:H as=some (.lst (qs.map V.ref))/\Paired (DdAt K H) qs ss
 fo:∃fs,H af=some (.lst (fs.map V.ref))/\Paired (λp(x:Dd×List Nat)=>DdAt K H p x.1) fs tb
 wo:∃kvs,DTr K H aw kvs/\Paired (λ(x:Dd×List Nat)(kv:PyData×V)=>kv.1=dat x.1/\∃p,kv.2=.ref p/\p≠af/\H p=some (.lst (x.2.map λn=>V.int (n:Nat)))) tb kvs
 n1:H0 as=none
 n2:H0 af=none
 n3:H0 aw=none
 x1:as≠af
theorem CI.up{K:Frag}{f H H':Hp}{c:LA}{ss:List Dd}{as a d:Addr}{tb:Tb}(h:CI K f c ss as a d tb H)(s:Same H H'):CI K f c ss as a d tb H':=by
 obtain⟨r,⟨b1,b2⟩,⟨fs,m,k⟩,⟨kvs,l,n⟩,x,y,g,v⟩:=h;exact⟨λb o e=>s _ _ (r _ _ e),⟨s _ _ b1,Paired.mapP b2 λ_ _ z=>z.up s⟩,⟨fs,s _ _ m,Paired.mapP k λ_ _ z=>z.up s⟩,⟨kvs,l.up s,Paired.mapP n λ_ _ z=>let ⟨i,p,q,u,j⟩:=z;⟨i,p,q,u,s _ _ j⟩⟩,x,y,g,v⟩
theorem Et{H:Hp}{d:Addr}{x:Dd}:∀{tb:Tb}{kvs:List (PyData×V)},Paired (λ(x:Dd×List Nat)(a:PyData×V)=>a.1=dat x.1/\∃p,a.2=.ref p/\p≠d/\H p=some (.lst (x.2.map λn=>V.int (n:Nat)))) tb kvs ->
  (x∉tb.map (·.1)/\vT kvs (dat x)=none)\/∃w p,(x,w)∈tb/\vT kvs (dat x)=some (.ref p)/\p≠d/\H p=some (.lst (w.map λn=>V.int (n:Nat))):=by
 intro tb kvs h
 induction h with
 |nil=>exact .inl ⟨by simp,rfl⟩
 | @cons y a tb kvs j _ e =>
  obtain⟨e1,p,g,f,i⟩:=j
  by_cases z:y.1=x
  ·refine .inr ⟨y.2,p,by rw[←z];exact .head _,?_,f,i⟩;rw[jI (by rw[e1,z]),g]
  ·have ne:¬ a.1=dat x:=λq=>z (fU.mp (e1.symm.trans q));rw[jJ ne];rcases e with⟨b,c⟩|⟨w,p,b,c⟩
   ·exact .inl ⟨by rw[zO,xM,not_or];exact⟨λq=>z q.symm,b⟩,c⟩
   ·exact .inr ⟨w,p,.tail _ b,c⟩
theorem Jg{d:Nat}{x:Dd}{w:List Nat}{tb:Tb}{ks:Dd×Nat}(h:(tb.map (·.1)).Nodup):((nxt d x w tb ks).map (·.1)).Nodup:=by
 unfold nxt;split
 ·exact h
 ·next q =>
  rw[yX,qZ];refine⟨h,by simp,λy b z a=>?_⟩;simp only[List.map_cons,List.map_nil,List.mem_singleton]at a;rw[a];exactλe=>q (e ▸ b)
theorem Jf{d:Nat}{x:Dd}{w:List Nat}:∀(l:List (Dd×Nat))(tb:Tb),(tb.map (·.1)).Nodup->((l.foldl (nxt d x w) tb).map (·.1)).Nodup
 |[],_,h=>h
 |k:: l,tb,h=>Jf l _ (Jg h)
theorem Je{tb:Tb}(h:(tb.map (·.1)).Nodup){i:Nat}{x:Dd}{w w':List Nat}(e:tb[i]?=some (x,w))(m:(x,w')∈tb):w=w':=by
 obtain⟨j,a⟩:=xW m;have e1:(tb.map (·.1))[i]?=some x:=by rw[zH,e];rfl
 have b:(tb.map (·.1))[j]?=some x:=by rw[zH,a];rfl
 have hi:i<(tb.map (·.1)).length:=(zqa e1).1;have:i=j:=(sW hi h).mp (e1.trans b.symm);subst this;rw[e]at a;cases a;rfl
theorem Wu{d:Nat}{ss:List Dd}{n i:Nat}{tb:Tb}(h:tb.length<=i):mL d ss n i tb=tb:=by
 cases n with
 |zero=>rfl
 |succ n=>unfold mL;rw[zD ⋯]
theorem Ws{d:Nat}{ss:List Dd}{n i:Nat}{tb:Tb}(h:i<tb.length)(a:0<n):mL d ss n i tb=mL d ss (n-1) (i+1) (jB d ss tb i):=by
 obtain⟨m,rfl⟩:∃m,n=m+1:=⟨n-1,⋯⟩;show(if i<tb.length then _ else _)=_;rw[zF h];rfl
theorem Wq{d:Nat}{ss:List Dd}{tb:Tb}{i:Nat}{x:Dd}{w:List Nat}(e:tb[i]?=some (x,w)):jB d ss tb i=ss.zipIdx.foldl (nxt d x w) tb:=by
 unfold jB;rw[e]
def part(d:Nat)(x:Dd)(w:List Nat)(ss:List Dd)(tb:Tb)(i:Nat):Tb:=(ss.zipIdx.take i).foldl (nxt d x w) tb
theorem cZ{d:Nat}{x s:Dd}{w:List Nat}{ss:List Dd}{tb:Tb}{i:Nat}(e:ss[i]?=some s):part d x w ss tb (i+1)=nxt d x w (part d x w ss tb i) (s,i):=by
 unfold part;rw[yY,rP,e,vW];simp
theorem Wp{d:Nat}{x:Dd}{w:List Nat}{ss:List Dd}{tb:Tb}:part d x w ss tb ss.length=ss.zipIdx.foldl (nxt d x w) tb:=by
 unfold part;rw[yJ (by simp)]
theorem Wo{d:Nat}{x:Dd}{w:List Nat}{ss:List Dd}{tb:Tb}(i:Nat):∃r,part d x w ss tb i=tb++r:=cX ..
theorem Jd{d:Nat}{x:Dd}{w:List Nat}{ss:List Dd}{tb:Tb}(i:Nat):(part d x w ss tb i).length<=(ss.zipIdx.foldl (nxt d x w) tb).length:=by
 have e:ss.zipIdx.foldl (nxt d x w) tb=(ss.zipIdx.drop i).foldl (nxt d x w) (part d x w ss tb i):=by
  unfold part;rw[←vW,xU]
 obtain⟨r,a⟩:=cX d x w (ss.zipIdx.drop i) (part d x w ss tb i);rw[e,a,yA];omega
def ND(d:Nat)(ss:List Dd)(tb:Tb):Prop:=(tb.map (·.1)).Nodup/\(∀y∈tb,y.2.length<tb.length)/\∀y∈tb,WdOk d ss y
theorem Wn{d:Nat}{ss:List Dd}{x s:Dd}{w:List Nat}{k:Nat}(h:WdOk d ss (x,w))(e:ss[k]?=some s):WdOk d ss (mJ d x s,w++[k]):=by
 obtain⟨a,c⟩:=h;refine⟨?_,λn b=>?_⟩
 ·show mJ d x s=mX d ss (w++[k]);unfold mX;rw[vW,vC,List.foldl_nil,zqc,e];have a:x=mX d ss w:=a;rw[a];rfl
 ·rcases oW.mp b with h|h
  ·exact c n h
  ·rw[oP.mp h];exact(zqa e).1
theorem Es{d:Nat}{ss:List Dd}{x:Dd}{w:List Nat}{tb:Tb}{ks:Dd×Nat}(h:ND d ss tb)(b:(x,w)∈tb)(e:ss[ks.2]?=some ks.1):ND d ss (nxt d x w tb ks):=by
 refine⟨Jg h.1,?_,?_⟩
 ·have c:=h.2.1 _ b;unfold nxt;split
  ·exact h.2.1
  ·intro y a;rw[yA];rcases oW.mp a with a|a
   ·have:=h.2.1 y a;simp only[List.length_cons,List.length_nil];omega
   ·rw[oP.mp a];simp only[List.length_append,List.length_cons,List.length_nil];have f:w.length<tb.length:=c;omega
 ·unfold nxt;split
  ·exact h.2.2
  ·intro y a;rcases oW.mp a with a|a
   ·exact h.2.2 y a
   ·rw[oP.mp a];exact Wn (h.2.2 _ b) e
theorem Wm{d:Nat}{x:Dd}{w:List Nat}{tb:Tb}{ks:Dd×Nat}{b:Nat->Dd->Prop}(h:∀y∈tb,b y.2.length y.1)(c:b (w.length+1) (mJ d x ks.1)):∀y∈nxt d x w tb ks,b y.2.length y.1:=by
 unfold nxt;split
 ·exact h
 ·intro y a;rcases oW.mp a with a|a
  ·exact h y a
  ·rw[oP.mp a];show b (w++[ks.2]).length (mJ d x ks.1);rw[yA];exact c
theorem ok_s(T:Txt K mg t):FnOk P w K mg base (CX1 P w) 2 t.a_s t.d_s ["most"] (sp_s t.a_1f):=by
 refine T.F_s.okX sc_s (λvs H Q E h=>?_) (λcdv A outer s H vs Q E hr h=>?_)
 ·obtain⟨n,rfl,_⟩:=h;rfl
 ·obtain⟨n,rfl,d,c⟩:=h;refine⟨_,(nM (mF (PW.pt (lU (mB fZ (pq 0) nK (mD _)) (kN (mB iW (pq 0) (Rz (v:=(.int 200)) rfl T.g_MOST_MEMBERS) (mD _)))))
   (nM (iZ rfl iX rfl T.m_1f T.x_1f yR (nH iJ nI)))
   mE)),?_⟩
  show tIfS _ _ _ _ [some (.int n)] H;ext
  by_cases a:n<1
  ·rw[zM a];exact iteT ⟨by show 1<=sizeLine;decide,c (λz=>⋯) H (Same.refl _)⟩
  ·rw[zJ a];refine iteF ?_
   by_cases b:200<n
   ·rw[zM b];exact iteT ⟨by show 1<=sizeLine;decide,c (λz=>⋯) H (Same.refl _)⟩
   ·rw[zJ b];exact iteF (d ⟨⋯,⋯⟩)
theorem kB{a b:Type}{F:a->b->Prop}{xs:List a}{ys:List b}(h:Paired F xs ys):∀{i:Nat}{x:a},xs[i]?=some x->∃y,ys[i]?=some y/\F x y:=by
 induction h with
 |nil=>intro i x e;simp at e
 |cons c _ d =>
  intro i x e;cases i with
  |zero=>cases e;exact⟨_,rfl,c⟩
  |succ i=>exact d (by simpa using e)
theorem ok_r(T:Txt K mg t):FnOk P w K mg base (CX1 P w) 2 t.a_r t.d_r ["d","makers"] (sp_r K t.a_1d):=by
 refine T.F_r.okX sc_r (λvs H Q E h=>?_) (λcdv A outer s H vs Q E hr h=>?_)
 ·obtain⟨b,d,a,ps,ms,rfl,_⟩:=h;rfl
 ·obtain⟨b,d,a,ps,ms,rfl,u,y,F,r⟩:=h;refine⟨_,(nJ (mF (mB Bk (pq 0) (kQ (nH nK (nH nK nI))) rfl)
   (nM (iZ rfl iX rfl T.m_1d T.x_1d yR (nH iJ nI)))
   mE)
   (nM (lJ qU rfl (mT (pq 1)) (mP (i:=2) sc_r.nd rfl (Or.inl rfl))
   (nM (mF (mB jU (lC T.z_len (nY (pq 2))) (pq 0) (mD _))
   (nM (iZ rfl iX rfl T.m_1d T.x_1d yR (nH iJ nI)))
   mE))))),?_⟩
  show tSeq _ _ _ [some (.int d),some (.ref a),none] H;right;refine⟨by show 2<=sizeLine;decide,λo D=>?_⟩;have k:Same H (upd H o (.tup [.int 2,.int 3])):=Same.new D;refine⟨o,_,rfl,.inr (SqT.of nN),rfl,rfl,_,rfl,?_⟩;generalize upd H o (.tup [.int 2,.int 3])=G at k;rw[inV2]
  by_cases n:d=2\/d=3
  case neg =>
   rw[zJ n];exact iteT ⟨by show 1<=sizeLine;decide,r (λz=>n z.1) G k⟩
  rw[zM n];refine iteF ?_;subst e1;refine lN λB eB=>?_;simp only[iSeq];ext;refine⟨b,⟨_,u.up k⟩,?_⟩;refine jP (g:=nX 2) (tb:=B) (nx:=λ_ H'=>Q .non H') (rt:=Q) (λi l f=>∃v,l=[some (.int d),some (.ref a),v]/\Same H f/\∀s∈ms.take i,(s.1.length:Int)=d) ⟨_,rfl,k,λs c=>by simp at c⟩ (λi l f _⟨_,_,e,_⟩=>u.up e) ?_ ?_
  ·rintro i x l f j ⟨v,rfl,e,hl⟩;rw[zH]at j;cases hp':ps[i]? with
   |none=>rw[hp']at j;cases j
   | some q =>
    rw[hp']at j;cases j;obtain⟨m,p,g⟩:=kB y hp';subst eB;show tIfS _ _ _ _ [some (.int d),some (.ref a),some (.ref q)] f;ext;refine fA (DdS.up g e) λx C=>fM C ?_
    try ext
    by_cases g:(m.1.length:Int)=d
    ·rw[zM g];refine iteF ⟨e,λs c=>?_⟩;rw[yY,p]at c;rcases oW.mp c with c|c
     ·exact hl s c
     ·have:s=m:=by simpa using c
      rw[this];exact g
    ·rw[zJ g];exact iteT ⟨by show 1<=sizeLine;decide,r (λz=>g (z.2 m (zqb p))) f e⟩
  ·rintro l f ⟨v,rfl,e,hl⟩;rw[zqe,mU y,rG]at hl;exact F ⟨n,hl⟩ f e
theorem ok_17(T:Txt K mg t):∀n:Nat,FnOk P w K mg base CX0 (n+2) t.a_17 t.d_17 ["thing"] (sp_17 n):=by
 intro n
 induction n with
 |zero =>
  apply T.F_17.ok sc_17
  ·obtain⟨x,rfl,⟨i,rfl⟩,m⟩:=h;refine⟨_,(nJ (mF (lP (mS (Ib T.h_r T.h_s) (by rfl) T.z_isinstance (nofun) (nH (pq 0) (nH (kQ (nH (jD (v:=.ty "list") rfl T.z_list (nofun) rfl) (nH (jD (v:=.ty "tuple") rfl T.z_tuple (nofun) rfl) nI))) nI)))) Nw mE) (nM (nV (pq 0)))),?_⟩;show tSeq _ _ _ [some (.int i)] H;ext;refine⟨by show 2<=sizeLine;decide,λp k=>⟨_,p,false,rfl,nN,.inl ⟨i,rfl,rfl⟩,false,rfl,?_⟩⟩;refine iteF ?_;exact m _ _ (Same.new k) rfl
 | succ n q =>
  have D:=q;apply T.F_17.ok sc_17
  ·obtain⟨x,rfl,⟨a,xs,rfl,g,hl,F⟩,m⟩:=h;refine⟨_,(nJ (mF (lP (mS (Ib T.h_r T.h_s) (by rfl) T.z_isinstance (nofun) (nH (pq 0) (nH (kQ (nH (jD (v:=.ty "list") rfl T.z_list (nofun) rfl) (nH (jD (v:=.ty "tuple") rfl T.z_tuple (nofun) rfl) nI))) nI))))
   (nM (nV (lE (sc:=nP s_17) (N:=N_17) (fr:=[]) (te:=(kJ (sp_17 n) [] E0 (mH (tVar 0) tNil))) rfl rfl (nofun) rfl (nofun) (mT (pq 0)) (λ_ _ _ S=>(nS D hr.mo T.F_17 (nH (pv 0) nI))))))
   mE)
   (nM (nV (pq 0)))),?_⟩
   show tSeq _ _ _ [some (.ref a)] H;ext;refine⟨by show 2<=sizeLine;decide,λp k=>⟨_,p,true,rfl,nN,.inr ⟨a,xs,rfl,Same.new k _ _ g,rfl⟩,true,rfl,?_⟩⟩;refine iteT ?_;have b:Same H (upd H p (.tup [.ty "list",.ty "tuple"])):=Same.new k;generalize upd H p (.tup [.ty "list",.ty "tuple"])=R at b;exfalso;refine⟨false,⟨_,SqB.lst (b _ _ g)⟩,λl o=>?_⟩;refine kX (λi y f=>∃x,xs[i]?=some x/\CpR n x H y (offH l f)) o (SqB.lst (b _ _ g)) hl (λ_ _ _ _⟨x,e,h⟩z=>⟨x,e,h.up (Ev z)⟩) ?_ ?_
   ·intro i x f zs c d L G N;subst eB;show kJ _ _ _ _ [some x] f G;ext;exact⟨x,rfl,(F x (zqb c)).up (b.trans d),λy V M cp=>N _ _ M ⟨x,c,(cp.off L).dn (b.trans d)⟩⟩
   ·intro f ys d C I J;refine m _ _ (b.trans d) λU O e h=>?_;cases e;rw[g]at h;cases h;refine⟨l,ys,rfl,Aj b o,C,I,λj u v e1 r=>?_⟩;obtain⟨x,c,cp⟩:=J j v r;rw[e1]at c;cases c;exact cp.up Ew
theorem ok_3(T:Txt K mg t):FnOk P w K mg base CX0 6 t.a_3 t.d_3 pv' (Wv t.a_d):=by
 have x:=ok_17 (P:=P) (w:=w) (base:=base) T 2;apply T.F_3.ok sc_3
 ·obtain⟨e,a,M,rfl,c,k,l1,l2,G⟩:=h;have C:=k.cp l1 l2;obtain⟨R,u,I⟩:=k;have n:=2;refine⟨_,(nJ (gM (Uk rfl T.m_19 T.h_9 (nH (pq 0) (nH iJ nI))))
   (nM (Uh T.h_a (nS x hr.mo T.F_17 (nH (pq 1) nI)) (pq 0)))),?_⟩
  show tSeq _ _ _ [some (.ref e),some (.ref a)] H;unfold Ie IdX;ext;refine⟨none,c,by show 1<=sizeLine;decide,.ref a,rfl,C,λy O d F=>?_⟩;obtain⟨l,ys,rfl,N,hl,r,cp⟩:=F a _ rfl u;obtain⟨vs,rfl,D⟩:=Jj I (by simpa using r) cp;refine⟨d _ _ c,λi f ne=>?_⟩;have le:l≠e:=λz=>by rw[z,d _ _ c]at hl;cases hl
  have J:l≠i:=λz=>by rw[z,f]at hl;cases hl
  refine G i _ (λb o L z=>?_) nN ⟨l,?_,vs,?_,Paired.mapP D λp w⟨j,g⟩=>?_⟩
  ·rw[nO L,nO (λq=>by rw[q]at z;rw[d _ _ z]at f;cases f)];exact d _ _ z
  ·rw[iI ne,nO ne,nN]
  ·rw[iI le,nO le,nO J];exact hl
  ·have m:p≠e:=λz=>by rw[z,c]at j;cases j
   have v:p≠i:=λz=>by rw[z,f]at g;cases g
   rw[iI m,nO m,nO v];exact g
theorem Wl{d:Nat}{x:Dd}{w:List Nat}{tb:Tb}{ks:Dd×Nat}:(nxt d x w tb ks).length<=tb.length+1:=by
 unfold nxt;split
 ·omega
 ·rw[yA];exact zE _
theorem Er{K:Frag}{a:Addr}{H:Hp}{xs:List V}(e:H a=some (.lst xs)):TK K H (offH a H):=TK.off e (λ_ z=>by cases z) (λ_ _ z=>by cases z) λc b=>by unfold offH;rw[zD b]
def DdR(K:Frag)(a:Addr)(ms:List Dd)(j:Nat)(y:V)(H:Hp):Prop:=∃q m,y=.ref q/\ms[j]?=some m/\DdAt K (offH a H) q m
theorem DdR.mono{K:Frag}{a:Addr}{ms:List Dd}(i:Nat)(y:V)(b c:Hp)(h:DdR K a ms i y b)(s:jO a b c):DdR K a ms i y c:=let ⟨q,m,e,f,d⟩:=h;⟨q,m,e,f,d.up (Ev s)⟩
theorem Jc{a:Type}{F:Addr->a->Prop}{D:List a}{ys:List V}(hl:ys.length=D.length)(h:∀(j:Nat) y,ys[j]?=some y->∃p e,y=V.ref p/\D[j]?=some e/\F p e):∃ps:LA,ys=ps.map V.ref/\Paired F ps D:=by
 induction D generalizing ys with
 |nil =>
  obtain rfl:=vG hl;exact⟨[],rfl,.nil⟩
 |cons m ms b =>
  obtain⟨y,ys,rfl⟩:=List.exists_cons_of_length_eq_add_one hl;obtain⟨q,l,rfl,i,d⟩:=h 0 y rfl;cases i;obtain⟨c,rfl,k⟩:=b (pG hl) λj f g=>h (j+1) f g;exact⟨q:: c,rfl,.cons d k⟩
theorem Jb{K:Frag}{a:Addr}{H:Hp}{ms:List Dd}{ys:List V}(hl:ys.length=ms.length)(h:∀j y,ys[j]?=some y->DdR K a ms j y H):∃c:LA,ys=c.map V.ref/\Paired (DdAt K H) c ms:=Jc hl λj y e=>by
 obtain⟨q,m,a,b,d⟩:=h j y e;exact⟨q,m,a,b,d.up Ew⟩
theorem jC{H:Hp}{p:Addr}{x:V}{xs:List V}{i:Nat}{I:Int}{Q:VK}(e:H p=some (.lst xs))(a:xs[i]?=some x)(hi:I=i)(q:Q x H):rIxB K (.ref p) (.int I) H Q:=⟨false,p,_,_,_,rfl,rfl,SqB.lst e,jH a hi,q⟩
theorem tyL{H:Hp}{p:Addr}{xs:List V}(e:H p=some (.lst xs)):tyV K "list" (.ref p) H:=.inl ⟨rfl,xs,.inl (.inl e)⟩
theorem Ep{c e d:Type}{F:c->d->Prop}{f:e->d}:∀{xs:List c}{ys:List e},Paired (λa b=>F a (f b)) xs ys->Paired F xs (ys.map f)
 |_,_,.nil=>.nil
 |_,_,.cons h hh=>.cons h (Ep hh)
theorem iB.up{H H':Hp}{l:Addr}{a:List (List Nat)}(h:iB H l a)(s:Same H H'):iB H' l a:=let ⟨d,b,c⟩:=h;⟨d,s _ _ b,Paired.mapP c λ_ _ z=>s _ _ z⟩
def CPv(K:Frag)(H0:Hp)(G:Nat->Dd->Prop)(qs:LA)(ss:List Dd)(a as af aw:Addr)(d i most:Nat)(f:Nat->Tb)(k:Nat)(σ:St)(H:Hp):Prop:=
 ∃v7 v8 v9,σ=[some (.int d),some (.ref a),some (.int most),some (.ref as),some (.ref af),some (.ref aw),some (.int i),v7,v8,v9]/\CI K H0 qs ss as af aw (f k) H/\ND d ss (f k)/\(∀y∈f k,G y.2.length y.1)/\(f k).length<=most
theorem ok_12(T:Txt K mg t):FnOk P w K mg base (CX1 P w) 10 t.a_12 t.d_12 pt' (sp_12 K t.a_d):=by
 have j0:=@ok_1i P w K mg base t T;have o1:=@ok_1e P w K mg base t T;have q0:=@ok_1a P w K mg base t T;have s0:=@ok_3 P w K mg base t T;refine T.F_12.okX sc_12 (λvs H Q E h=>?_) (λcdv A outer s H vs Q E hr h=>?_)
 ·obtain⟨b,d,a,ps,ms,most,O,rfl,_⟩:=h;rfl
 ·have d4:=hr.units;obtain⟨b,d,a,ps,ms,most,O,rfl,t4,m4,k0,w6,⟨p7,q9,m8,t5,u1⟩,p2,u9,p1,n7⟩:=h;refine⟨_,(nJ (Rp (i:=3) (sc:=nP s_12) (N:=N_12) (fr:=[]) (te:=(kJ (sp_1i K) [] E0 (mH (tVar 0) tNil))) rfl rfl (nofun) rfl sc_12.nd rfl rfl (nofun) (mT (pq 1)) (λ_ _ _ t9=>(nS j0 hr.mo T.F_1i (nH (pv 0) nI))))
   (nJ (nU (i:=4) sc_12.nd rfl (Or.inl rfl) (mQ (nH (nS o1 hr.mo T.F_1e (nH (pq 0) nI)) nI)))
   (nJ (nU (i:=5) sc_12.nd rfl (Or.inr rfl) (Hh d4 (nY (pq 4)) (mQ nI)))
   (nJ (nU (i:=6) sc_12.nd rfl (Or.inl rfl) nK)
   (nJ (Bu qU (mB fZ (pq 6) (lC T.z_len (pq 4)) (mD _))
   (nJ (lJ qU rfl (bY rfl T.z_enumerate (nH (pq 3) nI)) (gO rfl (kP (mP (i:=7) sc_12.nd rfl (Or.inl rfl)) (kP (mP (i:=8) sc_12.nd rfl (Or.inl rfl)) gN)))
   (nJ (nU (i:=9) sc_12.nd rfl (Or.inl rfl) (nS j0 hr.mo T.F_1i (nH (nS q0 hr.mo T.F_1a (nH (mG ix_B (pq 4) (pq 6) (λ_ _=>rfl)) (nH (pq 8) nI))) nI)))
   (nJ (mF (mB (aI d4) (pq 9) (pq 5) rfl)
   (nJ (jS (nR eN (mG (ix_T d4) (pq 5) (mG ix_B (pq 4) (pq 6) (λ_ _=>rfl)) (λ_ _=>rfl)) (mQ (nH (pq 7) nI))) (iE (pq 5) (pq 9) (cM d4)))
   (nM (gM (eJ wL vD vB eK (pq 4) (nH (pq 9) nI)))))
   mE)
   (nM (mF (mB iW (lC T.z_len (pq 4)) (pq 2) (mD _))
   (nM (Uo rfl Us rfl T.m_d T.h_9.cl yR s0 hr.mo T.b_3 fJ (nH (lE (sc:=nP s_12) (N:=N_12) (fr:=[("words",5)]) (te:=(tOp (aH K) (tVar 1) (tVar 0))) rfl rfl (nofun) rfl (nofun) (mT (pq 4)) (λ_ _ _ t9=>(mG (ix_T d4) (pv 1) (pv 0) (λ_ _=>rfl)))) nI)))
   mE)))))
   (nM (Fr (i:=6) sc_12.nd rfl (Or.inl rfl) nK Fq))))
   (nM (nV (pq 5)))))))),?_⟩
  show tSeq _ _ _ [some (.int d),some (.ref a),some (.int most),none,none,none,none,none,none,none] H;have w5:ps.length=ms.length:=mU k0;right;exfalso;refine⟨b,⟨_,m4⟩,λas i4=>?_⟩;refine kX (DdR K as (ms.map nQ)) i4 m4 (by rw[zqe];omega) DdR.mono ?_ ?_
  ·intro i x l3 zs e8 c6 l7 h5 h9;obtain⟨q,t2,rfl⟩:=jL e8;obtain⟨m,n0,q2⟩:=kB k0 t2;have h6:=p7 m (zqb n0);subst eB;show kJ _ _ _ _ [some (.ref q)] l3 h5;ext;refine⟨q,m.1,m.2.1,m.2.2,rfl,DdS.up q2 c6,by rw[h6.sq.1];omega,by rw[h6.len];omega,h6.pos,λr L v c8=>?_⟩;refine h9 _ _ v ⟨r,nQ m,rfl,by rw[zH,n0];rfl,?_⟩;exact DdAt.tk (show DdAt K L r (nQ m) from c8) (Er (v _ _ l7))
  ·intro l3 ys c6 e7 m0 f1;obtain⟨N,rfl,l4⟩:=Jb (by rw[m0,zqe,zqe];omega) f1;left;refine⟨d,rfl,t4,λa7 L v i8=>⟨by show 1<=sizeLine;decide,λg c1=>?_⟩⟩;have d1:Same L (upd L g (.lst [.ref a7])):=Same.new c1;have b8:(upd L g (.lst [.ref a7])) g=some (.lst [.ref a7]):=nN;generalize upd L g (.lst [.ref a7])=b3 at*
   have d5:DdAt K b3 a7 (mO d):=DdAt.up i8 d1;have e5:=d1 _ _ (v _ _ e7);have i7:=Paired.mapP l4 λ_ _ z=>z.up (v.trans d1);have g7:=(c6.trans v).trans d1;have t3:H g=none:=by
    cases z:H g with
    |none=>rfl
    |some o=>rw[v _ _ (c6 _ _ z)]at c1;cases c1
   have r5:as≠g:=λz=>by rw[z]at e7;rw[v _ _ e7]at c1;cases c1
   subst e1;refine st λN1 e1=>?_;simp only[Cp];ext;intro f a0;have X:Same b3 (upd b3 f (lD f [])):=Same.new a0;have b0:(upd b3 f (lD f [])) f=some (lD f []):=nN;have k8:H f=none:=by
    cases z:H f with
    |none=>rfl
    |some o=>rw[g7 _ _ z]at a0;cases a0
   generalize upd b3 f (lD f [])=f0 at*;ext;refine jC (i:=0) (X _ _ b8) rfl rfl ?_;refine⟨zY _,λa3 b9=>?_⟩;have S:Same f0 (upd f0 a3 (.lst [])):=Same.new b9;have ep:(upd f0 a3 (.lst [])) a3=some (.lst []):=nN;have l6:a3≠g:=λz=>by rw[z,X _ _ b8]at b9;cases b9
   have d9:a3≠f:=λz=>by rw[z,b0]at b9;cases b9
   generalize upd f0 a3 (.lst [])=p5 at*;refine⟨a7,rfl,dat (mO d),kH _,(DdAt.up d5 (X.trans S)).dt,S _ _ b0,λj9 b5 i2=>?_⟩;have m6:∀b o,H b=some o->b≠f:=λb o e z=>by rw[z,k8]at e;cases e
   have g1:TK K p5 j9:=TK.off (S _ _ b0) (λ_ z=>by cases z) (λ_ _ z=>by cases z) b5;have f2:as≠f:=λz=>by rw[z]at e5;rw[e5]at a0;cases a0
   have d3:g≠f:=λz=>by rw[z]at b8;rw[b8]at a0;cases a0
   have R:CI K H N (ms.map nQ) as g f [(mO d,[])] j9:=⟨λb o e=>by rw[b5 b (m6 b o e)];exact S _ _ (X _ _ (g7 _ _ e)),⟨by rw[b5 _ f2];exact S _ _ (X _ _ e5),Paired.mapP i7 λ_ _ z=>DdAt.tk (z.up (X.trans S)) g1⟩,
    ⟨[a7],by rw[b5 _ d3];exact S _ _ (X _ _ b8),.cons (DdAt.tk (DdAt.up d5 (X.trans S)) g1) .nil⟩,⟨_,i2,.cons ⟨rfl,a3,rfl,l6,by rw[b5 _ d9];exact ep⟩ .nil⟩,i4,t3,k8,r5⟩
   clear i2 g1 ep l6 d9 b9 S b0 X a0 i7 e5 d5 b8 d1 c1 i8 v l4 f1 m0 e7 c6 g7 d3 f2 m6 b5;left;subst e1;refine st λN1 e1=>Pd λB eB=>?_;refine⟨λm c4 H'=>∃(i:Nat)(tb:Tb)(F D C:Option V),c4=[some (.int d),some (.ref a),some (.int most),some (.ref as),some (.ref g),some (.ref f),some (.int i),F,D,C]/\CI K H N (ms.map nQ) as g f tb H'/\mL d (ms.map nQ) (201-i) i tb=mL d (ms.map nQ) 201 0 [(mO d,[])]/\ND d (ms.map nQ) tb/\(∀y∈tb,O y.2.length y.1)/\tb.length<=most/\m=201-i,
    ⟨201,0,_,none,none,none,rfl,R,rfl,⟨by simp,λy U=>by rw[List.mem_singleton.mp U];exact Nat.zero_lt_one,λy U=>by rw[oP.mp U];exact⟨rfl,λ_ h=>(by cases h)⟩⟩,λy U=>by rw[oP.mp U];exact t5,p2,rfl⟩,?_⟩
   clear R;rintro m c4 n4 ⟨i,tb,F,D,C,rfl,R,M,nd,k9,m9,rfl⟩;ext;obtain⟨fs,r4,u4⟩:=R.fo;have fl:fs.length=tb.length:=mU u4;refine⟨false,g,_,rfl,SqB.lst r4,?_⟩
   try ext
   rw[zqe,fl]
   by_cases hi:i<tb.length
   case neg =>
    rw[zJ ⋯];refine iteF ?_;symm;rw[Wu ⋯]at M;obtain⟨kvs,c2,b4⟩:=R.wo;refine p1 (by rw[←M];exact m9) ⟨by rw[←M];exact nd.1,λy U=>by rw[←M]at U;exact⟨k9 y U,by have:=nd.2.1 y U;omega⟩⟩ f kvs n4 R.s R.n3 c2 ?_;rw[←M];exact Paired.mapP b4 λ_ _ z=>let ⟨a5,p,Z,_,d6⟩:=z;⟨a5,p,Z,d6⟩
   rw[zM (show(i:Int)<tb.length by omega)];obtain⟨⟨x,u⟩,e8⟩:∃d9,tb[i]?=some d9:=⟨_,zqd hi⟩;have q8:0<201-i:=⋯
   rw[Ws hi q8,Wq e8]at M;have w1:((ms.map nQ).zipIdx.foldl (nxt d x u) tb).length<=(mL d (ms.map nQ) 201 0 [(mO d,[])]).length:=by
    obtain⟨r,o7⟩:=Ex d (ms.map nQ) (201-i-1) (i+1) ((ms.map nQ).zipIdx.foldl (nxt d x u) tb);rw[←M,o7,yA];omega
   refine iteT ⟨λj4 H'=>∃(a8:Tb)(F D C:Option V),j4=[some (.int d),some (.ref a),some (.int most),some (.ref as),some (.ref g),some (.ref f),some (.int (i+1:Nat)),F,D,C]/\CI K H N (ms.map nQ) as g f a8 H'/\mL d (ms.map nQ) (201-(i+1)) (i+1) a8=mL d (ms.map nQ) 201 0 [(mO d,[])]/\ND d (ms.map nQ) a8/\(∀y∈a8,O y.2.length y.1)/\a8.length<=most,?_,?_⟩
   ·rintro j4 H' ⟨a8,F,D,C,rfl,k1,k2,k3,h2,k5⟩;exact⟨201-(i+1),⋯,i+1,a8,F,D,C,rfl,k1,k2,k3,h2,k5,rfl⟩
   subst eB;refine st λw9 b6=>lN λB eB=>?_;simp only[cK];ext;refine⟨false,⟨_,SqB.lst R.st.1⟩,?_⟩;refine Ho (g:=gTup K 2 (kC (nX 7) (kC (nX 8) gNil))) (tb:=B) (CPv K H O N (ms.map nQ) a as g f d i most (part d x u (ms.map nQ) tb))
    ⟨_,_,_,rfl,R,nd,k9,m9⟩ (λk c4 H' _⟨_,_,_,_,c,_⟩=>SqB.lst c.st.1) ?_ ?_
   ·rintro k y p c4 j3 u6 ⟨F,D,C,rfl,a9,Y,c7,g2⟩ r6;obtain⟨q,l5,rfl⟩:=jL u6;obtain⟨l,W,_⟩:=kB a9.st.2 l5;have q1:=Same.new (o:=.tup [.int (k:Int),.ref q]) r6;refine⟨p,[.int k,.ref q],rfl,SqT.of nN,rfl,_,[.ref q],rfl,_,[],rfl,rfl,?_⟩;have f8:=a9.up q1;generalize upd j3 p (.tup [.int (k:Int),.ref q])=p4 at*
    clear a9;obtain⟨w0,s3⟩:=Wo (d:=d) (x:=x) (w:=u) (ss:=ms.map nQ) (tb:=tb) k;have I:(part d x u (ms.map nQ) tb k)[i]?=some (x,u):=by rw[s3,yB hi];exact e8
    have v0:=Jd (d:=d) (x:=x) (w:=u) (ss:=ms.map nQ) (tb:=tb) k;have u7:=Jd (d:=d) (x:=x) (w:=u) (ss:=ms.map nQ) (tb:=tb) (k+1);have p9:∀F D C H',CI K H N (ms.map nQ) as g f (nxt d x u (part d x u (ms.map nQ) tb k) (l,k)) H'->O (u.length+1) (mJ d x l)->(nxt d x u (part d x u (ms.map nQ) tb k) (l,k)).length<=most->CPv K H O N (ms.map nQ) a as g f d i most (part d x u (ms.map nQ) tb) (k+1) [some (.int d),some (.ref a),some (.int most),some (.ref as),some (.ref g),some (.ref f),some (.int i),F,D,C] H':=λF D C H' c gs r3=>⟨F,D,C,rfl,by rw[cZ W];exact c,by rw[cZ W];exact Es Y (zqb I) W,by rw[cZ W];exact Wm c7 gs,by rw[cZ W];exact r3⟩;rw[cZ W]at u7;generalize CPv K H O N (ms.map nQ) a as g f d i most (part d x u (ms.map nQ) tb) (k+1)=w2 at*
    generalize part d x u (ms.map nQ) tb k=tk at*;obtain⟨j5,n3,i9⟩:∃m∈ms,nQ m=l:=by
     have:=zqb W;obtain⟨m,q7,t6⟩:=nD.mp this;exact⟨m,q7,t6⟩
    have j7:O u.length x:=c7 _ (zqb I);have w7:u.length<tk.length:=Y.2.1 _ (zqb I);have gs:O (u.length+1) (mJ d x l):=by rw[←i9];exact u1 _ x j5 ⋯ j7 n3
    have s2:=m8 _ x ⋯ j7;have fs':kI d l:=by rw[←i9];exact q9 j5 n3
    have h4:=m8 _ _ ⋯ gs;subst eB;show tSeq _ _ _ [some (.int d),some (.ref a),some (.int most),some (.ref as),some (.ref g),some (.ref f),some (.int i),some (.int k),some (.ref q),C] p4;refine st λw3 f6=>?_;ext;obtain⟨o5,o9,k7⟩:=f8.fo;obtain⟨f9,i5⟩:∃f9,o5[i]?=some f9:=⟨_,zqd (by rw[mU k7];exact(zqa I).1)⟩;obtain⟨w8,k4,t7⟩:=kB k7 i5;rw[I]at k4;cases k4;obtain⟨v7,m1,r7⟩:=kB f8.st.2 l5;rw[W]at m1;cases m1;refine jC (i:=i) o9 (by rw[zH,i5];rfl) rfl ?_;refine⟨f9,q,x.1,l.1,x.2.1,l.2.1,x.2.2,l.2.2,d,rfl,kM.s t7,kM.s r7,s2,fs',⋯,⋯,λr1 o0 n5 f1=>?_⟩;have u0:DdAt K o0 r1 (behD d x l):=f1;refine⟨r1,_,_,_,rfl,kM.s u0,?_,?_,h4.pos,λr2 a2 s5 c8=>?_⟩
    ·have:=h4.sq.1;show(mulM d l.1 x.1).length<=100;have:(mulM d l.1 x.1).length=d:=this;omega
    ·have:=h4.len;have e:(lR (behD d x l).2.2 (behD d x l).2.1).length=(behD d x l).2.1.length:=by unfold lR;simp
     have:(lR (behD d x l).2.2 (behD d x l).2.1).length=d:=this;omega
    have l1:DdAt K a2 r2 (mJ d x l):=c8;have e4:=f8.up (n5.trans s5);subst f6;show tSeq _ _ _ [some (.int d),some (.ref a),some (.int most),some (.ref as),some (.ref g),some (.ref f),some (.int i),some (.int k),some (.ref q),some (.ref r2)] a2;refine st λt0 i1=>?_;have j1:∀H',CI K H N (ms.map nQ) as g f (nxt d x u tk (l,k)) H'->t0 [some (.int d),some (.ref a),some (.int most),some (.ref as),some (.ref g),some (.ref f),some (.int i),some (.int k),some (.ref q),some (.ref r2)] H':=by
     intro H' d7;subst i1;ext;obtain⟨v9,g3,f3⟩:=d7.fo;refine⟨false,g,_,rfl,SqB.lst g3,?_⟩
     try ext
     rw[zqe,mU f3]
     by_cases o2:(nxt d x u tk (l,k)).length<=most
     ·rw[zJ ⋯];refine iteF ?_;exact p9 _ _ _ H' d7 gs o2
     ·rw[zM ⋯];refine iteT ?_;have t8:=n7 ⋯;obtain⟨v1,p0,s9⟩:=d7.wo;exfalso;refine⟨false,⟨_,SqB.lst g3⟩,λh1 g6=>?_⟩;have d2:=Es (ks:=(l,k)) Y (zqb I) W;have v6:=Wl (d:=d) (x:=x) (w:=u) (tb:=tk) (ks:=(l,k));generalize nxt d x u tk (l,k)=d8 at*
      refine kX (WdR h1 d8) g6 (SqB.lst g3) (by rw[zqe,mU f3];omega) (λ_ _ _ _⟨p,m,e1,b6,f6,i1⟩o3=>⟨p,m,e1,b6,f6,o3 _ _ b6 i1⟩) ?_ ?_
      ·intro j c5 L zs u8 v l7 h5 h9;obtain⟨q5,n9,rfl⟩:=jL u8;obtain⟨e0,g0,d5⟩:=kB f3 n9;subst eB;show tOp _ _ _ [some (.ref q5),some (.ref f)] L h5;ext;rcases Et (x:=e0.1) s9 with⟨a4,_⟩|⟨l9,e9,a4,h0,r0,c3⟩
       ·exact absurd (nD.mpr ⟨_,zqb g0,rfl⟩) a4
       refine fV (p0.up v) (kH _) (DdAt.dt (d5.up v)) h0 ?_;have b0:=Je d2.1 (x:=e0.1) (w:=e0.2) g0 a4;refine h9 _ _ (Same.refl _) ⟨e9,e0,rfl,(λz=>by rw[z]at c3;rw[c3]at g6;cases g6),g0,by rw[b0];exact v _ _ c3⟩
      ·intro L ys v b6 o8 c8;have s6:d8.length=most+1:=⋯
       obtain⟨s4,rfl,u5⟩:=Eu (by rw[o8,zqe,mU f3]) c8;have q3:iB L h1 (d8.map (·.2)):=⟨s4,b6,Ep u5⟩;refine⟨by show 1<=sizeLine;decide,λe i3=>?_⟩;have u3:=Same.new (o:=XObj e t.a_d none) i3;refine⟨e,h1,_,rfl,nN,q3.up u3,by rw[zqe];omega,λw' n8=>?_,λo6 b3 k3 h2 k5=>⟨rfl,_,h2,?_⟩⟩
       ·obtain⟨c5,e6,rfl⟩:=nD.mp n8;have:=d2.2.1 c5 e6;omega
       ·refine t8 o6 _ (λb o p3=>?_) ⟨d8,k5,s6,d2.1,λc5 e6=>⟨d2.2.2 c5 e6,by have:=d2.2.1 c5 e6;omega⟩⟩;have f7:=v _ _ (d7.s b o p3);have h3:b≠e:=λz=>by rw[z,i3]at f7;cases f7
        rw[iI h3];exact k3 b o h3 (by rw[nO h3];exact f7)
    ext;obtain⟨kvs,c2,b4⟩:=e4.wo;refine cY c2 (kH _) l1.dt ?_;rcases Et (x:=mJ d x l) b4 with⟨a5,Z⟩|⟨l9,e9,a5,Z,l0,d6⟩
    case inr =>
     rw[Z]
     try ext
     refine j1 a2 ?_;have g4:nxt d x u tk (l,k)=tk:=zF (nD.mpr ⟨_,a5,rfl⟩);rw[g4];exact e4
    rw[Z]
    try ext
    rw[zF (by rfl)];obtain⟨a6,g8,f4⟩:=e4.fo;obtain⟨j6,j8⟩:∃j6,a6[i]?=some j6:=⟨_,zqd (by rw[mU f4];exact(zqa I).1)⟩;obtain⟨v5,m3,o4⟩:=kB f4 j8;rw[I]at m3;cases m3;refine jC (i:=i) g8 (by rw[zH,j8];rfl) rfl ?_;rcases Et (x:=x) b4 with⟨a4,_⟩|⟨l9,e9,a4,h0,r0,c3⟩
    ·exact absurd (nD.mpr ⟨_,zqb I,rfl⟩) a4
    have s1:=Je Y.1 I a4;subst s1;have v8:u.length<tk.length:=Y.2.1 _ (zqb I);have v4:tk.length=kvs.length:=mU b4;have hsz:1000<=sizeLine:=∅
    refine fV c2 (kH _) (DdAt.dt o4) h0 ?_;refine⟨by show 1<=sizeLine;decide,λd0 r9=>?_⟩;have e3:Same a2 (upd a2 d0 (.lst [.int k])):=Same.new r9;have r8:(upd a2 d0 (.lst [.int k])) d0=some (.lst [.int k]):=nN;generalize upd a2 d0 (.lst [.int k])=e2 at*
    refine⟨e9,d0,_,_,rfl,rfl,e3 _ _ c3,r8,by rw[zqe];show u.length+1<=sizeLine;omega,λG h8=>?_⟩;have k6:Same e2 (upd e2 G (.lst ((u.map λn=>V.int (n:Nat))++[.int k]))):=Same.new h8;have m2:(upd e2 G (.lst ((u.map λn=>V.int (n:Nat))++[.int k]))) G=some (.lst ((u.map λn=>V.int (n:Nat))++[.int k])):=nN;have J:=e4.up (e3.trans k6);have i6:G≠g:=λz=>by rw[z,e3 _ _ g8]at h8;cases h8
    generalize upd e2 G (.lst ((u.map λn=>V.int (n:Nat))++[.int k]))=i0 at*;have c9:=e3.trans k6;have n2:=c2.up c9;have p6:=Paired.mapP b4 λ_ _ z=>(let ⟨a5,p,Z,l0,d6⟩:=z;⟨a5,p,Z,l0,c9 _ _ d6⟩:_/\∃p,_/\p≠g/\i0 p=_);have m5:=DdAt.up l1 c9;have g5:=c9 _ _ g8;have s8:=Paired.mapP f4 λ_ _ z=>DdAt.up z c9;simp only[gSub];ext;have g4:nxt d x u tk (l,k)=tk++[(mJ d x l,u++[k])]:=zD a5;have q4:pT kvs (dat (mJ d x l)) (.ref G)=kvs++[(dat (mJ d x l),.ref G)]:=by
     unfold pT;rw[Z];rfl
    obtain⟨w4,f5,_,_⟩:=n2.ex;have d3:g≠f:=λz=>by rw[z,f5]at g5;cases g5
    have f2:as≠f:=λz=>by have:=J.st.1;rw[z,f5]at this;cases this
    refine⟨f,kvs,r2,dat (mJ d x l),rfl,rfl,n2,kH _,m5.dt,⋯,λa1 _ b7 l8=>?_⟩;rw[q4]at l8;have t1:DTr K a1 f (kvs++[(dat (mJ d x l),V.ref G)]):=l8;have tk1:TK K i0 a1:=TK.off f5 (λ_ z=>by cases z) (λ_ _ z=>by cases z) b7;have g9:a1 g=some (.lst (a6.map V.ref)):=by rw[b7 g d3];exact g5
    refine⟨tyL g9,g,_,_,rfl,rfl,g9,by rw[zqe,mU f4];omega,j1 _ ?_⟩;rw[g4];have c0:∀c,c≠g->upd a1 g (.lst (a6.map V.ref++[.ref r2])) c=a1 c:=λc M=>nO M;have q6:upd a1 g (.lst (a6.map V.ref++[.ref r2])) g=some (.lst (a6.map V.ref++[.ref r2])):=nN;generalize upd a1 g (.lst (a6.map V.ref++[.ref r2]))=p8 at*
    have m7:TK K a1 p8:=TK.off g9 (λ_ z=>by cases z) (λ_ _ z=>by cases z) c0;have h7:=tk1.trans m7;have j2:∀p xs,i0 p=some (.lst xs)->p≠f:=λp xs e z=>by rw[z,f5]at e;cases e
    refine⟨λb o e=>?_,⟨?_,Paired.mapP J.st.2 λ_ _ z=>DdAt.tk z h7⟩,⟨a6++[r2],by rw[q6];simp,Paired.snoc (Paired.mapP s8 λ_ _ z=>DdAt.tk z h7) (DdAt.tk m5 h7)⟩,⟨kvs++[(dat (mJ d x l),V.ref G)],DTr.tk t1 m7 (c0 f (zT d3)),Paired.snoc (Paired.mapP p6 λ_ _ z=>?_) ⟨rfl,G,rfl,i6,?_⟩⟩,J.n1,J.n2,J.n3,J.x1⟩
    ·have b1:b≠g:=λz=>by rw[z,J.n2]at e;cases e
     have b2:b≠f:=λz=>by rw[z,J.n3]at e;cases e
     rw[c0 b b1,b7 b b2];exact J.s b o e
    ·rw[c0 as J.x1,b7 as f2];exact J.st.1
    ·obtain⟨s7,p,n6,l2,n1⟩:=z;refine⟨s7,p,n6,l2,?_⟩;rw[c0 p l2,b7 p (j2 _ _ n1)];exact n1
    ·rw[c0 G i6,b7 G (j2 _ _ m2),m2];simp
   ·rintro c4 j3 ⟨F,D,C,rfl,a9,Y,c7,g2⟩;have u2:(N.map V.ref).length=(ms.map nQ).length:=by rw[zqe];exact mU a9.st.2
    rw[u2,Wp]at a9 Y c7 g2;subst b6;refine⟨.int i,rfl,?_⟩;unfold tC ipI;refine⟨i,1,rfl,rfl,?_⟩;refine⟨_,F,D,C,rfl,a9,?_,Y,c7,g2⟩;rw[show 201-(i+1)=201-i-1 by omega];exact M
theorem Eo:∀{l a:LI'},l.length=a.length->smA (l.map PyData.int) (a.map PyData.int)=true
 |[],[],_=>rfl
 |_:: l,_:: a,h=>by
  show(sm (.int _) (.int _) && smA (l.map PyData.int) (a.map PyData.int))=true;rw[Eo (by simpa using h)];rfl
theorem Ja{d:Nat}:∀{M a:LM},M.length=a.length->(∀r∈M,r.length=d)->(∀r∈a,r.length=d)->smA (M.map λr=>PyData.tuple (r.map PyData.int)) (a.map λr=>PyData.tuple (r.map PyData.int))=true
 |[],[],_,_,_=>rfl
 |r:: M,e:: a,h,c,f=>by
  show(smA (r.map PyData.int) (e.map PyData.int) && smA (M.map λr=>PyData.tuple (r.map PyData.int)) (a.map λr=>PyData.tuple (r.map PyData.int)))=true;rw[Eo ((c r (.head _)).trans (f e (.head _)).symm),Ja (by simpa using h) (λx b=>c x (.tail _ b)) λx b=>f x (.tail _ b)];rfl
theorem En{d:Nat}{x y:Dd}(a:kI d x)(b:kI d y):sm (dat x) (dat y)=true:=by
 show(smA (x.1.map λr=>PyData.tuple (r.map PyData.int)) (y.1.map λr=>PyData.tuple (r.map PyData.int)) && (smA (x.2.1.map PyData.int) (y.2.1.map PyData.int) && (sm (.int _) (.int _) && true)))=true;rw[Ja (a.sq.1.trans b.sq.1.symm) a.sq.2 b.sq.2,Eo (a.len.trans b.len.symm)];rfl
def Wk(d:Nat)(lg lo ls ln:Addr):List (Str×V):=[(Str.ofString "dimension",.int d),(Str.ofString "given",.ref lg),(Str.ofString "ordered",.ref lo),(Str.ofString "shortest",.ref ls),(Str.ofString "numbers",.ref ln)]
abbrev fG1(d:Nat):List (Str×V):=[(Str.ofString "dimension",.int d)]
abbrev fG2(d:Nat)(lg:Addr):List (Str×V):=[(Str.ofString "dimension",.int d),(Str.ofString "given",.ref lg)]
abbrev fG3(d:Nat)(lg lo:Addr):List (Str×V):=[(Str.ofString "dimension",.int d),(Str.ofString "given",.ref lg),(Str.ofString "ordered",.ref lo)]
abbrev fG4(d:Nat)(lg lo ls:Addr):List (Str×V):=[(Str.ofString "dimension",.int d),(Str.ofString "given",.ref lg),(Str.ofString "ordered",.ref lo),(Str.ofString "shortest",.ref ls)]
abbrev fG5(d:Nat)(lg lo ls ln:Addr):List (Str×V):=[(Str.ofString "dimension",.int d),(Str.ofString "given",.ref lg),(Str.ofString "ordered",.ref lo),(Str.ofString "shortest",.ref ls),(Str.ofString "numbers",.ref ln)]
def numT(srt:Tb)(n:Nat):List (PyData×V):=(srt.zipIdx n).map λp=>(dat p.1.1,V.int ((p.2:Nat):Int))
structure GrpF(K:Frag)(t:Adr)(H:Hp)(g:Addr)(d:Nat)(ms:List Dd)(srt:Tb):Prop where
 ex:∃dx lg lo ls ln,H g=some (.ins t.a_b dx (Wk d lg lo ls ln))/\(∃gs:LA,H lg=some (.lst (gs.map V.ref))/\Paired (DdS K H) gs ms) /\
  (∃os:LA,H lo=some (.lst (os.map V.ref))/\Paired (λp x=>Dt K H (.ref p) (dat x.1)) os srt) /\
  (∃ws:LA,H ls=some (.lst (ws.map V.ref))/\Paired (λp(x:Dd×List Nat)=>H p=some (.lst (x.2.map λn=>V.int (n:Nat)))) ws srt)/\DTr K H ln (numT srt 0)
def Kz(K:Frag)(t:Adr):Sp:=λvs H Q E=>E8 λ(b:Bool)(d most:Int)(a x dx:Addr)(ps:LA)(ms:List Dd)=>A7 (vs=[.ref x,.int d,.ref a,.int most]) (H x=some (.ins t.a_b dx [])) (SqB b K H a (ps.map V.ref)) (Paired (DdS K H) ps ms) ((¬ (1<=most/\most<=200)->∀H',Same H H'->E (.ref t.a_1f) none H')) (((1<=most/\most<=200)->¬ AxOk d ms->∀H',Same H H'->E (.ref t.a_1d) none H')) (((1<=most/\most<=200)->AxOk d ms->∃(G:Nat->Dd->Prop)(d' m':Nat),d=d'/\most=m'/\ms.length<=200/\Ak d' ms G/\((mL d' (ms.map nQ) 201 0 [(mO d',[])]).length<=m'->(((mL d' (ms.map nQ) 201 0 [(mO d',[])]).map (·.1)).Nodup/\∀y∈mL d' (ms.map nQ) 201 0 [(mO d',[])],G y.2.length y.1/\y.2.length<=200)->∀srt H',(∀b o,b≠x->H b=some o->H' b=some o)->GrpF K t H' x d' ms srt->srt.Perm (mL d' (ms.map nQ) 201 0 [(mO d',[])])->srt.Pairwise (λp q=>lx (fl (dat q.1)) (fl (dat p.1))=false)->Q .non H')/\(m'<(mL d' (ms.map nQ) 201 0 [(mO d',[])]).length->∀dx H',Same H H'->AptE d' ms m' H' dx->E (.ref t.a_d) (some dx) H')))
theorem Em{c d:Type}{f:c->d}:∀{l:List d}{tb:List c},l.Perm (tb.map f)->∃srt:List c,srt.Perm tb/\srt.map f=l
 |[],tb,h=>by
  have:=h.length_eq;rw[zqe]at this;exact⟨[],by rw[List.length_eq_zero_iff.mp this.symm],rfl⟩
 | b:: l,tb,h=>by
  obtain⟨a,i,e⟩:=nD.mp (h.mem_iff.mp (yE));obtain⟨s,r,rfl⟩:=List.append_of_mem i;have g:(b:: l).Perm (b:: (s++r).map f):=by
   refine h.trans ?_;rw[yX,zO,e,yX];exact List.perm_middle
  obtain⟨srt,p,q⟩:=Em (List.Perm.cons_inv g);exact⟨a:: srt,(List.Perm.cons a p).trans List.perm_middle.symm,by rw[zO,e,q]⟩
def KX(x:Addr)(H H':Hp):Prop:=∀b o,b≠x->H b=some o->H' b=some o
theorem KX.same{x:Addr}{H H':Hp}(s:Same H H'):KX x H H':=λb o _ e=>s b o e
theorem KX.put{x:Addr}{H:Hp}{o:HO}:KX x H (upd H x o):=λb c a e=>by rw[nO a];exact e
theorem KX.trans{x:Addr}{H g f:Hp}(a:KX x H g)(b:KX x g f):KX x H f:=λc o d e=>b c o d (a c o d e)
theorem KX.tk{K:Frag}{x C d:Addr}{fs:List (Str×V)}{H H':Hp}(k:KX x H H')(e:H x=some (.ins C d fs)):TK K H H':=by
 have a:∀b xs,H b=some (.tup xs)->H' b=some (.tup xs):=λb xs q=>k b _ (λz=>by rw[z,e]at q;cases q) q;refine⟨a,λb xs q=>?_⟩;rcases q with(q|⟨c,q⟩)|q
 ·exact .inl (.inl (a _ _ q))
 ·exact .inl (.inr ⟨c,k b _ (λz=>by rw[z,e]at q;cases q) q⟩)
 ·exact .inr q
theorem Wj{H:Hp}{x:Dd}{w:List Nat}{p:Addr}:∀{tb:Tb}{kvs:List (PyData×V)},TbAt H tb kvs->(tb.map (·.1)).Nodup->(x,w)∈tb->vT kvs (dat x)=some (.ref p)->H p=some (.lst (w.map λn=>V.int (n:Nat))):=by
 intro tb kvs h
 induction h with
 |nil=>intro _ a;cases a
 |@cons y c tb kvs g _ d =>
  intro nd a e;obtain⟨e1,q,f,b⟩:=g;rw[zO,rN]at nd;rcases xM.mp a with a|a
  ·rw[←a]at e1 b;rw[jI e1,f]at e;cases e;exact b
  ·have ne:¬ c.1=dat x:=λq=>nd.1 (by rw[fU.mp (e1.symm.trans q)];exact nD.mpr ⟨_,a,rfl⟩);rw[jJ ne]at e;exact d nd.2 a e
theorem Wi{K:Frag}{H:Hp}{C x d a:Addr}{fs:List (Str×V)}{o:HO}{b:Bool}{xs:List V}(e:H x=some (.ins C d fs))(h:SqB b K H a xs):SqB b K (upd H x o) a xs:=by
 cases b with
 |false =>
  rcases(show SqL K H a xs from h) with(h|⟨c,h⟩)|h
  ·exact(.inl (.inl (by rw[nO (λz=>by rw[z,e]at h;cases h)];exact h)):SqL K (upd H x o) a xs)
  ·exact(.inl (.inr ⟨c,by rw[nO (λz=>by rw[z,e]at h;cases h)];exact h⟩):SqL K (upd H x o) a xs)
  ·exact(.inr h:SqL K (upd H x o) a xs)
 |true =>
  rcases(show SqT K H a xs from h) with(h|⟨c,h⟩)|h
  ·exact(.inl (.inl (by rw[nO (λz=>by rw[z,e]at h;cases h)];exact h)):SqT K (upd H x o) a xs)
  ·exact(.inl (.inr ⟨c,by rw[nO (λz=>by rw[z,e]at h;cases h)];exact h⟩):SqT K (upd H x o) a xs)
  ·exact(.inr h:SqT K (upd H x o) a xs)
theorem Wh{H:Hp}{v:V}{ds:List PyData}(h:Dt K H v (.tuple ds)):∃q,v=V.ref q:=by
 cases h;exact⟨_,rfl⟩
theorem dN{H:Hp}{a:St}{i:Nat}{C x b:Addr}{fs:List (Str×V)}{f:Str}{v:V}{Q:VK}(d:a[i]?=some (some (V.ref x)))(e:H x=some (.ins C b fs))(c:Cls K C)(n:fH K C f)(l:fs.lookup f=some v)(q:Q v H):tFld K (tVar i) f a H Q:=⟨_,d,x,C,b,fs,v,rfl,e,c,n,l,q⟩
theorem Wg{H:Hp}:∀{tb:Tb}{kvs:List (PyData×V)},TbAt H tb kvs->∀y∈tb,∃p,vT kvs (dat y.1)=some (V.ref p):=by
 intro tb kvs h
 induction h with
 |nil=>intro y a;cases a
 | @cons z b tb kvs d _ c =>
  intro y a;obtain⟨e1,p,e,_⟩:=d
  by_cases q:b.1=dat y.1
  ·exact⟨p,by rw[jI q,e]⟩
  ·rw[jJ q];rcases xM.mp a with a|a
   ·exact absurd (by rw[e1,a]) q
   ·exact c y a
theorem Wf{K:Frag}{H:Hp}{ps:List (V×PyData)}{zs:List V}{n:Nat}(hl:zs.length=ps.length)(d:∀p∈ps,tT 4 p.2=true/\Dt K H p.1 p.2/\∃q,p.1=V.ref q)(f:∀j y,zs[j]?=some y->∃p m,y=V.ref p/\ps[j]?=some m/\H p=some (.tup [m.1,.int ((n+j:Nat):Int)])):
  ∃ts:List (Addr×PyData×Addr×V),zs=ts.map (λt=>V.ref t.1)/\(ts.map (·.2.1)=ps.map (·.2)/\ts.map (λt=>(t.2.1,t.2.2.2))=(ps.zipIdx n).map λp=>(p.1.2,V.int ((p.2:Nat):Int)))/\∀t∈ts,SqT K H t.1 [.ref t.2.2.1,t.2.2.2]/\tT 4 t.2.1=true/\Dt K H (.ref t.2.2.1) t.2.1:=by
 induction ps generalizing zs n with
 |nil =>
  obtain rfl:=vG hl;exact⟨[],rfl,⟨rfl,rfl⟩,λ_ h=>nomatch h⟩
 | cons p ps g =>
  obtain⟨z,zs,rfl⟩:=List.exists_cons_of_length_eq_add_one hl;obtain⟨a,m,e1,v,c⟩:=f 0 z rfl;cases v;obtain⟨k,e,q,u⟩:=d p (.head _);obtain⟨ts,C,⟨r,F⟩,J⟩:=g (zs:=zs) (n:=n+1) (pG hl) (λx D=>d x (.tail _ D)) λj y I=>by
   obtain⟨i,o,l,L,G⟩:=f (j+1) y I;exact⟨i,o,l,L,by rw[G,show n+(j+1)=n+1+j by omega]⟩
  rw[u]at c e;refine⟨(a,p.2,q,.int ((n+0:Nat):Int)):: ts,by rw[e1,C];rfl,⟨by rw[zO,zO,r],by rw[zO,uH,zO,F];rfl⟩,λt b=>?_⟩;rcases xM.mp b with b|b
  ·rw[b];exact⟨SqT.of c,k,e⟩
  ·exact J t b
theorem ord_of{K:Frag}{H:Hp}:∀{ps:List (V×PyData)}{srt:Tb},(srt.map λy=>dat y.1)=ps.map (·.2)->(∀p∈ps,Dt K H p.1 p.2/\(∃q,p.1=V.ref q))->∃a:LA,ps.map (·.1)=a.map V.ref/\Paired (λp(x:Dd×List Nat)=>Dt K H (.ref p) (dat x.1)) a srt
 |[],[],_,_=>⟨[],rfl,.nil⟩
 |[],_:: _,h,_=>by simp at h
 |_:: _,[],h,_=>by simp at h
 |p:: ps,y:: srt,e,h=>by
  rw[zO,zO,xQ]at e;obtain⟨a,e1,f⟩:=ord_of (ps:=ps) (srt:=srt) e.2 λx d=>h x (.tail _ d);obtain⟨c,q,b⟩:=h p (.head _);rw[b,←e.1]at c;exact⟨q:: a,by rw[zO,zO,e1,b],.cons c f⟩
theorem We{H:Hp}{kvs:List (PyData×V)}{srt:Tb}{ys:List V}(hl:ys.length=srt.length)(h:∀(j:Nat) y,ys[j]?=some y->∃p m,y=V.ref p/\srt[j]?=some m/\vT kvs (dat m.1)=some (V.ref p))
  (f:∀m∈srt,∀p,vT kvs (dat m.1)=some (V.ref p)->H p=some (.lst (m.2.map λn=>V.int (n:Nat)))):∃d:LA,ys=d.map V.ref/\Paired (λp(x:Dd×List Nat)=>H p=some (.lst (x.2.map λn=>V.int (n:Nat)))) d srt:=Jc hl λj y e=>by
 obtain⟨p,m,a,b,c⟩:=h j y e;exact⟨p,m,a,b,f m (zqb b) p c⟩
theorem Ky:∀{srt:Tb}{ps:List (V×PyData)},(srt.map λy=>dat y.1)=ps.map (·.2)->∀n,((srt.zipIdx n).map λp=>(dat p.1.1,V.int ((p.2:Nat):Int)))=(ps.zipIdx n).map λp=>(p.1.2,V.int ((p.2:Nat):Int))
 |[],[],_,_=>rfl
 |[],_:: _,h,_=>by simp at h
 |_:: _,[],h,_=>by simp at h
 |y:: srt,p:: ps,e,n=>by
  rw[zO,zO,xQ]at e;rw[uH,uH,zO,zO,Ky e.2 (n+1),e.1]
structure GI(K:Frag)(H0:Hp)(C x dx wd:Addr)(fs:List (Str×V))(tb:Tb)(kvs:List (PyData×V))(H:Hp):Prop where
 hx:H x=some (.ins C dx fs)
 s:∀b o,b≠x->H0 b=some o->H b=some o
 D:DTr K H wd kvs
 T:TbAt H tb kvs
theorem GI.up{K:Frag}{c H H':Hp}{C x d a:Addr}{fs:List (Str×V)}{tb:Tb}{kvs:List (PyData×V)}(h:GI K c C x d a fs tb kvs H)(s:Same H H'):GI K c C x d a fs tb kvs H':=
 ⟨s _ _ h.hx,λb o j e=>s _ _ (h.s b o j e),h.D.up s,Paired.mapP h.T λ_ _ z=>let ⟨f,p,g,i⟩:=z;⟨f,p,g,s _ _ i⟩⟩
theorem Ai{K:Frag}{H:Hp}{C x a:Addr}{fs fs':List (Str×V)}(e:H x=some (.ins C a fs)):TK K H (upd H x (.ins C a fs')):=TK.off e (λ_ z=>by cases z) (λ_ _ z=>by cases z) λ_ b=>nO b
theorem GI.put{K:Frag}{f H:Hp}{C x d a:Addr}{fs:List (Str×V)}{tb:Tb}{kvs:List (PyData×V)}(h:GI K f C x d a fs tb kvs H)(fs':List (Str×V)):GI K f C x d a fs' tb kvs (upd H x (.ins C d fs')):=by
 have j:a≠x:=λz=>by
  obtain⟨_,_,xs,e,_⟩:=h.D;rw[z,h.hx]at e;cases e
 refine⟨nN,λb o g e=>?_,DTr.tk h.D (Ai h.hx) (nO j),Paired.mapP h.T λ_ _ z=>?_⟩
 ·rw[nO g];exact h.s b o g e
 ·obtain⟨i,p,k,c⟩:=z;have:p≠x:=λq=>by rw[q,h.hx]at c;cases c
  exact⟨i,p,k,by rw[nO this];exact c⟩
theorem ok_0(T:Txt K mg t):FnOk P w K mg base (CX1 P w) 12 t.a_0 t.d_0 pm' (Kz K t):=by
 have k7:=@ok_s P w K mg base t T;have l7:=@ok_r P w K mg base t T;have l6:=@ok_12 P w K mg base t T;refine T.F_0.okX sc_0 (λvs H Q E h=>?_) (λcdv A outer s H vs Q E hr h=>?_)
 ·obtain⟨b,d,most,a,x,g,ps,ms,rfl,_⟩:=h;rfl
 ·have c7:=hr.units;obtain⟨b,d0,g3,a,x,g,ps,ms,rfl,f9,d6,c0,e4,f2,R⟩:=h;refine⟨_,(nJ (gM (Bg k7 hr.mo rfl T.F_s.m T.F_s.kp T.F_s.b .nil Bh (nH (pv 3) nI)))
   (nJ (gM (Bg l7 hr.mo rfl T.F_r.m T.F_r.kp T.F_r.b .nil Bh (nH (pv 1) (nH (pv 2) nI))))
   (nJ (nU (i:=4) sc_0.nd rfl (Or.inr rfl) (Bg l6 hr.mo rfl T.F_12.m T.F_12.kp T.F_12.b .nil Bh (nH (pv 1) (nH (pv 2) (nH (pv 3) nI)))))
   (nJ (dZ (pv 0) (pv 1) rfl)
   (nJ (dZ (pv 0) (lK hZ rfl T.z_list (nofun) (nH (pv 2) nI)) rfl)
   (nJ (dZ (pv 0) (mS (Tm (N:=201) Jl c7 rfl) rfl T.z_sorted (nofun) (nH (pv 4) nI)) rfl)
   (nJ (dZ (pv 0) (lE (sc:=nP s_0) (N:=N_0) (fr:=[("words",4)]) (te:=(tOp (aH K) (tVar 1) (tVar 0))) rfl rfl (nofun) rfl (nofun) (mT (eE (pv 0) rfl)) (λ_ _ _ b3=>(mG (ix_T c7) (pv 1) (pv 0) (λ_ _=>rfl)))) rfl)
   (nM (dZ (pv 0) (lK (Tc c7 rfl) rfl T.z_dict (nofun) (nH (hX (xs:=["number","member"]) (fr:=[]) (g:=(gTup K 2 (kC (nX 0) (kC (nX 1) gNil)))) (tt:=(tEl (tTup (mH (tVar 1) (mH (tVar 0) tNil))))) (jW (sc:=nP s_0) (N:=N_0) rfl rfl (nofun)) rfl (bY rfl T.z_enumerate (nH (eE (pv 0) rfl) nI)) (λ_ _ _ b3=>(gO rfl (kP (iH (N:=["number","member"]) (i:=0) b3 rfl (nofun)) (kP (iH (N:=["number","member"]) (i:=1) b3 rfl (nofun)) gN)))) (λ_ _ _ b3=>(iM (kQ (nH (pv 1) (nH (pv 0) nI)))))) nI)) rfl))))))))),?_⟩
  show tSeq _ _ _ [some (.ref x),some (.int d0),some (.ref a),some (.int g3),none] H;right;refine⟨g3,rfl,λb0=>?_,e4⟩;left;refine⟨b,d0,a,ps,ms,rfl,d6,c0,λax n5 a3=>?_,f2 b0⟩;obtain⟨i0,d,most,rfl,rfl,h7,a2,R,e2⟩:=R b0 ax;have l9:d=2\/d=3:=by have:=ax.1;omega
  have i3:1<=most:=⋯
  have e0:most<=200:=⋯
  left;refine⟨b,d,a,ps,ms,most,i0,rfl,l9,d6.up a3,Paired.mapP c0 λ_ _ z=>z.up a3,h7,a2,i3,e0,λa5 f5 d7 kvs N c3 n4 g7 m3=>?_,λa5 j1 N c3 i5=>e2 a5 j1 N (a3.trans c3) i5⟩;have R:=R a5 f5;have n6:=yC a5 e0;obtain⟨g5,b7⟩:=f5;have k4:∀y∈mL d (ms.map nQ) 201 0 [(mO d,[])],kI d y.1:=λy D=>a2.g _ _ (by have:=(b7 y D).2;omega) (b7 y D).1;have k8:=a2.g 0 _ ∅ a2.g0;clear e2 b7 e4 f2;generalize mL d (ms.map nQ) 201 0 [(mO d,[])]=tb at*
  have b9:=a3.trans c3;have d2:=b9 _ _ f9;subst e1;refine st λN1 e1=>?_;simp only[sFld];ext;have e8:GI K H t.a_b x g d7 [] tb kvs N:=⟨d2,λb o _ e=>b9 _ _ e,g7,m3⟩;refine⟨_,_,_,d2,T.cl_b,T.h_5,∅,?_⟩;have e7:=e8.put (fG1 d);have sq3:SqB b K (upd N x (.ins t.a_b g (fG1 d))) a (ps.map V.ref):=Wi d2 (d6.up b9);show N1 _ (upd N x (.ins t.a_b g (fG1 d)));generalize upd N x (.ins t.a_b g (fG1 d))=a7 at*
  clear e8;subst e1;refine st λN1 e1=>?_;simp only[sFld];ext;refine⟨b,a,_,rfl,sq3,λc b4=>?_⟩;have m2:Same a7 (upd a7 c (.lst (ps.map V.ref))):=Same.new b4;have h8:(upd a7 c (.lst (ps.map V.ref))) c=some (.lst (ps.map V.ref)):=nN;have j9:c≠x:=λz=>by rw[z,e7.hx]at b4;cases b4
  have f8:=e7.up m2;generalize upd a7 c (.lst (ps.map V.ref))=G at*
  refine⟨_,_,_,f8.hx,T.cl_b,T.h_l,by show 1<1000;decide,?_⟩;have a9:=f8.put (fG2 d c);have k3:KX x G (upd G x (.ins t.a_b g (fG2 d c))):=KX.put;show N1 _ (upd G x (.ins t.a_b g (fG2 d c)));generalize upd G x (.ins t.a_b g (fG2 d c))=n2 at*
  subst e1;refine st λN1 e1=>?_;simp only[sFld];ext;have n3:tb.length=kvs.length:=mU a9.T;have f4:∀I∈kvs,∃y∈tb,I.1=dat y.1:=λI W=>by
   obtain⟨y,D,z⟩:=aV a9.T I W;exact⟨y,D,z.1⟩
  have k5:=k8;refine⟨d7,kvs,[.tuple ((List.replicate d (0:Int)).map PyData.int),.int 1],(idM d).map (λr=>PyData.tuple (r.map PyData.int)),rfl,⋯,a9.D,λI W=>?_,λlo u Y b6 n8 a6 a4 b1 m9=>?_⟩
  ·obtain⟨y,D,e⟩:=f4 I W;rw[e];exact En k5 (k4 y D)
  have b2:=a9.up b6;have m0:=k3.trans (KX.same b6);refine⟨_,_,_,b2.hx,T.cl_b,T.h_7,by show 2<1000;decide,?_⟩;have pl:u.length<=200:=by
   have:=b1.length_eq;rw[zqe,zqe]at this;omega
  have n7:=a6;have X:=b2.put (fG3 d c lo);have c5:lo≠x:=λz=>by rw[z,b2.hx]at a6;cases a6
  have h1:KX x G (upd Y x (.ins t.a_b g (fG3 d c lo))):=m0.trans KX.put;have c4:(upd Y x (.ins t.a_b g (fG3 d c lo))) lo=some (.lst (u.map (·.1))):=by rw[nO c5];exact a6
  have L:∀p∈u,tT 4 p.2=true/\Dt K (upd Y x (.ins t.a_b g (fG3 d c lo))) p.1 p.2:=λp f=>⟨(a4 p f).1,jZ (Ai b2.hx).t 4 (a4 p f).1 (jZ (lY b6) 4 (a4 p f).1 (a4 p f).2)⟩;show N1 _ (upd Y x (.ins t.a_b g (fG3 d c lo)));generalize upd Y x (.ins t.a_b g (fG3 d c lo))=n0 at*
  -- every member is a reference to one of the dict's keys
  have mem:∀p∈u,∃y∈tb,p.2=dat y.1:=λp f=>by
   have:p.2∈kvs.map (·.1):=b1.mem_iff.mp (nD.mpr ⟨p,f,rfl⟩);obtain⟨I,W,e⟩:=nD.mp this;obtain⟨y,D,d3⟩:=f4 I W;exact⟨y,D,by rw[←e,d3]⟩
  have f1:kvs.map (·.1)=tb.map λy=>dat y.1:=by
   have:∀{H':Hp}{tb:Tb}{kvs:List (PyData×V)},TbAt H' tb kvs->kvs.map (·.1)=tb.map λy=>dat y.1:=by
    intro H' tb kvs h
    induction h with
    |nil=>rfl
    |cons b8 _ l2=>rw[zO,zO,l2,b8.1]
   exact this X.T
  obtain⟨srt,g0,U⟩:=Em (f:=λy:Dd×List Nat=>dat y.1) (l:=u.map (·.2)) (tb:=tb) (by rw[←f1];exact b1);have i2:srt.length=u.length:=by have:=vA List.length U;simpa using this
  have c8:∀p∈u,∃q,p.1=V.ref q:=λp f=>by
   obtain⟨y,_,e⟩:=mem p f;have g2:=(L p f).2;rw[e]at g2;exact Wh g2
  subst e1;refine st λN1 e1=>?_;simp only[sFld];refine mK λB eB=>?_;simp only[iSeq];refine dN rfl X.hx T.cl_b T.h_7 rfl ?_;refine⟨false,lo,rfl,⟨_,SqB.lst c4⟩,λk c2=>?_⟩;refine kX (λj y _=>∃(p:Addr)(m:Dd×List Nat),y=V.ref p/\srt[j]?=some m/\vT kvs (dat m.1)=some (V.ref p)) c2 (SqB.lst c4) (by rw[zqe];omega) (λ_ _ _ _ h _=>h) ?_ ?_
  ·intro i y C zs d8 F f6 c6 d1;obtain⟨p,f,rfl⟩:=jL d8;have c9:=zqb f;obtain⟨q,i8⟩:=c8 p c9;obtain⟨l0,h0,h2⟩:=mem p c9;obtain⟨g4,f0⟩:=L p c9;subst eB;show tOp _ _ _ [some p.1,some (.ref d7)] C c6;ext;rw[i8]at f0 ⊢;have M:=X.up F;obtain⟨h5,d5⟩:=Wg M.T l0 h0;rw[←h2]at d5;refine fV M.D g4 (jZ (lY F) 4 g4 f0) d5 ?_;have j4:∃m,srt[i]?=some m/\dat m.1=p.2:=by
    have e:=vA (λl=>l[i]?) U;simp only[List.getElem?_map,f,Option.map_some]at e;cases hm2:srt[i]? with
    |none=>rw[hm2]at e;cases e
    |some m=>rw[hm2]at e;exact⟨m,rfl,zZ e⟩
   obtain⟨m,d9,h9⟩:=j4;exact d1 _ _ (Same.refl _) ⟨h5,m,rfl,d9,by rw[h9];exact d5⟩
  ·intro C ys F j8 i6 h4;have M:=X.up F;have g1:k≠x:=λz=>by rw[z,X.hx]at c2;cases c2
   have l3:=h1.trans (KX.same F);have i9:KX x G (upd C x (.ins t.a_b g (fG4 d c lo k))):=l3.trans KX.put;have g6:(upd C x (.ins t.a_b g (fG4 d c lo k))) k=some (.lst ys):=by rw[nO g1];exact j8
   refine⟨.ref x,rfl,x,_,_,_,rfl,M.hx,T.cl_b,T.h_6,by show 3<1000;decide,?_⟩;have e3:=M.put (fG4 d c lo k);have c1:(upd C x (.ins t.a_b g (fG4 d c lo k))) lo=some (.lst (u.map (·.1))):=by rw[nO c5];exact F _ _ c4
   have O:∀p∈u,tT 4 p.2=true/\Dt K (upd C x (.ins t.a_b g (fG4 d c lo k))) p.1 p.2:=λp f=>⟨(L p f).1,jZ (Ai M.hx).t 4 (L p f).1 (jZ (lY F) 4 (L p f).1 (L p f).2)⟩;show N1 _ (upd C x (.ins t.a_b g (fG4 d c lo k)));generalize upd C x (.ins t.a_b g (fG4 d c lo k))=n1 at*
   subst e1;simp only[sFld];ext;refine mK λB eB=>?_;simp only[cK];ext;refine dN rfl e3.hx T.cl_b T.h_7 rfl ?_;refine⟨false,lo,rfl,⟨_,SqB.lst c1⟩,λe9 l5=>?_⟩;refine Qk (λj y H=>∃p m,y=V.ref p/\p≠e9/\u[j]?=some m/\H p=some (.tup [m.1,.int (j:Int)])) l5 (SqB.lst c1) (by rw[zqe];omega) (λ_ _ _ _⟨p,m,e,n,d9,h⟩h3=>⟨p,m,e,n,d9,h3 _ _ n h⟩) ?_ ?_
   ·intro i y b5 zs d8 a0 f6 c6 d1;obtain⟨p,f,rfl⟩:=jL d8;subst eB;show tTup _ [some (.int i),some p.1] b5 c6;ext;refine⟨by show 2<=sizeLine;decide,λq d4=>?_⟩;refine d1 _ _ (Same.new d4) ⟨q,p,rfl,(λz=>by rw[z,f6]at d4;cases d4),f,nN⟩
   ·intro b5 zs a0 j0 m1 b8;obtain⟨ts,h6,⟨g9,k9⟩,m5⟩:=Wf (K:=K) (H:=b5) (ps:=u) (zs:=zs) (n:=0) (by rw[m1,zqe]) (λp f=>⟨(O p f).1,jZ (lY a0) 4 (O p f).1 (O p f).2,c8 p f⟩) λj y m4=>by
     obtain⟨p,m,k0,_,m7,j2⟩:=b8 j y m4;exact⟨p,m,k0,m7,by rw[wQ];exact j2⟩
    have k1:=e3.up a0;have j6:(u.map (·.2)).Nodup:=b1.nodup_iff.mpr (by
     rw[f1,show(tb.map λy=>dat y.1)=(tb.map (·.1)).map dat by rw[yW];rfl];exact List.Pairwise.map dat (λa b h e=>h (fU.mp e)) g5)
    refine⟨e9,ts,rfl,by rw[←h6];exact .inl (.inl j0),m5,by rw[g9];exact j6,λv J f7 _ e5=>?_⟩;have a8:=k1.up f7;refine⟨_,_,_,a8.hx,T.cl_b,T.h_8,by show 4<1000;decide,?_⟩;have Z:=a0.trans f7;have f3:=Ai (K:=K) (fs':=(fG5 d c lo k v)) a8.hx;have a1:=a8.put (fG5 d c lo k v);show Q .non (upd J x (.ins t.a_b g (fG5 d c lo k v)));have l8:KX x J (upd J x (.ins t.a_b g (fG5 d c lo k v))):=KX.put;have i4:(upd J x (.ins t.a_b g (fG5 d c lo k v))) k=some (.lst ys):=by rw[nO g1];exact Z _ _ g6
    have i7:v≠x:=λz=>by
     obtain⟨_,_,xs,e,_⟩:=e5;rw[z,a8.hx]at e;cases e
    have i1:=DTr.tk e5 f3 (nO i7);have j3:(upd J x (.ins t.a_b g (fG5 d c lo k v))) lo=some (.lst (u.map (·.1))):=by rw[nO c5];exact Z _ _ c1
    generalize upd J x (.ins t.a_b g (fG5 d c lo k v))=S at*;have k6:KX x G S:=((i9.trans (KX.same Z)).trans l8);have k2:TK K H S:=KX.tk (λb o j7 e=>a1.s b o j7 e) f9;refine R srt S a1.s ⟨g,c,lo,k,v,a1.hx,⟨ps,k6 _ _ j9 h8,Paired.mapP c0 λ_ _ z=>DdS.tk z k2⟩,?_,?_,?_⟩ g0 ?_
    ·obtain⟨j5,m8,m6⟩:=ord_of (K:=K) (H:=S) (ps:=u) (srt:=srt) U λp f=>⟨jZ f3.t 4 (O p f).1 (jZ (lY Z) 4 (O p f).1 (O p f).2),c8 p f⟩;exact⟨j5,by rw[j3,m8],m6⟩
    ·obtain⟨l1,l4,g8⟩:=We (H:=S) (srt:=srt) (kvs:=kvs) (ys:=ys) (by rw[i6,zqe,i2]) h4 λm b0 p e=>Wj (x:=m.1) (w:=m.2) a1.T g5 (g0.mem_iff.mp b0) e;exact⟨l1,by rw[←l4];exact i4,g8⟩
    ·have d3:numT srt 0=ts.map λt=>(t.2.1,t.2.2.2):=by
      rw[k9];unfold numT;exact Ky U 0
     rw[d3];exact i1
    ·have e6:(u.map (·.2)).Pairwise λp q=>lx (fl q) (fl p)=false:=List.pairwise_map.mpr m9;rw[←U]at e6;exact List.pairwise_map.mp e6
theorem GrpF.up{H H':Hp}{g:Addr}{d:Nat}{ms:List Dd}{srt:Tb}(h:GrpF K t H g d ms srt)(s:Same H H'):GrpF K t H' g d ms srt:=by
 obtain⟨q,c,lo,l,m,i,⟨gs,o,a⟩,⟨n,p,j⟩,⟨e,k,b⟩,f⟩:=h;exact⟨q,c,lo,l,m,s _ _ i,⟨gs,s _ _ o,Paired.mapP a λ_ _ z=>DdS.up z s⟩,⟨n,s _ _ p,Paired.mapP j λ_ x z=>jZ (lY s) 4 (kH x.1) z⟩,⟨e,s _ _ k,Paired.mapP b λ_ _ z=>s _ _ z⟩,f.up s⟩
def sp_8(K:Frag)(t:Adr):Sp:=λvs H Q _=>E4 λ(g:Addr)(d:Nat)(ms:List Dd)(srt:Tb)=>A3 (vs=[.ref g]) (GrpF K t H g d ms srt) (∀l gs H',Same H H'->H l=none->H' l=some (.lst (gs.map V.ref))->Paired (DdS K H') gs ms->Q (.ref l) H')
def sp_5(K:Frag)(t:Adr):Sp:=λvs H Q _=>E4 λ(g:Addr)(d:Nat)(ms:List Dd)(srt:Tb)=>A3 (vs=[.ref g]) (GrpF K t H g d ms srt) (∀l os H',Same H H'->H l=none->H' l=some (.lst (os.map V.ref))->Paired (λp x=>Dt K H' (.ref p) (dat x.1)) os srt->Q (.ref l) H')
def sp_9(K:Frag)(t:Adr):Sp:=λvs H Q _=>E4 λ(g:Addr)(d:Nat)(ms:List Dd)(srt:Tb)=>A4 (vs=[.ref g]) (GrpF K t H g d ms srt) (srt.length<=200) (∀l ws H',Same H H'->H l=none->H' l=some (.lst (ws.map V.ref))->Paired (λp(x:Dd×List Nat)=>H' p=some (.lst (x.2.map λn=>V.int (n:Nat)))) ws srt->Q (.ref l) H')
theorem ok_8(T:Txt K mg t):FnOk P w K mg base CX0 2 t.a_8 t.d_8 pC' (sp_8 K t):=by
 apply T.F_8.ok sc_8
 ·obtain⟨g,d,ms,srt,rfl,⟨k,c,lo,i,j,e,⟨gs,f,a⟩,_⟩,b⟩:=h;refine⟨_,(nM (nV (lK hZ rfl T.z_list (nofun) (nH (eE (pv 0) rfl) nI)))),?_⟩;show tRet _ _ [some (.ref g)] H;simp only[tRet,tCB,mH,tNil];refine dN rfl e T.cl_b T.h_l rfl ?_;refine⟨false,c,_,rfl,SqB.lst f,λl hl=>?_⟩;exact b l gs _ (Same.new hl) hl nN (Paired.mapP a λ_ _ z=>DdS.up z (Same.new hl))
theorem ok_5(T:Txt K mg t):FnOk P w K mg base CX0 2 t.a_5 t.d_5 pC' (sp_5 K t):=by
 apply T.F_5.ok sc_5
 ·obtain⟨g,d,ms,srt,rfl,⟨m,i,lo,j,k,b,_,⟨e,f,c⟩,_⟩,a⟩:=h;refine⟨_,(nM (nV (lK hZ rfl T.z_list (nofun) (nH (eE (pv 0) rfl) nI)))),?_⟩;show tRet _ _ [some (.ref g)] H;simp only[tRet,tCB,mH,tNil];refine dN rfl b T.cl_b T.h_7 rfl ?_;refine⟨false,lo,_,rfl,SqB.lst f,λl hl=>?_⟩;exact a l e _ (Same.new hl) hl nN (Paired.mapP c λ_ x z=>jZ (lY (Same.new hl)) 4 (kH x.1) z)
theorem ok_9(T:Txt K mg t):FnOk P w K mg base CX0 2 t.a_9 t.d_9 pC' (sp_9 K t):=by
 apply T.F_9.ok sc_9
 ·obtain⟨g,d,ms,srt,rfl,⟨V,Y,lo,F,X,D,_,_,⟨o,k,r⟩,_⟩,U,R⟩:=h;refine⟨_,(nM (nV (lE (sc:=nP s_9) (N:=N_9) (fr:=[]) (te:=(tCB (aA K) (mH (tVar 0) tNil))) rfl rfl (nofun) rfl (nofun) (mT (eE (pv 0) rfl)) (λ_ _ _ W=>(lK hZ rfl T.z_list (nofun) (nH (pv 0) nI)))))),?_⟩;show tRet _ _ [some (.ref g)] H;simp only[tRet];refine mK λB eB=>?_;simp only[iSeq];refine dN rfl D T.cl_b T.h_6 rfl ?_;have u:o.length=srt.length:=mU r;refine⟨false,F,rfl,⟨_,SqB.lst k⟩,λl hl=>?_⟩;refine kX (WdR l srt) hl (SqB.lst k) (by rw[zqe];omega) (λ_ _ _ _⟨p,m,e,n,c,h⟩J=>⟨p,m,e,n,c,J _ _ n h⟩) ?_ ?_
  ·intro i y f zs a j O N S;rw[zH]at a;cases hp':o[i]? with
   |none=>rw[hp']at a;cases a
   |some p =>
    rw[hp']at a;cases a;obtain⟨m,c,M⟩:=kB r hp';subst eB;show tCB _ _ [some (.ref p)] f N;simp only[tCB,mH,tNil,tVar];refine⟨_,rfl,false,p,_,rfl,SqB.lst (j _ _ M),λq b=>?_⟩;exact S _ _ (Same.new b) ⟨q,m,rfl,(λz=>by rw[z,O]at b;cases b),c,nN⟩
  ·intro f ys j v I L;obtain⟨C,x,G⟩:=Eu (by rw[I,zqe,u]) L;exact R l C f j hl (by rw[v,x]) G
def sp_a(K:Frag)(t:Adr):Sp:=λvs H Q _=>E4 λ(g:Addr)(d:Nat)(ms:List Dd)(srt:Tb)=>A3 (vs=[.ref g]) (GrpF K t H g d ms srt) (Q (.int d) H)
theorem ok_a(T:Txt K mg t):FnOk P w K mg base CX0 2 t.a_a t.d_a pC' (sp_a K t):=by
 apply T.F_a.ok sc_a
 ·obtain⟨g,d,ms,srt,rfl,⟨i,c,lo,e,f,b,_⟩,a⟩:=h;refine⟨_,(nM (nV (eE (pv 0) rfl))),?_⟩;show tRet _ _ [some (.ref g)] H;simp only[tRet];exact dN rfl b T.cl_b T.h_5 rfl a
theorem sq1{b:LM}(h:Sq 1 b):∃a,b=[[a]]:=by
 obtain⟨hl,hr⟩:=h
 match b,hl with
 |[r],_ =>
  have:=hr r (by simp)
  match r,this with
  |[a],_=>exact⟨a,rfl⟩
theorem len2{r:LI'}(h:r.length=2):∃a b,r=[a,b]:=by match r,h with|[a,b],_=>exact⟨a,b,rfl⟩
theorem len3{r:LI'}(h:r.length=3):∃a b c,r=[a,b,c]:=by match r,h with|[a,b,c],_=>exact⟨a,b,c,rfl⟩
theorem len4{r:LI'}(h:r.length=4):∃a b c d,r=[a,b,c,d]:=by match r,h with|[a,b,c,d],_=>exact⟨a,b,c,d,rfl⟩
theorem sq2{e:LM}(h:Sq 2 e):∃a b c d,e=[[a,b],[c,d]]:=by
 obtain⟨hl,hr⟩:=h
 match e,hl with
 |[r,s],_ =>
  obtain⟨a,b,rfl⟩:=len2 (hr r (by simp));obtain⟨c,d,rfl⟩:=len2 (hr s (by simp));exact⟨a,b,c,d,rfl⟩
theorem sq3{k:LM}(h:Sq 3 k):∃a b c d e f g i j,k=[[a,b,c],[d,e,f],[g,i,j]]:=by
 obtain⟨hl,hr⟩:=h
 match k,hl with
 |[r,s,t],_ =>
  obtain⟨a,b,c,rfl⟩:=len3 (hr r (by simp));obtain⟨d,e,f,rfl⟩:=len3 (hr s (by simp));obtain⟨g,i,j,rfl⟩:=len3 (hr t (by simp));exact⟨a,b,c,d,e,f,g,i,j,rfl⟩
theorem sq4{v:LM}(h:Sq 4 v):∃a b c d e f g i j k l m n o p q,v=[[a,b,c,d],[e,f,g,i],[j,k,l,m],[n,o,p,q]]:=by
 obtain⟨hl,hr⟩:=h
 match v,hl with
 |[r,s,t,u],_ =>
  obtain⟨a,b,c,d,rfl⟩:=len4 (hr r (by simp));obtain⟨e,f,g,i,rfl⟩:=len4 (hr s (by simp));obtain⟨j,k,l,m,rfl⟩:=len4 (hr t (by simp));obtain⟨n,o,p,q,rfl⟩:=len4 (hr u (by simp));exact⟨a,b,c,d,e,f,g,i,j,k,l,m,n,o,p,q,rfl⟩
theorem id2:idM 2=[[1,0],[0,1]]:=nofun
theorem id3:idM 3=[[1,0,0],[0,1,0],[0,0,1]]:=nofun
theorem Wd(a b v:Int)(c:0<v):gcdI (a*v) (b*v)=gcdI a b*v:=by
 unfold gcdI;rw[Int.gcd_mul_right];have:((v.natAbs:Nat):Int)=v:=⋯
 rw[Int.natCast_mul,this]
theorem Wc{u v:Int}(b:0<v)(ts:LI'):gl (u*v) (ts.map (·*v))=gl u ts*v:=by
 have e:∀(ts:LI')(a:Int),(ts.map (·*v)).foldl gcdI (a*v)=ts.foldl gcdI a*v:=by
  intro ts
  induction ts with
  |nil=>intro a;rfl
  |cons t r d=>intro a;rw[zO,vC,vC,Wd _ _ _ b,d]
 unfold gl;have:absI (u*v)=absI u*v:=by
  unfold absI;rcases Int.lt_or_le u 0 with l|l
  ·have c:u*v<0:=Int.mul_neg_of_neg_of_pos l b;rw[zF l,zF c,Int.neg_mul]
  ·have c:0<=u*v:=Int.mul_nonneg l (uI b);rw[zD ⋯,zD ⋯]
 rw[this,e]
def Cong(u:Int)(xs ys:LI'):Prop:=xs.length=ys.length/\∀(i:Nat)(x y:Int),xs[i]?=some x->ys[i]?=some y->u∣x-y
theorem Wb{u x y:Int}(a:0<u)(h:u∣x-y):x.fmod u=y.fmod u:=by
 rw[xX _ (uI a),xX _ (uI a)];exact Int.emod_eq_emod_iff_emod_sub_eq_zero.mpr (Int.emod_eq_zero_of_dvd h)
theorem Cong.rest{u:Int}(b:0<u)(ns:LI'):Cong u ns (lR u ns):=by
 refine⟨by simp[lR],λi x y e1 a=>?_⟩;unfold lR at a;rw[zH,e1]at a;cases zZ a;have:=Vk b x;have c:=xX (x.fmod u-x) (uI b);rw[c]at this;have d:=Int.dvd_of_emod_eq_zero this;have:=Int.dvd_neg.mpr d
 rwa[Int.neg_sub]at this
theorem Cong.gl{u:Int}{xs ys:LI'}(h:Cong u xs ys):Cw.gl u xs=Cw.gl u ys:=by
 have c:∀{xs ys:LI'}{d:Int},Cong u xs ys->d∣u->(∀t∈xs,d∣t)->∀t∈ys,d∣t:=λ{xs ys d}h l g t j=>by
  obtain⟨i,hi,e⟩:=wP j;have f:i<xs.length:=by rw[h.1];exact hi
  have a:=h.2 i xs[i] t (by simp[f]) (by simp[hi,e]);have b:=g _ (vK f);have k:=Int.dvd_sub b (Int.dvd_trans l a)
  rwa[show xs[i]-(xs[i]-t)=t by omega]at k
 have n:Cong u ys xs:=⟨h.1.symm,λi x y e1 m=>by
  have:=Int.dvd_neg.mpr (h.2 i y x m e1)
  rwa[Int.neg_sub]at this⟩
 exact Vo λd=>⟨λ⟨a,b⟩=>⟨a,c h a b⟩,λ⟨a,b⟩=>⟨a,c n a b⟩⟩
theorem Cong.red{u:Int}{xs ys:LI'}(q:0<u)(h:Cong u xs ys):redU u xs=redU u ys/\lR (redU u xs) (redT u xs)=lR (redU u ys) (redT u ys):=by
 have p:=h.gl;have d:cs u xs=cs u ys:=by unfold cs;rw[p]
 have a:=dL xs (show u≠0 by omega);have e:redU u xs=redU u ys:=by unfold redU;rw[d]
 refine⟨e,?_⟩;have n:0<redU u xs:=Ap xs ⋯;have k:redU u xs*cs u xs=u:=gZ a (iR (gl_u u xs));rw[←e];unfold lR redT;refine tQ (by simp[h.1]) λi b c=>?_;simp at b c;simp only[List.getElem_map];have g:=h.2 i xs[i] ys[i] (by simp[b]) (by simp[c]);have m:∀x y:Int,u∣x-y->cs u xs∣x->cs u ys∣y->redU u xs∣x.fdiv (cs u xs)-y.fdiv (cs u ys):=λx y j l f=>by
  have e1:x.fdiv (cs u xs)*cs u xs=x:=gZ a l;rw[←d]at f ⊢;have o:y.fdiv (cs u xs)*cs u xs=y:=gZ a f;refine Int.dvd_of_mul_dvd_mul_right a ?_;rw[k,Int.sub_mul,e1,o];exact j
 exact Wb n (m _ _ g (iR (Aq (vK b))) (iR (Aq (vK c))))
theorem Kx{u:Int}:∀(r ts c:LI'),Cong u ts c->u∣dotI r ts-dotI r c
 |[],ts,c,_=>by simp[dotI]
 |x:: r,[],c,h=>by
  have:c=[]:=vG h.1.symm;subst this;simp[dotI]
 |x:: r,t:: ts,[],h=>by have:=h.1;simp at this
 |x:: r,t:: ts,t':: c,h=>by
  have f:=Kx r ts c ⟨by have:=h.1;simpa using this,λi a b e1 d=>h.2 (i+1) a b (by simpa using e1) (by simpa using d)⟩;have e:=h.2 0 t t' rfl rfl;have e1:dotI (x:: r) (t:: ts)=x*t+dotI r ts:=by simp[dotI]
  have d:dotI (x:: r) (t':: c)=x*t'+dotI r c:=by simp[dotI]
  rw[e1,d,show x*t+dotI r ts-(x*t'+dotI r c)=x*(t-t')+(dotI r ts-dotI r c) by rw[Int.mul_sub];omega];exact Int.dvd_add (Int.dvd_mul_of_dvd_right e) f
theorem Kv{N:LM}{ns ts c b:LI'}{v u:Int}(e:Cong v ns c)(j:Cong u ts b):Cong (v*u) (movT N ns v ts u) (movT N c v b u):=by
 refine⟨by unfold movT;rw[xZ,xZ,e.1],λi x y e1 a=>?_⟩;unfold movT at e1 a;rw[wB]at e1 a;cases en:N[i]? with
 |none=>rw[en]at e1;cases e1
 | some r =>
  rw[en]at e1 a;cases e3:ns[i]? with
  |none=>rw[e3]at e1;cases e1
  | some n =>
   cases e4:c[i]? with
   |none=>rw[e4]at a;cases a
   |some d =>
    rw[e3]at e1;rw[e4]at a;cases zZ e1;cases zZ a;obtain⟨k,l⟩:=Kx r ts b j;obtain⟨m,o⟩:=e.2 i n d e3 e4;refine⟨k+m,?_⟩;have f:dotI r ts=dotI r b+u*k:=⋯
    have g:n=d+v*m:=⋯
    rw[f,g];grind
theorem Wa{d:Nat}{x s:Dd}(a:0<x.2.2)(b:0<s.2.2):nQ (behD d x s)=mJ d (nQ x) (nQ s):=by
 obtain⟨c,e⟩:=Cong.red (wR b a) (Kv (N:=s.1) (Cong.rest b s.2.1) (Cong.rest a x.2.1));unfold mJ nQ behD;show(_,_,_)=(_,_,_);rw[Prod.mk.injEq,Prod.mk.injEq];exact⟨rfl,e,c⟩
theorem Sq.mul{n:Nat}{A B:LM}(a:Sq n A):Sq n (mulM n A B):=by
 refine⟨by simp[mulM,a.1],λr hr=>?_⟩;obtain⟨z,_,rfl⟩:=nD.mp hr;simp
theorem gJ{d:Nat}:Sq d (idM d):=⟨by simp[idM],λr hr=>by
 obtain⟨i,_,rfl⟩:=nD.mp hr;simp⟩
theorem mul2(a b c d g e f d':Int):mulM 2 [[a,b],[c,d]] [[g,e],[f,d']]=[[a*g+b*f,a*e+b*d'],[c*g+d*f,c*e+d*d']]:=by simp[mulM,dotI,colI,List.range,List.range.loop]
theorem mul3(a b c d e f g i j k m q d' p n g' l o:Int):mulM 3 [[a,b,c],[d,e,f],[g,i,j]] [[k,m,q],[d',p,n],[g',l,o]]=[[a*k+(b*d'+c*g'),a*m+(b*p+c*l),a*q+(b*n+c*o)],[d*k+(e*d'+f*g'),d*m+(e*p+f*l),d*q+(e*n+f*o)],[g*k+(i*d'+j*g'),g*m+(i*p+j*l),g*q+(i*n+j*o)]]:=by
 simp[mulM,dotI,colI,List.range,List.range.loop]
theorem mul_assoc{d:Nat}(p:d=2\/d=3){A B C:LM}(k:Sq d A)(l:Sq d B)(m:Sq d C):mulM d (mulM d A B) C=mulM d A (mulM d B C):=by
 rcases p with e|e <;> subst e
 ·obtain⟨a,b,c,d,rfl⟩:=sq2 k;obtain⟨u,r,n,d',rfl⟩:=sq2 l;obtain⟨v,b2,o,q,rfl⟩:=sq2 m;simp only[mul2,List.cons.injEq,and_true];refine⟨⟨?_,?_⟩,?_,?_⟩ <;> grind
 ·obtain⟨a,b,c,d,e,f,g,i,j,rfl⟩:=sq3 k;obtain⟨u,r,n,d',L,G,g',y,I,rfl⟩:=sq3 l;obtain⟨v,b2,o,q,D,J,F,z,x,rfl⟩:=sq3 m;simp only[mul3,List.cons.injEq,and_true];refine⟨⟨?_,?_,?_⟩,⟨?_,?_,?_⟩,?_,?_,?_⟩ <;> grind
theorem gK{d:Nat}(l:d=2\/d=3){A:LM}(k:Sq d A):mulM d (idM d) A=A/\mulM d A (idM d)=A:=by
 rcases l with e|e <;> subst e
 ·obtain⟨a,b,c,d,rfl⟩:=sq2 k;rw[id2,mul2,mul2];simp
 ·obtain⟨a,b,c,d,e,f,g,i,j,rfl⟩:=sq3 k;rw[id3,mul3,mul3];simp
theorem v2{v:LI'}(h:v.length=2):∃x y,v=[x,y]:=len2 h
theorem v3{v:LI'}(h:v.length=3):∃x y z,v=[x,y,z]:=len3 h
def mv(M:LM)(v:LI'):LI':=M.map λr=>dotI r v
def va(v w:LI'):LI':=List.zipWith (·+·) v w
theorem Xz{d:Nat}{A:LM}{v:LI'}(h:Sq d A):(mv A v).length=d:=by unfold mv;rw[zqe];exact h.1
theorem mv2(a b c e x y:Int):mv [[a,b],[c,e]] [x,y]=[a*x+b*y,c*x+e*y]:=by simp[mv,dotI]
theorem mv3(a b c d g i j f e x y z:Int):mv [[a,b,c],[d,g,i],[j,f,e]] [x,y,z]=[a*x+(b*y+c*z),d*x+(g*y+i*z),j*x+(f*y+e*z)]:=by simp[mv,dotI]
theorem Xy{d:Nat}(b:d=2\/d=3){v:LI'}(a:v.length=d):mv (idM d) v=v:=by
 rcases b with rfl|rfl
 ·obtain⟨x,y,rfl⟩:=v2 a;rw[id2,mv2];simp
 ·obtain⟨x,y,z,rfl⟩:=v3 a;rw[id3,mv3];simp
def smul(k:Int)(T:LI'):LI':=T.map λt=>k*t
theorem Xx{k:Int}{T:LI'}:(smul k T).length=T.length:=by unfold smul;rw[zqe]
structure Chg(d:Nat)(P P':LM):Prop where
 p:Sq d P
 q:Sq d P'
 l:mulM d P' P=idM d
 r:mulM d P P'=idM d
theorem Chg.id{d:Nat}(a:d=2\/d=3):Chg d (idM d) (idM d):=⟨gJ,gJ,(gK a gJ).1,(gK a gJ).1⟩
theorem Chg.then{d:Nat}(a:d=2\/d=3){P c R b:LM}(h:Chg d P c)(g:Chg d R b):Chg d (mulM d R P) (mulM d c b):=by
 refine⟨g.p.mul,h.q.mul,?_,?_⟩
 ·rw[mul_assoc a h.q g.q g.p.mul,←mul_assoc a g.q g.p h.p,g.l,(gK a h.p).1,h.l]
 ·rw[mul_assoc a g.p h.p h.q.mul,←mul_assoc a h.p h.q g.q,h.r,(gK a g.q).1,g.r]
def cjM(d:Nat)(P P' M:LM):LM:=mulM d (mulM d P M) P'
theorem dO{d:Nat}{P a:LM}(h:Chg d P a)(M:LM):Sq d (cjM d P a M):=h.p.mul.mul
theorem Xw{d:Nat}(b:d=2\/d=3){P c R a M:LM}(h:Chg d P c)(g:Chg d R a)(e:Sq d M):cjM d R a (cjM d P c M)=cjM d (mulM d R P) (mulM d c a) M:=by
 unfold cjM;rw[mul_assoc b g.p h.p e,←mul_assoc b (g.p.mul) h.q g.q,mul_assoc b g.p (h.p.mul) h.q]
def vs(v w:LI'):LI':=List.zipWith (· - ·) v w
theorem Xv{d:Nat}{v w:LI'}(b:v.length=d)(a:w.length=d):(va v w).length=d:=by unfold va;rw[xZ,b,a,Nat.min_self]
def cjT(d:Nat)(P P' M:LM)(ts S:LI'):LI':=vs (va (mv P ts) S) (mv (cjM d P P' M) S)
theorem Xu{d:Nat}(a:d=2\/d=3){P c A B:LM}(h:Chg d P c)(b:Sq d A)(e:Sq d B):mulM d (cjM d P c B) (cjM d P c A)=cjM d P c (mulM d B A):=by
 unfold cjM;rw[mul_assoc a h.p.mul h.q h.p.mul.mul,mul_assoc a h.p b h.q,←mul_assoc a h.q h.p b.mul,h.l,(gK a b.mul).1,←mul_assoc a h.p.mul b h.q,mul_assoc a h.p e b]
def stE(i j:Nat)(m:Int)(a b:Nat):Int:=if a=b then 1 else if a=i/\b=j then m else 0
def stM(d i j:Nat)(m:Int):LM:=(List.range d).map λa=>(List.range d).map λb=>if a=b then 1 else if a=i/\b=j then m else 0
def vst(i j:Nat)(m:Int)(v:LI'):LI':=v.set i (v.getD i 0+m*v.getD j 0)
def mixR(d:Nat)(x y:LI')(m:Int):LI':=(List.range d).map λk=>x.getD k 0+m*y.getD k 0
def colR(d i j:Nat)(m:Int)(row:LI'):LI':=(List.range d).map λk=>row.getD k 0-(if k=j then 1 else 0)*m*row.getD i 0
def Ah(d i j:Nat)(m:Int)(A:LM):LM:=(A.set i (mixR d (A.getD i []) (A.getD j []) m)).map (colR d i j m)
theorem bA{d i j:Nat}{m:Int}:Sq d (stM d i j m):=⟨by simp[stM],λr hr=>by
 obtain⟨a,_,rfl⟩:=nD.mp hr;simp⟩
theorem bB{a:Type}{d k:Nat}{f:Nat->a}{z:a}(h:k<d):((List.range d).map f).getD k z=f k:=by
 rw[zqc,zH,xC h];rfl
theorem dP{a:Type}{d:Nat}{l:List a}{z:a}(h:l.length=d):l=(List.range d).map λk=>l.getD k z:=by
 refine tQ (by simp[h]) λk b c=>?_;rw[tN,qH,zqc,zqd b];rfl
theorem El{b:Type}{d i:Nat}{f:Nat->b}{v:b}:((List.range d).map f).set i v=(List.range d).map λa=>if a=i then v else f a:=by
 refine tQ (by simp) λk c g=>?_;rw[tN,qH,List.getElem_set]
 by_cases e:i=k
 ·rw[zF e,zF e.symm]
 ·rw[zD e,zD (zT e),tN,qH]
theorem iC{a:Type}{d:Nat}{f g:Nat->a}(h:∀k,k<d->f k=g k):(List.range d).map f=(List.range d).map g:=xS λk b=>h k (oY.mp b)
theorem dQ{x y:Int}{r c:LI'}:dotI (x:: r) (y:: c)=x*y+dotI r c:=by simp[dotI]
theorem Ek{n:Int}{a:Nat}:∀{c:LI'}{s:Nat},dotI ((List.range' s c.length).map λb=>if a=b then n else 0) c=if s<=a then n*c.getD (a-s) 0 else 0
 |[],s=>by simp[dotI]
 | x:: c,s=>by
  rw[zR,List.range'_succ,zO,dQ,Ek]
  by_cases h:a=s
  ·subst h;rw[zF rfl,zD ⋯,zF (zE _),vN,wZ];rfl
  ·rw[zD h,uE,rT]
   by_cases d:s<=a
   ·rw[zF d,zF ⋯,show a-s=(a-(s+1))+1 by omega];rfl
   ·rw[zD d,zD ⋯]
theorem Ku{f g:Nat->Int}:∀{l:List Nat}{c:LI'},dotI (l.map λb=>f b+g b) c=dotI (l.map f) c+dotI (l.map g) c
 |[],c=>by simp[dotI]
 |b:: l,[]=>by simp[dotI]
 |b:: l,x:: c=>by
  rw[zO,zO,zO,dQ,dQ,dQ,Ku,Int.add_mul];omega
theorem Ej{d a i j:Nat}(l:i≠j){m:Int}{c:LI'}(n:c.length=d):dotI ((List.range d).map (stE i j m a)) c=c.getD a 0+if a=i then m*c.getD j 0 else 0:=by
 have e:stE i j m a=λb=>(if a=b then(1:Int) else 0)+if j=b then(if a=i then m else 0) else 0:=funext λb=>by
  unfold stE
  by_cases k:a=b
  ·subst k;rw[zF rfl,zF rfl]
   by_cases f:j=a
   ·rw[zF f,zD (λz=>l ⋯),wZ]
   ·rw[zD f,wZ]
  ·rw[zD k,zD k,rT]
   by_cases f:j=b
   ·by_cases g:a=i
    ·rw[zF ⟨g,f.symm⟩,zF f,zF g]
    ·rw[zD (λz=>g z.1),zF f,zD g]
   ·rw[zD (λz=>f z.2.symm),zD f]
 subst n;rw[e,Ku,List.range_eq_range',Ek,Ek,zF (zY _),zF (zY _),oR];show c.getD a 0+_*c.getD j 0=_
 by_cases h:a=i
 ·rw[zF h,zF h]
 ·rw[zD h,zD h,uE]
theorem Kt{A:LM}{a k:Nat}:(colI k A).getD a 0=(A.getD a []).getD k 0:=by
 unfold colI;rw[zqc,zH,zqc (l:=A)];cases A[a]? <;> rfl
theorem Ks:∀{r c:LI'},dotI r c=dotI c r
 |[],c=>by cases c <;> rfl
 |x:: r,[]=>rfl
 |x:: r,y:: c=>by rw[dQ,dQ,Ks,vE]
theorem Xt{i j a k:Nat}{n:Int}:stE i j n a k=stE j i n k a:=by
 unfold stE
 by_cases h:a=k
 ·rw[zF h,zF h.symm]
 ·rw[zD h,zD (zT h)]
  by_cases z:a=i/\k=j
  ·rw[zF z,zF z.symm]
  ·rw[zD z,zD (λw=>z w.symm)]
theorem Kr{d i j:Nat}{m:Int}(b:i≠j){A:LM}(e:A.length=d):mulM d (stM d i j m) A=(List.range d).map λa=>(List.range d).map λk=>(A.getD a []).getD k 0+if a=i then m*(A.getD j []).getD k 0 else 0:=by
 unfold mulM stM;rw[yW];refine iC λa _=>iC λk _=>?_;have c:(colI k A).length=d:=by unfold colI;rw[zqe,e]
 have:=Ej (a:=a) (m:=m) b c;rw[Kt,Kt]at this;exact this
theorem Xs{d i j:Nat}{n:Int}(b:i≠j){B:LM}(c:∀r∈B,r.length=d):mulM d B (stM d i j n)=B.map λr=>(List.range d).map λk=>r.getD k 0+if k=j then n*r.getD i 0 else 0:=by
 unfold mulM;refine xS λr hr=>iC λk f=>?_;have e:colI k (stM d i j n)=(List.range d).map (stE j i n k):=by
  unfold colI stM;rw[yW];refine iC λa _=>?_;show((List.range d).map (stE i j n a)).getD k 0=_;rw[bB f,Xt]
 rw[e,Ks,Ej (zT b) (c r hr)]
theorem Kq{d i j:Nat}{m:Int}(l:i≠j)(n:j<d):mulM d (stM d i j m) (stM d i j (-m))=idM d:=by
 rw[Kr l bA.1];unfold idM;refine iC λa g=>iC λk o=>?_;have e:∀a,a<d->(((stM d i j (-m)).getD a []).getD k 0)=stE i j (-m) a k:=λa g=>by
  unfold stM;rw[bB g];exact bB o
 rw[e a g,e j n];unfold stE
 by_cases f:a=k
 ·rw[zF f,zF f]
  by_cases b:a=i
  ·rw[zF b,zD ⋯,zD ⋯,oN,wZ]
  ·rw[zD b,wZ]
 ·rw[zD f,zD f]
  by_cases b:a=i
  ·rw[zF b]
   by_cases c:k=j
   ·rw[zF ⟨b,c⟩,zF c.symm,oB,Int.add_left_neg]
   ·rw[zD (λz=>c z.2),zD (zT c),zD (λz=>c z.2),oN,wZ]
  ·rw[zD (λz=>b z.1),zD b,wZ]
theorem Kp{d i j:Nat}{m:Int}(n:d=2\/d=3)(hi:i<d)(g:j<d)(b:i≠j):Chg d (stM d i j m) (stM d i j (-m))/\(∀v:LI',v.length=d->mv (stM d i j m) v=vst i j m v)/\∀A,Sq d A->Ah d i j m A=cjM d (stM d i j m) (stM d i j (-m)) A:=by
 refine⟨⟨bA,bA,?_,Kq b g⟩,λv f=>?_,λA c=>?_⟩
 ·have:=Kq (d:=d) (m:=-m) b g;rw[Int.neg_neg]at this;exact this
 ·unfold mv stM vst;rw[yW]
  conv=>rhs;rw[dP (z:=0) f,El,←dP f]
  refine iC λa _=>?_;show dotI ((List.range d).map (stE i j m a)) v=_;rw[Ej b f]
  by_cases h:a=i
  ·rw[zF h,zF h,h]
  ·rw[zD h,zD h,wZ]
 ·unfold cjM;rw[Xs b bA.mul.2,Kr b c.1];unfold Ah;have e:A.set i (mixR d (A.getD i []) (A.getD j []) m)=(List.range d).map λa=>(List.range d).map λk=>(A.getD a []).getD k 0+if a=i then m*(A.getD j []).getD k 0 else 0:=by
   conv=>lhs;rw[dP (l:=A) (z:=[]) c.1,El,←dP c.1]
   refine iC λa l=>?_
   by_cases h:a=i
   ·rw[zF h];unfold mixR;refine iC λk _=>?_;rw[zF h,h]
   ·rw[zD h];have hr:(A.getD a []).length=d:=c.2 _ (by rw[zqc,zqd (by rw[c.1];exact l)];exact vK _)
    conv=>lhs;rw[dP (z:=0) hr]
    exact iC λk _=>by rw[zD h,wZ]
  rw[e];refine xS λr _=>iC λk _=>?_
  by_cases h:k=j
  ·rw[zF h,zF h,oR,Int.neg_mul,Int.sub_eq_add_neg]
  ·rw[zD h,zD h,uE,uE,Int.sub_zero,wZ]
structure Stp where
 i:Nat
 j:Nat
 m:Int
structure Stp.Ok(d:Nat)(s:Stp):Prop where
 hi:s.i<d
 hj:s.j<d
 ne:s.i≠s.j
 m2:s.m.natAbs<=1000000
def chP(d:Nat):List Stp->LM
 |[]=>idM d
 |s:: L=>mulM d (stM d s.i s.j s.m) (chP d L)
def chQ(d:Nat):List Stp->LM
 |[]=>idM d
 |s:: L=>mulM d (chQ d L) (stM d s.i s.j (-s.m))
theorem iD{d:Nat}(a:d=2\/d=3):∀{L:List Stp},(∀s∈L,s.Ok d)->Chg d (chP d L) (chQ d L)
 |[],_=>Chg.id a
 |s:: L,h=>by
  have o:=h s (yE ..);exact(iD a λz b=>h z (zU _ b)).then a (Kp a o.hi o.hj o.ne).1
theorem Xr{d:Nat}(a:d=2\/d=3){L:List Stp}(h:∀s∈L,s.Ok d){s:Stp}(o:s.Ok d){A:LM}(b:Sq d A):Ah d s.i s.j s.m (cjM d (chP d L) (chQ d L) A)=cjM d (chP d (s:: L)) (chQ d (s:: L)) A:=by
 have g:=(Kp (m:=s.m) a o.hi o.hj o.ne);rw[g.2.2 _ (dO (iD a h) A),Xw a (iD a h) g.1 b];rfl
theorem Xq{d:Nat}(a:d=2\/d=3){A:LM}(b:Sq d A){v:LI'}(c:v.length=d):cjM d (chP d []) (chQ d []) A=A/\mv (chP d []) v=v:=by
 refine⟨?_,Xy a c⟩;unfold chP chQ cjM;rw[(gK a b).1,(gK a b).2]
def LeM(N:Nat)(A:LM):Prop:=∀r∈A,∀z∈r,z.natAbs<=N
theorem Ko{d i j:Nat}{m:Int}{N:Nat}(h:m.natAbs<=N)(c:1<=N):LeM N (stM d i j m):=λr hr z e=>by
 obtain⟨a,_,rfl⟩:=nD.mp hr;obtain⟨b,_,rfl⟩:=nD.mp e;split
 ·exact c
 ·split
  ·exact h
  ·omega
theorem Kn{A B:Nat}:∀(r ns:LI'),(∀z∈r,z.natAbs<=A)->(∀z∈ns,z.natAbs<=B)->(dotI r ns).natAbs<=r.length*(A*B)
 |[],ns,_,_=>by simp[dotI]
 |_:: _,[],_,_=>by simp[dotI]
 |a:: r,b:: ns,d,e=>by
  have g:=Kn r ns (λz c=>d z (zU _ c)) λz c=>e z (zU _ c);unfold dotI at g ⊢;rw[wS,List.sum_cons,zR,pK];have e1:(a*b).natAbs<=A*B:=by rw[xK];exact wW (d a yE) (e b yE)
  have j:=vX (a*b) (List.zipWith (λi f=>i*f) r ns).sum;omega
theorem Xp{N:Nat}{A:LM}(h:LeM N A)(k:Nat):∀z∈colI k A,z.natAbs<=N:=λz a=>by
 unfold colI at a;obtain⟨r,hr,rfl⟩:=nD.mp a;rw[zqc];cases e:r[k]? with
 |none=>exact zY _
 |some y=>exact h r hr y (zqb e)
theorem bD{d A B:Nat}{M N:LM}(e:Sq d M)(f:LeM A M)(b:LeM B N):LeM (d*(A*B)) (mulM d M N):=λr hr z c=>by
 obtain⟨x,a,rfl⟩:=nD.mp hr;obtain⟨k,_,rfl⟩:=nD.mp c;have:=Kn x (colI k N) (f x a) (Xp b k);rw[e.2 x a]at this;exact this
theorem Km{c:Int}:∀{r v:LI'},dotI r (smul c v)=c*dotI r v
 |[],v=>by simp[dotI]
 |_:: _,[]=>by simp[dotI,smul]
 |a:: r,x:: v=>by
  have:=Km (c:=c) (r:=r) (v:=v);unfold dotI smul at this ⊢;simp only[List.map_cons,List.zipWith_cons_cons,List.sum_cons];rw[this];grind
def canD(M:LM)(ts:LI')(U:Int):Dd:=(M,lR (redU U ts) (redT U ts),redU U ts)
theorem Kl{M:LM}{ts b:LI'}{U:Int}(c:0<U)(h:Cong U ts b):canD M ts U=canD M b U:=by
 obtain⟨a,d⟩:=h.red c;unfold canD;rw[a,←a,d,a]
theorem Ag{U:Int}{ts:LI'}(a:0<U):cs U ts=gl U ts/\0<cs U ts:=by
 have:=De ts (show U≠0 by omega);unfold cs;rw[zD ⋯];exact⟨rfl,this⟩
theorem Ei{U:Int}{ts:LI'}(b:0<U):∃c,0<c/\ts=smul c (redT U ts)/\U=c*redU U ts/\0<redU U ts:=by
 obtain⟨e,d⟩:=Ag (ts:=ts) b;refine⟨cs U ts,d,?_,?_,Ap ts ⋯⟩
 ·unfold smul redT;rw[yW]
  conv=>lhs;rw[←List.map_id ts]
  refine xS λt a=>?_;show t=cs U ts*t.fdiv (cs U ts);rw[vE];exact(gZ ⋯ (iR (Aq a))).symm
 ·rw[vE];exact(gZ ⋯ (iR (gl_u U ts))).symm
theorem Xo{U k:Int}{ts:LI'}(b:0<U)(a:0<k):redT (k*U) (smul k ts)=redT U ts/\redU (k*U) (smul k ts)=redU U ts:=by
 have d:0<k*U:=wR a b;have c:cs (k*U) (smul k ts)=k*cs U ts:=by
  rw[(Ag d).1,(Ag b).1,vE k U,vE k (gl U ts),←Wc a];unfold smul;congr 1;exact xS λt _=>vE k t
 have e:=(Ag (ts:=ts) b).2;refine⟨?_,?_⟩
 ·unfold redT;rw[c];unfold smul;rw[yW];exact xS λt f=>by
   show(k*t).fdiv (k*cs U ts)=_;exact Int.mul_fdiv_mul_of_pos _ _ a
 ·unfold redU;rw[c];exact Int.mul_fdiv_mul_of_pos _ _ a
theorem bE{M:LM}{U k:Int}{ts:LI'}(b:0<U)(d:0<k):canD M (smul k ts) (k*U)=canD M ts U:=by
 obtain⟨a,c⟩:=Xo (ts:=ts) b d;unfold canD;rw[a,c]
theorem Xn{N:LM}{ns ts:LI'}{c e u v:Int}:movT N (smul e ns) (e*v) (smul c ts) (c*u)=smul (e*c) (movT N ns v ts u):=by
 unfold movT
 induction N generalizing ns with
 |nil=>rfl
 | cons r N b =>
  cases ns with
  |nil=>rfl
  |cons n ns =>
   have:=b (ns:=ns);unfold smul at this ⊢;rw[zO,wS,wS,zO,this];have a:=Km (c:=c) (r:=r) (v:=ts);unfold smul at a;rw[a];congr 1;grind
theorem Xm{d:Nat}{M N:LM}{ts ns:LI'}{U V:Int}(k:0<U)(i:0<V):mJ d (canD M ts U) (canD N ns V)=canD (mulM d N M) (movT N ns V ts U) (V*U):=by
 obtain⟨c,j,e1,f,b⟩:=Ei (ts:=ts) k;obtain⟨e,n,l,g,a⟩:=Ei (ts:=ns) i;have k1:canD (mulM d N M) (movT N ns V ts U) (V*U)=canD (mulM d N M) (movT N (redT V ns) (redU V ns) (redT U ts) (redU U ts)) (redU V ns*redU U ts):=by
  have hh:V*U=(e*c)*(redU V ns*redU U ts):=by
   conv=>lhs;rw[f,g]
   grind
  have m:movT N ns V ts U=smul (e*c) (movT N (redT V ns) (redU V ns) (redT U ts) (redU U ts)):=by
   rw[←Xn,←e1,←f,←l,←g]
  rw[hh,m,bE (wR a b) (wR n j)]
 rw[k1];exact Kl (wR a b) (Kv (Cong.rest a _) (Cong.rest b _)) |>.symm
def frD(d:Nat)(P P':LM)(s:LI')(su p:Int)(R:LM)(t:LI'):Dd:=canD (cjM d P P' R) (cjT d P P' R (smul su t) (smul p s)) (p*su)
theorem Xl{N:LM}{ns ts:LI'}{U:Int}:movT N ns U ts U=smul U (va (mv N ts) ns):=by
 unfold movT va mv
 induction N generalizing ns with
 |nil=>rfl
 | cons r N a =>
  cases ns with
  |nil=>rfl
  |cons n ns =>
   have:=a (ns:=ns);unfold smul at this ⊢;rw[wS,zO,wS,zO,this];congr 1;grind
theorem Xk{ss:List Dd}{k:Dd×Nat}(h:k∈ss.zipIdx):k.1∈ss/\ss[k.2]?=some k.1:=by
 obtain⟨i,hi⟩:=xW h;rw[rP]at hi;cases e:ss[i]? with
 |none=>rw[e]at hi;cases hi
 |some s =>
  rw[e]at hi;cases hi;exact⟨zqb e,by simpa using e⟩
theorem Xj{d:Nat}{ss:List Dd}{tb:Tb}{i:Nat}(h:(tb.map (·.1)).Nodup):((jB d ss tb i).map (·.1)).Nodup:=by
 unfold jB;split
 ·exact h
 ·exact Jf _ _ h
theorem Kk{d:Nat}{ss:List Dd}:∀(n i:Nat)(tb:Tb),(tb.map (·.1)).Nodup->((mL d ss n i tb).map (·.1)).Nodup
 |0,_,_,h=>h
 |n+1,i,tb,h=>by
  unfold mL;split
  ·exact Kk n (i+1) _ (Xj h)
  ·exact h
abbrev tab(d:Nat)(ss:List Dd)(N:Nat):Tb:=mL d ss N 0 [(mO d,[])]
theorem Xi{d:Nat}{ss:List Dd}{N:Nat}:((tab d ss N).map (·.1)).Nodup:=Kk N 0 _ (by simp)
theorem Kj{d:Nat}{x:Dd}{w:List Nat}:∀(l:List (Dd×Nat))(tb:Tb),∀k∈l,mJ d x k.1∈(l.foldl (nxt d x w) tb).map (·.1)
 | k:: l,tb,k',a=>by
  rw[vC];rcases xM.mp a with rfl|a
  ·have h:mJ d x k'.1∈(nxt d x w tb k').map (·.1):=by
    unfold nxt;split
    ·assumption
    ·simp
   obtain⟨r,e⟩:=cX d x w l (nxt d x w tb k');rw[e,yX];exact xI _ h
  ·exact Kj l _ k' a
theorem Xh{d:Nat}{ss:List Dd}{tb:Tb}{i:Nat}{a:Dd×List Nat}(e:tb[i]?=some a){s:Dd}(c:s∈ss):mJ d a.1 s∈(jB d ss tb i).map (·.1):=by
 unfold jB;rw[e];obtain⟨j,b⟩:=xW c;exact Kj ss.zipIdx tb (s,j) (zqb (i:=j) (by rw[rP,b];simp))
theorem Xg{d:Nat}{ss:List Dd}{N:Nat}:(mO d,[])∈tab d ss N:=by
 obtain⟨r,e⟩:=Ex d ss N 0 [(mO d,[])];unfold tab;rw[e];simp
def famG:Nat->List LM
 |0=>[[[0,-1],[1,0]],[[-1,0],[0,1]]]
 |1=>[[[1,-1],[1,0]],[[0,1],[1,0]]]
 |2=>[[[0,-1,0],[1,0,0],[0,0,1]],[[0,0,1],[1,0,0],[0,1,0]],[[-1,0,0],[0,-1,0],[0,0,-1]]]
 |_=>[[[1,-1,0],[1,0,0],[0,0,1]],[[0,1,0],[1,0,0],[0,0,1]],[[1,0,0],[0,1,0],[0,0,-1]]]
def famD(k:Nat):Nat:=if k<2 then 2 else 3
def Xf(d:Nat)(gs l:List LM):List LM:=(l.flatMap λA=>gs.map λg=>mulM d g A).foldl (λacc M=>if acc.contains M then acc else acc++[M]) l
def Eh(d:Nat)(gs:List LM):Nat->List LM->List LM
 |0,l=>l
 |n+1,l=>Eh d gs n (Xf d gs l)
def pgL(k:Nat):List LM:=Eh (famD k) (famG k) 10 [idM (famD k)]
def invM(d:Nat)(A:LM):LM:=mulM d A (mulM d (mulM d A A) (mulM d (mulM d (mulM d A A) (mulM d A A)) (mulM d (mulM d A A) (mulM d A A))))
def Ki(k:Nat):Bool:=
 (pgL k).contains (idM (famD k)) && (famG k).all (λg=>(pgL k).contains g) &&
 (pgL k).all (λA=>(famG k).all λg=>(pgL k).contains (mulM (famD k) g A)) &&
 (pgL k).all (λA=>decide (mulM (famD k) A (invM (famD k) A)=idM (famD k)) && decide (mulM (famD k) (invM (famD k) A) A=idM (famD k))) &&
 (pgL k).all (λA=>decide (A.length=famD k) && A.all λr=>decide (r.length=famD k) && r.all λz=>decide (z.natAbs<=1))
theorem Xe:(List.range 4).all Ki=true:=nofun
theorem Xd(k:Nat):famD k=2\/famD k=3:=by unfold famD;split <;> simp
theorem Kh{M:LM}:∀(xs acc:List LM),M∈xs.foldl (λacc M=>if acc.contains M then acc else acc++[M]) acc->M∈acc\/M∈xs
 |[],_,h=>.inl h
 | x:: xs,acc,h=>by
  rcases Kh xs _ h with q|q
  ·dsimp only at q;split at q
   ·exact .inl q
   ·rcases oW.mp q with q|q
    ·exact .inl q
    ·exact .inr (by rw[oP.mp q];exact .head _)
  ·exact .inr (.tail _ q)
theorem Kg{P:LM->Prop}{d:Nat}{gs:List LM}(a:∀A,P A->∀g∈gs,P (mulM d g A)):∀(n:Nat)(l:List LM),(∀A∈l,P A)->∀M∈Eh d gs n l,P M
 |0,_,h=>h
 |n+1,l,h=>Kg a n _ λM b=>by
  rcases Kh _ _ b with q|q
  ·exact h M q
  ·obtain⟨A,c,q⟩:=List.mem_flatMap.mp q;obtain⟨g,e,rfl⟩:=nD.mp q;exact a A (h A c) g e
structure Fam(k:Nat):Prop where
 one:idM (famD k)∈pgL k
 gen:∀g∈famG k,g∈pgL k
 mul:∀A∈pgL k,∀B∈pgL k,mulM (famD k) A B∈pgL k
 inv:∀A∈pgL k,∃B∈pgL k,mulM (famD k) A B=idM (famD k)/\mulM (famD k) B A=idM (famD k)
 sq:∀A∈pgL k,Sq (famD k) A
 wee:∀A∈pgL k,∀r∈A,∀z∈r,z.natAbs<=1
theorem Af{k:Nat}(q:k<4):Fam k:=by
 have h:=uK.mp Xe k (oY.mpr q);simp only[Ki,Bool.and_eq_true,List.all_eq_true,decide_eq_true_eq,List.contains_iff_mem]at h;obtain⟨⟨⟨⟨o,d⟩,j⟩,p⟩,e⟩:=h;have i:=Xd k;have c:∀A∈pgL k,Sq (famD k) A:=λA a=>⟨(e A a).1,λr hr=>((e A a).2 r hr).1⟩;have mul:∀A∈pgL k,∀B∈pgL k,mulM (famD k) A B∈pgL k:=λA a=>(Kg (P:=λA=>Sq (famD k) A/\∀B∈pgL k,mulM (famD k) A B∈pgL k) (gs:=famG k) (λA⟨l,m⟩g f=>⟨(c g (d g f)).mul,λB b=>by
  rw[mul_assoc i (c g (d g f)) l (c B b)];exact j _ (m B b) g f⟩) 10 [idM (famD k)] (λA a=>by
   rw[oP.mp a];exact⟨gJ,λB b=>by rw[(gK i (c B b)).1];exact b⟩) A a).2
 have sq2:=λA a=>mul A a A a;have sq4:=λA a=>mul _ (sq2 A a) _ (sq2 A a);exact⟨o,d,mul,λA a=>⟨invM (famD k) A,mul A a _ (mul _ (sq2 A a) _ (mul _ (sq4 A a) _ (sq4 A a))),p A a⟩,c,λA a r hr z n=>((e A a).2 r hr).2 z n⟩
theorem Xc{d:Nat}{c:Int}:smul c (List.replicate d 0)=List.replicate d 0:=by
 unfold smul;rw[List.map_replicate,oN]
theorem Kf{d:Nat}(b:d=2\/d=3){M:LM}{U:Int}(a:0<U):canD M (List.replicate d 0) U=(M,List.replicate d 0,1):=by
 have h:=bE (M:=M) (ts:=List.replicate d 0) (U:=1) (k:=U) ⋯ a;rw[Xc,oB]at h;rw[h];have:lR (redU 1 (List.replicate d 0)) (redT 1 (List.replicate d 0))=List.replicate d 0/\redU 1 (List.replicate d 0)=1:=by
  rcases b with rfl|rfl <;> decide +kernel
 unfold canD;rw[this.1,this.2]
def Rs(d:Nat)(x:Dd):Prop:=∃M ts U,Sq d M/\ts.length=d/\0<U/\x=canD M ts U
structure Grp(d:Nat)(T:List Dd):Prop where
 dim:d=2\/d=3
 nd:T.Nodup
 rs:∀x∈T,Rs d x
 one:mO d∈T
 mul:∀x∈T,∀y∈T,mJ d x y∈T
 inv:∀x∈T,∃y∈T,mJ d x y=mO d/\mJ d y x=mO d
theorem LeM.le{A B:Nat}{M:LM}(h:LeM A M)(a:A<=B):LeM B M:=λr hr z b=>yC (h r hr z b) a
theorem bF{d:Nat}:LeM 1 (idM d):=λr hr z a=>by
 obtain⟨i,_,rfl⟩:=nD.mp hr;obtain⟨j,_,rfl⟩:=nD.mp a;split <;> decide
theorem Ke{U:Int}{ts:LI'}(i:0<U):(∀z∈redT U ts,∃t∈ts,z.natAbs<=t.natAbs)/\0<redU U ts/\redU U ts<=U:=by
 have d:=dL ts (show U≠0 by omega);have g:0<redU U ts:=Ap ts ⋯;refine⟨λz c=>?_,g,?_⟩
 ·unfold redT at c;obtain⟨t,b,rfl⟩:=nD.mp c;refine⟨t,b,?_⟩;have e:t.fdiv (cs U ts)*cs U ts=t:=gZ d (iR (Aq b));have a:=vA Int.natAbs e;rw[xK]at a;have:1<=(cs U ts).natAbs:=⋯
  rw[←a];exact Nat.le_mul_of_pos_right _ this
 ·have e:redU U ts*cs U ts=U:=gZ d (iR (gl_u U ts));have a:=vA Int.natAbs e;rw[xK]at a;have f:1<=(cs U ts).natAbs:=⋯
  have:=Nat.le_mul_of_pos_right (redU U ts).natAbs f;omega
theorem fms(x y:Int)(h:0<y):0<=x.fmod y/\x.fmod y<y:=⟨uV x h,sK x h⟩
structure Amb(d:Nat)(G:Dd->Prop):Prop where
 dim:d=2\/d=3
 rs:∀x,G x->Rs d x
 fine:∀x,G x->kI d x
 one:G (mO d)
 mul:∀x y,G x->G y->G (mJ d x y)
 inv:∀x,G x->∃y,G y/\mJ d x y=mO d/\mJ d y x=mO d
theorem Kd{d:Nat}(b:d=2\/d=3):∀{L:List Stp},(∀s∈L,s.Ok d)->LeM (3000000^L.length) (chP d L)/\LeM (3000000^L.length) (chQ d L)
 |[],_=>⟨bF,bF⟩
 | s:: L,h=>by
  obtain⟨f,i⟩:=Kd b (L:=L) λz a=>h z (zU _ a);have o:=h s yE;have c:=iD b (L:=L) λz a=>h z (zU _ a);have g:=o.m2;rw[zR,sJ];have e:d*(1000000*3000000^L.length)<=3000000^L.length*3000000:=by
   have:d*(1000000*3000000^L.length)<=3*(1000000*3000000^L.length):=wG _ ⋯;omega
  refine⟨(bD bA (Ko g ∅) f).le e,?_⟩;have:=bD c.q i (Ko (d:=d) (i:=s.i) (j:=s.j) (m:=-s.m) (N:=1000000) ⋯ ∅);rw[rR (3000000^L.length) 1000000]at this;exact this.le e
structure Fr4 where
 k:Nat
 L:List Stp
 U:Int
structure Fr4.Ok(F:Fr4):Prop where
 k:F.k<4
 ok:∀s∈F.L,s.Ok (famD F.k)
 l3:F.L.length<=3
 u0:0<F.U
 u1:F.U<2^100
def Fr4.cj(F:Fr4)(R:LM):LM:=cjM (famD F.k) (chP (famD F.k) F.L) (chQ (famD F.k) F.L) R
theorem Kc{C:LM}{ts:LI'}{U:Int}:nQ (canD C ts U)=canD C ts U:=by
 unfold canD nQ lR;show(_,_,_)=(_,_,_);rw[yW];congr 2;exact xS λy _=>Int.fmod_fmod _ _
structure Fr5 where
 d:Nat
 L:List Stp
 U:Int
structure Fr5.Ok(F:Fr5):Prop where
 d:F.d=2\/F.d=3
 ok:∀s∈F.L,s.Ok F.d
 l3:F.L.length<=3
 u0:0<F.U
 u1:F.U<2^100
def Fr5.cj(F:Fr5)(R:LM):LM:=cjM F.d (chP F.d F.L) (chQ F.d F.L) R
def Wr(d:Nat)(R:LM):Prop:=Sq d R/\LeM 27 R
theorem Kb{k:Nat}(a:k<4){R:LM}(h:R∈pgL k):Wr (famD k) R:=⟨(Af a).sq R h,λr hr z b=>yC ((Af a).wee R h r hr z b) ∅⟩
def InN(F:Fr5)(n:Nat)(x:Dd):Prop:=∃R,Sq F.d R/\LeM (81^n) R/\∃ts:LI',ts.length=F.d/\x=canD (F.cj R) ts F.U
theorem ac5(A N:Nat):3*(3*(A*N)*A)=N*(3*(3*A*A)):=by
 rw[rR N,qR 3 (3*A*A) N,qR (3*A) A N,qR 3 A (A*N),qR 3 (A*N) A,rR (A*N) A]
theorem Eg{F:Fr5}(h:F.Ok){R:LM}{N:Nat}(d:LeM N R):LeM (N*2^140) (F.cj R):=by
 have a:=h.d;have c:=iD a h.ok;obtain⟨f,j⟩:=Kd a h.ok;have b:3000000^F.L.length<=3000000^3:=yS ∅ h.l3;have i:=bD c.p (f.le b) d;have g:=bD (c.p.mul (B:=R)) i (j.le b);refine LeM.le g ?_;have e:F.d*(F.d*(3000000^3*N)*3000000^3)<=3*(3*(3000000^3*N)*3000000^3):=wW ⋯ (wG _ (wG _ ⋯));rw[ac5]at e;exact yC e (Nat.mul_le_mul_left N ∅)
theorem Xb{n:Nat}(h:n<=201):81^n*2^140<2^1500 :=
 wX (wG _ (yS ∅ h)) (nofun)
theorem Ka{F:Fr5}(h:F.Ok){R:LM}{n:Nat}(a:n<=201)(b:LeM (81^n) R):mV 1500 (F.cj R):=λr hr z c=>wX (Eg h b r hr z c) (Xb a)
theorem Xa{d B:Nat}{C:LM}{ts:LI'}{U:Int}(e:B<=200000)(i:Sq d C)(f:mV B C)(hl:ts.length=d)(g:0<U)(k:U<2^100):kI d (canD C ts U)/\jA 1000 (canD C ts U).2.1/\(canD C ts U).2.2<2^1000:=by
 obtain⟨_,r2,j⟩:=Ke (ts:=ts) g;have c:∀z∈(canD C ts U).2.1,z.natAbs<2^100:=λz a=>by
  obtain⟨y,_,rfl⟩:=nD.mp a;have:=fms y _ r2;omega
 have b:(canD C ts U).2.2<2^100:=by
  show redU U ts<2^100;omega
 refine⟨⟨i,by show(lR _ (redT _ ts)).length=_;unfold lR redT;rw[zqe,zqe];exact hl,r2,λr hr z a=>zP (f r hr z a) (yS ∅ e),λz a=>?_,?_⟩,λz a=>?_,?_⟩
 ·exact zP (c z a) (yS ∅ ∅)
 ·exact Int.lt_of_lt_of_le b (nofun)
 ·exact zP (c z a) (yS ∅ ∅)
 ·exact Int.lt_of_lt_of_le b (nofun)
theorem Ae{F:Fr5}(h:F.Ok){n:Nat}{x:Dd}(e:n<=201)(a:InN F n x):kI F.d x/\mV 1500 x.1/\jA 1000 x.2.1/\x.2.2<2^1000:=by
 obtain⟨R,i,c,ts,hl,rfl⟩:=a;have b:=Ka h e c;obtain⟨g,d,f⟩:=Xa (ts:=ts) ∅ (dO (iD h.d h.ok) R) b hl h.u0 h.u1;exact⟨g,b,d,f⟩
theorem Yz{F:Fr5}(h:F.Ok){a R2:LM}(b:Sq F.d a)(c:Sq F.d R2){ts ns:LI'}:mJ F.d (canD (F.cj a) ts F.U) (canD (F.cj R2) ns F.U)=canD (F.cj (mulM F.d R2 a)) (va (mv (F.cj R2) ts) ns) F.U:=by
 rw[Xm h.u0 h.u0,Xl,bE h.u0 h.u0];unfold Fr5.cj;rw[Xu h.d (iD h.d h.ok) b c]
theorem Yy{F:Fr5}(h:F.Ok):InN F 0 (mO F.d):=by
 have c:=iD h.d h.ok;have e:F.cj (idM F.d)=idM F.d:=by
  unfold Fr5.cj cjM;rw[(gK h.d c.p).2,c.r]
 exact⟨_,gJ,bF,List.replicate F.d 0,by simp,by rw[e,Kf h.d h.u0];rfl⟩
def MkN(F:Fr5)(s:Dd):Prop:=kI F.d s/\∃R,Wr F.d R/\∃ns:LI',ns.length=F.d/\nQ s=canD (F.cj R) ns F.U
theorem Ef{F:Fr5}(h:F.Ok){ms:List Dd}(f:∀s∈ms,MkN F s):Ak F.d ms (InN F):=by
 have one:∀s∈ms,InN F 1 (nQ s):=λs a=>by
  obtain⟨_,R,⟨k,i⟩,ns,d,e⟩:=f s a;exact⟨R,k,LeM.le i ∅,ns,d,e⟩
 refine⟨λs a=>(f s a).1,λs a=>(Ae h ∅ (one s a)).1,λn x j b=>(Ae h j b).1,Yy h,λn x s _ b a=>?_⟩;obtain⟨l,g,b1,ts,lt,rfl⟩:=b;obtain⟨_,R2,⟨c,b2⟩,ns,d,e⟩:=f s a;rw[e,Yz h g c];refine⟨_,c.mul,LeM.le (bD c b2 b1) ?_,_,Xv (Xz (dO (iD h.d h.ok) R2)) d,rfl⟩;rw[sJ];have:=h.d;have e:F.d*(27*81^n)<=3*(27*81^n):=wG _ ⋯;omega
def Mkr(d:Nat)(L:List Stp)(su:Int)(x:Dd):Prop:=∃R,Wr d R/\∃(ts:LI')(u:Int),ts.length=d/\jA 250 ts/\0<u/\u<=200/\x=(cjM d (chP d L) (chQ d L) R,redT (u*su) ts,redU (u*su) ts)
theorem Lz{d:Nat}{L:List Stp}{i:Int}:∀{ms:List Dd},(∀m∈ms,Mkr d L i m)->∃V:Int,0<V/\V<=((200^ms.length:Nat):Int)/\∀m∈ms,∃R,Wr d R/\∃(ts:LI')(u:Int),ts.length=d/\jA 250 ts/\0<u/\u<=200/\u∣V/\m=(cjM d (chP d L) (chQ d L) R,redT (u*i) ts,redU (u*i) ts)
 |[],_=>⟨1,∅,∅,λ_ h=>(by cases h)⟩
 | m:: ms,h=>by
  obtain⟨V,q,n,l⟩:=Lz (ms:=ms) λx c=>h x (.tail _ c);obtain⟨R,f,ts,u,lt,g,k,j,e⟩:=h m (.head _);refine⟨u*V,wR k q,?_,λx c=>?_⟩
  ·rw[zR,sJ,Int.natCast_mul,vE];exact qC n j ⋯ ⋯
  ·rcases xM.mp c with rfl|c
   ·exact⟨R,f,ts,u,lt,g,k,j,⟨V,rfl⟩,e⟩
   ·obtain⟨R,f,ts,p,lt,g,a,b,o,e⟩:=l x c;exact⟨R,f,ts,p,lt,g,a,b,Int.dvd_trans o ⟨u,vE _ _⟩,e⟩
theorem Yx{d:Nat}{L:List Stp}{a:Int}{ms:List Dd}(i:d=2\/d=3)(f:∀s∈L,s.Ok d)(O:L.length<=3)(b:0<a)(g:a<=1000)(hl:ms.length<=3)(h:∀m∈ms,Mkr d L a m):∃F:Fr5,F.d=d/\F.Ok/\∀m∈ms,MkN F m/\mV 1500 m.1/\jA 1000 m.2.1/\m.2.2<2^1000:=by
 obtain⟨V,o,M,I⟩:=Lz (ms:=ms) h;have v2:V<=8000000:=Int.le_trans M (Int.ofNat_le.mpr (yC (yS ∅ hl) ∅));have G:0<V*a:=wR o b;have v:V*a<=8000000*1000:=qC v2 g ⋯ ∅;have q:V*a<2^100:=qM v ∅;have F:(⟨d,L,V*a⟩:Fr5).Ok:=⟨i,f,O,G,q⟩;refine⟨⟨d,L,V*a⟩,rfl,F,λm D=>?_⟩;obtain⟨R,j,ts,u,lt,N,c,x,⟨w',n⟩,rfl⟩:=I m D;have us:0<u*a:=wR c b;obtain⟨r1,r2,T⟩:=Ke (ts:=ts) us;have us2:u*a<=200*1000:=qC x g ⋯ ⋯;have e:mV 1500 (cjM d (chP d L) (chQ d L) R):=Ka (n:=1) F ∅ (LeM.le j.2 ∅);have l:∀B,250<=B->jA B (redT (u*a) ts):=λB J z S=>by
  obtain⟨t,p,y⟩:=r1 z S;exact wX y (zP (N t p) (yS ∅ J))
 have k:redU (u*a) ts<=200000:=⋯
 refine⟨⟨⟨dO (iD i f) R,by unfold redT;rw[zqe];exact lt,r2,mV.le e ∅,l _ ∅,?_⟩,R,j,smul w' ts,by rw[Xx];exact lt,?_⟩,e,l _ ∅,?_⟩
 ·show redU (u*a) ts<_;exact qM k (nofun)
 ·have C:0<w':=Classical.byContradiction λr=>absurd (n ▸ o:0<u*w') (Int.not_lt.mpr (Int.mul_nonpos_of_nonneg_of_nonpos (uI c) (Int.not_lt.mp r)));show canD _ ts (u*a)=canD _ (smul w' ts) (V*a);rw[n,show u*w'*a=w'*(u*a) by grind,bE (wR c b) C];rfl
 ·show redU (u*a) ts<_;exact qM k (nofun)
structure Rw(H0 H:Hp)(a:Addr)(M:LM):Prop where
 s:Same H0 H
 n:H0 a=none
 m:MatD H0 H a M
theorem Rw.up{b H H':Hp}{a:Addr}{M:LM}(h:Rw b H a M)(s:Same H H'):Rw b H' a M:=⟨h.s.trans s,h.n,h.m.up s⟩
def sp_m:Sp:=λvs H Q _=>E1 λ(n:Nat)=>A3 (vs=[.int n]) (n<=4) (∀r H',Rw H H' r (idM n)->Q (.ref r) H')
def sp_j(K:Frag):Sp:=λvs H Q _=>E9 λ(b1 b2 b3 b4:Bool)(a b:Addr)(A B:LM)(d:Nat)=>A9 (vs=[.ref a,.ref b]) (MatB b1 b2 K H a A) (MatB b3 b4 K H b B) (Sq d A) (Sq d B) ((d=2\/d=3)) (mV 1500 A) (mV 1500 B) (∀r H',Rw H H' r (mulM d A B)->Q (.ref r) H')
def sp_l(K:Frag):Sp:=λvs H Q _=>E8 λ(b1 b2 b3:Bool)(a l:Addr)(M:LM)(ns:LI')(u:Int)=>A8 (vs=[.ref a,.ref l,.int u]) (MatB b1 b2 K H a M) (SqB b3 K H l (ns.map V.int)) (M.length<=100) (ns.length<=100) (0<u) (jK u) (∀r H',Same H H'->DdAt K H' r (canD M ns u)->Q (.ref r) H')
def sp_11(K:Frag):Sp:=λvs H Q _=>E8 λ(b1 b2 b3:Bool)(a l:Addr)(M:LM)(ns:LI')(u:Int)=>A8 (vs=[.ref a,.ref l,.int u]) (MatB b1 b2 K H a M) (SqB b3 K H l (ns.map V.int)) (M.length<=100) (ns.length<=100) (0<u) (jK u) (∀r H',Same H H'->DdAt K H' r (M,redT u ns,redU u ns)->Q (.ref r) H')
def sp_6(K:Frag):Sp:=λvs H Q _=>E5 λ(p q:Addr)(x y:Dd)(d:Nat)=>A17 (vs=[.ref p,.ref q]) (DdS K H p x) (DdS K H q y) ((d=2\/d=3)) (Sq d x.1) (Sq d y.1) (x.2.1.length=d) (y.2.1.length=d) (0<x.2.2) (0<y.2.2) (mV 1500 x.1) (mV 1500 y.1) (jA 1000 x.2.1) (jA 1000 y.2.1) (x.2.2<2^1000) (y.2.2<2^1000) (∀r H',Same H H'->DdAt K H' r (mJ d x y)->Q (.ref r) H')
theorem dvs(x y:Int)(a:y≠0)(b:y.natAbs<1073741824):fL x y:=⟨a,zP ((Nat.log2_lt ⋯).mpr (show y.natAbs<2^30 from b)) ∅⟩
theorem dR{H H':Hp}{b:Addr}(s:Same H H')(h:H' b=none):H b=none:=by
 cases q:H b with
 |none=>rfl
 |some o=>rw[s _ _ q]at h;cases h
theorem MatD.app{f H c:Hp}{a l:Addr}{M:LM}{r:LI'}(h:MatD f H a M)(s:Same H c)(hl:H l=none)(y:f l=none)(e:c l=some (.lst (r.map V.int))):∃zs,c a=some (.lst zs)/\zs.length=M.length/\MatD f (upd c a (.lst (zs++[.ref l]))) a (M++[r]):=by
 obtain⟨ps,k,d,u,g⟩:=h;have m:l≠a:=λz=>by rw[z,k]at hl;cases hl
 refine⟨ps.map V.ref,s _ _ k,by rw[zqe,d],ps++[l],by rw[nN,yX];rfl,by simp[d],?_,λi p q e1 b=>?_⟩
 ·rw[qZ];refine⟨u,by simp,λz x w D=>?_⟩;rw[oP.mp D];obtain⟨j,v,C⟩:=wP x;exact lI (g j z M[j] (by simp[v,C]) (by simp[show j<M.length by omega])).2.2 hl
 ·by_cases hi:i<ps.length
  ·rw[yB hi]at e1;rw[yB ⋯]at b;obtain⟨n,G,o⟩:=g i p q e1 b;exact⟨n,G,by rw[nO n];exact s _ _ o⟩
  ·have F:i=ps.length:=by have:=(zqa e1).1;simp at this;omega
   subst F;rw[zX (zE _)]at e1;rw[d,zX (zE _)]at b;simp at e1 b;subst e1 b;exact⟨m,y,by rw[nO m];exact e⟩
theorem MatD.nil{b H:Hp}{a:Addr}(e:H a=some (.lst [])):MatD b H a []:=⟨[],e,rfl,tJ,λi p r e1=>by simp at e1⟩
theorem Yw{lo:Int}{n:Nat}{H:Hp}{a:Addr}{fr:List (Str×Nat)}{L:St}{te:TE}{Q:VK}(f:Nat->LI')(R:H a=none)(F:n<=1000)
  (N:∀(i:Nat) b zs,i<n->Same H b->b a=some (.lst zs)->∀J:VK,(∀p d,Same b d->b p=none->d p=some (.lst ((f i).map V.int))->J (.ref p) d)->te (some (.int (lo+i)):: lV fr L) b J)
  (S:∀b,Same H b->MatD H b a ((List.range n).map f)->Q (.ref a) b):kL (Itr lo n) (nX 0) (tEl te) 1 fr L a H Q:=by
 refine aB n (λi zs b=>∃ps:LA,zs=ps.map V.ref/\ps.length=i/\ps.Nodup/\∀(j:Nat)(p:Addr),ps[j]?=some p->p≠a/\H p=none/\b p=some (.lst ((f j).map V.int))) R F ⟨[],rfl,rfl,tJ,λj p e=>by simp at e⟩
  (λi zs b⟨ps,e,l,_⟩=>by rw[e,zqe,l];exact zE _) (λi zs b d⟨ps,e,l,n,q⟩s=>⟨ps,e,l,n,λj p e1=>⟨(q j p e1).1,(q j p e1).2.1,s _ _ (q j p e1).1 (q j p e1).2.2⟩⟩)
  (λi b hi s=>hi) (λb s=>zE _) ?_ ?_
 ·rintro i b zs hi k M ⟨ps,rfl,m,G,v⟩ ys x Z X Y C W _;obtain⟨e1,u⟩:=Y;subst e1 u
  match ys,X with
  | [o],_ =>
   refine⟨⟨[_],rfl,rfl⟩,N i Z _ hi k M _ λp d I y e=>W _ _ I ⟨ps++[p],by simp,by simp[m],?_,λj q c=>?_⟩⟩
   ·rw[qZ];refine⟨G,by simp,λz F w a0=>?_⟩;rw[oP.mp a0];obtain⟨j,g,D⟩:=wP F;exact lI (v j z (by simp[g,D])).2.2 y
   ·by_cases g:j<ps.length
    ·rw[yB g]at c;obtain⟨O,T,U⟩:=v j q c;exact⟨O,T,I _ _ U⟩
    ·have D:j=ps.length:=by have:=(zqa c).1;simp at this;omega
     subst D;rw[zX (zE _)]at c;simp at c;subst c;rw[m];exact⟨zT (lI M y),dR k y,e⟩
 ·rintro b ys k e1 ⟨ps,rfl,m,G,v⟩;refine S b k ⟨ps,e1,by simp[m],G,λj p r u c=>?_⟩;have g:j<n:=by have:=(zqa u).1;omega
  rw[zH,xC g]at c;cases c;exact v j p u
theorem ok_m(T:Txt K mg t):FnOk P w K mg base CX0 1 t.a_m t.d_m ["_law_d"] sp_m:=by
 apply T.F_m.ok sc_m
 ·obtain⟨n,rfl,M,F⟩:=h;refine⟨_,(nM (nV (hX (xs:=["_law_i"]) (fr:=[("_law_d",0)]) (g:=(nX 0)) (tt:=(tEl (kW (mY (mH (tVar 1) tNil)) (nX 0) (tEl (tCB (λxs H Q=>(∃i,xs=[.int i]/\Q (.int i) H)\/∃k,xs=[.bl k]/\Q (.int (if k then 1 else 0)) H) (mH (tOp (rI0 λi j=>.bl (decide (i=j))) (tVar 1) (tVar 0)) tNil))) 1 [("_law_i",0)]))) (jW (sc:=nP Az) (N:=N_m) rfl rfl (nofun)) rfl (lG rfl T.z_range (nH (pq 0) nI)) (λ_ _ _ a=>(cJ (N:=["_law_i","_law_d"]) (i:=0) a rfl (nofun) rfl)) (λ_ _ _ a=>(iM (lE (N:=["_law_i","_law_d"]) (fr:=[("_law_i",0)]) (te:=(tCB (λxs H Q=>(∃i,xs=[.int i]/\Q (.int i) H)\/∃k,xs=[.bl k]/\Q (.int (if k then 1 else 0)) H) (mH (tOp (rI0 λi j=>.bl (decide (i=j))) (tVar 1) (tVar 0)) tNil))) a rfl (nofun) rfl (nofun) (lG rfl T.z_range (nH (pv 1) nI)) (λ_ _ _ S=>(lK Fn rfl T.z_int (nofun) (nH (dW kK (pv 1) (pv 0) (mD _)) nI))))))))),?_⟩;show tRet _ _ [some (.int n)] H;ext;refine mK λB eB=>?_;simp only[mY];ext;refine⟨⋯,⋯,λC b=>?_⟩;rw[zS];refine Yw (λi=>(List.range n).map λk=>if i=k then(1:Int) else 0) b ⋯ ?_ λo p l=>F C o ⟨p,b,l⟩;intro i m zs hi N U v J;subst eB;show kW _ _ _ _ _ [some (.int (0+(i:Int))),some (.int n)] m v;refine mK λB eB=>?_;simp only[mY];ext;refine⟨⋯,⋯,λW f=>?_⟩;rw[zS];refine jG (λk y _=>k<n/\y=.int (if i=k then 1 else 0)) f ⋯ (λ_ _ _ _ r _=>r) ?_ ?_
  ·intro k c R L d O x D;subst eB;show tCB _ _ [some (.int (0+(k:Int))),some (.int (0+(i:Int)))] c x;ext;refine .inr (D _ _ (Same.refl _) ⟨L,?_⟩)
   by_cases z:i=k
   ·rw[zF z,zM ⋯];rfl
   ·rw[zD z,zJ ⋯];rfl
  ·intro c ys d g I q;have G:ys=((List.range n).map λk=>if i=k then(1:Int) else 0).map V.int:=by
    refine kE (by simpa using I) λj y e=>?_;obtain⟨u,rfl⟩:=q j y e;exact⟨_,by rw[zH,xC u];rfl,rfl⟩
   subst G;exact J _ _ d f g
theorem ok_j(T:Txt K mg t):FnOk P w K mg base CX0 1 t.a_j t.d_j po' (sp_j K):=by
 apply T.F_j.ok sc_j
 ·obtain⟨b1,b2,c7,c3,a,b,f,c,d,rfl,W,b0,v,G,c8,Z,b7,q⟩:=h;refine⟨_,(nJ (nU (i:=2) sc_j.nd rfl (Or.inr rfl) (lC T.z_len (pq 0)))
   (nJ (nU (i:=3) sc_j.nd rfl (Or.inl rfl) (mQ nI))
   (nJ (lJ yD rfl (lG rfl T.z_range (nH (pq 2) nI)) (mP (i:=4) sc_j.nd rfl (Or.inr rfl))
   (nM (gM (eJ wL vD vB eK (pq 3) (nH (hX (xs:=["_law_k"]) (fr:=[("_law_one",0),("_law_other",1),("_law_d",2),("_law_i",4)]) (g:=(nX 0)) (tt:=(tEl (tCB (λxs H Q=>∃(p:Addr)(ns:LI'),xs=[.ref p]/\SqL K H p (ns.map V.int)/\Q (.int ns.sum) H) (mH (kW (mY (mH (tVar 3) tNil)) (nX 0) (tEl (tOp (rI (λi j=>IntMulOk i j) λi j=>.int (i*j)) (tOp (rIxB K) (tOp (rIxB K) (tVar 2) (tVar 4)) (tVar 0)) (tOp (rIxB K) (tOp (rIxB K) (tVar 3) (tVar 0)) (tVar 1)))) 1 [("_law_k",0),("_law_one",1),("_law_other",2),("_law_i",4)]) tNil)))) (jW (sc:=nP Ay) (N:=N_j) rfl rfl (nofun)) rfl (lG rfl T.z_range (nH (pq 2) nI)) (λ_ _ _ L=>(cJ (N:=["_law_k","_law_one","_law_other","_law_d","_law_i"]) (i:=0) L rfl (nofun) rfl)) (λ_ _ _ L=>(iM (mS (bZ rfl) rfl T.z_sum (nofun) (nH (lE (N:=["_law_k","_law_one","_law_other","_law_d","_law_i"]) (fr:=[("_law_k",0),("_law_one",1),("_law_other",2),("_law_i",4)]) (te:=(tOp (rI (λi j=>IntMulOk i j) λi j=>.int (i*j)) (tOp (rIxB K) (tOp (rIxB K) (tVar 2) (tVar 4)) (tVar 0)) (tOp (rIxB K) (tOp (rIxB K) (tVar 3) (tVar 0)) (tVar 1)))) L rfl (nofun) rfl (nofun) (lG rfl T.z_range (nH (pv 3) nI)) (λ_ _ _ c6=>(nR mZ (mG ix_B (mG ix_B (pv 2) (pv 4) (λ_ _=>rfl)) (pv 0) (λ_ _=>rfl)) (mG ix_B (mG ix_B (pv 3) (pv 0) (λ_ _=>rfl)) (pv 1) (λ_ _=>rfl))))) nI))))) nI)))))
   (nM (nV (pq 3)))))),?_⟩
  show tSeq _ _ _ [some (.ref a),some (.ref b),none,none,none] H;right;refine fM W ?_
  try ext
  rw[v.1];left;refine⟨zY _,λm I=>?_⟩;subst e1;refine st λN1 e1=>lN λO eB=>?_;simp only[mY];ext;have a9:Same H (upd H m (.lst [])):=Same.new I;refine⟨⋯,⋯,?_⟩;rw[zS];refine gD (n:=d) (g:=nX 4) (tb:=O) (λi N g=>∃M,N=[some (.ref a),some (.ref b),some (.int d),some (.ref m),M]/\Same H g/\MatD H g m ((mulM d f c).take i)) ⟨_,rfl,a9,MatD.nil nN⟩ ?_ ?_
  ·rintro i N g hi ⟨M,rfl,l,o⟩;have u:f[i]?=some (f.getD i []):=by have:=v.1;simp[show i<f.length by omega]
   have d0:(f.getD i []).length=d:=v.2 _ (zqb u);have a2:=Qf (w:=d) (B:=c) u;subst eB;show Fs _ _ [some (.ref a),some (.ref b),some (.int d),some (.ref m),some (.int (0+(i:Int)))] g;ext;obtain⟨c9,a3⟩:∃zs,g m=some (.lst zs):=let ⟨ps,h,_⟩:=o;⟨_,h⟩
   refine⟨.inl ⟨rfl,_,SqL.of a3⟩,?_⟩;refine mK λO eB=>?_;simp only[mY];ext;refine⟨⋯,⋯,λd2 D=>?_⟩;rw[zS];refine jG (len:=d) (λj y _=>j<d/\y=.int (dotI (f.getD i []) (colI j c))) D ⋯ (λ_ _ _ _ r _=>r) ?_ ?_
   ·intro j U zs J n d1 b3 c1;subst eB;show tCB _ _ [some (.int (0+(j:Int))),some (.ref a),some (.ref b),some (.int d),some (.int (0+(i:Int)))] U b3;ext;refine mK λO eB=>?_;simp only[mY];ext;refine⟨⋯,⋯,λb8 c0=>?_⟩;rw[zS];refine jG (len:=d) (λk y _=>∃x,(List.zipWith (·*·) (f.getD i []) (colI j c))[k]?=some x/\y=.int x) c0 ⋯ (λ_ _ _ _ r _=>r) ?_ ?_
    ·intro k X c5 d3 z c4 b5 b6;have C:c[k]?=some (c.getD k []):=by have:=G.1;simp[show k<c.length by omega]
     have c2:(c.getD k []).length=d:=G.2 _ (zqb C);have F:k<(f.getD i []).length:=⋯
     subst eB;show tOp _ _ _ [some (.int (0+(k:Int))),some (.int (0+(j:Int))),some (.ref a),some (.ref b),some (.int (0+(i:Int)))] X b5;ext;refine gE (((W.up l).up n).up z) u (L2.getD_at F) ⋯ ⋯ ?_;refine gE (((b0.up l).up n).up z) C (getD_at (k:=j) ⋯) ⋯ ⋯ ?_;ext;refine⟨xG (mW (Z _ (zqb u) _ (L2.getD_mem F))) (mW (b7 _ (zqb C) _ (L2.getD_mem ⋯))) ∅,b6 _ _ (Same.refl _) ⟨_,?_,rfl⟩⟩;have a5:(colI j c)[k]?=some ((c.getD k []).getD j 0):=by unfold colI;rw[zH,C];rfl
     rw[wB,L2.getD_at F,a5]
    ·intro X ys z a0 S a6;have R:ys=(List.zipWith (·*·) (f.getD i []) (colI j c)).map V.int:=by
      refine kE (by have:=G.1;simp only[zqe,List.length_zipWith,colI];omega) λk y e=>?_;obtain⟨x,a4,rfl⟩:=a6 k y e;exact⟨x,a4,rfl⟩
     subst R;exact⟨b8,rfl,_,SqL.of a0,c1 _ _ z ⟨J,rfl⟩⟩
   ·intro U ys n a7 S b4;have R:ys=((List.range d).map λk=>dotI (f.getD i []) (colI k c)).map V.int:=by
     refine kE (by simpa using S) λj y e=>?_;obtain⟨J,rfl⟩:=b4 j y e;exact⟨_,by rw[zH,xC J];rfl,rfl⟩
    subst R;obtain⟨zs,Y,a1,a8⟩:=MatD.app o n D (dR l D) a7;refine⟨m,zs,_,rfl,rfl,Y,fK (by rw[a1,yG];omega),?_⟩;have b9:(mulM d f c).take (i+1)=(mulM d f c).take i++[(List.range d).map λk=>dotI (f.getD i []) (colI k c)]:=by rw[yY,a2];rfl
    refine⟨Same.over I (l.trans n),?_⟩;rw[b9];exact a8
  ·rintro N g ⟨M,rfl,l,o⟩;symm;rw[yJ (by simp[mulM,v.1])]at o;exact q m g ⟨l,I,o⟩
abbrev Box:=Int×Int×Int
def bxO(b:Box):HO:=.lst [.int b.1,.int b.2.1,.int b.2.2]
structure BxOk(B:Nat)(b:Box):Prop where
 x0:0<=b.1
 y0:0<=b.2.1
 y1:b.2.1<2147483647
 z0:0<=b.2.2
 z1:b.2.2<=B
theorem BxOk.le{b:Box}{B a:Nat}(h:BxOk B b)(l:B<=a):BxOk a b:=⟨h.x0,h.y0,h.y1,h.z0,by have:=h.z1;omega⟩
def tkN(b:Box):Int:=(b.2.1*48271+12347+(b.2.2+1)*7919+(b.2.2+1)*(b.2.2+1)*39373).fmod 2147483563
def tkV(b:Box)(many:Int):Int:=if 0<b.1 then b.1.fmod many else(((tkN b*tkN b).fmod 2147483549).fdiv 7).fmod many
def tkB(b:Box)(many:Int):Box:=if 0<b.1 then(b.1.fdiv many,b.2) else(b.1,b.2.1,b.2.2+1)
def bxF(ns:LI')(k:Nat):Box:=(if 1000000000000000000<=ns.getD k 0 then ns.getD k 0 else 0,(ns.getD k 0).fmod 2147483647,100*(k:Int))
def sp_w(K:Frag):Sp:=λvs H Q _=>E3 λ(p:Addr)(ns:LI')(k:Nat)=>A4 (vs=[.ref p,.int k]) (SqL K H p (ns.map V.int)) (k<=1000) (∀r H',Same H H'->H r=none->H' r=some (bxO (bxF ns k))->Q (.ref r) H')
def sp_1:Sp:=λvs H Q _=>E4 λ(a:Addr)(many:Int)(b:Box)(B:Nat)=>A7 (vs=[.ref a,.int many]) (H a=some (bxO b)) (BxOk B b) (B<=1000000) (1<=many) (many<1073741824) (∀H',(∀c,c≠a->H' c=H c)->H' a=some (bxO (tkB b many))->Q (.int (tkV b many)) H')
theorem Yv{x y:Int}(a:0<=x)(b:0<y):0<=x.fdiv y:=by
 rw[Int.fdiv_eq_ediv_of_nonneg _ ⋯];exact Int.ediv_nonneg a ⋯
theorem fms1(x y:Int)(h:0<y):0<=x.fmod y/\x.fmod y<y:=⟨uV x h,sK x h⟩
theorem m40{x y:Int}(a:x.natAbs<1099511627776)(b:y.natAbs<1099511627776):IntMulOk x y:=xG (mW (B:=40) a) (mW (B:=40) b) ∅
theorem mM{b:Box}{B:Nat}{many:Int}(h:BxOk B b)(f:1<=many):(0<=tkV b many/\tkV b many<many)/\BxOk (B+1) (tkB b many):=by
 obtain⟨c,d,a,e,g⟩:=h;unfold tkV tkB;split
 ·exact⟨fms1 _ _ ⋯,⟨Yv c ⋯,d,a,e,by show b.2.2<=_;omega⟩⟩
 ·exact⟨fms1 _ _ ⋯,⟨c,d,a,by show 0<=b.2.2+1;omega,by show b.2.2+1<=_;omega⟩⟩
theorem fW{ns:LI'}{k:Nat}:BxOk (100*k) (bxF ns k):=by
 have f:=fms1 (ns.getD k 0) 2147483647 ∅;refine⟨?_,f.1,f.2,?_,?_⟩
 ·show 0<=(if 1000000000000000000<=ns.getD k 0 then ns.getD k 0 else 0);split <;> omega
 ·show 0<=100*(k:Int);omega
 ·show 100*(k:Int)<=_;omega
theorem ok_1(T:Txt K mg t):FnOk P w K mg base CX0 1 t.a_1 t.d_1 pl' sp_1:=by
 apply T.F_1.ok sc_1
 ·obtain⟨a,many,⟨x,y,z⟩,B,rfl,d,⟨m,n,l,k,j⟩,C,r,F,f⟩:=h;replace d:H a=some (.lst [.int x,.int y,.int z]):=d;replace m:0<=x:=m;replace n:0<=y:=n;replace l:y<2147483647:=l;replace k:0<=z:=k;replace j:z<=B:=j;refine⟨_,(nJ (mF (mB iW (nY (pq 0)) nK (mD _))
   (nJ (nU (i:=2) sc_1.nd rfl (Or.inl rfl) (nR jT (nY (pq 0)) (pq 1)))
   (nJ (jS (nR gQ (nY (pq 0)) (pq 1)) (iE (pq 0) nK cE))
   (nM (nV (pq 2)))))
   mE)
   (nJ (jS (nR lH (nY (pq 0)) nK) (iE (pq 0) nK cE))
   (nJ (nU (i:=3) sc_1.nd rfl (Or.inl rfl) (nR lH (nR lH (nR mZ (nY (pq 0)) nK) nK) (nR mZ (nY (pq 0)) nK)))
   (nJ (nU (i:=3) sc_1.nd rfl (Or.inl rfl) (nR jT (nR lH (pq 3) (nR mZ (nR mZ (nY (pq 0)) (nY (pq 0))) nK)) nK))
   (nM (nV (nR jT (nR gQ (nR jT (nR mZ (pq 3) (pq 3)) nK) nK) (pq 1)))))))),?_⟩
  show tSeq _ _ _ [some (.ref a),some (.int many),none,none] H;right;refine⟨false,a,_,_,_,rfl,rfl,SqB.lst d,rfl,?_⟩
  try ext
  refine ite2 (λc=>?_) (λc=>?_)
  ·have c:=xT c;have g:tkV (x,y,z) many=x.fmod many:=zF c;have eB:tkB (x,y,z) many=(x.fdiv many,y,z):=zF c;rw[g,eB]at f;refine⟨false,a,_,_,_,rfl,rfl,SqB.lst d,rfl,?_⟩
   try ext
   refine⟨⋯,false,a,_,_,_,rfl,rfl,SqB.lst d,rfl,?_⟩
   try ext
   refine⟨dvs _ _ ⋯ ⋯,?_⟩;simp only[gSub,eI];ext;refine⟨_,d,0,rfl,?_⟩;exact f _ (λb i=>nO i) nN
  ·have c:¬ 0<x:=by simpa using c
   have g:tkV (x,y,z) many=(((tkN (x,y,z)*tkN (x,y,z)).fmod 2147483549).fdiv 7).fmod many:=zD c;have eB:tkB (x,y,z) many=(x,y,z+1):=zD c;rw[g,eB]at f;subst e1;refine st λN1 e1=>?_;simp only[tAsg,gSub,eI];ext;refine⟨false,a,_,_,_,rfl,rfl,SqB.lst d,rfl,?_⟩
   try ext
   refine⟨_,d,2,rfl,?_⟩;have o:∀b,b≠a->(upd H a (.lst [V.int x,V.int y,V.int (z+1)])) b=H b:=λb i=>nO i;have e:(upd H a (.lst [V.int x,V.int y,V.int (z+1)])) a=some (.lst [V.int x,V.int y,V.int (z+1)]):=nN;show N1 _ (upd H a (.lst [V.int x,V.int y,V.int (z+1)]));generalize upd H a (.lst [V.int x,V.int y,V.int (z+1)])=q at*
   left;refine⟨false,a,_,_,_,rfl,rfl,SqB.lst e,rfl,?_⟩
   try ext
   refine⟨m40 ⋯ ∅,false,a,_,_,_,rfl,rfl,SqB.lst e,rfl,?_⟩
   try ext
   refine⟨m40 ⋯ ∅,?_⟩;left;refine⟨false,a,_,_,_,rfl,rfl,SqB.lst e,rfl,false,a,_,_,_,rfl,rfl,SqB.lst e,rfl,?_⟩
   try ext
   have v:((z+1)*(z+1)).natAbs<1099511627776*2:=by
    rw[xK];have:(z+1).natAbs*(z+1).natAbs<=1000001*1000001:=wW ⋯ ⋯;omega
   refine⟨m40 ⋯ ⋯,xG (mW (B:=42) (show _<2^42 by omega)) (mW (B:=40) ∅) ∅,∅,?_⟩;have D:=fms1 (y*48271+12347+(z+1)*7919+(z+1)*(z+1)*39373) 2147483563 ∅;have p:tkN (x,y,z)=(y*48271+12347+(z+1)*7919+(z+1)*(z+1)*39373).fmod 2147483563:=rfl;rw[p]at f;generalize (y*48271+12347+(z+1)*7919+(z+1)*(z+1)*39373).fmod 2147483563=u at*
   symm;refine⟨m40 ⋯ ⋯,∅,dvs _ _ ∅ ∅,⋯,?_⟩;exact f _ o e
theorem Yu{H H':Hp}{b:Addr}(s:Same H H')(h:H' b=none):H b=none:=by
 cases e:H b with
 |none=>rfl
 |some o=>rw[s _ _ e]at h;cases h
theorem ok_w(T:Txt K mg t):FnOk P w K mg base CX0 1 t.a_w t.d_w pp' (sp_w K):=by
 apply T.F_w.ok sc_w
 ·obtain⟨p,ns,k,rfl,O,Y,S⟩:=h;have R:SqB false K H p (ns.map V.int):=O;refine⟨_,(nJ (nU (i:=2) sc_w.nd rfl (Or.inl rfl) (nR eN (cD sl_B (pq 0) (eG (pq 1)) (eG (nR lH (pq 1) nK))) (mQ (nH nK nI))))
   (nJ (mF (mB Fo (nY (pq 2)) (nR Bs nK nK) (mD _))
   (nM (nV (mQ (nH (nY (pq 2)) (nH (nR jT (nY (pq 2)) nK) (nH (nR mZ nK (pq 1)) nI))))))
   mE)
   (nM (nV (mQ (nH nK (nH (nR jT (nY (pq 2)) nK) (nH (nR mZ nK (pq 1)) nI)))))))),?_⟩
  show tSeq _ _ _ [some (.ref p),some (.int k),none] H;right;refine⟨false,p,_,rfl,R,(by intro z;cases z),λg J=>?_⟩;have F:=Same.new (o:=seqO false (cutV (ns.map V.int) (some (k:Int)) (some ((k:Int)+1)))) J;have U:(upd H g (seqO false (cutV (ns.map V.int) (some (k:Int)) (some ((k:Int)+1))))) g=some (.lst (cutV (ns.map V.int) (some (k:Int)) (some ((k:Int)+1)))):=nN;obtain⟨c,r,⟨G,L⟩,D⟩:∃(c:Int)(r:List V),(cutV (ns.map V.int) (some (k:Int)) (some ((k:Int)+1))++[V.int 0]=.int c:: r/\c=ns.getD k 0)/\(cutV (ns.map V.int) (some (k:Int)) (some ((k:Int)+1))).length<=1:=by
   rw[Ct,HT.sIx_nat,show(k:Int)+1=((k+1:Nat):Int) by omega,HT.sIx_nat];have l1:((ns.drop (min k ns.length)).take (min (k+1) ns.length-min k ns.length)).length<=1:=by
    rw[yG];omega
   have l2:((ns.drop (min k ns.length)).take (min (k+1) ns.length-min k ns.length)).getD 0 0=ns.getD k 0:=by
    rw[zqc,zqc]
    by_cases h:k<ns.length
    ·rw[wE ⋯,vQ,pS ⋯];rfl
    ·rw[vR (show ns.length<=k by omega),vR (by rw[yG];omega)]
   generalize (ns.drop (min k ns.length)).take (min (k+1) ns.length-min k ns.length)=l at l1 l2;cases l with
   |nil=>exact⟨0,[],⟨rfl,l2⟩,by simp⟩
   |cons c l=>exact⟨c,l.map V.int++[V.int 0],⟨rfl,l2⟩,by rw[zqe];exact l1⟩
  generalize cutV (ns.map V.int) (some (k:Int)) (some ((k:Int)+1))=N at*;generalize upd H g (seqO false N)=n at*
  refine⟨by show 1<=sizeLine;decide,λe X=>?_⟩;have j:=Same.new (o:=.lst [V.int 0]) X;have C:(upd n e (.lst [V.int 0])) e=some (.lst [V.int 0]):=nN;generalize upd n e (.lst [V.int 0])=m at*
  have y:2<=sizeLine:=∅
  refine⟨g,e,_,_,rfl,rfl,j _ _ U,C,yC (Nat.succ_le_succ D) y,λa I=>?_⟩;rw[G];have W:=Same.new (o:=.lst (V.int c:: r)) I;have d:(upd m a (.lst (V.int c:: r))) a=some (.lst (V.int c:: r)):=nN;generalize upd m a (.lst (V.int c:: r))=u at*
  have i:=(F.trans j).trans W;left;have f:=fms1 c 2147483647 ∅;have a0:atI (V.int c:: r) 0=some (V.int c):=jH (k:=0) rfl rfl;refine⟨false,a,_,_,_,rfl,rfl,SqB.lst d,a0,⟨∅,∅,∅⟩,?_⟩
  try ext
  have ok:IntMulOk 100 (k:Int):=m40 ∅ ⋯;have o:∀(x:Int)(q:Addr),x=(if 1000000000000000000<=c then c else 0)->u q=none->Q (.ref q) (upd u q (.lst [V.int x,V.int (c.fmod 2147483647),V.int (100*(k:Int))])):=λx q M b=>S q _ (i.trans (Same.new b)) (Yu i b) (by
   rw[nN];unfold bxO bxF;rw[←L,←M])
  refine ite2 (λz=>?_) (λz=>?_)
  ·have z:=xT z;have v:(10:Int)^Int.toNat 18=1000000000000000000:=nofun
   refine⟨false,a,_,_,_,rfl,rfl,SqB.lst d,a0,false,a,_,_,_,rfl,rfl,SqB.lst d,a0,?_⟩
   try ext
   exact⟨∅,ok,by show 3<=sizeLine;decide,λq b=>o c q (by rw[zF ⋯]) b⟩
  ·have z:¬ (10:Int)^Int.toNat 18<=c:=by simpa using z
   have v:(10:Int)^Int.toNat 18=1000000000000000000:=nofun
   symm;refine⟨false,a,_,_,_,rfl,rfl,SqB.lst d,a0,?_⟩
   try ext
   exact⟨∅,ok,by show 3<=sizeLine;decide,λq b=>o 0 q (by rw[zD ⋯]) b⟩
structure Rk(a:Addr)(H H':Hp)(r:Addr)(R:LM):Prop where
 k:KX a H H'
 n:H r=none
 m:MatD H H' r R
theorem fC{a b:Addr}{H H':Hp}(k:KX a H H'){o:HO}(d:H' a=some o)(h:H' b=none):H b=none:=by
 cases e:H b with
 |none=>rfl
 |some c =>
  by_cases z:b=a
  ·rw[z,d]at h;cases h
  ·rw[k b c z e]at h;cases h
theorem KX.tk1{a:Addr}{H f d:Hp}(k:KX a H f)(o:∀c,c≠a->d c=f c):KX a H d:=λb x g e=>by rw[o b g];exact k b x g e
theorem Rk.of{a r:Addr}{H b d:Hp}{R:LM}{o:HO}(h:Rw b d r R)(k:KX a H b)(c:b a=some o):Rk a H d r R:=
 ⟨k.trans (KX.same h.s),fC k c h.n,let ⟨ps,l,j,n,f⟩:=h.m;⟨ps,l,j,n,λi p r e1 m=>let ⟨q,e,g⟩:=f i p r e1 m;⟨q,fC k c e,g⟩⟩⟩
theorem Rk.up{a r:Addr}{H c b:Hp}{R:LM}(h:Rk a H c r R)(s:Same c b):Rk a H b r R:=⟨h.k.trans (KX.same s),h.n,h.m.up s⟩
theorem Rk.tk{a r:Addr}{H e d:Hp}{R:LM}{o:HO}(h:Rk a H e r R)(f:H a=some o)(k:∀c,c≠a->d c=e c):Rk a H d r R:=by
 have ne:∀{c},H c=none->c≠a:=λ{c}z q=>by rw[q,f]at z;cases z
 refine⟨h.k.tk1 k,h.n,?_⟩;obtain⟨ps,m,l,n,g⟩:=h.m;refine⟨ps,by rw[k _ (ne h.n)];exact m,l,n,λi p r e1 u=>?_⟩;obtain⟨v,b,j⟩:=g i p r e1 u;exact⟨v,b,by rw[k _ (ne b)];exact j⟩
def Drw(K:Frag)(H:Hp)(Q:VK)(a:Addr)(B:Nat)(P:LM->Prop):Prop:=∀r H' R b',Rk a H H' r R->H' a=some (bxO b')->BxOk (B+100) b'->P R->Q (.ref r) H'
def sp_v(K:Frag):Sp:=λvs H Q _=>∃(a:Addr)(d:Nat)(b:Box)(B:Nat),vs=[.ref a,.int d]/\H a=some (bxO b)/\BxOk B b/\B<=900000/\(d=2\/d=3)/\Drw K H Q a B λR=>R∈pgL (if d=2 then 1 else 3)
def sp_f(K:Frag):Sp:=λvs H Q _=>∃(a:Addr)(d:Nat)(b:Box)(B:Nat),vs=[.ref a,.int d]/\H a=some (bxO b)/\BxOk B b/\B<=900000/\(d=2\/d=3)/\Drw K H Q a B λR=>R∈pgL (if d=2 then 0 else 2)
def sp_x(K:Frag):Sp:=λvs H Q _=>E4 λ(a:Addr)(d:Nat)(b:Box)(B:Nat)=>A6 (vs=[.ref a,.int d]) (H a=some (bxO b)) (BxOk B b) (B<=900000) ((d=2\/d=3)) (Drw K H Q a B (Wr d))
def sp_13(K:Frag):Sp:=λvs H Q _=>E5 λ(a:Addr)(so:Int)(d:Nat)(b:Box)(B:Nat)=>A7 (vs=[.int so,.ref a,.int d]) (H a=some (bxO b)) (BxOk B b) (B<=900000) ((d=2\/d=3)) (0<=so) (Drw K H Q a B (Wr d))
theorem Ee{H e d j:Hp}{c b p:Addr}{r1 r2:LI'}(u:H c=none)(e1:e=upd H c (.lst (r1.map V.int)))(m:e b=none)(x:d=upd e b (.lst (r2.map V.int)))(g:d p=none)(v:j=upd d p (.lst [.ref c,.ref b])):Rw H j p [r1,r2]:=by
 have l:Same H e:=e1 ▸ Same.new u;have k:Same e d:=x ▸ Same.new m;have n:Same d j:=v ▸ Same.new g;have o:e c=some (.lst (r1.map V.int)):=by rw[e1,nN]
 have y:d b=some (.lst (r2.map V.int)):=by rw[x,nN]
 have z:j p=some (.lst [.ref c,.ref b]):=by rw[v,nN]
 refine⟨(l.trans k).trans n,dR (l.trans k) g,[c,b],z,rfl,?_,λi q r a f=>?_⟩
 ·simp only[List.nodup_cons,List.mem_singleton,List.not_mem_nil,not_false_eq_true,List.nodup_nil,and_true];exact lI o m
 ·match i,a,f with
  |0,a,f=>cases a;cases f;exact⟨lI (k _ _ o) g,u,n _ _ (k _ _ o)⟩
  |1,a,f=>cases a;cases f;exact⟨lI y g,dR l m,n _ _ y⟩
  |i+2,a,f=>simp at a
theorem Ad{k:Nat}(c:k<4){R:LM}(a:R∈pgL k):mV 1500 R:=λr hr z b=>wX ((Af c).wee R a r hr z b) (Nat.one_lt_two_pow ∅)
def Ed(R:LM)(z:Int):LM:=[R.getD 0 []++[0],R.getD 1 []++[0],[0,0,z]]
theorem Yt:(pgL 1).all (λR=>(pgL 3).contains (Ed R 1) && (pgL 3).contains (Ed R (-1)))=true:=nofun
theorem Ys{R:LM}(h:R∈pgL 1){z:Int}(a:z=1\/z=-1):Ed R z∈pgL 3:=by
 have:=uK.mp Yt R h;rw[zN,rL,rL]at this;rcases a with rfl|rfl
 ·exact this.1
 ·exact this.2
theorem rk3{a r d e f:Addr}{H g:Hp}{r1 r2 j:LI'}(k:KX a H g)(n:H r=none)(z:g r=some (.lst [.ref d,.ref e,.ref f]))(o:H d=none)(y:H e=none)(C:H f=none)(e1:g d=some (.lst (r1.map V.int)))(x:g e=some (.lst (r2.map V.int)))(l:g f=some (.lst (j.map V.int)))
  (m:d≠r)(u:e≠r)(G:f≠r)(D:d≠e)(F:d≠f)(v:e≠f):Rk a H g r [r1,r2,j]:=by
 refine⟨k,n,[d,e,f],z,rfl,by simp[D,F,v],λi p q b c=>?_⟩
 match i,b,c with
 |0,b,c=>cases b;cases c;exact⟨m,o,e1⟩
 |1,b,c=>cases b;cases c;exact⟨u,y,x⟩
 |2,b,c=>cases b;cases c;exact⟨G,C,l⟩
 |i+3,b,c=>simp at b
theorem ok_v(T:Txt K mg t):FnOk P w K mg base CX0 2 t.a_v t.d_v pn' (sp_v K):=by
 have c0:=@ok_1 P w K mg base t T;have e6:=@ok_j P w K mg base t T;apply T.F_v.ok sc_v
 ·obtain⟨c,d,b,B,rfl,a9,e8,h6,h0,c7⟩:=h;refine⟨_,(nJ (nU (i:=2) sc_v.nd rfl (Or.inl rfl) (mQ (nH (mQ (nH nK (nH nK nI))) (nH (mQ (nH nK (nH nK nI))) nI))))
   (nJ (lJ yD rfl (lG rfl T.z_range (nH (nS c0 hr.mo T.F_1 (nH (pq 0) (nH nK nI))) nI)) (mP (i:=3) sc_v.nd rfl (Or.inl rfl))
   (nM (nU (i:=2) sc_v.nd rfl (Or.inl rfl) (nS e6 hr.mo T.F_j (nH (mQ (nH (mQ (nH nK (nH (fF fG nK) nI))) (nH (mQ (nH nK (nH nK nI))) nI))) (nH (pq 2) nI))))))
   (nJ (mF (mB kK (nS c0 hr.mo T.F_1 (nH (pq 0) (nH nK nI))) nK (mD _))
   (nM (nU (i:=2) sc_v.nd rfl (Or.inl rfl) (nS e6 hr.mo T.F_j (nH (mQ (nH (mQ (nH nK (nH nK nI))) (nH (mQ (nH nK (nH nK nI))) nI))) (nH (pq 2) nI)))))
   mE)
   (nJ (mF (mB kK (pq 1) nK (mD _))
   (nM (nV (pq 2)))
   mE)
   (nM (nV (mQ (nH (nR eN (nY (pq 2)) (mQ (nH nK nI))) (nH (nR eN (nY (pq 2)) (mQ (nH nK nI))) (nH (mQ (nH nK (nH nK (nH (nR iK nK (nR mZ nK (nS c0 hr.mo T.F_1 (nH (pq 0) (nH nK nI))))) nI)))) nI)))))))))),?_⟩
  show tSeq _ _ _ [some (.ref c),some (.int d),none,none] H;have m:=Af (show 1<4 by decide);right;refine⟨by show 2<=sizeLine;decide,λd4 M=>⟨by show 2<=sizeLine;decide,λc5 N=>⟨by show 2<=sizeLine;decide,λp O=>?_⟩⟩⟩;have d0:=Ee (r1:=[1,0]) (r2:=[0,1]) M rfl N rfl O rfl;generalize hH1:upd (upd (upd H d4 (.lst [.int 1,.int 0])) c5 (.lst [.int 0,.int 1])) p (.lst [.ref d4,.ref c5])=d9;have b9:Rw H d9 p [[1,0],[0,1]]:=hH1 ▸ d0;have h1:=b9.s _ _ a9;have g5:Rk c H d9 p [[1,0],[0,1]]:=Rk.of b9 (λ_ _ _ e=>e) a9;clear b9;have h4:[[1,0],[0,1]]∈pgL 1:=by rw[←id2];exact m.one
  clear d0 M N O hH1;subst e1;refine st λN1 e1=>lN λg9 eB=>?_;simp only[mY];ext;refine⟨c,6,b,B,rfl,h1,e8,⋯,∅,∅,λi2 g6 h2=>?_⟩;obtain⟨h9,d2⟩:=mM (many:=6) e8 ∅;have h5:=g5.tk a9 g6;generalize tkB b 6=b1 at*
  generalize tkV b 6=i0 at*
  try ext
  refine⟨⋯,⋯,?_⟩;refine gD (g:=nX 3) (tb:=g9) (λ_ b5 D=>∃(r:Addr)(R:LM)(v:Option V),b5=[some (.ref c),some (.int d),some (.ref r),v]/\Rk c H D r R/\R∈pgL 1/\D c=some (bxO b1)) ⟨p,_,none,rfl,h5,h4,h2⟩ ?_ ?_
  ·rintro k b5 D h8 ⟨r,R,v,rfl,a7,y,a2⟩;subst eB;show tAsg _ _ _ [some (.ref c),some (.int d),some (.ref r),some (.int (0+(k:Int)))] D;ext;refine⟨by show 2<=sizeLine;decide,λf M=>⟨by show 2<=sizeLine;decide,λY N=>⟨by show 2<=sizeLine;decide,λq O=>?_⟩⟩⟩;have b6:=Ee (r1:=[1,-1]) (r2:=[1,0]) M rfl N rfl O rfl;generalize hH3:upd (upd (upd D f (.lst [.int 1,.int (-1)])) Y (.lst [.int 1,.int 0])) q (.lst [.ref f,.ref Y])=g;have l1:Rw D g q [[1,-1],[1,0]]:=hH3 ▸ b6;have mg:[[1,-1],[1,0]]∈pgL 1:=m.gen _ ∅;have l:=a7.up l1.s;refine⟨false,false,false,false,q,r,_,_,2,rfl,l1.m.l.b,l.m.l.b,m.sq _ mg,m.sq _ y,.inl rfl,Ad ∅ mg,Ad ∅ y,λe4 b4 Z=>?_⟩;have i:=l1.s _ _ a2;exact⟨e4,rfl,_,Rk.of Z l.k i,m.mul _ mg _ y,Z.s _ _ i⟩
  ·rintro b5 D ⟨r,R,v,rfl,a7,y,a2⟩;subst e1;refine st λe7 c2=>?_;have nx:∀g l a6 F,Rk c H g l a6->a6∈pgL 1->g c=some (bxO F)->BxOk (B+2) F->e7 [some (.ref c),some (.int d),some (.ref l),v] g:=by
    intro g l a6 F U c1 i b7;subst c2;refine st λe7 c2=>?_;ext;rcases h0 with rfl|rfl
    ·rw[zM ∅];refine iteT ?_;exact c7 l g a6 F U i (b7.le ⋯) c1
    ·rw[zJ ∅];refine iteF ?_;subst c2;ext;obtain⟨ps,k1,k2,k3,e2⟩:=U.m;obtain⟨a,b,z,G,rfl⟩:=sq2 (m.sq _ c1);obtain⟨L,f,rfl⟩:∃L f,ps=[L,f]:=by
      match ps,k2 with
      |[L,f],_=>exact⟨L,f,rfl⟩
     have f8:g L=some (.lst [.int a,.int b]):=(e2 0 L _ rfl rfl).2.2;have f5:g f=some (.lst [.int z,.int G]):=(e2 1 f _ rfl rfl).2.2;refine jC (i:=0) k1 rfl rfl ⟨by show 1<=sizeLine;decide,λb0 g3=>?_⟩;have j:=Same.new (o:=.lst [V.int 0]) g3;have d3:(upd g b0 (.lst [.int 0])) b0=some (.lst [V.int 0]):=nN;generalize upd g b0 (.lst [.int 0])=b4 at j d3;refine⟨L,b0,_,_,rfl,rfl,j _ _ f8,d3,by show 3<=sizeLine;decide,λu a4=>?_⟩;have I:=Same.new (o:=.lst ([V.int a,.int b]++[.int 0])) a4;have b3:(upd b4 u (.lst ([V.int a,.int b]++[.int 0]))) u=some (.lst ([a,b,0].map V.int)):=nN;generalize upd b4 u (.lst ([V.int a,.int b]++[.int 0]))=d1 at I b3;refine jC (i:=1) (I _ _ (j _ _ k1)) rfl rfl ⟨by show 1<=sizeLine;decide,λa3 f0=>?_⟩;have x:=Same.new (o:=.lst [V.int 0]) f0;have d8:(upd d1 a3 (.lst [.int 0])) a3=some (.lst [V.int 0]):=nN;generalize upd d1 a3 (.lst [.int 0])=e9 at x d8;refine⟨f,a3,_,_,rfl,rfl,x _ _ (I _ _ (j _ _ f5)),d8,by show 3<=sizeLine;decide,λn S=>?_⟩;have b8:=Same.new (o:=.lst ([V.int z,.int G]++[.int 0])) S;have c3:(upd e9 n (.lst ([V.int z,.int G]++[.int 0]))) n=some (.lst ([z,G,0].map V.int)):=nN;generalize upd e9 n (.lst ([V.int z,.int G]++[.int 0]))=f1 at b8 c3;have e0:=((j.trans I).trans x).trans b8;have g1:=e0 _ _ i;refine⟨c,2,F,B+2,rfl,g1,b7,⋯,∅,∅,λa8 ok e3=>?_⟩;obtain⟨i1,g7⟩:=mM (many:=2) b7 ∅;generalize tkB F 2=g2 at*
     generalize tkV F 2=v2 at*
     try ext
     have f2:KX c H f1:=U.k.trans (KX.same e0);have c6:=f2.tk1 ok;have g0:u≠c:=λq=>by rw[q,j _ _ i]at a4;cases a4
     have f3:n≠c:=λq=>by rw[q,x _ _ (I _ _ (j _ _ i))]at S;cases S
     have f6:H u=none:=fC (U.k.trans (KX.same j)) (j _ _ i) a4;have h3:H n=none:=fC (U.k.trans (KX.same ((j.trans I).trans x))) (x _ _ (I _ _ (j _ _ i))) S;have W:a8 u=some (.lst ([a,b,0].map V.int)):=by rw[ok _ g0];exact b8 _ _ (x _ _ b3)
     have X:a8 n=some (.lst ([z,G,0].map V.int)):=by rw[ok _ f3];exact c3
     have f7:u≠n:=λq=>by rw[q]at b3;rw[x _ _ b3]at S;cases S
     refine⟨tM ∅,by show 3<=sizeLine;decide,λJ a1=>⟨by show 3<=sizeLine;decide,λr o=>?_⟩⟩;have C:=Same.new (o:=.lst [V.int 0,.int 0,.int (1-2*v2)]) a1;have a5:(upd a8 J (.lst [.int 0,.int 0,.int (1-2*v2)])) J=some (.lst ([0,0,1-2*v2].map V.int)):=nN;have g8:u≠J:=λq=>by rw[q,a1]at W;cases W
     have f4:n≠J:=λq=>by rw[q,a1]at X;cases X
     have f9:H J=none:=fC c6 e3 a1;generalize upd a8 J (.lst [.int 0,.int 0,.int (1-2*v2)])=h7 at C a5 o ⊢;have a0:=Same.new (o:=.lst [V.ref u,.ref n,.ref J]) o;have e5:=c6.trans (KX.same C);have d6:=C _ _ e3;have g4:Rk c H _ r [[a,b,0],[z,G,0],[0,0,1-2*v2]]:=rk3 (e5.trans (KX.same a0)) (fC e5 d6 o) nN f6 h3 f9 (a0 _ _ (C _ _ W)) (a0 _ _ (C _ _ X)) (a0 _ _ a5)
      (λq=>by rw[q]at W;rw[C _ _ W]at o;cases o) (λq=>by rw[q]at X;rw[C _ _ X]at o;cases o) (λq=>by rw[q]at a5;rw[a5]at o;cases o) f7 g8 f4
     exact c7 r _ _ g2 g4 (a0 _ _ d6) (g7.le ⋯) (Ys c1 (z:=1-2*v2) ⋯)
   ext;refine⟨c,2,b1,B+1,rfl,a2,d2,⋯,∅,∅,λc4 c9 d5=>?_⟩;obtain⟨_,d7⟩:=mM (many:=2) d2 ∅;have c8:=a7.tk a9 c9;generalize tkB b1 2=b2 at*
   generalize tkV b1 2=v2 at*;clear a7 a2 c9
   try ext
   refine ite2 (λ_=>?_) (λ_=>nx _ _ _ _ c8 y d5 d7);refine⟨by show 2<=sizeLine;decide,λf M=>⟨by show 2<=sizeLine;decide,λY N=>⟨by show 2<=sizeLine;decide,λq O=>?_⟩⟩⟩;have b6:=Ee (r1:=[0,1]) (r2:=[1,0]) M rfl N rfl O rfl;generalize hH3:upd (upd (upd c4 f (.lst [.int 0,.int 1])) Y (.lst [.int 1,.int 0])) q (.lst [.ref f,.ref Y])=g;have l1:Rw c4 g q [[0,1],[1,0]]:=hH3 ▸ b6;have mg:[[0,1],[1,0]]∈pgL 1:=m.gen _ ∅;have l:=c8.up l1.s;have i:=l1.s _ _ d5;exact⟨false,false,false,false,q,r,_,_,2,rfl,l1.m.l.b,l.m.l.b,m.sq _ mg,m.sq _ y,.inl rfl,Ad ∅ mg,Ad ∅ y,λe4 b4 Z=>nx _ _ _ _ (Rk.of Z l.k i) (m.mul _ mg _ y) (Z.s _ _ i) d7⟩
def bG(d x:Nat)(s:Int):LI':=(List.range d).map λj=>s*(if j=x then 1 else 0)
def sgR(d:Nat):List (Nat×Int)->List Nat->LM
 |[],_=>[]
 |(c,s):: r,l=>bG d (l.getD c 0) s:: sgR d r (l.eraseIdx c)
def sgL:List (Nat×Int)->List Nat->List Nat
 |[],l=>l
 |(c,_):: r,l=>sgL r (l.eraseIdx c)
theorem Ly{d:Nat}{x:Nat×Int}:∀{r:List (Nat×Int)}{l:List Nat},sgR d (r++[x]) l=sgR d r l++[bG d ((sgL r l).getD x.1 0) x.2]/\sgL (r++[x]) l=(sgL r l).eraseIdx x.1
 |[],_=>⟨rfl,rfl⟩
 |(c,s):: r,l=>by
  obtain⟨a,b⟩:=Ly (d:=d) (x:=x) (r:=r) (l:=l.eraseIdx c);exact⟨by show _:: sgR d (r++[x]) _=_;rw[a];rfl,b⟩
theorem Lx{d:Nat}:∀{r:List (Nat×Int)}{l:List Nat},(sgR d r l).length=r.length
 |[],_=>rfl
 |(c,s):: r,l=>by show(sgR d r _).length+1=_;rw[Lx];rfl
def Chs:Nat->List (Nat×Int)->Prop
 |_,[]=>True
 |m,(c,s):: r=>c<m/\(s=1\/s=-1)/\Chs (m-1) r
theorem Lw{x:Nat×Int}:∀{r:List (Nat×Int)}{m:Nat},Chs m r->x.1<m-r.length->(x.2=1\/x.2=-1)->Chs m (r++[x])
 |[],m,_,d,e=>⟨by simpa using d,e,trivial⟩
 |(c,s):: r,m,⟨a,b,k⟩,d,e=>⟨a,b,Lw k (by rw[zR]at d;omega) e⟩
theorem Lv:∀{r:List (Nat×Int)}{l:List Nat},Chs l.length r->r.length<=l.length->(sgL r l).length=l.length-r.length
 |[],_,_,_=>rfl
 |(c,s):: r,l,⟨a,_,k⟩,h=>by
  have e:(l.eraseIdx c).length=l.length-1:=List.length_eraseIdx_of_lt a;rw[zR]at h ⊢;show(sgL r (l.eraseIdx c)).length=_;rw[Lv (by rw[e];exact k) (by rw[e];omega),e];omega
def allC:Nat->Nat->List (List (Nat×Int))
 |0,_=>[[]]
 |n+1,m=>(List.range m).flatMap λc=>[1,-1].flatMap λs=>(allC n (m-1)).map λr=>(c,s):: r
theorem Eb:∀{n m:Nat}{r:List (Nat×Int)},Chs m r->r.length=n->r∈allC n m
 |0,_,[],_,_=>.head _
 |n+1,m,(c,s):: r,⟨a,b,k⟩,h=>List.mem_flatMap.mpr ⟨c,oY.mpr a,List.mem_flatMap.mpr ⟨s,by rcases b with rfl|rfl <;> decide,nD.mpr ⟨r,Eb k (by simpa using h),rfl⟩⟩⟩
theorem Yr:(allC 2 2).all (λr=>(pgL 0).contains (sgR 2 r (List.range 2)))=true:=nofun
theorem Yq:(allC 3 3).all (λr=>(pgL 2).contains (sgR 3 r (List.range 3)))=true:=nofun
theorem Yp{d:Nat}(a:d=2\/d=3){r:List (Nat×Int)}(h:Chs d r)(hl:r.length=d):sgR d r (List.range d)∈pgL (if d=2 then 0 else 2):=by
 rcases a with rfl|rfl
 ·exact rL.mp (uK.mp Yr r (Eb h hl))
 ·exact rL.mp (uK.mp Yq r (Eb h hl))
theorem ok_f(T:Txt K mg t):FnOk P w K mg base CX0 2 t.a_f t.d_f pn' (sp_f K):=by
 have c8:=@ok_1 P w K mg base t T;apply T.F_f.ok sc_f
 ·obtain⟨f,d,b,a9,rfl,a3,g0,g4,f7,d8⟩:=h;refine⟨_,(nJ (nU (i:=2) sc_f.nd rfl (Or.inl rfl) (Rr rfl rfl T.z_list rfl T.z_range (nH (pq 1) nI)))
   (nJ (nU (i:=3) sc_f.nd rfl (Or.inl rfl) (mQ nI))
   (nJ (lJ yD rfl (lG rfl T.z_range (nH (pq 1) nI)) (mP (i:=4) sc_f.nd rfl (Or.inl rfl))
   (nJ (nU (i:=5) sc_f.nd rfl (Or.inr rfl) (eJ wL PySem.F.slot_list_pop PySem.F.type_list_pop Pz (pq 2) (nH (nS c8 hr.mo T.F_1 (nH (pq 0) (nH (lC T.z_len (pq 2)) nI))) nI)))
   (nJ (nU (i:=6) sc_f.nd rfl (Or.inr rfl) (nR iK nK (nR mZ nK (nS c8 hr.mo T.F_1 (nH (pq 0) (nH nK nI))))))
   (nM (gM (eJ wL vD vB eK (pq 3) (nH (lE (sc:=nP Ax) (N:=N_f) (fr:=[("_law_at",5),("_law_sign",6)]) (te:=(tOp (rI (λi j=>IntMulOk i j) λi j=>.int (i*j)) (tVar 2) (tCB (λxs H Q=>(∃i,xs=[.int i]/\Q (.int i) H)\/∃k,xs=[.bl k]/\Q (.int (if k then 1 else 0)) H) (mH (tOp (rI0 λi j=>.bl (decide (i=j))) (tVar 0) (tVar 1)) tNil)))) rfl rfl (nofun) rfl (nofun) (lG rfl T.z_range (nH (pq 1) nI)) (λ_ _ _ g6=>(nR mZ (pv 2) (lK Fn rfl T.z_int (nofun) (nH (dW kK (pv 0) (pv 1) (mD _)) nI))))) nI)))))))
   (nM (nV (pq 3)))))),?_⟩
  show tSeq _ _ _ [some (.ref f),some (.int d),none,none,none,none,none] H;right;refine⟨d,rfl,⋯,λl hl=>?_⟩;have S:Same H (upd H l (.lst ((List.range d).map λ(i:Nat)=>V.int (i:Int)))):=Same.new hl;have W:(upd H l (.lst ((List.range d).map λ(i:Nat)=>V.int (i:Int)))) l=some (.lst ((List.range d).map λ(i:Nat)=>V.int (i:Int))):=nN;have b2:l≠f:=λz=>by rw[z,a3]at hl;cases hl
  show N1 _ (upd H l (.lst ((List.range d).map λ(i:Nat)=>V.int (i:Int))));generalize upd H l (.lst ((List.range d).map λ(i:Nat)=>V.int (i:Int)))=v at S W ⊢;have a8:=S _ _ a3;left;refine⟨zY _,λm O=>?_⟩;have a4:Same v (upd v m (.lst [])):=Same.new O;have d1:(upd v m (.lst [])) m=some (.lst []):=nN;have b8:l≠m:=λz=>by rw[z,O]at W;cases W
  have b5:m≠f:=λz=>by rw[z,a8]at O;cases O
  generalize upd v m (.lst [])=g3 at a4 d1;subst e1;refine st λN1 e1=>lN λf6 eB=>?_;simp only[mY];ext;refine⟨⋯,⋯,?_⟩;rw[zS];refine gD (g:=nX 4) (tb:=f6) (λi b1 x=>∃(r:List (Nat×Int))(b0 a1 a7:Option V)(D:Box),b1=[some (.ref f),some (.int d),some (.ref l),some (.ref m),b0,a1,a7]/\(∀b o,b≠l->b≠f->v b=some o->x b=some o)/\x l=some (.lst ((sgL r (List.range d)).map λ(i:Nat)=>V.int (i:Int)))/\MatD v x m (sgR d r (List.range d))/\Chs d r/\r.length=i/\x f=some (bxO D)/\BxOk (a9+2*i) D)
   ⟨[],none,none,none,b,rfl,λb o _ _ e=>a4 _ _ e,a4 _ _ W,MatD.nil d1,trivial,rfl,a4 _ _ a8,g0⟩ ?_ ?_
  ·rintro i b1 x hi ⟨r,b0,a1,a7,D,rfl,k3,R,X,a0,rfl,Y,a2⟩;have e2:(sgL r (List.range d)).length=d-r.length:=by
    have:=Lv (r:=r) (l:=List.range d) (by rw[uZ];exact a0) (by rw[uZ];omega);rw[uZ]at this;exact this
   generalize hL:sgL r (List.range d)=L at*;subst eB;show tSeq _ _ _ [some (.ref f),some (.int d),some (.ref l),some (.ref m),some (.int (0+(r.length:Int))),a1,a7] x;refine st λf9 b6=>?_;ext;refine⟨.inl ⟨rfl,_,SqL.of R⟩,?_⟩;refine⟨false,l,_,rfl,SqB.lst R,?_⟩
   try ext
   rw[zqe,e2];refine⟨f,((d-r.length:Nat):Int),D,a9+2*r.length,rfl,Y,a2,⋯,⋯,⋯,λG ok d9=>?_⟩;obtain⟨f0,c9⟩:=mM (many:=((d-r.length:Nat):Int)) a2 ⋯;generalize tkB D ((d-r.length:Nat):Int)=a5 at*
   generalize tkV D ((d-r.length:Nat):Int)=e6 at*;have d0:G l=some (.lst (L.map λ(i:Nat)=>V.int (i:Int))):=by rw[ok _ b2];exact R
   have c4:∀b o,b≠l->b≠f->v b=some o->G b=some o:=λb o u g e=>by rw[ok b g];exact k3 b o u g e
   have c7:MatD v G m (sgR d r (List.range d)):=by
    obtain⟨ps,u,g,J,M⟩:=X;refine⟨ps,by rw[ok m b5];exact u,g,J,λj p q a b=>?_⟩;obtain⟨F,n,I⟩:=M j p q a b;exact⟨F,n,by rw[ok p (λz=>by rw[z,a8]at n;cases n)];exact I⟩
   clear X k3 R ok Y;obtain⟨c,f8⟩:∃c:Nat,e6=c:=⟨_,(Int.toNat_of_nonneg f0.1).symm⟩;subst f8;have e5:c<L.length:=⋯
   refine⟨l,_,_,c,.int ((L.getD c 0:Nat):Int),rfl,rfl,d0,⋯,⋯,?_,?_,?_⟩
   ·rw[oC ⋯ (by rw[zqe];omega)];rfl
   ·rw[zH,zqc,zqd e5];rfl
   have e9:(L.map λ(i:Nat)=>V.int (i:Int)).eraseIdx c=(L.eraseIdx c).map λ(i:Nat)=>V.int (i:Int):=Ic _ _ _;rw[e9];have N:∀b,b≠l->upd G l (.lst ((L.eraseIdx c).map λ(i:Nat)=>V.int (i:Int))) b=G b:=λb a3=>nO a3;have b7:upd G l (.lst ((L.eraseIdx c).map λ(i:Nat)=>V.int (i:Int))) l=some (.lst ((L.eraseIdx c).map λ(i:Nat)=>V.int (i:Int))):=nN;generalize upd G l (.lst ((L.eraseIdx c).map λ(i:Nat)=>V.int (i:Int)))=c6 at N b7;have d2:MatD v c6 m (sgR d r (List.range d)):=by
    obtain⟨ps,u,g,J,M⟩:=c7;refine⟨ps,by rw[N m (zT b8)];exact u,g,J,λj p q a b=>?_⟩;obtain⟨F,n,I⟩:=M j p q a b;exact⟨F,n,by rw[N p (λz=>by rw[z,W]at n;cases n)];exact I⟩
   have c3:c6 f=some (bxO a5):=by rw[N f (zT b2)];exact d9
   subst b6;refine st λf9 b6=>?_;ext;refine⟨f,2,a5,a9+2*r.length+1,rfl,c3,c9,⋯,∅,∅,λZ ok b9=>?_⟩;obtain⟨g7,d3⟩:=mM (many:=2) c9 ∅;generalize tkB a5 2=f2 at*
   generalize tkV a5 2=v2 at*
   try ext
   refine⟨tM ∅,?_⟩;have c2:Z l=some (.lst ((L.eraseIdx c).map λ(i:Nat)=>V.int (i:Int))):=by rw[ok _ b2];exact b7
   have c5:∀b o,b≠l->b≠f->v b=some o->Z b=some o:=λb o u g e=>by rw[ok b g,N b u];exact c4 b o u g e
   have c0:MatD v Z m (sgR d r (List.range d)):=by
    obtain⟨ps,u,g,J,M⟩:=d2;refine⟨ps,by rw[ok m b5];exact u,g,J,λj p q a b=>?_⟩;obtain⟨F,n,I⟩:=M j p q a b;exact⟨F,n,by rw[ok p (λz=>by rw[z,a8]at n;cases n)];exact I⟩
   clear d2 c7 c4 N b7 ok c3 d0;have sg:1-2*v2=1\/1-2*v2=-1:=⋯
   generalize 1-2*v2=sn at*;subst b6;ext;obtain⟨g2,d4⟩:∃zs,Z m=some (.lst zs):=let ⟨ps,h,_⟩:=c0;⟨_,h⟩
   refine⟨.inl ⟨rfl,_,SqL.of d4⟩,?_⟩;refine mK λB eB=>?_;simp only[mY];ext;refine⟨⋯,⋯,λa6 C=>?_⟩;rw[zS];refine jG (λj y _=>j<d/\y=.int (sn*(if j=L.getD c 0 then 1 else 0))) C ⋯ (λ_ _ _ _ r _=>r) ?_ ?_
   ·intro j c1 zs b4 U g5 e8 f4;subst eB;show tOp _ _ _ [some (.int (0+(j:Int))),some (.int ((L.getD c 0:Nat):Int)),some (.int sn)] c1 e8;ext;refine .inr ⟨(show CMul _ _ from .inl ⟨⋯,⋯⟩).ok,f4 _ _ (Same.refl _) ⟨b4,?_⟩⟩
    by_cases z:j=L.getD c 0
    ·rw[zF z,zM ⋯];rfl
    ·rw[zD z,zJ ⋯];rfl
   ·intro c1 ys U d5 f3 f5;have g1:ys=(bG d (L.getD c 0) sn).map V.int:=by
     refine kE (by simpa [bG]using f3) λj y e=>?_;obtain⟨b4,rfl⟩:=f5 j y e;exact⟨_,by unfold bG;rw[zH,xC b4];rfl,rfl⟩
    subst g1;obtain⟨zs,e4,e0,e3⟩:=MatD.app c0 U C (by
     cases q:v a6 with
     |none=>rfl
     | some o =>
      by_cases z:a6=l
      ·rw[z,c2]at C;cases C
      ·by_cases y:a6=f
       ·rw[y,b9]at C;cases C
       ·rw[c5 a6 o z y q]at C;cases C) d5
    refine⟨m,zs,_,rfl,rfl,e4,fK (by rw[e0,Lx];omega),?_⟩;have b3:=Ly (d:=d) (x:=(c,sn)) (r:=r) (l:=List.range d);rw[hL]at b3;refine⟨λb o f1 d7 e=>?_,r++[(c,sn)],?_,?_,Lw a0 (by show c<d-r.length;omega) sg,by simp,f2,?_,?_⟩
    ·have bm:b≠m:=λz=>by rw[z,O]at e;cases e
     rw[nO bm];exact U _ _ (c5 b o f1 d7 e)
    ·rw[nO b8,b3.2];exact U _ _ c2
    ·rw[b3.1];exact e3
    ·rw[nO (zT b5)];exact U _ _ b9
    ·exact d3.le ⋯
  ·rintro b1 x ⟨r,b0,a1,a7,D,rfl,k3,R,X,a0,d6,Y,a2⟩;symm;refine d8 m x _ D ⟨λb o e7 e=>k3 b o (λz=>by rw[z,hl]at e;cases e) e7 (S _ _ e),dR S O,?_⟩ Y (a2.le ⋯) (Yp f7 a0 d6);obtain⟨ps,u,g,J,M⟩:=X;exact⟨ps,u,g,J,λj p q a b=>let ⟨F,n,I⟩:=M j p q a b;⟨F,dR S n,I⟩⟩
theorem Ea{n k:Nat}(h:k<n):ixN n (k:Int)=some k:=by
 unfold ixN;rw[zF ⋯,zF ⋯];simp
theorem Yo{c:Int}{d:Nat}(h:0<d):∃n:Nat,c.fmod d=n/\n<d:=by
 have:=fms c d ⋯;exact⟨(c.fmod d).toNat,⋯,⋯⟩
def colU(d i j:Nat)(m:Int)(R:LM)(u:Nat):LM:=(R.take u).map (colR d i j m)++R.drop u
theorem Yn{d i j:Nat}{m:Int}{r:LI'}(hl:r.length=d)(b:j<d):r.set j (r.getD j 0-m*r.getD i 0)=colR d i j m r:=by
 unfold colR
 conv=>lhs;rw[dP (z:=(0:Int)) hl]
 rw[El];refine iC λk a=>?_
 by_cases h:k=j
 ·subst h;rw[zF rfl,zF rfl,bB a,oR]
  by_cases hi:i<d
  ·rw[bB hi]
  ·congr 1;rw[zqc,vR (by simp;omega),zqc,vR ⋯]
 ·rw[zD h,zD h,uE,uE,Int.sub_zero]
theorem Ym{d i j u:Nat}{m:Int}{R:LM}{r:LI'}(e:R[u]?=some r):(colU d i j m R u)[u]?=some r/\(colU d i j m R u).set u (colR d i j m r)=colU d i j m R (u+1):=by
 have b:=(zqa e).1;have a:((R.take u).map (colR d i j m)).length=u:=by rw[zqe,yG];omega
 unfold colU;refine⟨?_,?_⟩
 ·rw[zX ⋯,a,vN,vQ,tE];exact e
 ·rw[List.set_append,zD ⋯,a,vN,yY,e,yX,yK,vZ b];rfl
theorem Lu{d i:Nat}{A:LM}{r:LI'}(a:Sq d A)(hr:r.length=d):Sq d (A.set i r):=⟨by rw[List.length_set];exact a.1,λz b=>by
 rcases uB b with h|h
 ·exact a.2 z h
 ·rw[h];exact hr⟩
theorem Ls{x:Addr}:∀{l:LA}{i:Nat},l.Nodup->x∉l->(l.set i x).Nodup
 |[],_,_,_=>by simp
 |a:: l,0,nd,h=>rN.mpr ⟨λq=>h (.tail _ q),(rN.mp nd).2⟩
 |a:: l,i+1,nd,h=>by
  have b:=rN.mp nd;refine rN.mpr ⟨λq=>?_,Ls b.2 λq=>h (.tail _ q)⟩;rcases uB q with q|q
  ·exact b.1 q
  ·exact h (q ▸ .head _)
theorem MatD.put{f H c:Hp}{a l:Addr}{M:LM}{r:LI'}{i:Nat}(h:MatD f H a M)(s:Same H c)(hl:H l=none)(y:f l=none)(e:c l=some (.lst (r.map V.int))):∃zs,c a=some (.lst zs)/\zs.length=M.length/\MatD f (upd c a (.lst (zs.set i (.ref l)))) a (M.set i r):=by
 obtain⟨ps,m,k,x,g⟩:=h;have n:l≠a:=λz=>by rw[z,m]at hl;cases hl
 have v:l∉ps:=λF=>by
  obtain⟨j,d,C⟩:=wP F;rw[(g j l M[j] (by simp[d,C]) (by simp[show j<M.length by omega])).2.2]at hl;cases hl
 refine⟨ps.map V.ref,s _ _ m,by rw[zqe,k],ps.set i l,by rw[nN,List.map_set],by simp[k],?_,λj p q e1 b=>?_⟩
 ·exact Ls x v
 ·by_cases d:j=i
  ·subst d;have D:j<ps.length:=by have:=(zqa e1).1;simpa using this
   rw[xR D]at e1;rw[xR ⋯]at b;cases e1;cases b;exact⟨n,y,by rw[nO n];exact e⟩
  ·rw[vY (zT d)]at e1 b;obtain⟨o,G,u⟩:=g j p q e1 b;exact⟨o,G,by rw[nO o];exact s _ _ u⟩
theorem ok_x(T:Txt K mg t):FnOk P w K mg base CX0 2 t.a_x t.d_x pn' (sp_x K):=by
 have Z:=@ok_1 P w K mg base t T;have c3:=@ok_m P w K mg base t T;apply T.F_x.ok sc_x
 ·obtain⟨g,d,b,G,rfl,v,d8,e5,f3,c5⟩:=h;refine⟨_,(nJ (nU (i:=2) sc_x.nd rfl (Or.inr rfl) (nS c3 hr.mo T.F_m (nH (pq 1) nI)))
   (nJ (lJ yD rfl (lG rfl T.z_range (nH nK nI)) (mP (i:=3) sc_x.nd rfl (Or.inl rfl))
   (nJ (nU (i:=4) sc_x.nd rfl (Or.inr rfl) (nS Z hr.mo T.F_1 (nH (pq 0) (nH (pq 1) nI))))
   (nJ (nU (i:=5) sc_x.nd rfl (Or.inr rfl) (nR jT (nR lH (nR lH (pq 4) nK) (nS Z hr.mo T.F_1 (nH (pq 0) (nH (nR iK (pq 1) nK) nI)))) (pq 1)))
   (nJ (nU (i:=6) sc_x.nd rfl (Or.inr rfl) (nR iK (nS Z hr.mo T.F_1 (nH (pq 0) (nH nK nI))) nK))
   (nM (jS (lE (sc:=nP Aw) (N:=N_x) (fr:=[("_law_rows_here",2),("_law_i",4),("_law_j",5),("_law_by",6)]) (te:=(tOp (rI0 λi j=>.int (i+j)) (tOp (rIxB K) (tOp (rIxB K) (tVar 1) (tVar 2)) (tVar 0)) (tOp (rI (λi j=>IntMulOk i j) λi j=>.int (i*j)) (tVar 4) (tOp (rIxB K) (tOp (rIxB K) (tVar 1) (tVar 3)) (tVar 0))))) rfl rfl (nofun) rfl (nofun) (lG rfl T.z_range (nH (pq 1) nI)) (λ_ _ _ f4=>(nR lH (mG ix_B (mG ix_B (pv 1) (pv 2) (λ_ _=>rfl)) (pv 0) (λ_ _=>rfl)) (nR mZ (pv 4) (mG ix_B (mG ix_B (pv 1) (pv 3) (λ_ _=>rfl)) (pv 0) (λ_ _=>rfl)))))) (iE (pq 2) (pq 4) cE)))))))
   (nM (nV (pq 2))))),?_⟩
  show tSeq _ _ _ [some (.ref g),some (.int d),none,none,none,none,none] H;right;refine⟨d,rfl,⋯,λa e8 b3=>?_⟩;subst e1;refine st λN1 e1=>lN λd6 eB=>?_;simp only[mY];ext;refine⟨∅,∅,?_⟩;refine gD (g:=nX 3) (tb:=d6) (λk S p=>∃(b1:Box)(f:LM)(v3 I M O:Option V),S=[some (.ref g),some (.int d),some (.ref a),v3,I,M,O]/\Rk g H p a f/\Sq d f/\LeM (3^k) f/\p g=some (bxO b1)/\BxOk (G+3*k) b1) ⟨b,_,none,none,none,none,rfl,Rk.of b3 (λ_ _ _ e=>e) v,gJ,bF,b3.s _ _ v,d8⟩ ?_ ?_
  ·rintro k S p e3 ⟨b1,f,v3,I,M,O,rfl,N,l,C,J,D⟩;subst eB;show tSeq _ _ _ [some (.ref g),some (.int d),some (.ref a),some (.int (0+(k:Int))),I,M,O] p;refine st λb8 F=>?_;ext;refine⟨g,d,b1,G+3*k,rfl,J,D,⋯,⋯,⋯,λe7 b4 a4=>?_⟩;obtain⟨a3,W⟩:=mM (many:=(d:Int)) D ⋯;have a5:=N.tk v b4;generalize tkB b1 (d:Int)=b2 at*
   obtain⟨i,a8⟩:=Int.eq_ofNat_of_zero_le a3.1;rw[a8]at a3 ⊢;have hi:i<d:=⋯
   clear N J b4 D a8;subst F;refine st λb8 F=>?_;ext;refine⟨g,(d:Int)-1,b2,G+3*k+1,rfl,a4,W,⋯,⋯,⋯,λe9 a6 a9=>?_⟩;obtain⟨_,a0⟩:=mM (many:=(d:Int)-1) W ⋯;have b0:=a5.tk v a6;generalize tkB b2 ((d:Int)-1)=L at*
   generalize tkV b2 ((d:Int)-1)=d2 at*
   try ext
   obtain⟨j,b9,f0⟩:=Yo (c:=(i:Int)+1+d2) (d:=d) ⋯;refine⟨⋯,?_⟩;rw[b9];clear a5 a4 a6 W b9;subst F;refine st λb8 F=>?_;ext;refine⟨g,5,L,G+3*k+2,rfl,a9,a0,⋯,∅,∅,λe4 b5 b7=>?_⟩;obtain⟨e6,c0⟩:=mM (many:=5) a0 ∅;have m:=b0.tk v b5;generalize tkB L 5=Y at*
   generalize tkV L 5=a7 at*
   try ext
   have c1:(a7-2).natAbs<=2:=⋯
   generalize a7-2=n at*;clear b0 a9 b5 a0;subst F;simp only[tAsg,gSub,eI];refine mK λB eB=>?_;simp only[mY];ext;refine⟨⋯,⋯,λb6 X=>?_⟩;rw[zS];have a1:f[i]?=some (f.getD i []):=by have:=l.1;simp[show i<f.length by omega]
   have a2:f[j]?=some (f.getD j []):=by have:=l.1;simp[show j<f.length by omega]
   have e0:=l.2 _ (zqb a1);have e2:=l.2 _ (zqb a2);have f2:3^k<=3^3:=yS ∅ ⋯;have ok:∀z:Int,IntMulOk n z:=λz=>tM (intBits_le_iff.mpr ⋯);refine jG (λu y _=>u<d/\y=.int ((f.getD i []).getD u 0+n*(f.getD j []).getD u 0)) X ⋯ (λ_ _ _ _ r _=>r) ?_ ?_
   ·intro u R zs x q f1 d1 d4;subst eB;show tOp _ _ _ [some (.int (0+(u:Int))),some (.ref a),some (.int i),some (.int j),some (.int n)] R d1;ext;refine gE (b1:=false) (b2:=false) (m.up q).m.l.b a1 (L2.getD_at (k:=u) ⋯) rfl ⋯ ?_;refine gE (b1:=false) (b2:=false) (m.up q).m.l.b a2 (L2.getD_at (k:=u) ⋯) rfl ⋯ ?_;ext;exact⟨ok _,d4 _ _ (Same.refl _) ⟨x,rfl⟩⟩
   ·intro R ys q c2 d3 d7;have d9:ys=(mixR d (f.getD i []) (f.getD j []) n).map V.int:=by
     refine kE (by simpa [mixR]using d3) λu y e=>?_;obtain⟨x,rfl⟩:=d7 u y e;exact⟨_,by unfold mixR;rw[zH,xC x];rfl,rfl⟩
    subst d9;obtain⟨zs,c9,c6,c8⟩:=MatD.put (i:=i) m.m q X (fC m.k b7 X) c2
    try ext
    refine⟨_,c9,i,Ea (by rw[c6,l.1];omega),?_⟩;have ab:a≠g:=λz=>by have:=m.n;rw[z,v]at this;cases this
    have d0:Rk g H (upd R a (.lst (zs.set i (.ref b6)))) a (f.set i (mixR d (f.getD i []) (f.getD j []) n)):=⟨λc o c7 e=>by
     rw[nO (λz=>by rw[z,m.n]at e;cases e)];exact q _ _ (m.k c o c7 e),m.n,c8⟩
    have d5:(upd R a (.lst (zs.set i (.ref b6)))) g=some (bxO Y):=by rw[nO (zT ab)];exact q _ _ b7
    have c4:(mixR d (f.getD i []) (f.getD j []) n).length=d:=by simp[mixR]
    refine⟨Y,_,d0,Lu (i:=i) l c4,λr hr z U=>?_,d5,c0.le ⋯⟩;rw[sJ];rcases uB hr with h|h
    ·have:=C r h z U;omega
    ·rw[h]at U;obtain⟨u,x,rfl⟩:=nD.mp U;have x:=oY.mp x;have b1:=C _ (zqb a1) _ (L2.getD_mem (k:=u) ⋯);have b2:=C _ (zqb a2) _ (L2.getD_mem (k:=u) ⋯);have L:(n*(f.getD j []).getD u 0).natAbs<=2*3^k:=by rw[xK];exact wW c1 b2
     have Y:=vX ((f.getD i []).getD u 0) (n*(f.getD j []).getD u 0);omega
  ·rintro S p ⟨b1,f,v3,I,M,O,rfl,N,l,C,J,D⟩;symm;exact c5 a p f b1 N J (D.le ⋯) ⟨l,C⟩
theorem ok_13(T:Txt K mg t):FnOk P w K mg base CX0 3 t.a_13 t.d_13 pi' (sp_13 K):=by
 have v:=@ok_m P w K mg base t T;have D:=@ok_x P w K mg base t T;have q:=@ok_v P w K mg base t T;have p:=@ok_f P w K mg base t T;apply T.F_13.ok sc_13
 ·obtain⟨a,F,d,b,j,rfl,c,i,l,g,G,f⟩:=h;refine⟨_,(nJ (mF (mB kK (pq 0) nK (mD _))
   (nM (nV (nS v hr.mo T.F_m (nH (pq 2) nI))))
   mE)
   (nJ (mF (mB kK (pq 0) nK (mD _))
   (nM (nV (nS D hr.mo T.F_x (nH (pq 1) (nH (pq 2) nI)))))
   mE)
   (nJ (mF (mB fZ (pq 0) nK (mD _))
   (nM (nV (nS q hr.mo T.F_v (nH (pq 1) (nH (pq 2) nI)))))
   mE)
   (nM (nV (nS p hr.mo T.F_f (nH (pq 1) (nH (pq 2) nI)))))))),?_⟩
  show tSeq _ _ _ [some (.int F),some (.ref a),some (.int d)] H;have n:∀{k1 k2:Nat}{R:LM},k1<2->2<=k2->k2<4->R∈pgL (if d=2 then k1 else k2)->Wr d R:=λ{k1 k2 R}C I u h=>by
   rcases g with rfl|rfl
   ·have:=Kb (k:=k1) ⋯ h;rw[show famD k1=2 from zF C]at this;exact this
   ·have:=Kb (k:=k2) u h;rw[show famD k2=3 from zD ⋯]at this;exact this
  ext;refine ite2 (λz=>?_) (λz=>ite2 (λy=>?_) (λy=>ite2 (λx=>?_) (λx=>?_)))
  ·exact⟨d,rfl,⋯,λr H' o=>f r H' _ b (Rk.of o (λ_ _ _ e=>e) c) (o.s _ _ c) (i.le ⋯) ⟨gJ,LeM.le bF ∅⟩⟩
  ·exact⟨a,d,b,j,rfl,c,i,l,g,f⟩
  ·exact⟨a,d,b,j,rfl,c,i,l,g,λr H' R k k1 k2 k3 m=>f r H' R k k1 k2 k3 (n ∅ ∅ ∅ m)⟩
  ·exact⟨a,d,b,j,rfl,c,i,l,g,λr H' R k k1 k2 k3 m=>f r H' R k k1 k2 k3 (n ∅ ∅ ∅ m)⟩
def sxI(d:Nat)(b:Box):Int:=tkV b d
def sxJ(d:Nat)(b:Box):Int:=(tkV b d+1+tkV (tkB b d) ((d:Int)-1)).fmod d
def b3B(d:Nat)(b:Box):Box:=tkB (tkB b d) ((d:Int)-1)
def b5B(d:Nat)(b:Box):Box:=tkB (tkB (b3B d b) 5) 4
def sxM(d:Nat)(b:Box):Int:=if tkV (tkB (b3B d b) 5) 4=1 then tkV (b5B d b) 2000001-1000000 else tkV (b3B d b) 5-2
def nxB(d:Nat)(b:Box):Box:=if tkV (tkB (b3B d b) 5) 4=1 then tkB (b5B d b) 2000001 else b5B d b
def sxS(d:Nat)(b:Box):Stp:=⟨(sxI d b).toNat,(sxJ d b).toNat,sxM d b⟩
def bxS(d:Nat):Nat->Box->Box
 |0,b=>b
 |n+1,b=>nxB d (bxS d n b)
def stB(d:Nat):Nat->Box->List Stp
 |0,_=>[]
 |n+1,b=>sxS d (bxS d n b):: stB d n b
def stL(d:Nat)(b:Box):List Stp:=stB d (tkV b 4).toNat (tkB b 4)
theorem Lr{d:Nat}{b:Box}{B:Nat}(k:d=2\/d=3)(h:BxOk B b):(0<=sxI d b/\sxI d b<d)/\(0<=sxJ d b/\sxJ d b<d)/\(sxS d b).Ok d/\BxOk (B+5) (nxB d b):=by
 obtain⟨c,j⟩:=mM (many:=(d:Int)) h ⋯;obtain⟨x,n⟩:=mM (many:=(d:Int)-1) j ⋯;obtain⟨m,q⟩:=mM (many:=5) n ∅;obtain⟨u,f⟩:=mM (many:=4) q ∅;obtain⟨p,r⟩:=mM (many:=2000001) f ∅;have a:=fms1 (tkV b d+1+tkV (tkB b d) ((d:Int)-1)) d ⋯;have g:sxJ d b=(tkV b d+1+tkV (tkB b d) ((d:Int)-1)).fmod d:=rfl;have e:sxI d b=tkV b d:=rfl;have y:sxI d b≠sxJ d b:=by
  rw[g,e,xX _ ⋯];rcases k with rfl|rfl <;> omega
 have l:(sxM d b).natAbs<=1000000:=by
  have z:0<=tkV (b3B d b) 5/\tkV (b3B d b) 5<5:=m;have v:0<=tkV (b5B d b) 2000001/\tkV (b5B d b) 2000001<2000001:=p;unfold sxM;split <;> omega
 rw[←g]at a;rw[←e]at c;refine⟨c,a,⟨?_,?_,?_,l⟩,?_⟩
 ·show(sxI d b).toNat<d;omega
 ·show(sxJ d b).toNat<d;omega
 ·show(sxI d b).toNat≠(sxJ d b).toNat;omega
 ·have o:BxOk (B+4) (b5B d b):=f;have i:BxOk (B+5) (tkB (b5B d b) 2000001):=r;unfold nxB;split
  ·exact i
  ·exact o.le ⋯
theorem Fz{d:Nat}{b:Box}{B:Nat}(c:d=2\/d=3)(h:BxOk B b):∀n,(∀s∈stB d n b,s.Ok d)/\(stB d n b).length=n/\BxOk (B+5*n) (bxS d n b)
 |0=>⟨λ_ h=>(by cases h),rfl,h⟩
 |n+1=>by
  obtain⟨g,j,e⟩:=Fz c h n;obtain⟨_,_,f,i⟩:=Lr c e;refine⟨λs a=>?_,by show(stB d n b).length+1=_;rw[j],i.le ⋯⟩;rcases xM.mp a with rfl|a
  ·exact f
  ·exact g s a
theorem Lq{d:Nat}{b:Box}{B:Nat}(c:d=2\/d=3)(h:BxOk B b):(∀s∈stL d b,s.Ok d)/\(stL d b).length<=3:=by
 obtain⟨g,e⟩:=mM (many:=4) h ∅;obtain⟨a,f,_⟩:=Fz c e (tkV b 4).toNat;exact⟨a,by show(stB _ _ _).length<=3;rw[f];omega⟩
theorem KX.over{a r:Addr}{D H:Hp}{o:HO}(k:KX a D H)(n:D r=none):KX a D (upd H r o):=λb x c e=>by
 rw[nO (λz=>by rw[z,n]at e;cases e)];exact k b x c e
def sp_p:Sp:=λvs H Q _=>E8 λ(a bx:Addr)(b:Box)(Z d:Nat)(R:LM)(D:Hp)(o:HO)=>A9 (vs=[.ref a,.ref bx]) ((d=2\/d=3)) (Wr d R) (Rk bx D H a R) (D bx=some o) (H bx=some (bxO b)) (BxOk Z b) (Z<=900000) (∀H' b',Rk bx D H' a (cjM d (chP d (stL d b)) (chQ d (stL d b)) R)->H' bx=some (bxO b')->Q (.ref a) H')
theorem ok_p(T:Txt K mg t):FnOk P w K mg base CX0 2 t.a_p t.d_p pk' sp_p:=by
 have Z:=@ok_1 P w K mg base t T;apply T.F_p.ok sc_p
 ·obtain⟨a,m,b,O,d,R,D,o,rfl,a0,e8,d0,J,e3,f3,j1,d6⟩:=h;refine⟨_,(nJ (nU (i:=2) sc_p.nd rfl (Or.inl rfl) (lC T.z_len (pq 0)))
   (nJ (lJ yD rfl (lG rfl T.z_range (nH (nS Z hr.mo T.F_1 (nH (pq 1) (nH nK nI))) nI)) (mP (i:=3) sc_p.nd rfl (Or.inl rfl))
   (nJ (nU (i:=4) sc_p.nd rfl (Or.inr rfl) (nS Z hr.mo T.F_1 (nH (pq 1) (nH (pq 2) nI))))
   (nJ (nU (i:=5) sc_p.nd rfl (Or.inr rfl) (nR jT (nR lH (nR lH (pq 4) nK) (nS Z hr.mo T.F_1 (nH (pq 1) (nH (nR iK (pq 2) nK) nI)))) (pq 2)))
   (nJ (nU (i:=6) sc_p.nd rfl (Or.inr rfl) (nR iK (nS Z hr.mo T.F_1 (nH (pq 1) (nH nK nI))) nK))
   (nJ (mF (mB kK (nS Z hr.mo T.F_1 (nH (pq 1) (nH nK nI))) nK (mD _))
   (nM (nU (i:=6) sc_p.nd rfl (Or.inr rfl) (nR iK (nS Z hr.mo T.F_1 (nH (pq 1) (nH (nR lH (nR mZ nK (nR Bs nK nK)) nK) nI))) (nR Bs nK nK))))
   mE)
   (nJ (jS (lE (sc:=nP Av) (N:=N_p) (fr:=[("_law_rows_here",0),("_law_i",4),("_law_j",5),("_law_by",6)]) (te:=(tOp (rI0 λi j=>.int (i+j)) (tOp (rIxB K) (tOp (rIxB K) (tVar 1) (tVar 2)) (tVar 0)) (tOp (rI (λi j=>IntMulOk i j) λi j=>.int (i*j)) (tVar 4) (tOp (rIxB K) (tOp (rIxB K) (tVar 1) (tVar 3)) (tVar 0))))) rfl rfl (nofun) rfl (nofun) (lG rfl T.z_range (nH (pq 2) nI)) (λ_ _ _ k2=>(nR lH (mG ix_B (mG ix_B (pv 1) (pv 2) (λ_ _=>rfl)) (pv 0) (λ_ _=>rfl)) (nR mZ (pv 4) (mG ix_B (mG ix_B (pv 1) (pv 3) (λ_ _=>rfl)) (pv 0) (λ_ _=>rfl)))))) (iE (pq 0) (pq 4) cE))
   (nM (lJ yD rfl (mT (pq 0)) (mP (i:=7) sc_p.nd rfl (Or.inl rfl))
   (nM (jS (nR iK (mG ix_B (pq 7) (pq 5) (λ_ _=>rfl)) (nR mZ (pq 6) (mG ix_B (pq 7) (pq 4) (λ_ _=>rfl)))) (iE (pq 7) (pq 5) cE)))))))))))
   (nM (nV (pq 0))))),?_⟩
  show tSeq _ _ _ [some (.ref a),some (.ref m),none,none,none,none,none,none] H;have c4:=e8.1;right;refine fM (b1:=false) (b2:=false) d0.m.l.b ?_
  try ext
  rw[c4.1];subst e1;refine st λN1 e1=>lN λB eB=>?_;simp only[mY];ext;refine⟨m,4,b,O,rfl,e3,f3,⋯,∅,∅,λj7 f0 i0=>?_⟩;obtain⟨i6,g6⟩:=mM (many:=4) f3 ∅;have h0:=d0.tk J f0;have d9:stL d b=stB d (tkV b 4).toNat (tkB b 4):=rfl;rw[d9]at d6;clear d9 d0 e3 f0;generalize tkB b 4=v at*
  generalize tkV b 4=c at*
  try ext
  refine⟨⋯,⋯,?_⟩;have ne:∀{q},D q=none->q≠m:=λ{q}z y=>by rw[y,J]at z;cases z
  refine gD (g:=nX 3) (tb:=B) (λn L C=>∃v3 a9 b0 b6 F,L=[some (.ref a),some (.ref m),some (.int (d)),v3,a9,b0,b6,F]/\Rk m D C a (cjM (d) (chP (d) (stB (d) n v)) (chQ (d) (stB (d) n v)) R)/\C m=some (bxO (bxS d n v))) ⟨none,none,none,none,none,rfl,by rw[show stB (d) 0 v=[] from rfl,(Xq a0 c4 (v:=List.replicate (d) 0) (by simp)).1];exact h0,i0⟩ ?_ ?_
  ·rintro n L C j5 ⟨v3,a9,b0,b6,F,rfl,g,M⟩;obtain⟨ok,k3,b3⟩:=Fz a0 g6 n;have es:stB (d) (n+1) v=sxS (d) (bxS d n v):: stB (d) n v:=rfl;have a1:bxS d (n+1) v=nxB d (bxS d n v):=rfl;rw[es,a1];generalize bxS d n v=x at*
   obtain⟨g0,h7,f1,g8⟩:=Lr a0 b3;have j2:n<=3:=⋯
   have S:=dO (iD a0 ok) R;have a7:mV 145 (cjM (d) (chP (d) (stB (d) n v)) (chQ (d) (stB (d) n v)) R):=λr hr z a3=>wX (Eg (F:=⟨d,stB d n v,1⟩) ⟨a0,ok,by show(stB _ n v).length<=3;omega,by show(0:Int)<1;decide,by show(1:Int)<2^100;decide⟩ e8.2 r hr z a3) ∅;have nx:=Xr a0 ok f1 c4;rw[←nx];generalize cjM (d) (chP (d) (stB (d) n v)) (chQ (d) (stB (d) n v)) R=f at*
   subst eB;show tSeq _ _ _ [some (.ref a),some (.ref m),some (.int d),some (.int (0+(n:Int))),a9,b0,b6,F] C;obtain⟨hi,j9,i9,j8⟩:=f1;have e0:tkV x d=((sxS d x).i:Int):=by
    show _=(((sxI d x).toNat:Nat):Int);have:sxI d x=tkV x d:=rfl;omega
   have d1:(tkV x d+1+tkV (tkB x d) ((d:Int)-1)).fmod d=((sxS d x).j:Int):=by
    show _=(((sxJ d x).toNat:Nat):Int);have:sxJ d x=(tkV x d+1+tkV (tkB x d) ((d:Int)-1)).fmod d:=rfl;omega
   have b8:(sxS d x).m=if tkV (tkB (b3B d x) 5) 4=1 then tkV (b5B d x) 2000001-1000000 else tkV (b3B d x) 5-2:=rfl
   have a8:b3B d x=tkB (tkB x d) ((d:Int)-1):=rfl;have i4:b5B d x=tkB (tkB (b3B d x) 5) 4:=rfl;have b4:nxB d x=if tkV (tkB (b3B d x) 5) 4=1 then tkB (b5B d x) 2000001 else b5B d x:=rfl
   clear g0 h7 g8;generalize nxB d x=c1 at*
   generalize b5B d x=i2 at*;generalize b3B d x=i3 at*
   generalize (sxS d x).i=i at*;generalize (sxS d x).j=j at*
   generalize (sxS d x).m=l at*;refine st λa5 G=>?_;ext;refine⟨m,d,x,O+1+5*n,rfl,M,b3,⋯,⋯,⋯,λX e4 d5=>?_⟩;obtain⟨_,c6⟩:=mM (many:=(d:Int)) b3 ⋯;replace g:=g.tk J e4;rw[e0]at d1 ⊢;clear M e4 b3 e0;generalize tkB x d=g5 at*
   subst G;refine st λa5 G=>?_;ext;refine⟨m,(d:Int)-1,g5,O+1+5*n+1,rfl,d5,c6,⋯,⋯,⋯,λe6 d8 U=>?_⟩;obtain⟨_,b5⟩:=mM (many:=(d:Int)-1) c6 ⋯;replace g:=g.tk J d8
   try ext
   refine⟨⋯,?_⟩;rw[d1];rw[←a8]at U b5;clear d5 d8 c6 d1 a8;subst G;refine st λa5 G=>?_;ext;refine⟨m,5,i3,O+1+5*n+2,rfl,U,b5,⋯,∅,∅,λN e9 a4=>?_⟩;obtain⟨_,d3⟩:=mM (many:=5) b5 ∅;replace g:=g.tk J e9
   try ext
   clear U e9 b5;subst G;refine st λa5 G=>?_;have d7:∀C,Rk m D C a f->C m=some (bxO c1)->a5 [some (.ref a),some (.ref m),some (.int d),some (.int (0+(n:Int))),some (.int i),some (.int j),some (.int l),F] C:=λC g M=>by
    subst G;refine st λa5 G=>?_;simp only[tAsg,gSub,eI];refine mK λB eB=>?_;simp only[mY];ext;refine⟨⋯,⋯,λc8 c7=>?_⟩;rw[zS];have d2:f[i]?=some (f.getD i []):=by have:=S.1;simp[show i<f.length by omega]
    have b9:f[j]?=some (f.getD j []):=by have:=S.1;simp[show j<f.length by omega]
    have i7:=S.2 _ (zqb d2);have i8:=S.2 _ (zqb b9);have c0:l.natAbs<2^20:=by
     have:(2:Nat)^20=1048576:=∅
     omega
    refine jG (λu y _=>u<d/\y=.int ((f.getD i []).getD u 0+l*(f.getD j []).getD u 0)) c7 ⋯ (λ_ _ _ _ r _=>r) ?_ ?_
    ·intro u X zs I Y k1 h4 h6;subst eB;show tOp _ _ _ [some (.int (0+(u:Int))),some (.ref a),some (.int i),some (.int j),some (.int l)] X h4;ext;refine gE (b1:=false) (b2:=false) (g.up Y).m.l.b d2 (L2.getD_at (k:=u) ⋯) rfl ⋯ ?_;refine gE (b1:=false) (b2:=false) (g.up Y).m.l.b b9 (L2.getD_at (k:=u) ⋯) rfl ⋯ ?_;ext;exact⟨xG (mW c0) (mW (a7 _ (zqb b9) _ (L2.getD_mem ⋯))) ∅,h6 _ _ (Same.refl _) ⟨I,rfl⟩⟩
    ·intro X ys Y a8 h5 h8;have b7:ys=(mixR d (f.getD i []) (f.getD j []) l).map V.int:=by
      refine kE (by simpa [mixR]using h5) λu y e=>?_;obtain⟨I,rfl⟩:=h8 u y e;exact⟨_,by unfold mixR;rw[zH,xC I];rfl,rfl⟩
     subst b7;obtain⟨zs,h3,g4,h2⟩:=MatD.put (i:=i) g.m Y c7 (fC g.k M c7) a8
     try ext
     refine⟨_,h3,i,Ea (by rw[g4,S.1];omega),?_⟩;have c3:Rk m D (upd X a (.lst (zs.set i (.ref c8)))) a (f.set i (mixR d (f.getD i []) (f.getD j []) l)):=⟨KX.over (g.k.trans (KX.same Y)) g.n,g.n,h2⟩;have U:(upd X a (.lst (zs.set i (.ref c8)))) m=some (bxO c1):=by rw[nO (zT (ne g.n))];exact Y _ _ M
     generalize upd X a (.lst (zs.set i (.ref c8)))=e6 at c3 U;have g3:(mixR d (f.getD i []) (f.getD j []) l).length=d:=by simp[mixR]
     have a2:=Lu (i:=i) S g3;have f5:mV 170 (f.set i (mixR d (f.getD i []) (f.getD j []) l)):=λr hr z a3=>by
      rcases uB hr with h|h
      ·exact zP (a7 r h z a3) (yS ∅ ∅)
      ·rw[h]at a3;obtain⟨u,I,rfl⟩:=nD.mp a3;have I:=oY.mp I;have b1:=a7 _ (zqb d2) _ (L2.getD_mem (k:=u) ⋯);have b2:=a7 _ (zqb b9) _ (L2.getD_mem (k:=u) ⋯);have j0:(l*(f.getD j []).getD u 0).natAbs<2^20*2^145:=by rw[xK];exact pH c0 b2
       have j6:=vX ((f.getD i []).getD u 0) (l*(f.getD j []).getD u 0);have k0:(2:Nat)^140+2^20*2^145<=2^170:=∅
       omega
     have g9:Ah d i j l f=(f.set i (mixR d (f.getD i []) (f.getD j []) l)).map (colR d i j l):=rfl;generalize f.set i (mixR d (f.getD i []) (f.getD j []) l)=a6 at*
     obtain⟨zs,f2,g7⟩:∃zs,e6 a=some (.lst zs)/\zs.length=d:=by
      obtain⟨ps,h,hl,_⟩:=c3.m;exact⟨_,h,by rw[zqe,hl,a2.1]⟩
     subst G;refine lN λB eB=>?_;simp only[iSeq];ext;refine⟨false,⟨_,SqB.lst f2⟩,?_⟩;refine jP (g:=nX 7) (tb:=B) (λu L N=>∃F,L=[some (.ref a),some (.ref m),some (.int d),some (.int (0+(n:Int))),some (.int i),some (.int j),some (.int l),F]/\Rk m D N a (colU d i j l a6 u)/\N a=some (.lst zs)/\N m=some (bxO c1)) ⟨_,rfl,by unfold colU;rw[oE];exact c3,f2,U⟩ (λ_ _ _ _⟨_,_,_,h,_⟩=>SqB.lst h) ?_ ?_
     ·rintro u y L N b7 ⟨F,rfl,W,a1,a4⟩;have I:u<d:=by have:=(zqa b7).1;omega
      obtain⟨rt,c5⟩:∃rt,a6[u]?=some rt:=⟨_,zqd (by rw[a2.1];exact I)⟩;obtain⟨h9,f7⟩:=Ym (d:=d) (i:=i) (j:=j) (m:=l) c5;have g2:=a2.2 _ (zqb c5);obtain⟨j4,p,e2,e5,j3,f8,d4,c2,f9⟩:=W.m.row h9;rw[a1]at e2;cases e2;rw[b7]at e5;cases e5;subst eB;show tAsg _ _ _ [some (.ref a),some (.ref m),some (.int d),some (.int (0+(n:Int))),some (.int i),some (.int j),some (.int l),some (.ref p)] N;simp only[tAsg,gSub,eI];ext;refine⟨false,p,_,_,_,rfl,rfl,SqB.lst c2,jH (gR (getD_at (k:=j) ⋯)) rfl,false,p,_,_,_,rfl,rfl,SqB.lst c2,jH (gR (getD_at (k:=i) ⋯)) rfl,?_⟩;ext;refine⟨xG (mW c0) (mW (f5 rt (zqb c5) _ (L2.getD_mem ⋯))) ∅,?_⟩;refine⟨_,c2,j,Ea (by rw[zqe];omega),?_⟩;have f4:=f9 (colR d i j l rt);rw[f7]at f4;have e:(rt.map V.int).set j (.int (rt.getD j 0-l*rt.getD i 0))=(colR d i j l rt).map V.int:=by rw[←Yn g2 ⋯,List.map_set]
      rw[e];refine⟨⟨KX.over W.k d4,W.n,f4⟩,?_,?_⟩
      ·rw[nO (zT f8)];exact a1
      ·rw[nO (zT (ne d4))];exact a4
     ·rintro L N ⟨F,rfl,W,a1,a4⟩;rw[g7]at W;have e:colU d i j l a6 d=a6.map (colR d i j l):=by
       unfold colU;rw[yJ (by rw[a2.1];exact zE _),List.drop_of_length_le (by rw[a2.1];exact zE _),wO]
      rw[g9,←e];exact⟨_,_,_,_,_,rfl,W,a4⟩
   ext;refine⟨m,4,_,O+1+5*n+3,rfl,a4,d3,⋯,∅,∅,λi5 i1 c9=>?_⟩;obtain⟨_,e7⟩:=mM (many:=4) d3 ∅;replace g:=g.tk J i1;rw[←i4]at c9 e7
   try ext
   refine ite2 (λz=>?_) (λz=>?_)
   ·rw[zF (xT z)]at b8 b4;refine⟨⟨∅,∅,∅⟩,tM ∅,?_⟩;refine⟨m,2000001,i2,O+1+5*n+4,rfl,c9,e7,⋯,∅,∅,λf6 g1 h1=>?_⟩;replace g:=g.tk J g1
    try ext
    refine⟨⟨∅,∅,∅⟩,?_⟩;have k:=d7 f6 g (by rw[h1,b4]);rw[b8]at k;exact k
   ·rw[zD (by simpa using z)]at b8 b4;have k:=d7 i5 g (by rw[c9,b4]);rw[b8]at k;exact k
  ·rintro L C ⟨v3,a9,b0,b6,F,rfl,g,M⟩;symm;exact d6 C _ g M
theorem ok_g(T:Txt K mg t):FnOk P w K mg base CX0 1 t.a_g t.d_g po' sp_g:=by
 apply T.F_g.ok sc_g
 ·obtain⟨a,b,rfl,k⟩:=h;refine⟨_,(nJ (nU (i:=0) sc_g.nd rfl (Or.inl rfl) (mS dY rfl T.z_abs (nofun) (nH (pq 0) nI)))
   (nJ (nU (i:=1) sc_g.nd rfl (Or.inl rfl) (mS dY rfl T.z_abs (nofun) (nH (pq 1) nI)))
   (nJ (Bu yD (mB iW (pq 1) nK (mD _))
   (nM (Nv (i:=0) (j:=1) rfl sc_g.nd rfl rfl ∅ rfl rfl (nH (pq 1) (nH (nR jT (pq 0) (pq 1)) nI)) rfl)))
   (nM (nV (pq 0)))))),?_⟩
  show tSeq _ _ _ [some (.int a),some (.int b)] H;ext;refine⟨λm d c=>∃g l,d=[some (.int g),some (.int l)]/\c=H/\0<=g/\0<=l/\Int.gcd g l=Int.gcd a b/\m=l.toNat,
   ⟨_,_,_,rfl,rfl,Ao a,Ao b,Ju a b,rfl⟩,?_⟩
  rintro m d c ⟨g,l,rfl,rfl,i,hl,e,rfl⟩;ext
  by_cases z:0<l
  ·rw[zM z];refine iteT ⟨λf H'=>f=[some (.int l),some (.int (g.fmod l))]/\H'=c,?_,⋯,rfl,rfl⟩;rintro f H' ⟨rfl,rfl⟩;have l1:=sK g z;have l2:=uV g z;exact⟨(g.fmod l).toNat,⋯,_,_,rfl,rfl,hl,l2,by rw[Jv];exact e,rfl⟩
  ·rw[zJ z];refine iteF ?_;rw[Jt e i ⋯];exact k
theorem Lp{u:Int}{ns:LI'}{i:Nat}{x:Int}(e:ns[i]?=some x):gcdI (gl u (ns.take i)) x=gl u (ns.take (i+1)):=by
 unfold gl;rw[yY,e,vW];rfl
theorem Lo{u:Int}{ns:LI'}(a:0<u):gl u ns=cs u ns:=by
 unfold cs;rw[zD ⋯]
theorem Ln{u:Int}{ns:LI'}(b:0<u)(a:jK u)(x:Int):fL x (cs u ns):=by
 have h:=dL ns (show u≠0 by omega);exact⟨h,Js (Jr a ⋯ (iR (gl_u u ns))) h⟩
theorem ok_11(T:Txt K mg t):FnOk P w K mg base CX0 2 t.a_11 t.d_11 pf' (sp_11 K):=by
 have R:=@ok_g P w K mg base t T;apply T.F_11.ok sc_11
 ·obtain⟨b1,b2,C,a,l,M,ns,u,rfl,p,f,b4,b3,D,S,a0⟩:=h;refine⟨_,(nJ (nU (i:=3) sc_11.nd rfl (Or.inr rfl) (pq 2))
   (nJ (lJ yD rfl (mT (pq 1)) (mP (i:=4) sc_11.nd rfl (Or.inl rfl))
   (nM (nU (i:=3) sc_11.nd rfl (Or.inr rfl) (nS R hr.mo T.F_g (nH (pq 3) (nH (pq 4) nI))))))
   (nM (nV (kQ (nH (lK jX rfl T.z_tuple (nofun) (nH (lE (sc:=nP s_11) (N:=N_11) (fr:=[]) (te:=(tCB (eX K) (mH (tVar 0) tNil))) rfl rfl (nofun) rfl (nofun) (mT (pq 0)) (λ_ _ _ U=>(lK jX rfl T.z_tuple (nofun) (nH (pv 0) nI)))) nI)) (nH (lK jX rfl T.z_tuple (nofun) (nH (lE (sc:=nP s_11) (N:=N_11) (fr:=[("_law_by",3)]) (te:=(tOp (rI fL λi j=>.int (i.fdiv j)) (tVar 0) (tVar 1))) rfl rfl (nofun) rfl (nofun) (mT (pq 1)) (λ_ _ _ U=>(nR gQ (pv 0) (pv 1)))) nI)) (nH (nR gQ (pq 2) (pq 3)) nI)))))))),?_⟩
  show tSeq _ _ _ [some (.ref a),some (.ref l),some (.int u),none,none] H;right;subst e1;refine st λN1 e1=>lN λB eB=>?_;simp only[iSeq];ext;refine⟨C,⟨_,f⟩,?_⟩;refine jP (g:=nX 4) (tb:=B) (λi k b=>∃v,k=[some (.ref a),some (.ref l),some (.int u),some (.int (gl u (ns.take i))),v]/\b=H) ⟨none,by rw[oE];show _=[_,_,_,some (V.int (absI u)),_];unfold absI;rw[zD ⋯],rfl⟩ (λ_ _ _ _⟨_,_,e⟩=>e ▸ f) ?_ ?_
  ·rintro i y k b m ⟨v,rfl,rfl⟩;obtain⟨x,a8,rfl⟩:=jY m;subst eB;show tAsg _ _ _ [some (.ref a),some (.ref l),some (.int u),some (.int (gl u (ns.take i))),some (.int x)] b;ext;refine⟨_,_,rfl,?_⟩;rw[Lp a8];exact⟨rfl,rfl⟩
  ·rintro k b ⟨v,rfl,rfl⟩;rw[zqe,yJ (zE _),Lo D];have G:=Ln (ns:=ns) D S;symm;exfalso;obtain⟨xs,N,_⟩:=p.walk;refine⟨b1,⟨_,N⟩,λa3 L=>?_⟩;subst eB;refine Ez p ⋯ L λF zs a2 a1 c=>?_;refine⟨a3,_,rfl,.inl ⟨SqL.of a1,λl1 q=>?_⟩⟩;have d:Same b (upd F l1 (.tup zs)):=a2.trans (Same.new q);replace c:=c l1 q;generalize upd F l1 (.tup zs)=a9 at d c;exfalso;refine⟨C,⟨_,f.up d⟩,λa4 a6=>?_⟩;refine kX (λj y _=>∃n,ns[j]?=some n/\y=.int (n.fdiv (cs u ns))) a6 (f.up d) (by rw[zqe];omega) (λ_ _ _ _ r _=>r) ?_ ?_
   ·intro j y o b0 Z _ _ W a7;obtain⟨n,I,rfl⟩:=jY Z;subst eB;show tOp _ _ _ [some (.int n),some (.int (cs u ns))] o W;ext;exact⟨G n,a7 _ _ (Same.refl _) ⟨n,I,rfl⟩⟩
   ·intro o ys Y O a5 J;have m:ys=(redT u ns).map V.int:=by
     unfold redT;rw[yW];exact kE (by simpa using a5) J
    subst m;refine⟨a4,_,rfl,.inl ⟨SqL.of O,λl2 X=>?_⟩⟩;refine⟨G u,by show 3<=sizeLine;decide,λr g=>?_⟩;have z:=Y.trans (Same.new (o:=.tup ((redT u ns).map V.int)) X);exact a0 r _ ((d.trans z).trans (Same.new g)) ⟨l1,l2,nN,(c.up z).up (Same.new g),Same.new g _ _ nN⟩
theorem ok_l(T:Txt K mg t):FnOk P w K mg base CX0 2 t.a_l t.d_l pf' (sp_l K):=by
 have R:=@ok_g P w K mg base t T;apply T.F_l.ok sc_l
 ·obtain⟨b1,b2,C,a,l,M,ns,u,rfl,p,f,b6,b5,D,U,a2⟩:=h;refine⟨_,(nJ (nU (i:=3) sc_l.nd rfl (Or.inr rfl) (pq 2))
   (nJ (lJ yD rfl (mT (pq 1)) (mP (i:=4) sc_l.nd rfl (Or.inl rfl))
   (nM (nU (i:=3) sc_l.nd rfl (Or.inr rfl) (nS R hr.mo T.F_g (nH (pq 3) (nH (pq 4) nI))))))
   (nJ (nU (i:=2) sc_l.nd rfl (Or.inr rfl) (nR gQ (pq 2) (pq 3)))
   (nM (nV (kQ (nH (lK jX rfl T.z_tuple (nofun) (nH (lE (sc:=nP cU) (N:=N_l) (fr:=[]) (te:=(tCB (eX K) (mH (tVar 0) tNil))) rfl rfl (nofun) rfl (nofun) (mT (pq 0)) (λ_ _ _ W=>(lK jX rfl T.z_tuple (nofun) (nH (pv 0) nI)))) nI)) (nH (lK jX rfl T.z_tuple (nofun) (nH (lE (sc:=nP cU) (N:=N_l) (fr:=[("_law_under",2),("_law_by",3)]) (te:=(tOp (rI (λ_ j=>j≠0) λi j=>.int (i.fmod j)) (tOp (rI fL λi j=>.int (i.fdiv j)) (tVar 0) (tVar 2)) (tVar 1))) rfl rfl (nofun) rfl (nofun) (mT (pq 1)) (λ_ _ _ W=>(nR jT (nR gQ (pv 0) (pv 2)) (pv 1)))) nI)) (nH (pq 2) nI))))))))),?_⟩
  show tSeq _ _ _ [some (.ref a),some (.ref l),some (.int u),none,none] H;right;subst e1;refine st λN1 e1=>lN λB eB=>?_;simp only[iSeq];ext;refine⟨C,⟨_,f⟩,?_⟩;refine jP (g:=nX 4) (tb:=B) (λi k b=>∃v,k=[some (.ref a),some (.ref l),some (.int u),some (.int (gl u (ns.take i))),v]/\b=H) ⟨none,by rw[oE];show _=[_,_,_,some (V.int (absI u)),_];unfold absI;rw[zD ⋯],rfl⟩ (λ_ _ _ _⟨_,_,e⟩=>e ▸ f) ?_ ?_
  ·rintro i y k b m ⟨v,rfl,rfl⟩;obtain⟨x,b0,rfl⟩:=jY m;subst eB;show tAsg _ _ _ [some (.ref a),some (.ref l),some (.int u),some (.int (gl u (ns.take i))),some (.int x)] b;ext;refine⟨_,_,rfl,?_⟩;rw[Lp b0];exact⟨rfl,rfl⟩
  ·rintro k b ⟨v,rfl,rfl⟩;rw[zqe,yJ (zE _),Lo D];have G:=Ln (ns:=ns) D U;have up:0<redU u ns:=Ap ns ⋯;subst e1;refine st λZ S=>?_;ext;refine⟨G u,?_⟩;show Z [some (.ref a),some (.ref l),some (.int (redU u ns)),some (.int (cs u ns)),v] b;subst S;ext;exfalso;obtain⟨xs,N,_⟩:=p.walk;refine⟨b1,⟨_,N⟩,λa5 L=>?_⟩;subst eB;refine Ez p ⋯ L λF zs a4 a3 c=>?_;refine⟨a5,_,rfl,.inl ⟨SqL.of a3,λl1 q=>?_⟩⟩;have d:Same b (upd F l1 (.tup zs)):=a4.trans (Same.new q);replace c:=c l1 q;generalize upd F l1 (.tup zs)=b3 at d c;exfalso;refine⟨C,⟨_,f.up d⟩,λa6 a8=>?_⟩;refine kX (λj y _=>∃n,ns[j]?=some n/\y=.int ((n.fdiv (cs u ns)).fmod (redU u ns))) a8 (f.up d) (by rw[zqe];omega) (λ_ _ _ _ r _=>r) ?_ ?_
   ·intro j y o b4 a1 _ _ X a9;obtain⟨n,I,rfl⟩:=jY a1;subst eB;show tOp _ _ _ [some (.int n),some (.int (redU u ns)),some (.int (cs u ns))] o X;ext;exact⟨G n,⋯,a9 _ _ (Same.refl _) ⟨n,I,rfl⟩⟩
   ·intro o ys a0 O a7 J;have m:ys=(lR (redU u ns) (redT u ns)).map V.int:=by
     unfold lR redT;rw[yW,yW];exact kE (by simpa using a7) J
    subst m;refine⟨a6,_,rfl,.inl ⟨SqL.of O,λl2 Y=>?_⟩⟩;refine⟨by show 3<=sizeLine;decide,λr g=>?_⟩;have z:=a0.trans (Same.new (o:=.tup ((lR (redU u ns) (redT u ns)).map V.int)) Y);exact a2 r _ ((d.trans z).trans (Same.new g)) ⟨l1,l2,nN,(c.up z).up (Same.new g),Same.new g _ _ nN⟩
theorem Yl{N:LM}{ns ts:LI'}{u v:Int}{i:Nat}{r:LI'}{n:Int}(e1:N[i]?=some r)(a:ns[i]?=some n):(movT N ns v ts u)[i]?=some (dotI r ts*v+n*u):=by
 unfold movT;rw[wB,e1,a]
theorem ok_6(T:Txt K mg t):FnOk P w K mg base CX0 4 t.a_6 t.d_6 po' (sp_6 K):=by
 have b3:=@ok_j P w K mg base t T;have c2:=@ok_l P w K mg base t T;apply T.F_6.ok sc_6
 ·obtain⟨p,q,x,y,d,rfl,J,G,b6,b4,D,e0,a2,b9,c8,c3,a0,a5,ty,d4,d6,c5⟩:=h;refine⟨_,(nJ (nU (i:=2) sc_6.nd rfl (Or.inl rfl) (nS b3 hr.mo T.F_j (nH (nY (pq 1)) (nH (nY (pq 0)) nI))))
   (nJ (nU (i:=3) sc_6.nd rfl (Or.inl rfl) (mQ nI))
   (nJ (lJ yD rfl (lG rfl T.z_range (nH (lC T.z_len (pq 2)) nI)) (mP (i:=4) sc_6.nd rfl (Or.inr rfl))
   (nJ (nU (i:=5) sc_6.nd rfl (Or.inl rfl) (mS (bZ rfl) rfl T.z_sum (nofun) (nH (lE (sc:=nP s_6) (N:=N_6) (fr:=[("_law_one",0),("_law_other",1),("_law_i",4)]) (te:=(tOp (rI (λi j=>IntMulOk i j) λi j=>.int (i*j)) (tOp (rIxB K) (tOp (rIxB K) (tOp (rIxB K) (tVar 2) (tC (.int 0))) (tVar 3)) (tVar 0)) (tOp (rIxB K) (tOp (rIxB K) (tVar 1) (tC (.int 1))) (tVar 0)))) rfl rfl (nofun) rfl (nofun) (lG rfl T.z_range (nH (lC T.z_len (pq 2)) nI)) (λ_ _ _ d8=>(nR mZ (mG ix_B (mG ix_B (nY (pv 2)) (pv 3) (λ_ _=>rfl)) (pv 0) (λ_ _=>rfl)) (mG ix_B (nY (pv 1)) (pv 0) (λ_ _=>rfl))))) nI)))
   (nM (gM (eJ wL vD vB eK (pq 3) (nH (nR lH (nR mZ (pq 5) (nY (pq 1))) (nR mZ (mG ix_B (nY (pq 1)) (pq 4) (λ_ _=>rfl)) (nY (pq 0)))) nI))))))
   (nM (nV (nS c2 hr.mo T.F_l (nH (pq 2) (nH (pq 3) (nH (nR mZ (nY (pq 0)) (nY (pq 1))) nI))))))))),?_⟩
  show tSeq _ _ _ [some (.ref p),some (.ref q),none,none,none,none] H;right;refine fA G λr1 a9=>fA J λr2 c4=>?_;refine⟨true,true,true,true,r1,r2,_,_,d,rfl,a9,c4,D,b4,b6,a0,c3,λm C a7=>?_⟩;have a4:=a7.s;have O:=a7.m;have S:Sq d (mulM d y.1 x.1):=D.mul;left;refine⟨zY _,λl hl=>?_⟩;have N:Same C (upd C l (.lst [])):=Same.new hl;have a8:(upd C l (.lst [])) l=some (.lst (([]:LI').map V.int)):=nN;generalize upd C l (.lst [])=d7 at N a8;have Y:x.2.2.natAbs<2^1000:=by
   have:((2^1000:Nat):Int)=2^1000:=nofun
   omega
  have U:y.2.2.natAbs<2^1000:=by
   have:((2^1000:Nat):Int)=2^1000:=nofun
   omega
  subst e1;refine st λN1 e1=>lN λB eB=>?_;simp only[mY];ext;refine fM (b1:=false) (b2:=false) (O.up N).l.b ?_
  try ext
  rw[S.1];refine⟨⋯,⋯,?_⟩;rw[zS];have b2:(movT y.1 y.2.1 y.2.2 x.2.1 x.2.2).length=d:=by unfold movT;rw[xZ,D.1,a2,Nat.min_self]
  refine gD (g:=nX 4) (tb:=B) (λi X I=>∃W L,X=[some (.ref p),some (.ref q),some (.ref m),some (.ref l),W,L]/\Same C I/\I l=some (.lst (((movT y.1 y.2.1 y.2.2 x.2.1 x.2.2).take i).map V.int))) ⟨none,none,rfl,N,a8⟩ ?_ ?_
  ·rintro i X I hi ⟨W,L,rfl,o,u⟩;obtain⟨r,F⟩:∃r,y.1[i]?=some r:=⟨_,zqd (by rw[D.1];exact hi)⟩;obtain⟨n,a1⟩:∃n,y.2.1[i]?=some n:=⟨_,zqd (by rw[a2];exact hi)⟩;have c1:=D.2 _ (zqb F);have b:=a4.trans o;subst eB;show tSeq _ _ _ [some (.ref p),some (.ref q),some (.ref m),some (.ref l),some (.int (0+(i:Int))),L] I;refine st λc0 b7=>?_;ext;refine mK λB eB=>?_;simp only[mY];ext;refine fM (b1:=false) (b2:=false) (O.up o).l.b ?_
   try ext
   rw[S.1];refine⟨⋯,⋯,λd0 d2=>?_⟩;rw[zS];refine jG (len:=d) (λk z _=>∃v,(List.zipWith (·*·) r x.2.1)[k]?=some v/\z=.int v) d2 ⋯ (λ_ _ _ _ r _=>r) ?_ ?_
   ·intro k c zs e3 a d9 b8 d3;obtain⟨g,R⟩:∃g,r[k]?=some g:=⟨_,zqd ⋯⟩;obtain⟨f,Z⟩:∃f,x.2.1[k]?=some f:=⟨_,zqd ⋯⟩;subst eB;show tOp _ _ _ [some (.int (0+(k:Int))),some (.ref p),some (.ref q),some (.int (0+(i:Int)))] c b8;ext;refine fA (G.up (b.trans a)) λd5 c6=>gE c6 F R ⋯ ⋯ ?_;refine cV (J.up (b.trans a)) λa3 b1=>⟨true,a3,_,_,_,rfl,rfl,(b1:SqB true K c a3 _),jH (gR Z) ⋯,?_⟩;ext;refine⟨xG (mW (a0 _ (zqb F) _ (zqb R))) (mW (a5 _ (zqb Z))) ∅,d3 _ _ (Same.refl _) ⟨_,?_,rfl⟩⟩;rw[wB,R,Z]
   ·intro c ys a d1 e2 M;have c7:ys=(List.zipWith (·*·) r x.2.1).map V.int:=by
     refine kE (by simp only[zqe,List.length_zipWith];omega) λk z e=>?_;obtain⟨v,b5,rfl⟩:=M k z e;exact⟨v,b5,rfl⟩
    subst c7;refine⟨d0,rfl,_,SqL.of d1,?_⟩;show c0 [some (.ref p),some (.ref q),some (.ref m),some (.ref l),some (.int (0+(i:Int))),some (.int (dotI r x.2.1))] c;have b0:(dotI r x.2.1).natAbs<2^2502:=by
     have:=An r x.2.1 (a0 r (zqb F)) a5;rw[c1]at this;have e:(2:Nat)^2502=4*2^(1500+1000):=by rw[show 2502=1500+1000+2 by rfl,tV _ (1500+1000) 2,rR]
     have:=pR (1500+1000);omega
    subst b7;ext;refine⟨.inl ⟨rfl,_,SqL.of (a _ _ u)⟩,?_⟩;refine fB (G.up (b.trans a)) ?_;ext;refine⟨xG (mW b0) (mW U) ∅,?_⟩;refine cV (G.up (b.trans a)) λa6 c9=>⟨true,a6,_,_,_,rfl,rfl,(c9:SqB true K c a6 _),jH (gR a1) ⋯,?_⟩;refine fB (J.up (b.trans a)) ?_;ext;refine⟨xG (mW (ty _ (zqb a1))) (mW Y) ∅,?_⟩;refine⟨l,_,_,rfl,rfl,a _ _ u,fK (by rw[zqe,yG];omega),?_⟩;refine⟨Same.over hl (o.trans a),?_⟩;rw[nN,yY,Yl F a1,yX];rfl
  ·rintro X I ⟨W,L,rfl,o,u⟩;rw[yJ ⋯]at u;subst e1;have b:=a4.trans o;ext;refine fB (J.up b) (fB (G.up b) ?_);ext;refine⟨xG (mW Y) (mW U) ∅,?_⟩;refine⟨false,false,false,m,l,_,_,_,rfl,(O.up o).l.b,SqB.lst u,by rw[S.1];omega,by rw[b2];omega,wR b9 c8,?_,λr c a M=>?_⟩
   ·show(x.2.2*y.2.2).natAbs<2^8990;rw[xK];refine zP (pH Y U) ?_;rw[←tV];exact yS ∅ ∅
   ·refine c5 r c (b.trans a) ?_;rw[vE]at M;exact M
theorem Yk{lo:Int}{len:Nat}{H:Hp}{a:Addr}{fr:List (Str×Nat)}{g:St}{te:TE}{Q:VK}(P:Nat->List V->Hp->Prop)(D:len<=1000)(u:P 0 [] (upd H a (.lst [])))(hl:∀i zs b,P i zs b->zs.length<=i)
  (C:∀(i:Nat) b zs,i<len->P i zs b->∀f:VK,(∀y c,c a=some (.lst zs)->P (i+1) (zs++[y]) (upd c a (.lst (zs++[y])))->f y c)->te (some (.int (lo+i)):: lV fr g) b f)
  (k:∀b ys,P len ys b->Q (.ref a) b):kL (Itr lo len) (nX 0) (tEl te) 1 fr g a H Q:=by
 refine⟨λi m b=>m=len-i/\i<=len/\∃zs,P i zs b,⟨len,by simp,Nat.zero_le _,[],u⟩,?_⟩;rintro i m b ⟨rfl,hi,zs,p⟩
 by_cases d:i<len
 ·refine .inr ⟨d,λH'=>i+1<=len/\∃zs,P (i+1) zs H',λH' q=>⟨len-(i+1),⋯,rfl,q⟩,λys x j r n=>?_⟩;obtain⟨e1,z⟩:=n;subst e1 z
  match ys,r with
  |[o],_=>exact⟨⟨[_],rfl,rfl⟩,C i j zs d p _ λy c v l=>⟨zs,v,fK (by have:=hl i zs j p;omega),d,_,l⟩⟩
 ·have e:i=len:=⋯
  subst e;exact .inl ⟨zE _,k b zs p⟩
theorem fX{d:Addr}{H c a:Hp}(s:Same H c)(n:H d=none)(k:KX d c a):Same H a:=λb o e=>k b o (λz=>by rw[z,n]at e;cases e) (s b o e)
theorem Rk.kx{a r:Addr}{H e d:Hp}{R:LM}{o:HO}(h:Rk a H e r R)(f:H a=some o)(k:KX a e d):Rk a H d r R:=by
 have ne:∀{c},H c=none->c≠a:=λ{c}z q=>by rw[q,f]at z;cases z
 refine⟨h.k.trans k,h.n,?_⟩;obtain⟨ps,m,l,n,g⟩:=h.m;refine⟨ps,k _ _ (ne h.n) m,l,n,λi p r e1 u=>?_⟩;obtain⟨v,b,j⟩:=g i p r e1 u;exact⟨v,b,k _ _ (ne b) j⟩
theorem Yj{u d a:Addr}{g k f:Hp}{R:LM}{o J U:HO}(h:Rk u g k a R)(N:g u=some o)(T:k u=some J)(s:Same k f)(W:k d=none)(V:f d=some U):∃D:Hp,Rk d D f a R/\D d=some U/\∀y M,Rk d D y a M->Rk u g y a M/\y u=some J:=by
 have L:∀{c o},k c=some o->c≠d:=λ{c o}e z=>by rw[z,W]at e;cases e
 have up:∀{c o},g c=some o->∃m,k c=some m:=λ{c o}e=>by
  by_cases z:c=u
  ·exact⟨J,by rw[z];exact T⟩
  ·exact⟨o,h.k _ _ z e⟩
 refine⟨λc=>match g c with|none=>if c=d then f d else none|some _=>f c,⟨?_,?_,?_⟩,?_,?_⟩
 ·intro b x _ e;replace e:(match g b with|none=>if b=d then f d else none|some _=>f b)=_:=e;split at e
  ·split at e
   ·rename_i q;rw[q];exact e
   ·cases e
  ·exact e
 ·show(match g a with|none=>if a=d then f d else none|some _=>f a)=none;rw[h.n];obtain⟨ps,v,_⟩:=h.m;exact zD (L v)
 ·obtain⟨ps,v,G,n,I⟩:=h.m;refine⟨ps,s _ _ v,G,n,λi p r e1 l=>?_⟩;obtain⟨F,j,C⟩:=I i p r e1 l;refine⟨F,?_,s _ _ C⟩;show(match g p with|none=>if p=d then f d else none|some _=>f p)=none;rw[j];exact zD (L C)
 ·show(match g d with|none=>if d=d then f d else none|some _=>f d)=_;split
  ·exact(zF rfl).trans V
  ·exact V
 ·intro y M O;have S:∀{c o m},g c=some o->k c=some m->y c=some m:=λ{c o m}e l=>by
   refine O.k _ _ (L l) ?_;show(match g c with|none=>if c=d then f d else none|some _=>f c)=_;rw[e];exact s _ _ l
  refine⟨⟨λb x N e=>S e (h.k _ _ N e),h.n,?_⟩,S N T⟩;obtain⟨ps,v,G,n,I⟩:=O.m;refine⟨ps,v,G,n,λi p r e1 l=>?_⟩;obtain⟨F,j,C⟩:=I i p r e1 l;refine⟨F,?_,C⟩;replace j:(match g p with|none=>if p=d then f d else none|some _=>f p)=none:=j;cases q:g p with
  |none=>rfl
  |some o =>
   obtain⟨m,X⟩:=up q;rw[q]at j;replace j:f p=none:=j;rw[s _ _ X]at j;cases j
def sp_10(K:Frag):Sp:=λvs H Q _=>E3 λ(p:Addr)(ns:LI')(d:Nat)=>A4 (vs=[.ref p,.int d]) (SqL K H p (ns.map V.int)) ((d=2\/d=3)) (∀q l(S:LI') su H',Same H H'->H' q=some (.tup [.ref l,.int su])->H' l=some (.lst (S.map V.int))->S.length=d->(∀z∈S,0<=z/\z<1000)->0<su->su<=1000->Q (.ref q) H')
def sp_k(K:Frag):Sp:=λvs H Q _=>E9 λ(p q l:Addr)(ns S:LI')(at':Nat)(d:Nat)(su so:Int)=>A12 (vs=[.ref p,.int at',.int d,.ref q,.int so]) (SqL K H p (ns.map V.int)) (at'<=10) ((d=2\/d=3)) (H q=some (.tup [.ref l,.int su])) (H l=some (.lst (S.map V.int))) (S.length=d) ((∀z∈S,0<=z/\z<1000)) (0<su) (su<=1000) (0<=so) (∀r H' x,Same H H'->DdAt K H' r x->Mkr d (stL d (bxF ns 2)) su x->Q (.ref r) H')
def sp_h(K:Frag):Sp:=λvs H Q _=>E2 λ(p:Addr)(ns:LI')=>A3 (vs=[.ref p]) (SqL K H p (ns.map V.int)) (∀r l qs ms d L su H',Same H H'->H' r=some (.lst [.int (d:Nat),.ref l])->H' l=some (.lst (qs.map V.ref))->Paired (DdAt K H') qs ms->(d=2\/d=3)->(∀s∈L,Stp.Ok d s)->L.length<=3->0<su->su<=1000->ms.length<=3->(∀m∈ms,Mkr d L su m)->Q (.ref r) H')
theorem Ac{K:Frag}{H H':Hp}{p:Addr}{xs:List V}(h:SqL K H p xs)(s:Same H H'):SqL K H' p xs:=SqB.up (b:=false) h s
theorem Lm{P:Int->Prop}:∀{ys:List V}{H:Hp},(∀(j:Nat) y,ys[j]?=some y->∃v:Int,y=.int v/\P v)->∃a:LI',ys=a.map V.int/\∀z∈a,P z
 |[],_,_=>⟨[],rfl,λ_ h=>(by cases h)⟩
 |y:: ys,H,h=>by
  obtain⟨v,rfl,p⟩:=h 0 y rfl;obtain⟨a,rfl,k⟩:=Lm (P:=P) (ys:=ys) (H:=H) λj y e=>h (j+1) y (by simpa using e);exact⟨v:: a,rfl,λz b=>by rcases xM.mp b with rfl|b;exact p;exact k z b⟩
theorem Ll{a:Addr}{H:Hp}{F:Dd->Prop}:∀{ys:List V},(∀(j:Nat) y,ys[j]?=some y->∃q m,y=.ref q/\DdAt K (offH a H) q m/\F m)->∃(b:LA)(ms:List Dd),ys=b.map V.ref/\Paired (DdAt K H) b ms/\∀m∈ms,F m
 |[],_=>⟨[],[],rfl,.nil,λ_ h=>(by cases h)⟩
 |y:: ys,h=>by
  obtain⟨q,m,rfl,k,f⟩:=h 0 y rfl;obtain⟨b,ms,rfl,d,g⟩:=Ll (ys:=ys) λj y e=>h (j+1) y (by simpa using e);exact⟨q:: b,m:: ms,rfl,.cons (k.up Ew) d,λz c=>by rcases xM.mp c with rfl|c;exact f;exact g z c⟩
theorem ok_10(T:Txt K mg t):FnOk P w K mg base CX0 2 t.a_10 t.d_10 pq' (sp_10 K):=by
 have a8:=@ok_w P w K mg base t T;have F:=@ok_1 P w K mg base t T;apply T.F_10.ok sc_10
 ·obtain⟨p,ns,d,rfl,b3,c4,b7⟩:=h;refine⟨_,(nJ (nU (i:=2) sc_10.nd rfl (Or.inr rfl) (nS a8 hr.mo T.F_w (nH (pq 0) (nH nK nI))))
   (nJ (nU (i:=3) sc_10.nd rfl (Or.inr rfl) (nR lH nK (nS F hr.mo T.F_1 (nH (pq 2) (nH nK nI)))))
   (nJ (mF (mB kK (nS F hr.mo T.F_1 (nH (pq 2) (nH nK nI))) nK (mD _))
   (nM (nU (i:=3) sc_10.nd rfl (Or.inr rfl) (nR lH nK (nS F hr.mo T.F_1 (nH (pq 2) (nH nK nI))))))
   mE)
   (nM (nV (kQ (nH (lE (sc:=nP s_10) (N:=N_10) (fr:=[("_law_box_here",2),("_law_under",3)]) (te:=(kJ (sp_1) [] E0 (mH (tVar 1) (mH (tVar 2) tNil)))) rfl rfl (nofun) rfl (nofun) (lG rfl T.z_range (nH (pq 1) nI)) (λ_ _ _ c5=>(nS F hr.mo T.F_1 (nH (pv 1) (nH (pv 2) nI))))) (nH (pq 3) nI)))))))),?_⟩
  show tSeq _ _ _ [some (.ref p),some (.int d),none,none] H;right;refine⟨p,ns,3,rfl,b3,∅,λa I a2 Y a6=>?_⟩;have N:BxOk 300 (bxF ns 3):=fW (k:=3);generalize bxF ns 3=b1 at*
  left;refine⟨a,12,b1,300,rfl,a6,N,∅,∅,∅,λa1 b9 b5=>?_⟩;obtain⟨c1,U⟩:=mM (many:=12) N ∅;have k2:KX a I a1:=λb x g e=>by rw[b9 b g];exact e
  generalize tkB b1 12=b2 at*;generalize tkV b1 12=c6 at*
  try ext
  subst e1;refine st λN1 e1=>?_;have S:∀(u:Int)(b:Box) f,0<u->u<=1000->KX a I f->f a=some (bxO b)->BxOk 310 b->N1 [some (.ref p),some (.int d),some (.ref a),some (.int u)] f:=by
   intro u b f a7 a4 k3 m n;symm;refine mK λB eB=>?_;simp only[mY];ext;refine⟨⋯,⋯,λl hl=>?_⟩;rw[zS];have G:l≠a:=λz=>by rw[z,m]at hl;cases hl
   refine Yk (len:=d) (λi zs c=>KX a f c/\c l=some (.lst zs)/\(∃k,c a=some (bxO k)/\BxOk (310+i) k)/\zs.length=i/\∀(j:Nat) y,zs[j]?=some y->∃v:Int,y=.int v/\0<=v/\v<u) ⋯ ⟨KX.same (Same.new hl),nN,⟨b,by rw[nO (zT G)];exact m,n⟩,rfl,λj y e=>by simp at e⟩ (λi zs c p=>sN p.2.2.2.1) ?_ ?_
   ·rintro i c zs hi ⟨J,M,⟨k,D,C⟩,o,L⟩ b0 c0;subst eB;show kJ _ _ _ _ [some (.int (0+(i:Int))),some (.ref a),some (.int u)] c b0;ext;refine⟨a,u,k,310+i,rfl,D,C,⋯,⋯,⋯,λc2 O a0=>?_⟩;obtain⟨b4,X⟩:=mM (many:=u) C ⋯;refine c0 _ _ (by rw[O _ G];exact M) ⟨?_,nN,⟨_,by rw[nO (zT G)];exact a0,X.le ⋯⟩,by simp[o],λj y e=>?_⟩
    ·exact KX.over (λb x g e=>by rw[O b g];exact J b x g e) hl
    ·rcases uL j zs.length with h|h
     ·rw[yB h]at e;exact L j y e
     ·rw[zX h]at e;have:j-zs.length=0:=by
       have:=(zqa e).1;simp at this;omega
      rw[this]at e;cases e;exact⟨_,rfl,b4⟩
   ·rintro c ys ⟨J,M,⟨k,D,C⟩,o,L⟩;obtain⟨r,a3,W⟩:∃r:LI',ys=r.map V.int/\∀z∈r,0<=z/\z<u:=Lm (H:=H) L;subst a3;have b6:r.length=d:=by simpa using o
    refine⟨by show 2<=sizeLine;decide,λq a9=>?_⟩;have R:=Same.new (o:=.tup [V.ref l,.int u]) a9;refine b7 q l r u _ ((fX a2 Y (k3.trans J)).trans R) nN (R _ _ M) b6 (λz o=>?_) a7 a4;have:=W z o;omega
  ext;refine⟨a,4,b2,301,rfl,b5,U,∅,∅,∅,λf Z m=>?_⟩;obtain⟨_,n⟩:=mM (many:=4) U ∅;have k3:KX a I f:=k2.trans λb x g e=>by rw[Z b g];exact e
  generalize tkB b2 4=a5 at*;generalize tkV b2 4=v2 at*
  try ext
  refine ite2 (λ_=>?_) (λ_=>?_)
  ·refine⟨a,1000,a5,302,rfl,m,n,∅,∅,∅,λc b8 D=>?_⟩;obtain⟨c3,C⟩:=mM (many:=1000) n ∅
   try ext
   exact S _ _ c ⋯ ⋯ (k3.trans λb x g e=>by rw[b8 b g];exact e) D (C.le ∅)
  ·exact S _ _ f ⋯ ⋯ k3 m (n.le ∅)
theorem ok_k(T:Txt K mg t):FnOk P w K mg base CX0 5 t.a_k t.d_k pb' (sp_k K):=by
 have g2:=@ok_w P w K mg base t T;have c2:=@ok_1 P w K mg base t T;have j1:=@ok_13 P w K mg base t T;have h8:=@ok_p P w K mg base t T;have j4:=@ok_11 P w K mg base t T;apply T.F_k.ok sc_k
 ·obtain⟨p,q,l,ns,O,x,d,U,a8,rfl,g4,l5,a9,a5,g5,j7,c5,h0,g9,h3,h5⟩:=h;refine⟨_,(nJ (nU (i:=5) sc_k.nd rfl (Or.inl rfl) (nS g2 hr.mo T.F_w (nH (pq 0) (nH (pq 1) nI))))
   (nJ (nU (i:=6) sc_k.nd rfl (Or.inr rfl) (nS h8 hr.mo T.F_p (nH (nS j1 hr.mo T.F_13 (nH (pq 4) (nH (pq 5) (nH (pq 2) nI)))) (nH (nS g2 hr.mo T.F_w (nH (pq 0) (nH nK nI))) nI))))
   (nJ (nU (i:=7) sc_k.nd rfl (Or.inl rfl) (mG ix_B (mQ (nH nK (nH nK (nH nK (nH nK (nH nK (nH nK nI))))))) (nS c2 hr.mo T.F_1 (nH (pq 5) (nH nK nI))) (λ_ _=>rfl)))
   (nJ (mF (PW.pt (lU (mB kK (pq 4) nK (mD _)) (kN (mB kK (nS c2 hr.mo T.F_1 (nH (pq 5) (nH nK nI))) nK (mD _)))))
   (nM (nU (i:=7) sc_k.nd rfl (Or.inl rfl) (nR lH nK (nS c2 hr.mo T.F_1 (nH (pq 5) (nH nK nI))))))
   mE)
   (nJ (nU (i:=8) sc_k.nd rfl (Or.inl rfl) (mQ nI))
   (nJ (lJ yD rfl (lG rfl T.z_range (nH (pq 2) nI)) (mP (i:=9) sc_k.nd rfl (Or.inr rfl))
   (nJ (nU (i:=10) sc_k.nd rfl (Or.inl rfl) (nR iK (mG ix_B (nY (pq 3)) (pq 9) (λ_ _=>rfl)) (mS (bZ rfl) rfl T.z_sum (nofun) (nH (lE (sc:=nP Au) (N:=N_k) (fr:=[("_law_spot_here",3),("_law_rows_here",6),("_law_i",9)]) (te:=(tOp (rI (λi j=>IntMulOk i j) λi j=>.int (i*j)) (tOp (rIxB K) (tOp (rIxB K) (tVar 2) (tVar 3)) (tVar 0)) (tOp (rIxB K) (tOp (rIxB K) (tVar 1) (tC (.int 0))) (tVar 0)))) rfl rfl (nofun) rfl (nofun) (lG rfl T.z_range (nH (pq 2) nI)) (λ_ _ _ l6=>(nR mZ (mG ix_B (mG ix_B (pv 2) (pv 3) (λ_ _=>rfl)) (pv 0) (λ_ _=>rfl)) (mG ix_B (nY (pv 1)) (pv 0) (λ_ _=>rfl))))) nI))))
   (nM (gM (eJ wL vD vB eK (pq 8) (nH (nR lH (nR mZ (nS c2 hr.mo T.F_1 (nH (pq 5) (nH (pq 7) nI))) (nY (pq 3))) (nR mZ (pq 10) (pq 7))) nI))))))
   (nM (nV (nS j4 hr.mo T.F_11 (nH (pq 6) (nH (pq 8) (nH (nR mZ (pq 7) (nY (pq 3))) nI)))))))))))),?_⟩
  show tSeq _ _ _ [some (.ref p),some (.int x),some (.int d),some (.ref q),some (.int a8),none,none,none,none,none,none] H;have f1:BxOk (100*x) (bxF ns x):=fW;obtain⟨g1,h6⟩:=Lq a9 (fW (ns:=ns) (k:=2));right;refine⟨p,ns,x,rfl,g4,⋯,λm i1 a4 c6 W=>?_⟩;generalize bxF ns x=b1 at*
  have b5:∀{c o},H c=some o->c≠m:=λ{c o}e z=>by rw[z,c6]at e;cases e
  left;refine⟨m,a8,d,b1,100*x,rfl,W,f1,⋯,a9,h3,λa k6 R b2 e3 f0 d4 d7=>?_⟩;refine⟨p,ns,2,rfl,Ac g4 (fX a4 c6 e3.k),∅,λg7 I a0 g0 d5=>?_⟩;obtain⟨D,rk3,e6,f6⟩:=Yj e3 W f0 a0 g0 d5
  try ext
  refine⟨a,g7,_,200,d,R,D,_,rfl,a9,d7,rk3,e6,d5,fW (k:=2),∅,λb9 i0 e9 _=>?_⟩;obtain⟨f4,d2⟩:=f6 b9 _ e9;clear e9 f6 rk3 e6 d5 g0 a0 f0 e3;generalize hLL:stL d (bxF ns 2)=M at*
  have d0:Sq d (cjM d (chP d M) (chQ d M) R):=dO (iD a9 g1) R;have g8:mV 145 (cjM d (chP d M) (chQ d M) R):=λr hr z L=>wX (Eg (F:=⟨d,M,1⟩) ⟨a9,g1,h6,by show(0:Int)<1;decide,by show(1:Int)<2^100;decide⟩ d7.2 r hr z L) ∅;have j2:∀(ts:LI')(u:Int),ts.length=d->jA 250 ts->0<u->u<=200->Mkr d M U (cjM d (chP d M) (chQ d M) R,redT (u*U) ts,redU (u*U) ts):=λts u a b c e=>⟨R,d7,ts,u,a,b,c,e,rfl⟩;generalize cjM d (chP d M) (chQ d M) R=C at*
  left;refine⟨by show 6<=sizeLine;decide,λz L=>?_⟩;have a0:=Same.new (o:=.lst [V.int 1,.int 2,.int 2,.int 3,.int 4,.int 6]) L;have b0:(upd b9 z (.lst [V.int 1,.int 2,.int 2,.int 3,.int 4,.int 6])) z=some (.lst [V.int 1,.int 2,.int 2,.int 3,.int 4,.int 6]):=nN;generalize upd b9 z (.lst [V.int 1,.int 2,.int 2,.int 3,.int 4,.int 6])=I at a0 b0;have h2:z≠m:=λy=>by rw[y,d2]at L;cases L
  refine⟨m,6,b2,100*x+100,rfl,a0 _ _ d2,d4,⋯,∅,∅,λS d8 a2=>?_⟩;obtain⟨k8,N⟩:=mM (many:=6) d4 ∅;have a1:=(f4.up a0).tk W d8;rw[←d8 z h2]at b0;clear f4 a0 d8 d4 d2 L f1;generalize tkB b2 6=F at*
  generalize tkV b2 6=Y at*
  try ext
  obtain⟨c3,b4,i5,i2,j8,j5⟩:∃(c3:Nat)(b4:Int),Y=c3/\[V.int 1,.int 2,.int 2,.int 3,.int 4,.int 6][c3]?=some (.int b4)/\0<b4/\b4<=200:=by
   rcases(show Y=0\/Y=1\/Y=2\/Y=3\/Y=4\/Y=5 by omega) with e|e|e|e|e|e <;> rw[e]
   ·exact⟨0,1,rfl,rfl,∅,∅⟩
   ·exact⟨1,2,rfl,rfl,∅,∅⟩
   ·exact⟨2,2,rfl,rfl,∅,∅⟩
   ·exact⟨3,3,rfl,rfl,∅,∅⟩
   ·exact⟨4,4,rfl,rfl,∅,∅⟩
   ·exact⟨5,6,rfl,rfl,∅,∅⟩
  refine jC (i:=c3) b0 i2 i5 ?_;subst e1;refine st λN1 e1=>?_;have c9:∀(u:Int)(a6:Box) I,0<u->u<=200->Rk m i1 I a C->I m=some (bxO a6)->BxOk (100*x+150) a6->N1 [some (.ref p),some (.int x),some (.int d),some (.ref q),some (.int a8),some (.ref m),some (.ref a),some (.int u),none,none,none] I:=by
   clear b0 a1 a2 N;intro u a6 I f9 g3 a1 e8 h9;left;refine⟨zY _,λJ c0=>?_⟩;have e4:Same I (upd I J (.lst [])):=Same.new c0;have g6:(upd I J (.lst [])) J=some (.lst (([]:LI').map V.int)):=nN;have tb:J≠m:=λy=>by rw[y,e8]at c0;cases c0
   generalize upd I J (.lst [])=b9 at e4 g6;subst e1;refine st λN1 e1=>lN λB eB=>?_;simp only[mY];ext;refine⟨⋯,⋯,?_⟩;rw[zS];refine gD (g:=nX 9) (tb:=B) (λi c8 S=>∃(ts:LI')(d6 b8:Option V),c8=[some (.ref p),some (.int x),some (.int d),some (.ref q),some (.int a8),some (.ref m),some (.ref a),some (.int u),some (.ref J),d6,b8]/\KX m I S/\S J=some (.lst (ts.map V.int))/\ts.length=i/\jA 250 ts/\∃F,S m=some (bxO F)/\BxOk (100*x+150+i) F) ⟨[],none,none,rfl,KX.same e4,g6,rfl,λ_ h=>(by cases h),a6,e4 _ _ e8,h9⟩ ?_ ?_
   ·rintro i c8 S hi ⟨ts,d6,b8,rfl,b6,b3,lt,d9,F,a2,N⟩;have Z:=a1.kx W b6;have b7:=Z.k _ _ (b5 a5) (a4 _ _ a5);have f3:=Z.k _ _ (b5 g5) (a4 _ _ g5);obtain⟨r,c7⟩:∃r,C[i]?=some r:=⟨_,zqd (by rw[d0.1];exact hi)⟩;obtain⟨n,f5⟩:∃n,O[i]?=some n:=⟨_,zqd (by rw[j7];exact hi)⟩;have h1:=d0.2 _ (zqb c7);have l2:=c5 n (zqb f5);subst eB;show tSeq _ _ _ [some (.ref p),some (.int x),some (.int d),some (.ref q),some (.int a8),some (.ref m),some (.ref a),some (.int u),some (.ref J),some (.int (0+(i:Int))),b8] S;refine st λl7 j6=>?_;ext;have f8:∀{H':Hp}{c1:VK},Same S H'->c1 (.ref l) H'->rIxB K (.ref q) (.int 0) H' c1:=λs h=>⟨true,q,_,_,_,rfl,rfl,SqB.tup (s _ _ b7),rfl,h⟩;refine f8 (Same.refl _) ?_;refine⟨false,l,_,_,_,rfl,rfl,SqB.lst f3,jH (gR f5) ⋯,?_⟩;refine mK λB eB=>?_;simp only[mY];ext;refine⟨⋯,⋯,λh7 i9=>?_⟩;rw[zS];refine jG (len:=d) (λk z _=>∃v,(List.zipWith (·*·) r O)[k]?=some v/\z=.int v) i9 ⋯ (λ_ _ _ _ r _=>r) ?_ ?_
    ·intro k X zs k4 G k9 c1 j0;obtain⟨g,f2⟩:∃g,r[k]?=some g:=⟨_,zqd ⋯⟩;obtain⟨f,e5⟩:∃f,O[k]?=some f:=⟨_,zqd ⋯⟩;have k2:=c5 f (zqb e5);subst eB;show tOp _ _ _ [some (.int (0+(k:Int))),some (.ref q),some (.ref a),some (.int (0+(i:Int)))] X c1;ext;refine gE (b1:=false) (b2:=false) (Z.up G).m.l.b c7 f2 ⋯ ⋯ ?_;refine f8 G ⟨false,l,_,_,_,rfl,rfl,SqB.lst (G _ _ f3),jH (gR e5) ⋯,?_⟩;ext;refine⟨(show CMul _ _ from .inr ⟨⋯,⋯⟩).ok,j0 _ _ (Same.refl _) ⟨_,?_,rfl⟩⟩;rw[wB,f2,e5]
    ·intro X ys G i3 l0 i7;have k0:ys=(List.zipWith (·*·) r O).map V.int:=by
      refine kE (by simp only[zqe,List.length_zipWith];omega) λk z e=>?_;obtain⟨v,i4,rfl⟩:=i7 k z e;exact⟨v,i4,rfl⟩
     subst k0;refine⟨h7,rfl,_,SqL.of i3,?_⟩
     try ext
     have k3:(dotI r O).natAbs<2^160:=by
      have:=An r O (g8 r (zqb c7)) (C:=10) λz L=>by have:=c5 z L;show z.natAbs<1024;omega
      rw[h1]at this;have e:(2:Nat)^160=32*2^(145+10):=∅
      omega
     have i8:(List.zipWith (·*·) r O).sum=dotI r O:=rfl;rw[i8];generalize dotI r O=dd at*
     subst j6;ext;refine⟨.inl ⟨rfl,_,SqL.of (G _ _ b3)⟩,m,u,F,100*x+150+i,rfl,G _ _ a2,N,⋯,⋯,⋯,λe7 a3 d3=>?_⟩;obtain⟨l4,d1⟩:=mM (many:=u) N ⋯;generalize tkV F u=e0 at*
     generalize tkB F u=k1 at*;have j3:q≠m:=b5 a5
     try ext
     refine⟨true,q,_,_,_,rfl,rfl,SqB.tup (by rw[a3 q j3];exact G _ _ b7),rfl,?_⟩;ext;refine⟨(show CMul _ _ from .inl ⟨⋯,⋯⟩).ok,(show CMul _ _ from .inr ⟨⋯,⋯⟩).ok,?_⟩;refine⟨J,_,_,rfl,rfl,by rw[a3 J tb];exact G _ _ b3,fK (by rw[zqe,lt];omega),KX.over ((b6.trans (KX.same G)).tk1 a3) c0,ts++[e0*U+(n-dd)*u],by rw[nN,yX];rfl,by rw[yA,lt];rfl,λz L=>?_,k1,by rw[nO (zT tb)];exact d3,d1.le ⋯⟩;rcases oW.mp L with h|h
     ·exact d9 z h
     ·rw[oP.mp h];have b1:(e0*U).natAbs<=200*1000:=by rw[xK];exact wW ⋯ ⋯
      have b2:((n-dd)*u).natAbs<=(1000+2^160)*200:=by rw[xK];exact wW ⋯ ⋯
      have a6:=vX (e0*U) ((n-dd)*u);have i0:200*1000+(1000+2^160)*200<2^250:=∅
      omega
   ·rintro c8 S ⟨ts,d6,b8,rfl,b6,b3,lt,d9,F,a2,N⟩;have Z:=a1.kx W b6;have b7:=Z.k _ _ (b5 a5) (a4 _ _ a5);symm;refine⟨true,q,_,_,_,rfl,rfl,SqB.tup b7,rfl,?_⟩;ext;refine⟨(show CMul _ _ from .inl ⟨⋯,⋯⟩).ok,?_⟩;have h4:0<u*U:=wR f9 h0;have k7:u*U<=200*1000:=qC g3 g9 ⋯ ⋯;refine⟨false,false,false,a,J,_,ts,_,rfl,Z.m.l.b,SqB.lst b3,by rw[d0.1];omega,⋯,h4,Am (B:=20) (by show _<1048576;omega) ∅,λr X G i6=>?_⟩;exact h5 r X _ ((fX a4 c6 Z.k).trans G) i6 (j2 ts u lt d9 f9 g3)
  ext;refine ite2 (λ_=>?_) (λ_=>?_)
  ·refine⟨m,200,F,100*x+101,rfl,a2,N,⋯,∅,∅,λX e2 c4=>?_⟩;obtain⟨k5,a7⟩:=mM (many:=200) N ∅
   try ext
   exact c9 _ _ X ⋯ ⋯ (a1.tk W e2) c4 (a7.le ⋯)
  ·refine⟨m,4,F,100*x+101,rfl,a2,N,⋯,∅,∅,λX e2 c4=>?_⟩;obtain⟨_,a7⟩:=mM (many:=4) N ∅;generalize tkB F 4=j9 at*
   generalize tkV F 4=l1 at*;have f7:=a1.tk W e2
   try ext
   refine ite2 (λ_=>?_) (λ_=>?_)
   ·refine⟨m,200,j9,100*x+102,rfl,c4,a7,⋯,∅,∅,λe7 a3 d3=>?_⟩;obtain⟨l3,d1⟩:=mM (many:=200) a7 ∅
    try ext
    exact c9 _ _ e7 ⋯ ⋯ (f7.tk W a3) d3 (d1.le ⋯)
   ·exact c9 _ _ X j8 j5 f7 c4 (a7.le ⋯)
theorem ok_h(T:Txt K mg t):FnOk P w K mg base CX0 6 t.a_h t.d_h pz' (sp_h K):=by
 have c0:=@ok_w P w K mg base t T;have F:=@ok_1 P w K mg base t T;have b7:=@ok_10 P w K mg base t T;have c6:=@ok_k P w K mg base t T;apply T.F_h.ok sc_h
 ·obtain⟨p,ns,rfl,D,d0⟩:=h;refine⟨_,(nJ (nU (i:=1) sc_h.nd rfl (Or.inl rfl) (nS c0 hr.mo T.F_w (nH (pq 0) (nH nK nI))))
   (nJ (nU (i:=2) sc_h.nd rfl (Or.inr rfl) (nR lH nK (nS F hr.mo T.F_1 (nH (pq 1) (nH nK nI)))))
   (nJ (nU (i:=3) sc_h.nd rfl (Or.inl rfl) (nS F hr.mo T.F_1 (nH (pq 1) (nH nK nI))))
   (nJ (nU (i:=4) sc_h.nd rfl (Or.inr rfl) (nS F hr.mo T.F_1 (nH (pq 1) (nH nK nI))))
   (nJ (nU (i:=5) sc_h.nd rfl (Or.inr rfl) (nS b7 hr.mo T.F_10 (nH (pq 0) (nH (pq 2) nI))))
   (nM (nV (mQ (nH (pq 2) (nH (lE (sc:=nP At) (N:=N_h) (fr:=[("_law_script",0),("_law_d",2),("_law_sort",4),("_law_spot_here",5)]) (te:=(kJ (sp_k K) [] E0 (mH (tVar 1) (mH (tOp (rI0 λi j=>.int (i+j)) (tC (.int 4)) (tVar 0)) (mH (tVar 2) (mH (tVar 4) (mH (tVar 3) tNil))))))) rfl rfl (nofun) rfl (nofun) (lG rfl T.z_range (nH (pq 3) nI)) (λ_ _ _ e2=>(nS c6 hr.mo T.F_k (nH (pv 1) (nH (nR lH nK (pv 0)) (nH (pv 2) (nH (pv 4) (nH (pv 3) nI)))))))) nI)))))))))),?_⟩
  show tSeq _ _ _ [some (.ref p),none,none,none,none,none] H;right;refine⟨p,ns,0,rfl,D,∅,λc v a9 a4 b6=>?_⟩;have M:BxOk 0 (bxF ns 0):=fW (k:=0);generalize bxF ns 0=b1 at*
  left;refine⟨c,2,b1,0,rfl,b6,M,∅,∅,∅,λL Z c7=>?_⟩;obtain⟨e5,a1⟩:=mM (many:=2) M ∅;have k2:KX c v L:=λb x n e=>by rw[Z b n];exact e
  generalize tkB b1 2=b2 at*;generalize tkV b1 2=U at*
  try ext
  obtain⟨d,d7,o⟩:∃d:Nat,2+U=(d:Int)/\(d=2\/d=3):=⟨(2+U).toNat,⋯,⋯⟩;rw[d7];left;refine⟨c,4,b2,1,rfl,c7,a1,∅,∅,∅,λf I c4=>?_⟩;obtain⟨e4,X⟩:=mM (many:=4) a1 ∅;have k3:KX c v f:=k2.trans λb x n e=>by rw[I b n];exact e
  generalize tkB b2 4=C at*;generalize tkV b2 4=v2 at*
  obtain⟨many,d5,e0⟩:∃m:Nat,v2=(m:Int)/\m<=3:=⟨v2.toNat,⋯,⋯⟩;subst d5;left;refine⟨c,6,C,2,rfl,c4,X,∅,∅,∅,λR Y e3=>?_⟩;obtain⟨c5,e6⟩:=mM (many:=6) X ∅;have O:KX c v R:=k3.trans λb x n e=>by rw[Y b n];exact e
  generalize tkB C 6=d9 at*;generalize tkV C 6=a0 at*
  have a:=fX a9 a4 O;clear k2 k3 O Z I Y;left;refine⟨p,ns,d,rfl,Ac D a,o,λq l d2 u L c3 b3 b5 c8 a2 W S=>?_⟩;have J:=a.trans c3;obtain⟨a6,d4⟩:=Lq o (fW (ns:=ns) (k:=2));symm;refine mK λB eB=>?_;simp only[mY];ext;refine⟨⋯,⋯,λG a8=>?_⟩;rw[zS];refine jG (len:=many) (λ_ y f=>∃q m,y=.ref q/\DdAt K (offH G f) q m/\Mkr d (stL d (bxF ns 2)) u m) a8 ⋯ (λ_ _ _ _⟨q,m,e,h,k⟩b4=>⟨q,m,e,h.up (Ev b4),k⟩) ?_ ?_
  ·intro k f zs e7 g c9 c2 d8;subst eB;show kJ _ _ _ _ [some (.int (0+(k:Int))),some (.ref p),some (.int d),some (.int a0),some (.ref q)] f c2;ext;refine⟨p,q,l,ns,d2,4+k,d,u,a0,by rw[show((4+k:Nat):Int)=4+(0+(k:Int)) by omega],Ac D (J.trans g),⋯,o,g _ _ b3,g _ _ b5,c8,λz d3=>?_,W,S,c5.1,λr R x a c1 d1=>d8 _ _ a ⟨r,x,rfl,DdAt.tk c1 (Er (a _ _ c9)),d1⟩⟩;have:=a2 z d3;omega
  ·intro f ys g a5 d6 b0;obtain⟨a3,ms,rfl,N,b8⟩:=Ll b0;refine⟨by show 2<=sizeLine;decide,λr a7=>?_⟩;have a:=Same.new (o:=.lst [V.int d,.ref G]) a7;have b9:ms.length<=3:=by
    have:=mU N;rw[zqe]at d6;omega
   refine d0 r G a3 ms d (stL d (bxF ns 2)) u _ ((J.trans g).trans a) nN (a _ _ a5) (Paired.mapP N λ_ _ z=>z.up a) o a6 d4 W S b9 b8
theorem Lk{K:Frag}{H:Hp}{ns:LI'}{xs:List V}(h:Dts K H xs (ns.map PyData.int)):xs=ns.map V.int:=by
 induction ns generalizing xs with
 |nil=>cases h;rfl
 |cons n ns b=>cases h with|cons a h=>cases a;rw[b h];rfl
theorem Lj{K:Frag}{H:Hp}:∀{M:LM}{xs:List V},Dts K H xs (M.map λr=>PyData.tuple (r.map PyData.int))->∃ps:LA,xs=ps.map V.ref/\ps.length=M.length/\∀(i:Nat) p r,ps[i]?=some p->M[i]?=some r->SqT K H p (r.map V.int)
 |[],_,.nil=>⟨[],rfl,rfl,λi p r e=>by cases e⟩
 | r:: M,_,.cons (x:=x) d f=>by
  obtain⟨ps,e,l,h⟩:=Lj f;cases d with
  |tup a b =>
   rename_i q ys;rw[Lk b]at a;refine⟨q:: ps,by rw[e];rfl,by rw[zR,zR,l],λi p s e1 c=>?_⟩;cases i with
   |zero=>cases e1;cases c;exact a
   |succ i=>exact h i p s e1 c
theorem Yi{K:Frag}{H:Hp}{p:Addr}{x:Dd}(h:Dt K H (.ref p) (dat x)):DdS K H p x:=by
 obtain⟨M,ts,u⟩:=x;have h':Dt K H (.ref p) (.tuple [.tuple (M.map λr=>.tuple (r.map PyData.int)),.tuple (ts.map PyData.int),.int u]):=h;cases h' with
 | tup a b =>
  cases b with
  | cons b1 b =>
   cases b with
   | cons b2 b =>
    cases b with
    | cons e b =>
     cases b;cases e;cases b1 with
     | tup d c =>
      cases b2 with
      |tup e1 f =>
       rw[Lk f]at e1;obtain⟨ps,rfl,l,g⟩:=Lj c;exact⟨_,_,a,⟨ps,d,l,g⟩,e1⟩
theorem Yh{d:Type}{f:d->PyData}{l:List d}(nd:l.Nodup)(inj:∀x∈l,∀y∈l,f x=f y->x=y)(g:∀x∈l,∀y∈l,sm (f x) (f y)=true)(h:l.Pairwise λp q=>lx (fl (f q)) (fl (f p))=false):l.Pairwise λp q=>lx (fl (f p)) (fl (f q))=true:=by
 have i:=List.Pairwise.and nd h;refine List.Pairwise.imp_of_mem (λ{a b}c e h=>?_) i;cases z:lx (fl (f a)) (fl (f b)) with
 |true=>rfl
 |false=>exact absurd (inj a c b e (fT _ _ (g a c b e) (Ip _ _ z h.2))) h.1
structure Told(d:Nat)(ss:List Dd)(srt:Tb):Prop where
 p:srt.Perm (tab d ss 201)
 o:srt.Pairwise λp q=>lx (fl (dat q.1)) (fl (dat p.1))=false
 l:(tab d ss 201).length<=200
section
variable {d:Nat} {G:Dd->Prop} {ss ss':List Dd} {srt srt':Tb}
theorem Told.mem(h:Told d ss srt){x:Dd}:x∈srt.map (·.1)↔x∈(tab d ss 201).map (·.1):=(h.p.map _).mem_iff
theorem Told.nd(h:Told d ss srt):(srt.map (·.1)).Nodup:=(h.p.map _).nodup_iff.mpr Xi
theorem Told.len(h:Told d ss srt):srt.length<=200:=by rw[h.p.length_eq];exact h.l
end
section
variable {d:Nat} {T L:List Dd}
def cut(d:Nat)(L R:List Dd)(y:Dd)(n:Nat):List Dd:=R.filter λx=>decide (x∉(L.take n).map λl=>mJ d l y)
structure Cos(d:Nat)(T L R:List Dd)(c:Nat):Prop where
 nd:R.Nodup
 sub:∀x∈R,x∈T
 cl:∀x∈R,∀l∈L,mJ d l x∈R
 len:c*L.length+R.length=T.length
def run(d:Nat)(L:List Dd):List Dd->List Dd×Nat->List Dd×Nat
 |[],s=>s
 |y:: ys,(R,c)=>if y∈R then run d L ys (cut d L R y L.length,c+1) else run d L ys (R,c)
end
theorem dS{K:Frag}{H:Hp}{p:Addr}{x:Dd}(h:DdS K H p x):Dt K H (.ref p) (dat x):=by
 obtain⟨e,d,b,c,a⟩:=h;exact .tup b (.cons (Dt.matB c) (.cons (Dt.intsB (b:=true) a) (.cons (.int _) .nil)))
theorem Yg{K:Frag}{H:Hp}{b:LA}{ms:List Dd}(h:Paired (DdS K H) b ms):Dts K H (b.map V.ref) (ms.map dat):=by
 induction h with
 |nil=>exact .nil
 |cons a _ c=>exact .cons (dS a) c
theorem Yf{K:Frag}{H:Hp}{b:LA}{srt:Tb}(h:Paired (λp(x:Dd×List Nat)=>Dt K H (.ref p) (dat x.1)) b srt):Paired (DdS K H) b (srt.map (·.1)):=by
 induction h with
 |nil=>exact .nil
 |cons a _ c=>exact .cons (Yi a) c
def dlD(l:List Dd):PyData:=.list (l.map dat)
theorem Li(l:List Dd):iT 5 (dlD l)=true:=by
 show(l.map dat).all (iT 4)=true;rw[uK];intro d a;obtain⟨x,_,rfl⟩:=nD.mp a;exact gF 4 _ (kH x)
theorem Lh{K:Frag}{H:Hp}{a:Addr}{b:LA}{ms:List Dd}(e:H a=some (.lst (b.map V.ref)))(h:Paired (DdS K H) b ms):Dt K H (.ref a) (dlD ms):=.lst (SqL.of e) (Yg h)
theorem Ab{K:Frag}{H:Hp}{a b:Addr}{d f:LA}{ms c:List Dd}{Q:VK}(e:H a=some (.lst (d.map V.ref)))(h:Paired (DdS K H) d ms)(i:H b=some (.lst (f.map V.ref)))(h':Paired (DdS K H) f c)(g:ms=c)(q:Q (.bl false) H):rNeD K (.ref a) (.ref b) H Q:=
 Qi 5 ∅ (Lh e h) (Lh i h') (Li _) (Li _) (b:=true) (by simp only[true_iff];rw[g]) q
theorem Ye(h:GrpF K t H g d ms srt)(k:∀l b H',Same H H'->H l=none->H' l=some (.lst (b.map V.ref))->Paired (λp(x:Dd×List Nat)=>Dt K H' (.ref p) (dat x.1)) b srt->Q (.ref l) H'):∃a fs,H g=some (.ins t.a_b a fs)/\fs.lookup (Str.ofString "members")=none/\sp_5 K t [.ref g] H Q E0:=by
 obtain⟨a,e,lo,f,i,c,_⟩:=id h.ex;exact⟨a,_,c,rfl,g,d,ms,srt,rfl,h,k⟩
theorem Yd(h:GrpF K t H g d ms srt)(k:∀l gs H',Same H H'->H l=none->H' l=some (.lst (gs.map V.ref))->Paired (DdS K H') gs ms->Q (.ref l) H'):∃a fs,H g=some (.ins t.a_b a fs)/\fs.lookup (Str.ofString "makers")=none/\sp_8 K t [.ref g] H Q E0:=by
 obtain⟨a,c,lo,e,f,b,_⟩:=id h.ex;exact⟨a,_,b,rfl,g,d,ms,srt,rfl,h,k⟩
theorem Yc{H:Hp}{C x a:Addr}(nx:H x=none)(b:H a=none)(ne:a≠x):Same H (upd (upd H a (.own x)) x (.ins C a []))/\(upd (upd H a (.own x)) x (.ins C a [])) x=some (.ins C a []):=
 ⟨(Same.new b).trans (Same.new (by rw[nO (zT ne)];exact nx)),nN⟩
theorem Lg{k:PyData}{v:V}{k':PyData}:∀{kvs:List (PyData×V)},vT (kvs.map λa=>if a.1=k then(a.1,v) else a) k'=if k'=k then(if(vT kvs k').isSome then some v else none) else vT kvs k'
 |[]=>by simp[vT]
 | p:: r=>by
  have b:=Lg (k:=k) (v:=v) (k':=k') (kvs:=r);rw[zO]
  by_cases e:p.1=k'
  ·rw[jI e]
   by_cases h:k'=k
   ·rw[zF h,zF (e.trans h),jI (show((p.1,v):PyData×V).1=k' from e)];rfl
   ·rw[zD h,zD (λq=>h (e.symm.trans q)),jI e]
  ·have c:¬ (if p.1=k then(p.1,v) else p).1=k':=by split <;> exact e
   rw[jJ c,jJ e,b]
theorem Lf{k:PyData}{v:V}{k':PyData}:∀{kvs:List (PyData×V)},vT (kvs++[(k,v)]) k'=if(vT kvs k').isSome then vT kvs k' else if k'=k then some v else none
 |[]=>by
  rw[pQ]
  by_cases h:k'=k
  ·rw[jI h.symm,zD (by simp[vT]),zF h]
  ·rw[jJ (λq=>h q.symm),zD (by simp[vT]),zD h];simp[vT]
 |p:: r=>by
  have a:=Lf (k:=k) (v:=v) (k':=k') (kvs:=r);rw[List.cons_append]
  by_cases e:p.1=k'
  ·rw[jI e,jI e];rfl
  ·rw[jJ e,jJ e,a]
theorem Fy{kvs:List (PyData×V)}{k k':PyData}{v:V}:vT (pT kvs k v) k'=if k'=k then some v else vT kvs k':=by
 unfold pT;split
 ·rename_i h;rw[Lg]
  by_cases e:k'=k
  ·rw[zF e,zF e,zF (by rw[e];exact h)]
  ·rw[zD e,zD e]
 ·rename_i h;rw[Lf]
  by_cases e:k'=k
  ·rw[zF e,zF e,zD (by rw[e];exact h)]
  ·rw[zD e,zD e];split
   ·rfl
   ·rename_i q;cases hv:vT kvs k' with
    |none=>rfl
    |some w=>rw[hv]at q;simp at q
theorem Aa{K:Frag}{H H':Hp}{a:Addr}{kvs:List (PyData×V)}(d:DTr K H a kvs)(k:KX a H H'):TK K H H':=by
 obtain⟨xs,e,_⟩:=d.ex;have b:∀c ys,H c=some (.tup ys)->H' c=some (.tup ys):=λc ys q=>k c _ (λw=>by rw[w,e]at q;cases q) q;refine⟨b,λc ys q=>?_⟩;rcases q with(q|⟨f,q⟩)|q
 ·exact .inl (.inl (b _ _ q))
 ·exact .inl (.inr ⟨f,k c _ (λw=>by rw[w,e]at q;cases q) q⟩)
 ·exact .inr q
structure Pr(d:Nat)(x:Dd):Prop where
 sq:Sq d x.1
 len:x.2.1.length=d
 pos:0<x.2.2
 bm:mV 1500 x.1
 bt:jA 1000 x.2.1
 bu:x.2.2<2^1000
def kS(d:Nat)(ms:List Dd):Prop:=(d=2\/d=3)/\ms.length<=3/\∃F:Fr5,F.d=d/\F.Ok/\∀m∈ms,MkN F m/\mV 1500 m.1/\jA 1000 m.2.1/\m.2.2<2^1000
theorem kS.pr{d:Nat}{ms:List Dd}(h:kS d ms):∀m∈ms,Pr d m:=by
 obtain⟨_,_,F,rfl,_,g⟩:=h;exactλm f=>let ⟨a,b,c,e⟩:=g m f;⟨a.1.sq,a.1.len,a.1.pos,b,c,e⟩
theorem kS.ax{d:Nat}{ms:List Dd}(h:kS d ms):AxOk d ms:=⟨by have:=h.1;omega,λs a=>by rw[(h.pr s a).sq.1]⟩
theorem Pr.up{d:Nat}{x:Dd}(f:kI d x)(b:mV 1500 x.1)(c:jA 1000 x.2.1)(e:x.2.2<2^1000):Pr d x:=⟨f.sq,f.len,f.pos,b,c,e⟩
theorem Yb{K:Frag}{t:Adr}{d most:Nat}{ms:List Dd}{H j:Hp}{a x n:Addr}{b:Bool}{ps:LA}{Q:VK}{E:XK}(D:kS d ms)(J:j x=some (.ins t.a_b n []))(c:Same H j)(L:SqB b K H a (ps.map V.ref))(G:Paired (DdS K H) ps ms)(Y:1<=most)(X:most<=200)(r:H x=none)
  (v:most<(tab d (ms.map nQ) 201).length->∀i H',Same H H'->AptE d ms most H' i->E (.ref t.a_d) (some i) H')
  (T:(tab d (ms.map nQ) 201).length<=most->∀srt H',Same H H'->GrpF K t H' x d ms srt->Told d (ms.map nQ) srt->(∀y∈srt.map (·.1),kI d y/\Pr d y/\nQ y=y)->Q .non H'):
  Kz K t [.ref x,.int d,.ref a,.int most] j Q E:=by
 have ax:=D.ax;obtain⟨Z,a1,F,rfl,m,I⟩:=D;have S:=Ef m (λs M=>(I s M).1);refine⟨b,F.d,most,a,x,n,ps,ms,rfl,J,L.up c,Paired.mapP G λ_ _ z=>DdS.up z c,λh=>absurd ⟨⋯,⋯⟩ h,λ_ h=>absurd ax h,λ_ _=>⟨InN F,F.d,most,rfl,rfl,⋯,S,λhl N srt H' k g p o=>?_,λhl i H' W u=>v hl i H' (c.trans W) u⟩⟩;have q:Told F.d (ms.map nQ) srt:=⟨p,o,yC hl X⟩;refine T hl srt H' (λb o e=>k b o (λz=>by rw[z,r]at e;cases e) (c _ _ e)) g q λy O=>?_;obtain⟨z,U,rfl⟩:=nD.mp (q.mem.mp O);obtain⟨l,a0⟩:=N.2 z U;obtain⟨f,b1,b2,C⟩:=Ae m ⋯ l;refine⟨f,Pr.up f b1 b2 C,?_⟩;obtain⟨R,_,_,ts,_,e⟩:=l;rw[e];exact Kc
theorem Le{d:Nat}{x m:Dd}(a:0<x.2.2)(b:0<m.2.2)(e:nQ x=x):mJ d x m=mJ d x (nQ m):=by
 have:=Wa (d:=d) a b;rw[e]at this;exact this
def Bf(n:Nat)(tb:Tb):Prop:=tb.Pairwise (λa b=>a.2.length<=b.2.length)/\∀y∈tb,y.2.length<=n+1
theorem Ya{d:Nat}{x:Dd}{w:List Nat}{tb:Tb}{ks:Dd×Nat}(h:Bf w.length tb):Bf w.length (nxt d x w tb ks):=by
 unfold nxt;split
 ·exact h
 ·refine⟨nE.mpr ⟨h.1,sO _ _,λa e b f=>?_⟩,λy c=>?_⟩
  ·rw[oP.mp f];show a.2.length<=(w++[ks.2]).length;rw[yA];exact h.2 a e
  ·rcases oW.mp c with c|c
   ·exact h.2 y c
   ·rw[oP.mp c];show(w++[ks.2]).length<=_;rw[yA];exact zE _
theorem Ld{d:Nat}{x:Dd}{w:List Nat}:∀(l:List (Dd×Nat))(tb:Tb),Bf w.length tb->Bf w.length (l.foldl (nxt d x w) tb)
 |[],_,h=>h
 |k:: l,tb,h=>Ld l _ (Ya h)
theorem Lc{d:Nat}{ss:List Dd}:∀(n i:Nat)(tb:Tb),(tb=[]\/∀b,tb[i]?=some b->Bf b.2.length tb)->(∀j,j<i->∀a,tb[j]?=some a->∀s∈ss,∃w',(mJ d a.1 s,w')∈tb/\w'.length<=a.2.length+1)->(mL d ss n i tb).length<=n+i->∀a∈mL d ss n i tb,∀s∈ss,∃w',(mJ d a.1 s,w')∈mL d ss n i tb/\w'.length<=a.2.length+1
 |0,i,tb,_,h,hl=>λa o s f=>by
  obtain⟨j,c⟩:=xW o;have:=(zqa c).1;unfold mL at hl this c ⊢;exact h j ⋯ _ c s f
 | n+1,i,tb,p,h,hl=>by
  unfold mL at hl ⊢;split
  ·next q =>
   rw[zF q]at hl;obtain⟨r,k⟩:=Jm d ss tb i;obtain⟨b,g⟩:∃b,tb[i]?=some b:=⟨_,zqd q⟩;have u:Bf b.2.length tb:=by
    rcases p with rfl|p
    ·exact absurd q (oA i)
    ·exact p b g
   have b1:Bf b.2.length (jB d ss tb i):=by
    unfold jB;rw[g];exact Ld _ _ u
   refine Lc n (i+1) _ (.inr λF C=>⟨b1.1,λy m=>?_⟩) (λj c a e s f=>?_) ⋯
   ·have e1:(jB d ss tb i)[i]?=some b:=by rw[k,yB q];exact g
    obtain⟨k1,k2⟩:=zqa e1;obtain⟨k3,D⟩:=zqa C;have:=oU.mp b1.1 i (i+1) k1 k3 (uG i);rw[k2,D]at this;have:=b1.2 y m;omega
   ·rcases uL j i with l|l
    ·rw[k,yB ⋯]at e;obtain⟨w',v,z⟩:=h j l a e s f;exact⟨w',by rw[k];exact xI _ v,z⟩
    ·have:j=i:=⋯
     subst this;rw[k,yB ⋯]at e;rw[g]at e;cases e;obtain⟨y,m,x⟩:=nD.mp (Xh (d:=d) g f);exact⟨y.2,by rw[←x];exact m,b1.2 y m⟩
  ·next q =>
   intro a o s f;obtain⟨j,c⟩:=xW o;have:=(zqa c).1;exact h j ⋯ _ c s f
theorem Zz{d:Nat}{ss:List Dd}{N:Nat}(h:(tab d ss N).length<=N):∀a∈tab d ss N,∀s∈ss,∃w',(mJ d a.1 s,w')∈tab d ss N/\w'.length<=a.2.length+1:=Lc N 0 _ (.inr λf e=>by
 cases e;exact⟨sO _ _,λy c=>by rw[oP.mp c];exact zY _⟩) (λj b=>absurd b (oA j)) h
theorem Lb{d:Nat}{ss:List Dd}{w:List Nat}{n:Nat}:mX d ss (w++[n])=mJ d (mX d ss w) (ss.getD n (mO d)):=by
 unfold mX;rw[vW];rfl
theorem Fx{d:Nat}{ms:List Dd}{b:Nat->Dd->Prop}(g:Ak d ms b):∀(k:Nat)(w:List Nat),w.length=k->k<=201->(∀n∈w,n<ms.length)->b k (mX d (ms.map nQ) w)
 |0,w,e,_,_=>by
  cases w with
  |nil=>exact g.g0
  |cons=>cases e
 |k+1,w,e,j,a=>by
  have ne:w≠[]:=λz=>by rw[z]at e;cases e
  have c:=List.dropLast_concat_getLast ne;have l1:w.dropLast.length=k:=by rw[List.length_dropLast,e];rfl
  have f:=Fx g k w.dropLast l1 ⋯ λn i=>a n (by rw[←c];exact xI _ i);have hl:=a _ (List.getLast_mem ne);rw[←c,Lb,zqc,zH,zqd hl];exact g.gs k _ _ ⋯ f (vK hl)
theorem kS.word{d:Nat}{ms:List Dd}(h:kS d ms){w:List Nat}(hl:w.length<=201)(i:∀n∈w,n<ms.length):kI d (mX d (ms.map nQ) w)/\Pr d (mX d (ms.map nQ) w)/\nQ (mX d (ms.map nQ) w)=mX d (ms.map nQ) w:=by
 obtain⟨_,l,F,rfl,a,k⟩:=h;have c:=Ef a (λs j=>(k s j).1);have b:=Fx c w.length w rfl hl i;obtain⟨f,b1,b2,g⟩:=Ae a ⋯ b;refine⟨f,Pr.up f b1 b2 g,?_⟩;obtain⟨R,_,_,ts,_,e⟩:=b;rw[e];exact Kc
theorem kS.step{d:Nat}{ms:List Dd}(h:kS d ms){w:List Nat}{n:Nat}{m:Dd}(hl:w.length<=201)(a:∀n∈w,n<ms.length)(e:ms[n]?=some m):mJ d (mX d (ms.map nQ) w) m=mX d (ms.map nQ) (w++[n]):=by
 obtain⟨f,p,r⟩:=h.word hl a;rw[Lb,Le p.pos (h.pr m (zqb e)).pos r,zqc,zH,e];rfl
def wV(w:List Nat):List V:=w.map λn=>V.int (n:Nat)
def sp_c(K:Frag):Sp:=λvs H Q _=>E7 λ(b:Bool)(wa l:Addr)(w:List Nat)(qs:LA)(ms:List Dd)(d:Nat)=>A8 (vs=[.ref wa,.ref l,.int d]) (SqB b K H wa (wV w)) (H l=some (.lst (qs.map V.ref))) (Paired (DdS K H) qs ms) (kS d ms) (w.length<=200) ((∀n∈w,n<ms.length)) (∀r H',Same H H'->DdAt K H' r (mX d (ms.map nQ) w)->Q (.ref r) H')
theorem ok_c(T:Txt K mg t):FnOk P w K mg base CX0 5 t.a_c t.d_c ph' (sp_c K):=by
 have a2:=@ok_m P w K mg base t T;have a9:=@ok_l P w K mg base t T;have a3:=@ok_6 P w K mg base t T;apply T.F_c.ok sc_c
 ·obtain⟨b,C,l,w,a0,ms,d,rfl,Y,hl,O,D,c0,I,b3⟩:=h;have u:=D.1;refine⟨_,(nJ (nU (i:=3) sc_c.nd rfl (Or.inl rfl) (nS a9 hr.mo T.F_l (nH (nS a2 hr.mo T.F_m (nH (pq 2) nI)) (nH (nR Gr (mQ (nH nK nI)) (pq 2)) (nH nK nI)))))
   (nJ (lJ yD rfl (mT (pq 0)) (mP (i:=4) sc_c.nd rfl (Or.inl rfl))
   (nM (nU (i:=3) sc_c.nd rfl (Or.inl rfl) (nS a3 hr.mo T.F_6 (nH (pq 3) (nH (mG ix_B (pq 1) (pq 4) (λ_ _=>rfl)) nI))))))
   (nM (nV (pq 3))))),?_⟩
  show tSeq _ _ _ [some (.ref C),some (.ref l),some (.int d),none,none] H;right;refine⟨d,rfl,⋯,λa o U=>?_⟩;refine⟨by show 1<=sizeLine;decide,λz b4=>?_⟩;have J:Same o (upd o z (.lst [V.int 0])):=Same.new b4;have b2:(upd o z (.lst [V.int 0])) z=some (.lst [V.int 0]):=nN;generalize upd o z (.lst [V.int 0])=j at*
  refine⟨z,d,[V.int 0],rfl,rfl,b2,⋯,⋯,?_,λy b0=>?_⟩
  ·rw[zS];have:1000<=sizeLine:=∅
   simp only[List.length_cons,List.length_nil];omega
  rw[zS];have a6:(List.replicate d [V.int 0]).flatten=(List.replicate d (0:Int)).map V.int:=by rcases u with rfl|rfl <;> rfl
  rw[a6];have Z:Same j (upd j y (.lst ((List.replicate d (0:Int)).map V.int))):=Same.new b0;have b5:(upd j y (.lst ((List.replicate d (0:Int)).map V.int))) y=some (.lst ((List.replicate d (0:Int)).map V.int)):=nN;generalize upd j y (.lst ((List.replicate d (0:Int)).map V.int))=c1 at*
  try ext
  refine⟨false,false,false,a,y,idM d,List.replicate d 0,1,rfl,(U.up (J.trans Z)).m.l.b,SqB.lst b5,by rw[gJ.1];omega,by rw[List.length_replicate];omega,∅,Am (B:=20) ∅ ∅,λS a5 a8 M=>?_⟩;have L:=(U.s.trans J).trans (Z.trans a8);rw[Kf u ∅]at M;have b1:DdAt K a5 S (mX d (ms.map nQ) (w.take 0)):=M;subst e1;refine st λN1 e1=>lN λB eB=>?_;simp only[iSeq];ext;refine⟨b,⟨_,Y.up L⟩,?_⟩;refine jP (g:=nX 4) (tb:=B) (λi x f=>∃(r:Addr)(v:Option V),x=[some (.ref C),some (.ref l),some (.int d),some (.ref r),v]/\Same H f/\DdAt K f r (mX d (ms.map nQ) (w.take i))) ⟨S,none,rfl,L,b1⟩ (λ_ _ _ _⟨_,_,_,c,_⟩=>Y.up c) ?_ ?_
  ·rintro i c2 x f b7 ⟨r,v,rfl,c,p⟩;obtain⟨n,W,rfl⟩:=jL b7;have R:=I n (zqb W);obtain⟨m,F⟩:∃m,ms[n]?=some m:=⟨_,zqd R⟩;obtain⟨q,N⟩:∃q,a0[n]?=some q:=⟨_,zqd (by rw[mU O];exact R)⟩;obtain⟨b9,X,a7⟩:=kB O N;rw[F]at X;cases X;have lt:(w.take i).length<=201:=by rw[yG];omega
   have G:∀k∈w.take i,k<ms.length:=λk b8=>I k (List.mem_of_mem_take b8);obtain⟨_,e,_⟩:=D.word lt G;have g:=D.pr m (zqb F);have es:=D.step lt G F;have b6:w.take (i+1)=w.take i++[n]:=by rw[yY,W];rfl
   rw[b6,←es];subst eB;show tAsg _ _ _ [some (.ref C),some (.ref l),some (.int d),some (.ref r),some (.int n)] f;simp only[tAsg];ext;refine jC (i:=n) (c _ _ hl) (by rw[zH,N];rfl) rfl ?_;refine⟨r,q,_,m,d,rfl,p.s,a7.up c,u,e.sq,g.sq,e.len,g.len,e.pos,g.pos,e.bm,g.bm,e.bt,g.bt,e.bu,g.bu,λr2 c3 a1 a4=>?_⟩;exact⟨r2,rfl,c.trans a1,a4⟩
  ·rintro x f ⟨r,v,rfl,c,p⟩;symm;refine b3 r f c ?_;rw[yJ (by unfold wV;rw[zqe];exact zE _)]at p;exact p
def sp_o:Sp:=λvs H Q _=>E5 λ(wa l:Addr)(w:List Nat)(ys:List V)(most:Nat)=>A6 (vs=[.ref wa,.ref l,.int most]) (H wa=some (.lst (wV w))) (H l=some (.lst ys)) (w.length<=most) ((∀n∈w,n<ys.length)) (Q (.bl true) H)
theorem ok_o(T:Txt K mg t):FnOk P w K mg base CX0 2 t.a_o t.d_o pe' sp_o:=by
 have k:=@ok_i P w K mg base t T;apply T.F_o.ok sc_o
 ·obtain⟨a,l,w,ys,most,rfl,b,hl,o,j,q⟩:=h;refine⟨_,(nJ (mF (PW.pt (lU (kO (lP (mS kU rfl T.z_isinstance (nofun) (nH (pq 0) (nH (jD (v:=.ty "list") rfl T.z_list (nofun) rfl) nI))))) (kN (mB iW (lC T.z_len (pq 0)) (pq 2) (mD _)))))
   (nM (nV lF))
   mE)
   (nJ (lJ yD rfl (mT (pq 0)) (mP (i:=3) sc_o.nd rfl (Or.inl rfl))
   (nM (mF (PW.pt (lU (kO (lP (nS k hr.mo T.F_i (nH (pq 3) nI)))) (lU (mB fZ (pq 3) nK (mD _)) (kN (mB Fo (pq 3) (lC T.z_len (pq 1)) (mD _))))))
   (nM (nV lF))
   mE)))
   (nM (nV lF)))),?_⟩
  show tSeq _ _ _ [some (.ref a),some (.ref l),some (.int most),none] H;right;refine⟨_,_,_,_,rfl,.ty (.lst b),rfl,T.h_q,?_⟩
  try ext
  refine⟨false,a,_,rfl,SqB.lst b,?_⟩
  try ext
  have f:(wV w).length=w.length:=by unfold wV;rw[zqe]
  rw[f,zJ (show¬ (w.length:Int) > (most:Int) by omega)];refine iteF ?_;subst e1;refine st λN1 e1=>lN λB eB=>?_;simp only[iSeq];ext;refine⟨false,⟨_,SqB.lst b⟩,?_⟩;refine jP (g:=nX 3) (tb:=B) (λi d c=>∃(v3:Option V),d=[some (.ref a),some (.ref l),some (.int most),v3]/\c=H) ⟨none,rfl,rfl⟩ (λ_ _ _ _⟨_,_,e⟩=>by rw[e];exact SqB.lst b) ?_ ?_
  ·rintro i p d c m ⟨v3,rfl,rfl⟩;obtain⟨n,g,rfl⟩:=jL m;have r:=j n (zqb g);subst eB;show tIfS _ _ _ _ [some (.ref a),some (.ref l),some (.int most),some (.int n)] c;ext;refine⟨n,rfl,?_⟩
   try ext
   rw[zJ ⋯];refine iteF ⟨false,l,_,rfl,SqB.lst hl,?_⟩
   try ext
   rw[zJ (show¬ (ys.length:Int)<=(n:Int) by omega)];exact trivial
  ·rintro d c ⟨v3,rfl,rfl⟩;symm;exact q
def sp_7:Sp:=λvs H Q _=>E6 λ(a l:Addr)(W:List (List Nat))(ys:List V)(many most:Nat)=>A6 (vs=[.ref a,.ref l,.int many,.int most]) (iB H a W) (H l=some (.lst ys)) (W.length=many) ((∀w∈W,w.length<=most/\∀n∈w,n<ys.length)) (Q (.bl true) H)
theorem ok_7(T:Txt K mg t):FnOk P w K mg base CX0 3 t.a_7 t.d_7 pc' sp_7:=by
 have o:=@ok_o P w K mg base t T;apply T.F_7.ok sc_7
 ·obtain⟨a,l,x,ys,many,most,rfl,⟨y,b,g⟩,hl,r,u,q⟩:=h;refine⟨_,(nJ (mF (PW.pt (lU (kO (lP (mS kU rfl T.z_isinstance (nofun) (nH (pq 0) (nH (jD (v:=.ty "list") rfl T.z_list (nofun) rfl) nI))))) (kN (mB jU (lC T.z_len (pq 0)) (pq 2) (mD _)))))
   (nM (nV lF))
   mE)
   (nJ (lJ yD rfl (mT (pq 0)) (mP (i:=4) sc_7.nd rfl (Or.inl rfl))
   (nM (mF (kO (lP (nS o hr.mo T.F_o (nH (pq 4) (nH (pq 1) (nH (pq 3) nI))))))
   (nM (nV lF))
   mE)))
   (nM (nV lF)))),?_⟩
  show tSeq _ _ _ [some (.ref a),some (.ref l),some (.int many),some (.int most),none] H;have v:=mU g;right;refine⟨_,_,_,_,rfl,.ty (.lst b),rfl,T.h_q,?_⟩
  try ext
  refine⟨false,a,_,rfl,SqB.lst b,?_⟩
  try ext
  rw[zqe,v,r];rw[zM rfl];refine iteF ?_;subst e1;refine st λN1 e1=>lN λB eB=>?_;simp only[iSeq];ext;refine⟨false,⟨_,SqB.lst b⟩,?_⟩;refine jP (g:=nX 4) (tb:=B) (λi f c=>∃(d:Option V),f=[some (.ref a),some (.ref l),some (.int many),some (.int most),d]/\c=H) ⟨none,rfl,rfl⟩ (λ_ _ _ _⟨_,_,e⟩=>by rw[e];exact SqB.lst b) ?_ ?_
  ·rintro i z f c n ⟨d,rfl,rfl⟩;obtain⟨p,ep,rfl⟩:=jL n;obtain⟨j,k,m⟩:=kB g ep;obtain⟨l1,l2⟩:=u j (zqb k);subst eB;show tIfS _ _ _ _ [some (.ref a),some (.ref l),some (.int many),some (.int most),some (.ref p)] c;ext;exact⟨p,l,j,ys,most,rfl,m,hl,l1,l2,_,rfl,iteF rfl⟩
  ·rintro f c ⟨d,rfl,rfl⟩;symm;exact q
def sp_z(t:Adr):Sp:=λvs H Q _=>E2 λ(e:Addr)(od:Option Addr)=>A3 (vs=[.ref e]) (H e=some (iF e (.ref t.a_d) od)) (Q (.bl true) H)
theorem La{K:Frag}{C:Addr}{v:Value}(h:PySem.W.mroIn K C v=some true):(PySem.W.clsIn K C).isSome=true:=by
 unfold PySem.W.mroIn at h;cases e:PySem.W.clsIn K C with
 |none=>rw[e]at h;cases h
 |some c=>rfl
theorem ok_z(T:Txt K mg t):bQ P w K mg base 2 t.a_z t.d_z ["_law_e"] (sp_z t):=by
 refine T.F_z.okA sc_z (λvs H Q E h=>?_) (λcdv A outer s H vs Q E k h=>?_)
 ·obtain⟨e,od,rfl,_⟩:=h;rfl
 ·obtain⟨e,od,rfl,j,q⟩:=h;refine⟨_,(nJ (mF (PW.pt (lU (lP (mS kU rfl T.z_isinstance (nofun) (nH (pq 0) (nH (fY (v:=.ref t.a_1d) rfl T.m_1d rfl) nI)))) (kN (lP (mS kU rfl T.z_isinstance (nofun) (nH (pq 0) (nH (fY (v:=.ref t.a_1f) rfl T.m_1f rfl) nI)))))))
   (nM (nV lF))
   mE)
   (nJ (mF (PW.pt (lU (lP (mS kU rfl T.z_isinstance (nofun) (nH (pq 0) (nH (fY (v:=.ref t.a_1h) rfl T.m_1h rfl) nI)))) (kN (lP (mS kU rfl T.z_isinstance (nofun) (nH (pq 0) (nH (fY (v:=.ref t.a_1l) rfl T.m_1l rfl) nI)))))))
   (nM (nV lF))
   mE)
   (nM (nV (Bv (mS kU rfl T.z_isinstance (nofun) (nH (pq 0) (nH (fY (v:=.ref t.a_19) rfl T.m_19 rfl) nI))) (Bw (mS kU rfl T.z_isinstance (nofun) (nH (pq 0) (nH (jD (v:=.ty "ValueError") rfl T.z_ValueError (nofun) rfl) nI))))))))),?_⟩
  show tSeq _ _ _ [some (.ref e)] H;have a:∀{c:V}{d:Bool}{b:VK},Gh c=true->kitOne K (.ref t.a_d) (clsV c)=some d->b (.bl d) H->rIsi K [.ref e,c] H b:=λg i f=>⟨_,_,_,_,rfl,.exc j ⟨T.h_t,T.h_u,T.h_v,T.h_z,T.e_tk,T.h_w,T.h_x,La T.h_w⟩,g,i,f⟩;right;refine a rfl T.y_1d ?_
  try ext
  refine a rfl T.y_1f ⟨_,rfl,iteF ?_⟩;left;refine a rfl T.y_1h ?_
  try ext
  refine a rfl T.y_1l ⟨_,rfl,iteF ?_⟩;symm;refine a rfl T.y_19 ?_
  try ext
  refine a rfl T.h_y ?_
  try ext
  exact q
def wI(w:List Nat):LI':=w.map λn=>((n:Nat):Int)
def wD(w:List Nat):PyData:=.tuple ((wI w).map PyData.int)
theorem Zy(w:List Nat):wV w=(wI w).map V.int:=by
 unfold wV wI;rw[yW];rfl
theorem wD_t(w:List Nat):tT 4 (wD w)=true:=by
 show((wI w).map PyData.int).all (tT 3)=true;rw[uK];intro d a;obtain⟨i,_,rfl⟩:=nD.mp a;rfl
theorem Mz:∀{w w':List Nat},wI w=wI w'->w=w'
 |[],[],_=>rfl
 |[],_:: _,h=>by cases h
 |_:: _,[],h=>by cases h
 |a:: w,b:: w',h=>by
  have c:=List.head_eq_of_cons_eq h;have d:=List.tail_eq_of_cons_eq h;rw[Mz (w:=w) (w':=w') d,nA.mp c]
theorem My{w w':List Nat}(h:wD w=wD w'):w=w':=by
 unfold wD at h;rw[PyData.tuple.injEq]at h;have inj:∀{l c:LI'},l.map PyData.int=c.map PyData.int->l=c:=by
  intro l
  induction l with
  |nil=>intro c h;cases c with
   |nil=>rfl
   |cons=>cases h
  | cons a l d=>intro c h;cases c with
   |nil=>cases h
   |cons b c =>
    rw[zO,zO,xQ,PyData.int.injEq]at h;rw[h.1,d h.2]
 exact Mz (inj h)
theorem fD{K:Frag}{H:Hp}{p:Addr}{w:List Nat}(h:H p=some (.tup (wV w))):Dt K H (.ref p) (wD w):=by
 rw[Zy]at h;exact Dt.intsB (b:=true) (SqB.tup h)
theorem Mx(m d:Nat):HT.sIx m d (some (-1))=m-1:=by
 show(if(-1:Int)<0 then((-1:Int)+(m:Int)).toNat else min (-1:Int).toNat m)=m-1;rw[zF ∅];omega
theorem Zx{w:List Nat}{n:Nat}:cutV (wV (w++[n])) none (some (-1))=wV w:=by
 unfold cutV wV;rw[HT.sIx_none,oH,Mx,zqe,yA,yX];simp only[List.length_cons,List.length_nil];rw[show w.length+(0+1)-1-0=w.length by omega,List.take_append_of_le_length (by rw[zqe];exact zE _),yJ (by rw[zqe];exact zE _)]
theorem Mw{w:List Nat}{n:Nat}:¬ (HT.sIx (wV (w++[n])).length 0 none=0/\HT.sIx (wV (w++[n])).length (wV (w++[n])).length (some (-1))=(wV (w++[n])).length):=by
 rintro⟨_,h⟩;rw[Mx]at h;unfold wV at h;rw[zqe,yA]at h;simp only[List.length_cons,List.length_nil]at h;omega
def K2(kn md:Addr)(Hs H:Hp):Prop:=∀c o,c≠kn->c≠md->Hs c=some o->H c=some o
structure Kw(K:Frag)(d:Nat)(ss:List Dd)(W:List (List Nat))(kn md:Addr)(Hs:Hp)(kvs:List (PyData×V))(mvs:List (Key×V))(H:Hp):Prop where
 k:K2 kn md Hs H
 D:DTr K H kn kvs
 e:(vT kvs (wD [])).isSome=true
 w:∀w v,vT kvs (wD w)=some v->∃p,v=.ref p/\DdAt K H p (mX d ss w)
 m:H md=some (.dK mvs)
 v:∀(j:Nat) v,vI mvs (j:Int)=some v->∃p,v=.ref p/\DdAt K H p (mX d ss (W.getD j []))
theorem Kw.up{K:Frag}{d:Nat}{ss:List Dd}{f:List (List Nat)}{i g:Addr}{j H H':Hp}{kvs:List (PyData×V)}{b:List (Key×V)}(h:Kw K d ss f i g j kvs b H)(s:Same H H'):Kw K d ss f i g j kvs b H':=
 ⟨λc o k l e=>s _ _ (h.k c o k l e),h.D.up s,h.e,λw v e=>let ⟨p,e1,a⟩:=h.w w v e;⟨p,e1,a.up s⟩,s _ _ h.m,λw v e=>let ⟨p,e1,a⟩:=h.v w v e;⟨p,e1,a.up s⟩⟩
theorem Kw.ne{K:Frag}{d:Nat}{ss:List Dd}{f:List (List Nat)}{b a:Addr}{g H:Hp}{kvs:List (PyData×V)}{c:List (Key×V)}(h:Kw K d ss f b a g kvs c H):a≠b:=λz=>by
 obtain⟨xs,e,_⟩:=h.D.ex;rw[←z,h.m]at e;cases e
theorem Kw.put{K:Frag}{d:Nat}{ss:List Dd}{k:List (List Nat)}{a b:Addr}{m H H':Hp}{kvs:List (PyData×V)}{i:List (Key×V)}(h:Kw K d ss k a b m kvs i H){w:List Nat}{r:Addr}(hr:DdAt K H r (mX d ss w))(g:∀c,c≠a->H' c=H c)(D:DTr K H' a (pT kvs (wD w) (.ref r))):Kw K d ss k a b m (pT kvs (wD w) (.ref r)) i H':=by
 have tk:TK K H H':=Aa h.D λc o n e=>by rw[g c n];exact e
 refine⟨λc o l u e=>by rw[g c l];exact h.k c o l u e,D,?_,λw' v e=>?_,by rw[g b h.ne];exact h.m,λj v e=>let ⟨p,e1,f⟩:=h.v j v e;⟨p,e1,f.tk tk⟩⟩
 ·rw[Fy];split
  ·rfl
  ·exact h.e
 ·rw[Fy]at e;split at e
  ·next q =>
   cases e;rw[My q];exact⟨r,rfl,hr.tk tk⟩
  ·obtain⟨p,e1,f⟩:=h.w w' v e;exact⟨p,e1,f.tk tk⟩
theorem Kw.set{K:Frag}{d:Nat}{ss:List Dd}{f:List (List Nat)}{l b:Addr}{m H:Hp}{kvs:List (PyData×V)}{a:List (Key×V)}(h:Kw K d ss f l b m kvs a H){k:Nat}{r:Addr}(hr:DdAt K H r (mX d ss (f.getD k [])))(u:vI a (k:Int)=none):Kw K d ss f l b m kvs (a++[(Sum.inl (k:Int),.ref r)]) (upd H b (.dK (a++[(Sum.inl (k:Int),.ref r)]))):=by
 have tk:TK K H (upd H b (.dK (a++[(Sum.inl (k:Int),.ref r)]))):=TK.off h.m (λ_ z=>by cases z) (λ_ _ z=>by cases z) λc n=>nO n;refine⟨λc o x i e=>by rw[nO i];exact h.k c o x i e,DTr.tk h.D tk (nO (zT h.ne)),h.e,λw v e=>let ⟨p,e1,g⟩:=h.w w v e;⟨p,e1,g.tk tk⟩,nN,λj v e=>?_⟩;rw[Dv u]at e;split at e
 ·next q =>
  cases e;rw[nA.mp q];exact⟨r,rfl,hr.tk tk⟩
 ·obtain⟨p,e1,g⟩:=h.v j v e;exact⟨p,e1,g.tk tk⟩
def sp_2(K:Frag):Sp:=λvs H Q _=>E6 λ(a l:Addr)(W:List (List Nat))(qs:LA)(ms:List Dd)(d:Nat)=>A8 (vs=[.ref a,.ref l,.int d]) (iB H a W) (H l=some (.lst (qs.map V.ref))) (Paired (DdS K H) qs ms) (kS d ms) (W.length<=201) ((∀w∈W,w.length<=200/\∀n∈w,n<ms.length)) (∀r ps H',Same H H'->H r=none->H' r=some (.lst (ps.map V.ref))->Paired (DdAt K H') ps (W.map (mX d (ms.map nQ)))->Q (.ref r) H')
def PrR(W:List (List Nat))(c:Addr)(k:Nat)(y:V)(H:Hp):Prop:=∃p,y=.ref p/\p≠c/\H p=some (.tup [.int ((W.getD k []).length:Nat),.int (k:Nat)])
theorem Mv{b:List (List Nat)}{c:Addr}{H:Hp}:∀{ys:List V}{n0:Nat},(∀(j:Nat) y,ys[j]?=some y->PrR b c (n0+j) y H)->∃zs:List (Addr×Nat),ys=zs.map (λz=>V.ref z.1)/\zs.map (·.2)=List.range' n0 ys.length/\∀z∈zs,H z.1=some (.tup [.int ((b.getD z.2 []).length:Nat),.int (z.2:Nat)])
 |[],_,_=>⟨[],rfl,rfl,λ_ h=>(by cases h)⟩
 | y:: ys,n0,h=>by
  obtain⟨p,e1,_,i⟩:=h 0 y rfl;obtain⟨zs,d,g,k⟩:=Mv (ys:=ys) (n0:=n0+1) λj f e=>by
   have:=h (j+1) f (by simpa using e)
   rwa[show n0+(j+1)=n0+1+j by omega]at this
  refine⟨(p,n0):: zs,by rw[e1,d];rfl,?_,λz a=>?_⟩
  ·rw[zO,g,zR,List.range'_succ]
  ·rcases xM.mp a with rfl|a
   ·exact i
   ·exact k z a
def prD(W:List (List Nat))(z:Addr×Nat):V×PyData:=(V.ref z.1,.tuple [.int ((W.getD z.2 []).length:Nat),.int (z.2:Nat)])
theorem ok_2(T:Txt K mg t):FnOk P w K mg base CX0 6 t.a_2 t.d_2 pg' (sp_2 K):=by
 have j0:=@ok_c P w K mg base t T;have p5:=@ok_6 P w K mg base t T;apply T.F_2.ok sc_2
 ·have X:=hr.units;obtain⟨a,l,f,d6,ms,d,rfl,⟨k6,d1,h1⟩,hl,c8,D,q3,n7,n0⟩:=h;refine⟨_,(nJ (nU (i:=3) sc_2.nd rfl (Or.inl rfl) (Hh X (kQ nI) (nS j0 hr.mo T.F_c (nH (mQ nI) (nH (pq 1) (nH (pq 2) nI))))))
   (nJ (nU (i:=4) sc_2.nd rfl (Or.inr rfl) Ub)
   (nJ (lJ yD rfl (mT (mS (Vv (N:=201) Jl X) rfl T.z_sorted (nofun) (nH (lE (sc:=nP s_2) (N:=N_2) (fr:=[("_law_words",0)]) (te:=(tTup (mH (tCB (eT K) (mH (tOp (rIxB K) (tVar 1) (tVar 0)) tNil)) (mH (tVar 0) tNil)))) rfl rfl (nofun) rfl (nofun) (lG rfl T.z_range (nH (lC T.z_len (pq 0)) nI)) (λ_ _ _ p7=>(kQ (nH (lC T.z_len (mG ix_B (pv 1) (pv 0) (λ_ _=>rfl))) (nH (pv 0) nI))))) nI))) (gO rfl (kP (mP (i:=5) sc_2.nd rfl (Or.inl rfl)) (kP (mP (i:=6) sc_2.nd rfl (Or.inl rfl)) gN)))
   (nJ (nU (i:=7) sc_2.nd rfl (Or.inl rfl) (lK jX rfl T.z_tuple (nofun) (nH (mG ix_B (pq 0) (pq 6) (λ_ _=>rfl)) nI)))
   (nJ (mF (PW.pt (Ft (mB (aI X) (pq 7) (pq 3) rfl) (Fu (mB (Ri X) (cD sl_B (pq 7) bN (eG (fF fG nK))) (pq 3) rfl))))
   (nM (jS (nS p5 hr.mo T.F_6 (nH (mG (ix_T X) (pq 3) (cD sl_B (pq 7) bN (eG (fF fG nK))) (λ_ _=>rfl)) (nH (mG ix_B (pq 1) (mG ix_B (pq 7) (fF fG nK) (λ_ _=>rfl)) (λ_ _=>rfl)) nI))) (iE (pq 3) (pq 7) (cM X))))
   mE)
   (nJ (mF (mB (aI X) (pq 7) (pq 3) rfl)
   (nM (jS (nS j0 hr.mo T.F_c (nH (pq 7) (nH (pq 1) (nH (pq 2) nI)))) (iE (pq 3) (pq 7) (cM X))))
   mE)
   (nM (jS (mG (ix_T X) (pq 3) (pq 7) (λ_ _=>rfl)) (iE (pq 4) (pq 6) Ua)))))))
   (nM (nV (lE (sc:=nP s_2) (N:=N_2) (fr:=[("_law_made",4)]) (te:=(tOp Jy (tVar 1) (tVar 0))) rfl rfl (nofun) rfl (nofun) (lG rfl T.z_range (nH (lC T.z_len (pq 0)) nI)) (λ_ _ _ p7=>(mG ix_I (pv 1) (pv 0) (λ_ _=>rfl))))))))),?_⟩
  show tSeq _ _ _ [some (.ref a),some (.ref l),some (.int d),none,none,none,none,none] H;have p4:=D.1;have l3:=mU h1;refine st λN1 e1=>?_;simp only[Cp];ext;intro g h8;have i2:Same H (upd H g (lD g [])):=Same.new h8;have e9:(upd H g (lD g [])) g=some (lD g []):=nN;generalize upd H g (lD g [])=d0 at*
  refine⟨zY _,λb3 l7=>?_⟩;have W:Same d0 (upd d0 b3 (.tup [])):=Same.new l7;have ep:(upd d0 b3 (.tup [])) b3=some (.tup (wV [])):=nN;generalize upd d0 b3 (.tup [])=N at*
  refine⟨zY _,λb8 d4=>?_⟩;have f2:Same N (upd N b8 (.lst [])):=Same.new d4;have i4:(upd N b8 (.lst [])) b8=some (.lst (wV [])):=nN;generalize upd N b8 (.lst [])=j1 at*
  have c9:=(i2.trans W).trans f2;refine⟨false,b8,l,[],d6,ms,d,rfl,SqB.lst i4,c9 _ _ hl,Paired.mapP c8 λ_ _ z=>z.up c9,D,zY _,λ_ h=>(by cases h),λc6 o9 g9 j4=>?_⟩;have d2:=f2.trans g9;refine⟨b3,wD [],rfl,wD_t [],fD (d2 _ _ ep),d2 _ _ (W _ _ e9),λa3 f1 h9=>?_⟩;have e0:∀c o,H c=some o->c≠g:=λc o e z=>by rw[z,h8]at e;cases e
  have h0:Same H a3:=λc o e=>by rw[f1 c (e0 c o e)];exact g9 _ _ (c9 _ _ e)
  have l6:TK K o9 a3:=TK.off (d2 _ _ (W _ _ e9)) (λ_ z=>by cases z) (λ_ _ z=>by cases z) f1;have l0:DdAt K a3 c6 (mX d (ms.map nQ) []):=j4.tk l6;clear l6 j4 d2 g9 c9 f2 i4 d4 W ep l7 i2 e9 f1;subst e1;refine st λN1 e1=>?_;simp only[Jz];ext;intro C h3;have c5:Same a3 (upd a3 C (.dK [])):=Same.new h3;have a5:(upd a3 C (.dK [])) C=some (.dK []):=nN;generalize upd a3 C (.dK [])=r0 at*
  have c0:=h0.trans c5;have q1:H C=none:=Aj h0 h3;have k5:∀c o,H c=some o->c≠C:=λc o e z=>by rw[z,q1]at e;cases e
  have g7:=h9.up c5;have h6:=l0.up c5;subst e1;refine st λN1 e1=>lN λB eB=>?_;simp only[iSeq];ext;refine mK λq5 o7=>?_;simp only[mY];ext;refine⟨false,a,_,rfl,SqB.lst (c0 _ _ d1),?_⟩
  try ext
  rw[zqe,l3];refine⟨⋯,⋯,λc i5=>?_⟩;rw[zS];refine jG (len:=f.length) (PrR f c) i5 ⋯ (λ_ _ _ _⟨p,e,n,h⟩m7=>⟨p,e,n,m7 _ _ n h⟩) ?_ ?_
  ·intro k h4 zs U O a4 f8 g4;obtain⟨u,a6⟩:∃u,f[k]?=some u:=⟨_,zqd U⟩;obtain⟨a0,b4⟩:∃a0,k6[k]?=some a0:=⟨_,zqd ⋯⟩;obtain⟨w',b2,g1⟩:=kB h1 b4;rw[a6]at b2;cases b2;subst o7;show tTup _ [some (.int (0+(k:Int))),some (.ref a)] h4 f8;ext;refine jC (i:=k) (O _ _ (c0 _ _ d1)) (by rw[zH,b4];rfl) ⋯ ?_;refine⟨false,a0,_,rfl,SqB.lst (O _ _ (c0 _ _ g1)),?_⟩
   try ext
   refine⟨by show 2<=sizeLine;decide,λp g6=>?_⟩;have d5:f.getD k []=u:=by rw[zqc,a6];rfl
   refine g4 _ _ (Same.new g6) ⟨p,rfl,(λz=>by rw[z,a4]at g6;cases g6),?_⟩;rw[nN,d5,zqe,rT]
  ·intro h4 ys O k9 g3 l1;obtain⟨zs,rfl,b6,f3⟩:=Mv (n0:=0) (by simpa using l1);rw[g3]at b6;have m4:zs.length=f.length:=by simpa using g3
   refine⟨c,zs.map (prD f),0,[.int 0],rfl,by rw[zqe];omega,SqL.of (by rw[k9,yW];rfl),λq g8=>?_,λe8 r4 L ss f9 m0 Y _=>?_⟩
   ·obtain⟨z,G,rfl⟩:=nD.mp g8;exact⟨rfl,rfl,Dt.tup (SqT.of (f3 z G)) (.cons (.int _) (.cons (.int _) .nil))⟩
   obtain⟨srt,a7,rfl⟩:=Em Y;have k1:=(c0.trans O).trans ss;have f7:∀z∈srt,L z.1=some (.tup [.int ((f.getD z.2 []).length:Nat),.int (z.2:Nat)]):=λz G=>ss _ _ (f3 z (a7.mem_iff.mp G));have o2:(srt.map (·.2)).Nodup:=((a7.map _).nodup_iff).mpr (by rw[b6];exact List.nodup_range');have p0:∀k,k<f.length->k∈srt.map (·.2):=λk U=>((a7.map _).mem_iff).mpr (by rw[b6];exact List.mem_range'.mpr ⟨k,U,⋯⟩);have n9:∀z∈srt,z.2<f.length:=λz G=>by
    have:z.2∈zs.map (·.2):=nD.mpr ⟨z,a7.mem_iff.mp G,rfl⟩;rw[b6]at this;obtain⟨j,M,e⟩:=List.mem_range'.mp this;omega
   have j9:=(g7.up O).up ss;have k4:=(h6.up O).up ss;have k7:=ss _ _ (O _ _ a5);have d4:∀w v,vT [(wD [],V.ref c6)] (wD w)=some v->∃p,v=.ref p/\DdAt K L p (mX d (ms.map nQ) w):=λw v e=>by
    by_cases q:wD []=wD w
    ·rw[jI q]at e;cases e;rw[←My q];exact⟨c6,rfl,k4⟩
    ·rw[jJ q]at e;cases e
   have k0:Kw K d (ms.map nQ) f g C L [(wD [],.ref c6)] [] L:=⟨λ_ _ _ _ e=>e,j9,by rw[jI rfl];rfl,d4,k7,λj v e=>by cases e⟩;have o3:e8≠g:=λz=>by
    obtain⟨xs,e,_⟩:=(g7.up O).ex;rw[←z,f9]at e;cases e
   have p9:e8≠C:=λz=>by rw[z,O _ _ a5]at f9;cases f9
   have m6:∀p xs,L p=some (.tup xs)->p≠g:=λp xs e z=>by
    obtain⟨ys,b9,_⟩:=k0.D.ex;rw[←z,e]at b9;cases b9
   have n2:∀p xs,L p=some (.tup xs)->p≠C:=λp xs e z=>by
    have:=k0.m;rw[←z,e]at this;cases this
   clear j9 k4 k7 g7 h6 a5 c5 h0 l0 h9 h3 Y k9 l1 g3 b6 f3 i5 O ss c0;refine⟨false,e8,rfl,⟨_,SqB.lst m0⟩,?_⟩;refine jP (g:=gTup K 2 (kC (nX 5) (kC (nX 6) gNil))) (tb:=B) (λi d8 a1=>∃(e7 g5 d3:Option V)(kvs:List (PyData×V))(I:List (Key×V)),d8=[some (.ref a),some (.ref l),some (.int d),some (.ref g),some (.ref C),e7,g5,d3]/\Kw K d (ms.map nQ) f g C L kvs I a1/\kvs.length<=1+2*i/\I.length<=i/\(∀j:Nat,(vI I (j:Int)).isSome=true->j∈(srt.take i).map (·.2))/\∀z∈srt.take i,(vI I (z.2:Int)).isSome=true) ⟨none,none,none,_,[],rfl,k0,by simp,by simp,λj h=>(by cases h),λz G=>by simp at G⟩ (λ_ _ _ _⟨_,_,_,_,_,_,S,_⟩=>SqB.lst (S.k _ _ o3 p9 m0)) ?_ ?_
   ·rintro i y d8 a1 l8 ⟨e7,g5,d3,kvs,I,rfl,S,m9,o5,e2,f6⟩;rw[yW]at l8;obtain⟨⟨p,k⟩,a4,rfl⟩:=jL l8;have G:=zqb a4;have U:k<f.length:=n9 _ G;have hi:i<201:=by have:=(zqa a4).1;have:=a7.length_eq;omega
    have hsz:1000<=sizeLine:=∅
    have o6:=S.k p _ (m6 p _ (f7 _ G)) (n2 p _ (f7 _ G)) (f7 _ G);refine⟨p,[.int ((f.getD k []).length:Nat),.int (k:Nat)],rfl,SqT.of o6,rfl,_,[.int k],rfl,_,[],rfl,rfl,?_⟩;have c7:vI I (k:Int)=none:=by
     cases q:vI I (k:Int) with
     |none=>rfl
     |some v =>
      have b1:=e2 k (by rw[q];rfl);obtain⟨j,M⟩:=xW b1;have o0:j<i:=by have:=(zqa M).1;simp at this;omega
      rw[zH,wE o0,←zH]at M;have c3:(srt.map (·.2))[i]?=some k:=by rw[zH,a4];rfl
      have:=(sW (zqa M).1 o2).mp (M.trans c3.symm);omega
    obtain⟨u,a6⟩:∃u,f[k]?=some u:=⟨_,zqd U⟩;obtain⟨a0,b4⟩:∃a0,k6[k]?=some a0:=⟨_,zqd ⋯⟩;obtain⟨w',b2,g1⟩:=kB h1 b4;rw[a6]at b2;cases b2;have d5:f.getD k []=u:=by rw[zqc,a6];rfl
    obtain⟨i8,d9⟩:=n7 u (zqb a6);have c2:∀{H' J g0}{b:Addr}{o:HO},Kw K d (ms.map nQ) f g C L J g0 H'->H b=some o->H' b=some o:=λk' e=>k'.k _ _ (e0 _ _ e) (k5 _ _ e) (k1 _ _ e);have j8:∀{H' J g0},Kw K d (ms.map nQ) f g C L J g0 H'->Same H H':=λk' b o e=>c2 k' e;subst eB;show tSeq _ _ _ [some (.ref a),some (.ref l),some (.int d),some (.ref g),some (.ref C),some (.int ((f.getD k []).length:Nat)),some (.int k),d3] a1;refine st λl4 c3=>?_;ext;refine jC (i:=k) (c2 S d1) (by rw[zH,b4];rfl) rfl ?_;refine⟨a0,wV u,rfl,.inl ⟨SqL.of (c2 S g1),λq g8=>?_⟩⟩;have c1:=Same.new (o:=.tup (wV u)) g8;have b0:(upd a1 q (.tup (wV u))) q=some (.tup (wV u)):=nN;have Z:=S.up c1;generalize upd a1 q (.tup (wV u))=a2 at*
    have i6:∀{H':Hp}{J:List (PyData×V)},DTr K H' g J->H' q=some (.tup (wV u))->q≠g:=λo8 e z=>by
     obtain⟨xs,b9,_⟩:=o8.ex;rw[←z,e]at b9;cases b9
    subst c3;refine st λl4 c3=>?_;have g2:∀J H',Kw K d (ms.map nQ) f g C L J I H'->J.length<=2+2*i->H' q=some (.tup (wV u))->l4 [some (.ref a),some (.ref l),some (.int d),some (.ref g),some (.ref C),some (.int ((f.getD k []).length:Nat)),some (.int k),some (.ref q)] H':=by
     intro J H' k' q7 a8;subst c3;refine st λo1 m2=>?_;have h5:∀b7 N r,Kw K d (ms.map nQ) f g C L b7 I N->b7.length<=3+2*i->N q=some (.tup (wV u))->vT b7 (wD u)=some r->o1 [some (.ref a),some (.ref l),some (.int d),some (.ref g),some (.ref C),some (.int ((f.getD k []).length:Nat)),some (.int k),some (.ref q)] N:=by
      intro b7 N r k2 l2 p3 R;subst m2;simp only[tAsg,gSub];ext;obtain⟨pr,rfl,e4⟩:=k2.w _ _ R;refine fV k2.D (wD_t _) (fD p3) R ?_
      try ext
      refine⟨C,I,k,rfl,rfl,k2.m,c7,⋯,?_⟩;have k3:=k2.set (k:=k) (by rw[d5];exact e4) c7;refine⟨b7,_,k3,⋯,by rw[yA];simp;omega,λj M=>?_,λz j6=>?_⟩
      ·rw[Dv c7]at M;rw[yY,a4,yX,oW];split at M
       ·next f0=>refine .inr ?_;rw[nA.mp f0];simp
       ·exact .inl (e2 j M)
      ·rw[Dv c7];split
       ·rfl
       ·next f0 =>
        rw[yY,a4]at j6;rcases oW.mp j6 with h|h
        ·exact f6 z h
        ·exact absurd (by rw[show z=(p,k) by simpa using h]) f0
     ext;refine cY k'.D (wD_t _) (fD a8) ?_;cases R:vT J (wD u) with
     |some r =>
      try ext
      exact h5 J H' r k' ⋯ a8 R
     |none =>
      try ext
      rw[zF (by rfl)];refine⟨true,q,l,u,d6,ms,d,rfl,SqB.tup a8,c2 k' hl,Paired.mapP c8 λ_ _ z=>z.up (j8 k'),D,i8,d9,λr N W n8=>?_⟩;simp only[gSub];ext;have k2:=k'.up W;refine⟨g,J,q,wD u,rfl,rfl,k2.D,wD_t _,fD (W _ _ a8),⋯,λj1 _ i7 n3=>?_⟩;exact h5 _ j1 (.ref r) (k2.put n8 i7 n3) (yC (Cr _ _ _) ⋯) (by rw[i7 q (i6 k2.D (W _ _ a8))];exact W _ _ a8) (by rw[Fy,zF rfl])
    ext;refine cY Z.D (wD_t _) (fD b0) ?_;cases R:vT kvs (wD u) with
    |some r =>
     try ext
     exact g2 kvs a2 Z ⋯ b0
    | none =>
     try ext
     rw[zF (by rfl)];obtain⟨F,n,rfl⟩:∃F n,u=F++[n]:=by
      cases u with
      |nil=>have:=Z.e;rw[R]at this;cases this
      |cons x xs=>exact⟨_,_,(List.dropLast_concat_getLast (List.cons_ne_nil x xs)).symm⟩
     have j7:seqO true (cutV (wV (F++[n])) none (some (-1)))=.tup (wV F):=by rw[Zx];rfl
     refine⟨true,q,_,rfl,SqB.tup b0,λ_=>Mw,λf4 m5=>?_⟩;rw[j7];have c4:=Same.new (o:=.tup (wV F)) m5;have q2:(upd a2 f4 (.tup (wV F))) f4=some (.tup (wV F)):=nN;have e3:=Z.up c4;generalize upd a2 f4 (.tup (wV F))=d7 at*
     refine cY e3.D (wD_t F) (fD q2) ?_;cases ev2:vT kvs (wD F) with
     |none=>exact⟨_,rfl,iteF (g2 kvs d7 e3 ⋯ (c4 _ _ b0))⟩
     |some r =>
      refine⟨_,rfl,iteT ?_⟩;refine⟨true,q,_,rfl,SqB.tup (c4 _ _ b0),λ_=>Mw,λf5 p8=>?_⟩;rw[j7];have k8:=Same.new (o:=.tup (wV F)) p8;have m1:(upd d7 f5 (.tup (wV F))) f5=some (.tup (wV F)):=nN;have b5:=e3.up k8;have j5:=k8 _ _ (c4 _ _ b0);generalize upd d7 f5 (.tup (wV F))=q4 at*
      obtain⟨pr,rfl,e4⟩:=b5.w _ _ ev2;refine fV b5.D (wD_t F) (fD m1) ev2 ?_;refine⟨true,q,_,_,_,rfl,rfl,SqB.tup j5,(show atI (wV (F++[n])) (-1)=some (V.int (n:Nat)) by unfold wV;rw[yX];exact Oq _ _),?_⟩;have l5:=d9 n (yP _ (.head _));obtain⟨m,a5⟩:∃m,ms[n]?=some m:=⟨_,zqd l5⟩;obtain⟨m3,i3⟩:∃q,d6[n]?=some q:=⟨_,zqd (by rw[mU c8];exact l5)⟩;obtain⟨q8,i9,m8⟩:=kB c8 i3;rw[a5]at i9;cases i9;have lt:F.length<=201:=by rw[yA]at i8;omega
      have i0:∀j∈F,j<ms.length:=λj M=>d9 j (xI _ M);obtain⟨_,a9,_⟩:=D.word lt i0;have Y:=D.pr m (zqb a5);refine jC (i:=n) (c2 b5 hl) (by rw[zH,i3];rfl) rfl ?_;refine⟨pr,m3,_,m,d,rfl,e4.s,m8.up (j8 b5),p4,a9.sq,Y.sq,a9.len,Y.len,a9.pos,Y.pos,a9.bm,Y.bm,a9.bt,Y.bt,a9.bu,Y.bu,λr2 q6 i1 j3=>?_⟩;rw[D.step lt i0 a5]at j3;simp only[gSub];ext;have e5:=b5.up i1;have h2:=i1 _ _ j5;refine⟨g,kvs,q,wD (F++[n]),rfl,rfl,e5.D,wD_t _,fD h2,⋯,λp6 _ j2 n6=>?_⟩;exact g2 _ p6 (e5.put j3 j2 n6) (yC (Cr _ _ _) ⋯) (by rw[j2 q (i6 e5.D h2)];exact h2)
   ·rintro d8 a1 ⟨e7,g5,d3,kvs,I,rfl,S,m9,o5,e2,f6⟩;symm;refine mK λB eB=>?_;simp only[mY];ext;have e6:Same H a1:=λb o e=>S.k _ _ (e0 _ _ e) (k5 _ _ e) (k1 _ _ e);refine⟨false,a,_,rfl,SqB.lst (e6 _ _ d1),?_⟩
    try ext
    rw[zqe,l3];refine⟨⋯,⋯,λh7 l9=>?_⟩;rw[zS];refine jG (len:=f.length) (DdR K h7 (f.map (mX d (ms.map nQ)))) l9 ⋯ DdR.mono ?_ ?_
    ·intro k a2 r1 U c1 o4 f8 g4;have Z:=S.up c1;obtain⟨z,G,p2⟩:=nD.mp (p0 k U);have r3:srt.length=f.length:=by rw[a7.length_eq];exact m4
     have b1:=f6 z (by rw[zqe,zqe,yJ (zE _)];exact G);rw[p2]at b1;cases R:vI I (k:Int) with
     |none=>rw[R]at b1;cases b1
     |some v =>
      obtain⟨p,rfl,n4⟩:=Z.v k v R;subst eB;show tOp _ _ _ [some (.int (0+(k:Int))),some (.ref C)] a2 f8;ext;refine⟨C,I,k,.ref p,rfl,by rw[rT],Z.m,R,?_⟩;refine g4 _ _ (Same.refl _) ⟨p,_,rfl,?_,DdAt.tk n4 (Er o4)⟩;rw[zH,zqd U,zqc,zqd U];rfl
    ·intro a2 q9 c1 q0 p1 n1;obtain⟨ps,rfl,n5⟩:=Jb (by rw[p1,zqe]) n1;exact n0 h7 ps a2 (e6.trans c1) (Aj e6 l9) q0 n5
def keyT(R:List Dd):List (PyData×V):=R.map λx=>(dat x,V.bl true)
theorem Mu{x:Dd}:∀{R:List Dd},(vT (keyT R) (dat x))=if x∈R then some (.bl true) else none
 |[]=>rfl
 | y:: R=>by
  show vT ((dat y,V.bl true):: keyT R) (dat x)=_
  by_cases h:y=x
  ·rw[jI (by rw[h]),zF (by rw[h];exact .head _)]
  ·rw[jJ (λq=>h (fU.mp q)),Mu]
   by_cases a:x∈R
   ·rw[zF a,zF (.tail _ a)]
   ·rw[zD a,zD (λq=>by rcases xM.mp q with q|q;exact h q.symm;exact a q)]
theorem Zw{x:Dd}{R:List Dd}(h:x∉R):pT (keyT R) (dat x) (.bl true)=keyT (R++[x]):=by
 unfold pT;rw[Mu,zD h];unfold keyT;rw[yX];rfl
def sp_y(K:Frag):Sp:=λvs H Q _=>E7 λ(a l:Addr)(tb:Tb)(qs:LA)(ms:List Dd)(d most:Nat)=>A10 (vs=[.ref a,.ref l,.int d,.int most]) (iB H a (tb.map (·.2))) (H l=some (.lst (qs.map V.ref))) (Paired (DdS K H) qs ms) (kS d ms) (most<=200) (tb.length=most+1) ((tb.map (·.1)).Nodup) ((∀y∈tb,WdOk d (ms.map nQ) y/\y.2.length<=most)) (∀H',Same H H'->Q (.bl true) H')
theorem ok_y(T:Txt K mg t):FnOk P w K mg base CX0 7 t.a_y t.d_y pd' (sp_y K):=by
 have b0:=@ok_7 P w K mg base t T;have a6:=@ok_2 P w K mg base t T;apply T.F_y.ok sc_y
 ·have b1:=hr.units;obtain⟨a,l,tb,a1,ms,d,most,rfl,S,hl,R,D,a2,b2,nd,F,b3⟩:=h;refine⟨_,(nJ (mF (kO (lP (nS b0 hr.mo T.F_7 (nH (pq 0) (nH (pq 1) (nH (nR lH (pq 3) nK) (nH (pq 3) nI)))))))
   (nM (nV lF))
   mE)
   (nJ (nU (i:=4) sc_y.nd rfl (Or.inl rfl) Hi)
   (nJ (lJ yD rfl (mT (nS a6 hr.mo T.F_2 (nH (pq 0) (nH (pq 1) (nH (pq 2) nI))))) (mP (i:=5) sc_y.nd rfl (Or.inl rfl))
   (nM (jS lF (iE (pq 4) (pq 5) (cM b1)))))
   (nM (nV (dW kK (mS Vr rfl T.z_len (nofun) (nH (pq 4) nI)) (nR lH (pq 3) nK) (mD _))))))),?_⟩
  show tSeq _ _ _ [some (.ref a),some (.ref l),some (.int d),some (.int most),none,none] H;have lq:=mU R;have k:∀w∈tb.map (·.2),w.length<=most/\∀n∈w,n<ms.length:=λw f=>by
   obtain⟨y,u,rfl⟩:=nD.mp f;refine⟨(F y u).2,λn v=>?_⟩;have:=(F y u).1.2 n v
   rwa[zqe]at this
  have b6:(tb.map (·.2)).map (mX d (ms.map nQ))=tb.map (·.1):=by
   rw[yW];exact xS λy u=>(F y u).1.1.symm
  right;refine⟨a,l,tb.map (·.2),_,most+1,most,rfl,S,hl,by rw[zqe,b2],λw f=>⟨(k w f).1,λn v=>by rw[zqe,lq];exact(k w f).2 n v⟩,_,rfl,iteF ?_⟩;left;simp only[Cq]
  try ext
  intro b U M;have m:Same H (upd H b (lD b [])):=Same.new U;generalize upd H b (lD b [])=b8 at*
  subst e1;refine st λN1 e1=>lN λB eB=>?_;simp only[iSeq];ext;refine⟨a,l,tb.map (·.2),a1,ms,d,rfl,S.up m,m _ _ hl,Paired.mapP R λ_ _ z=>z.up m,D,by rw[zqe];omega,λw f=>⟨yC (k w f).1 a2,(k w f).2⟩,λr ps a3 L a7 W G=>?_⟩;rw[b6]at G;have a5:=mU G;rw[zqe]at a5;have a8:r≠b:=λz=>by
   obtain⟨xs,e,_⟩:=M.ex;rw[←z,a7]at e;cases e
  have Y:=M.up L;refine⟨false,r,rfl,⟨_,SqB.lst W⟩,?_⟩;refine jP (g:=nX 5) (tb:=B) (λi I g=>∃(J:Option V),I=[some (.ref a),some (.ref l),some (.int d),some (.int most),some (.ref b),J]/\KX b a3 g/\DTr K g b (keyT ((tb.map (·.1)).take i))) ⟨none,rfl,λ_ _ _ e=>e,Y⟩ (λ_ _ _ _⟨_,_,k3,_⟩=>SqB.lst (k3 _ _ a8 W)) ?_ ?_
  ·rintro i y I g b5 ⟨J,rfl,k3,C⟩;obtain⟨q,O,rfl⟩:=jL b5;obtain⟨x,a0,a9⟩:=kB G O;have b4:=DdAt.tk a9 (Aa Y k3);have hi:i<201:=by have:=(zqa O).1;omega
   have hsz:1000<=sizeLine:=∅
   have nx:x∉(tb.map (·.1)).take i:=λh=>by
    obtain⟨j,p⟩:=xW h;have b7:j<i:=by have:=(zqa p).1;simp at this;omega
    rw[wE b7]at p;have:=(sW (zqa p).1 nd).mp (p.trans a0.symm);omega
   have Z:(keyT ((tb.map (·.1)).take i)).length<=i:=by unfold keyT;rw[zqe,yG];omega
   subst eB;show tAsg _ _ _ [some (.ref a),some (.ref l),some (.int d),some (.int most),some (.ref b),some (.ref q)] g;simp only[tAsg,gSub];ext;refine⟨b,_,q,dat x,rfl,rfl,C,kH x,DdAt.dt b4,⋯,λb9 a4 _ N=>?_⟩;rw[Zw nx]at N;refine⟨λc o X e=>a4 c o X (k3 c o X e),?_⟩;rw[yY,a0];exact N
  ·rintro I g ⟨J,rfl,k3,C⟩;symm;refine⟨b,_,rfl,C,?_⟩
   try ext
   have Z:(keyT ((tb.map (·.1)).take (ps.map V.ref).length)).length=most+1:=by
    unfold keyT;rw[zqe,zqe,yG,zqe];omega
   rw[Z,zM ⋯];exact b3 g (fX (m.trans L) U k3)
theorem Zv{M:LM}{ts:LI'}{U:Int}(e:0<U):canD (canD M ts U).1 (canD M ts U).2.1 (canD M ts U).2.2=canD M ts U:=by
 obtain⟨c,d,e1,g,a⟩:=Ei (ts:=ts) e;have f:canD M (lR (redU U ts) (redT U ts)) (redU U ts)=canD M (redT U ts) (redU U ts):=(Kl a (Cong.rest a _)).symm;have b:canD M (smul c (redT U ts)) (c*redU U ts)=canD M (redT U ts) (redU U ts):=bE a d;rw[←e1,←g]at b;exact f.trans b.symm
theorem kS.can{d:Nat}{ms:List Dd}(h:kS d ms){w:List Nat}(hl:w.length<=201)(f:∀n∈w,n<ms.length){x:Dd}(b:x=mX d (ms.map nQ) w):canD x.1 x.2.1 x.2.2=x:=by
 obtain⟨_,j,F,rfl,a,i⟩:=h;have c:=Ef a (λs g=>(i s g).1);obtain⟨R,_,_,ts,_,e⟩:=Fx c w.length w rfl hl f;rw[←b]at e;rw[e];exact Zv a.u0
section
variable {tt:TOx} {fr:List (Str×Nat)} {σ:St} {a:Addr} {H:Hp} {Q:VK}
theorem Zu{b:Bool}{l:Addr}{xs:List V}(P:Nat->List V->Hp->Prop)(g:H a=none)(e:SqB b K H l xs)(q:xs.length<=1000)(v:P 0 [] (upd H a (.lst [])))
  (hl:∀i zs c,P i zs c->zs.length<=i)(mono:∀i zs c d,P i zs c->jO a c d->P i zs d)
  (F:∀i x c zs,xs[i]?=some x->Same H c->c a=some (.lst zs)->P i zs c->∀C:Option V->Hp->Prop,
   (∀y d,Same c d->P (i+1) (zs++[y]) d->C (some y) d)->(∀d,Same c d->P (i+1) zs d->C none d)->tt (some x:: lV fr σ) c C)
  (m:∀c ys,Same H c->c a=some (.lst ys)->P xs.length ys c->Q (.ref a) c):kL (Its K b l) (nX 0) tt 1 fr σ a H Q:=by
 refine aB xs.length P g q v hl mono (λi c hi s=>Its.go (e.up s) (x:=xs[i]) (by simp[hi])) (λc s=>Its.stop (e.up s) (zE _)) ?_ m;intro i c zs hi f j p ys x k r n C u D;obtain⟨e1,z⟩:=Its.yld (e.up f) n;subst e1
 match ys,r with
 |[o],_=>exact⟨⟨[some x],rfl,rfl⟩,F i x k zs z f j p C u D⟩
end
theorem Zt{fr:List (Str×Nat)}{g:St}{a:Addr}{H:Hp}{Q:VK}{b:Bool}{l:Addr}{ns:LI'}(f:H a=none)(m:SqB b K H l (ns.map V.int))(k:ns.length<=1000)
  (j:∀c,Same H c->c a=some (.lst [])->Q (.ref a) c):kL (Its K b l) (nX 0) (hJ (tNot (tB (kJ sp_i [] E0 (mH (tVar 0) tNil)))) (tVar 0)) 1 fr g a H Q:=by
 refine Zu (λ_ zs _=>zs=[]) f m (by rw[zqe];exact k) rfl (λi zs c p=>by rw[p];exact zY _) (λ_ _ _ _ r _=>r) ?_ (λc ys d e p=>j c d (by rw[e,p]));intro i x c zs q d u p C y o;obtain⟨n,v,rfl⟩:=jY q;simp only[hJ];ext;exact⟨n,rfl,_,rfl,iteF (o c (Same.refl _) p)⟩
def sp_e(K:Frag):Sp:=λvs H Q _=>E3 λ(p:Addr)(x:Dd)(d:Nat)=>A7 (vs=[.ref p,.int d]) (DdS K H p x) (kI d x) (Pr d x) (canD x.1 x.2.1 x.2.2=x) ((d=2\/d=3)) (∀H',Same H H'->Q (.bl true) H')
theorem ok_e(T:Txt K mg t):FnOk P w K mg base CX0 3 t.a_e t.d_e pu' (sp_e K):=by
 have a2:=@ok_i P w K mg base t T;have c1:=@ok_l P w K mg base t T;apply T.F_e.ok sc_e
 ·have c2:=hr.units;obtain⟨p,⟨M,ts,u⟩,d,rfl,a4,f,pr,b8,d0,c4⟩:=h;refine⟨_,(nJ (mF (PW.pt (lU (kO (lP (mS kU rfl T.z_isinstance (nofun) (nH (pq 0) (nH (jD (v:=.ty "tuple") rfl T.z_tuple (nofun) rfl) nI))))) (lU (mB jU (lC T.z_len (pq 0)) nK (mD _)) (lU (kO (lP (nS a2 hr.mo T.F_i (nH (nY (pq 0)) nI)))) (kN (mB fZ (nY (pq 0)) nK (mD _)))))))
   (nM (nV lF))
   mE)
   (nJ (mF (PW.pt (lU (kO (lP (mS kU rfl T.z_isinstance (nofun) (nH (nY (pq 0)) (nH (jD (v:=.ty "tuple") rfl T.z_tuple (nofun) rfl) nI))))) (lU (kO (lP (mS kU rfl T.z_isinstance (nofun) (nH (nY (pq 0)) (nH (jD (v:=.ty "tuple") rfl T.z_tuple (nofun) rfl) nI))))) (kN (mB jU (lC T.z_len (nY (pq 0))) (pq 1) (mD _))))))
   (nM (nV lF))
   mE)
   (nJ (lJ yD rfl (mT (nR eN (lK hZ rfl T.z_list (nofun) (nH (nY (pq 0)) nI)) (mQ (nH (nY (pq 0)) nI)))) (mP (i:=2) sc_e.nd rfl (Or.inl rfl))
   (nJ (mF (PW.pt (lU (kO (lP (mS kU rfl T.z_isinstance (nofun) (nH (pq 2) (nH (jD (v:=.ty "tuple") rfl T.z_tuple (nofun) rfl) nI))))) (kN (mB jU (lC T.z_len (pq 2)) (pq 1) (mD _)))))
   (nM (nV lF))
   mE)
   (nM (mF (mB iW (lC T.z_len (hX (xs:=["_law_number"]) (fr:=[]) (g:=(nX 0)) (tt:=(hJ (tNot (tB (kJ (sp_i) [] E0 (mH (tVar 0) tNil)))) (tVar 0))) (jW (sc:=nP As) (N:=N_e) rfl rfl (nofun)) rfl (mT (pq 2)) (λ_ _ _ a3=>(iH (N:=["_law_number"]) (i:=0) a3 rfl (nofun))) (λ_ _ _ a3=>(Gc (kO (lP (nS a2 hr.mo T.F_i (nH (pv 0) nI)))) (pv 0))))) nK (mD _))
   (nM (nV lF))
   mE))))
   (nM (nV (dW (Pi c2) (nS c1 hr.mo T.F_l (nH (nY (pq 0)) (nH (nY (pq 0)) (nH (nY (pq 0)) nI)))) (pq 0) (mD _))))))),?_⟩
  show tSeq _ _ _ [some (.ref p),some (.int d),none] H;obtain⟨z,b,j,o,v⟩:=id a4;have isT:∀{a:Addr}{xs:List V}{c:VK}{H:Hp},SqT K H a xs->c (.bl true) H->rIsi K [.ref a,.ty "tuple"] H c:=λj o=>⟨_,_,_,_,rfl,.tupS j,rfl,T.k_tt,o⟩;right;refine isT j ?_
  try ext
  have x:∀{H':Hp}{c:VK},Same H H'->c (.ref z) H'->rIxB K (.ref p) (.int 0) H' c:=λs q=>⟨true,p,_,_,_,rfl,rfl,lY s _ _ j,rfl,q⟩;have I:∀{H':Hp}{c:VK},Same H H'->c (.ref b) H'->rIxB K (.ref p) (.int 1) H' c:=λs q=>⟨true,p,_,_,_,rfl,rfl,lY s _ _ j,rfl,q⟩;have O:∀{H':Hp}{c:VK},Same H H'->c (.int u) H'->rIxB K (.ref p) (.int 2) H' c:=λs q=>⟨true,p,_,_,_,rfl,rfl,lY s _ _ j,rfl,q⟩;have c3:0<u:=pr.pos;obtain⟨g,L,R⟩:=id o;refine⟨true,p,_,rfl,j,_,_,rfl,rfl,_,rfl,iteF (O (Same.refl _) ⟨u,rfl,_,rfl,iteF (O (Same.refl _) ?_)⟩)⟩
  try ext
  rw[zJ ⋯]
  try refine iteF ?_
  left;refine x (Same.refl _) (isT L ?_)
  try ext
  refine I (Same.refl _) (isT v ⟨_,rfl,iteF (x (Same.refl _) ⟨true,z,_,rfl,L,?_⟩)⟩)
  try ext
  have W:g.length=d:=by
   have:=pr.sq.1;have l2:=R.1;omega
  rw[zqe,W,zM rfl];refine iteF ?_;have b7:∀(i:Nat) y,(g.map V.ref++[V.ref b])[i]?=some y->∃r ns,y=.ref r/\SqT K H r ((ns:LI').map V.int)/\ns.length=d:=λi y e=>by
   rw[List.getElem?_append]at e;split at e
   ·obtain⟨r,Y,rfl⟩:=jL e;obtain⟨n,a5⟩:∃n,M[i]?=some n:=⟨_,zqd (by have:=(zqa Y).1;rw[←R.1];exact this)⟩;exact⟨r,n,rfl,R.2 i r n Y a5,pr.sq.2 n (zqb a5)⟩
   ·rw[List.getElem?_singleton]at e;split at e
    ·cases e;exact⟨b,ts,rfl,v,pr.len⟩
    ·cases e
  subst e1;refine st λN1 e1=>lN λB eB=>?_;simp only[iSeq];ext;refine x (Same.refl _) ⟨true,z,_,rfl,L,λl1 b2=>?_⟩;have a1:=Same.new (o:=.lst (g.map V.ref)) b2;have b4:(upd H l1 (.lst (g.map V.ref))) l1=some (.lst (g.map V.ref)):=nN;generalize upd H l1 (.lst (g.map V.ref))=a0 at*
  refine I a1 ⟨by show 1<=sizeLine;decide,λl2 b9=>?_⟩;have U:=Same.new (o:=.lst [V.ref b]) b9;have b3:(upd a0 l2 (.lst [V.ref b])) l2=some (.lst [V.ref b]):=nN;generalize upd a0 l2 (.lst [V.ref b])=Z at*
  have hsz:1000<=sizeLine:=∅
  refine⟨l1,l2,_,_,rfl,rfl,U _ _ b4,b3,by rw[zqe,W];simp only[List.length_cons,List.length_nil];omega,λF b6=>?_⟩;have c7:=Same.new (o:=.lst (g.map V.ref++[V.ref b])) b6;have a7:(upd Z F (.lst (g.map V.ref++[V.ref b]))) F=some (.lst (g.map V.ref++[V.ref b])):=nN;generalize upd Z F (.lst (g.map V.ref++[V.ref b]))=c5 at*
  have S:=(a1.trans U).trans c7;refine⟨false,F,rfl,⟨_,SqB.lst a7⟩,?_⟩;refine jP (g:=nX 2) (tb:=B) (λi N l=>∃v2:Option V,N=[some (.ref p),some (.int d),v2]/\Same c5 l) ⟨none,rfl,Same.refl _⟩ (λ_ _ _ _⟨_,_,m⟩=>SqB.lst (m _ _ a7)) ?_ ?_
  ·rintro i y N l c6 ⟨v2,rfl,m⟩;obtain⟨r,ns,rfl,a9,b0⟩:=b7 i y c6;have G:=lY (S.trans m) _ _ a9;subst eB;show tSeq _ _ _ [some (.ref p),some (.int d),some (.ref r)] l;refine st λd1 b5=>?_;ext;refine isT G ⟨_,rfl,iteF ⟨true,r,_,rfl,G,?_⟩⟩
   try ext
   rw[zqe,b0,zM rfl];refine iteF ?_;subst b5;ext;refine Hq λC d2 c9 b1=>?_;simp only[iSeq];ext;refine⟨true,⟨_,(G:SqB true K l r _)⟩,λc8 a8=>?_⟩;subst c9;subst b1;refine Zt a8 (G:SqB true K l r _) ⋯ λX D J=>?_;refine⟨false,c8,_,rfl,SqB.lst J,?_⟩
   try ext
   exact iteF (m.trans D)
  ·rintro N l ⟨v2,rfl,m⟩;have k:=S.trans m;symm;have c0:jK u:=by
    have j:((2^1000:Nat):Int)=2^1000:=nofun
    have o:u<2^1000:=pr.bu;have v:u.natAbs<2^1000:=⋯
    exact zP v (yS ∅ ∅)
   refine x k (I k (O k ?_));refine⟨true,true,true,z,b,M,ts,u,rfl,MatB.up o k,lY k _ _ v,by have:M.length=d:=pr.sq.1;omega,by have:ts.length=d:=pr.len;omega,c3,c0,λr X D a6=>?_⟩;have J:canD M ts u=(M,ts,u):=b8;rw[J]at a6;exact Qj 4 ∅ (DdAt.dt a6) (dS (a4.up (k.trans D))) (gF 4 _ (kH _)) (gF 4 _ (kH _)) (b:=true) (by simp) (c4 X (k.trans D))
def sp_u(K:Frag):Sp:=λvs H Q _=>E5 λ(l:Addr)(os:LA)(xs:List Dd)(d most:Nat)=>A9 (vs=[.ref l,.int d,.int most]) (H l=some (.lst (os.map V.ref))) (Paired (DdS K H) os xs) ((d=2\/d=3)) ((∀x∈xs,kI d x/\Pr d x/\canD x.1 x.2.1 x.2.2=x)) (xs.length<=most) (most<=200) ((xs.Pairwise λp q=>lx (fl (dat p)) (fl (dat q))=true)) (∀H',Same H H'->Q (.bl true) H')
theorem ok_u(T:Txt K mg t):FnOk P w K mg base CX0 4 t.a_u t.d_u pj' (sp_u K):=by
 have F:=@ok_e P w K mg base t T;apply T.F_u.ok sc_u
 ·have M:=hr.units;obtain⟨l,y,xs,d,most,rfl,hl,m,C,u,Y,S,R,O⟩:=h;refine⟨_,(nJ (mF (PW.pt (lU (kO (lP (mS kU rfl T.z_isinstance (nofun) (nH (pq 0) (nH (jD (v:=.ty "list") rfl T.z_list (nofun) rfl) nI))))) (kN (mB iW (lC T.z_len (pq 0)) (pq 2) (mD _)))))
   (nM (nV lF))
   mE)
   (nJ (lJ yD rfl (lG rfl T.z_range (nH (lC T.z_len (pq 0)) nI)) (mP (i:=3) sc_u.nd rfl (Or.inl rfl))
   (nM (mF (PW.pt (lU (kO (lP (nS F hr.mo T.F_e (nH (mG ix_B (pq 0) (pq 3) (λ_ _=>rfl)) (nH (pq 1) nI))))) (kN (PW.pt (Ft (mB iW (pq 3) nK (mD _)) (Fu (mB (Uz M) (mG ix_B (pq 0) (nR iK (pq 3) nK) (λ_ _=>rfl)) (mG ix_B (pq 0) (pq 3) (λ_ _=>rfl)) (mD _))))))))
   (nM (nV lF))
   mE)))
   (nM (nV lF)))),?_⟩
  show tSeq _ _ _ [some (.ref l),some (.int d),some (.int most),none] H;have lo:=mU m;right;refine⟨_,_,_,_,rfl,.ty (.lst hl),rfl,T.h_q,?_⟩
  try ext
  refine⟨false,l,_,rfl,SqB.lst hl,?_⟩
  try ext
  rw[zqe,lo,zJ (show¬ (xs.length:Int) > (most:Int) by omega)];refine iteF ?_;subst e1;refine st λN1 e1=>lN λB eB=>?_;simp only[mY];ext;refine⟨false,l,_,rfl,SqB.lst hl,?_⟩
  try ext
  rw[zqe,lo];refine⟨⋯,⋯,?_⟩;rw[zS];refine gD (g:=nX 3) (tb:=B) (λi o c=>∃v3,o=[some (.ref l),some (.int d),some (.int most),v3]/\Same H c) ⟨none,rfl,Same.refl _⟩ ?_ ?_
  ·rintro k o c N ⟨v3,rfl,e⟩;obtain⟨x,p⟩:∃x,xs[k]?=some x:=⟨_,zqd N⟩;obtain⟨q,j⟩:∃q,y[k]?=some q:=⟨_,zqd ⋯⟩;obtain⟨z,b,v⟩:=kB m j;rw[p]at b;cases b;obtain⟨f,pr,G⟩:=u x (zqb p);subst eB;show tIfS _ _ _ _ [some (.ref l),some (.int d),some (.int most),some (.int (0+(k:Int)))] c;ext;refine jC (i:=k) (e _ _ hl) (by rw[zH,j];rfl) ⋯ ?_;refine⟨q,x,d,rfl,v.up e,f,pr,G,C,λU L=>?_⟩;have a:=e.trans L;refine⟨_,rfl,iteF ?_⟩;cases k with
   |zero=>exact a
   | succ k =>
    rw[zF (zM ⋯)];obtain⟨n,g⟩:∃x,xs[k]?=some x:=⟨_,zqd ⋯⟩;obtain⟨V,r⟩:∃q,y[k]?=some q:=⟨_,zqd ⋯⟩;obtain⟨z,b,J⟩:=kB m r;rw[g]at b;cases b;obtain⟨I,W,X⟩:=u n (zqb g);refine jC (i:=k) (a _ _ hl) (by rw[zH,r];rfl) ⋯ ?_;refine jC (i:=k+1) (a _ _ hl) (by rw[zH,j];rfl) ⋯ ?_;have lt:lx (fl (dat n)) (fl (dat x))=true:=by
     obtain⟨k1,k2⟩:=zqa g;obtain⟨k3,D⟩:=zqa p;have:=oU.mp R k (k+1) k1 k3 (uG k)
     rwa[k2,D]at this
    refine⟨dat n,dat x,kH _,kH _,En I f,dS (J.up a),dS (v.up a),?_⟩;rw[lt];exact⟨false,rfl,iteF a⟩
  ·rintro o c ⟨v3,rfl,e⟩;symm;exact O c e
theorem Zs{d:Nat}{x:Dd}{w:List Nat}{tb:Tb}{ks:Dd×Nat}{y:Dd×List Nat}(h:y∈tb):y∈nxt d x w tb ks:=by
 unfold nxt;split
 ·exact h
 ·exact xI _ h
theorem Mt{d:Nat}{ss:List Dd}{x:Dd}{w:List Nat}:∀(l:List (Dd×Nat))(tb:Tb),(∀k∈l,ss[k.2]?=some k.1)->(x,w)∈tb->ND d ss tb->ND d ss (l.foldl (nxt d x w) tb)
 |[],_,_,_,h=>h
 |k:: l,tb,hl,a,h=>Mt l _ (λk' b=>hl k' (zU _ b)) (Zs a) (Es h a (hl k yE))
theorem Mr{d:Nat}{ss:List Dd}:∀(n i:Nat)(tb:Tb),ND d ss tb->ND d ss (mL d ss n i tb)
 |0,_,_,h=>h
 | n+1,i,tb,h=>by
  unfold mL;split
  ·refine Mr n (i+1) _ ?_;unfold jB;cases e:tb[i]? with
   |none=>exact h
   |some b=>exact Mt _ _ (λk a=>(Xk a).2) (zqb e) h
  ·exact h
theorem Zr{d:Nat}{ss:List Dd}{N:Nat}:ND d ss (tab d ss N):=Mr N 0 _ ⟨by simp,λy a=>by rw[List.mem_singleton.mp a];exact Nat.zero_lt_one,λy a=>by rw[oP.mp a];exact⟨rfl,λk b=>by cases b⟩⟩
def lenT(tb:Tb):List (PyData×V):=tb.map λy=>(dat y.1,V.int (y.2.length:Nat))
theorem Mq{x:Dd}{w:List Nat}:∀{tb:Tb},(tb.map (·.1)).Nodup->(x,w)∈tb->vT (lenT tb) (dat x)=some (.int (w.length:Nat))
 |[],_,h=>by cases h
 |y:: tb,nd,h=>by
  show vT ((dat y.1,V.int (y.2.length:Nat)):: lenT tb) (dat x)=_;rcases xM.mp h with rfl|h
  ·rw[jI rfl]
  ·have a:=rN.mp nd;have b:y.1≠x:=λe=>a.1 (by show y.1∈_;rw[e];exact nD.mpr ⟨(x,w),h,rfl⟩);rw[jJ (λq=>b (fU.mp q)),Mq a.2 h]
theorem Mp{x:Dd}:∀{tb:Tb},x∉tb.map (·.1)->vT (lenT tb) (dat x)=none
 |[],_=>rfl
 |y:: tb,h=>by
  show vT ((dat y.1,V.int (y.2.length:Nat)):: lenT tb) (dat x)=_;rw[jJ (λq=>h (by rw[←fU.mp q];exact .head _)),Mp (λq=>h (.tail _ q))]
theorem Zq{y:Dd×List Nat}{tb:Tb}(h:y.1∉tb.map (·.1)):pT (lenT tb) (dat y.1) (.int (y.2.length:Nat))=lenT (tb++[y]):=by
 unfold pT;rw[Mp h];unfold lenT;rw[yX];rfl
def sp_n(K:Frag):Sp:=λvs H Q _=>E9 λ(l a lm:Addr)(os qs:LA)(srt:Tb)(ms:List Dd)(d most:Nat)=>A12 (vs=[.ref l,.ref a,.ref lm,.int d,.int most]) (H l=some (.lst (os.map V.ref))) (Paired (DdS K H) os (srt.map (·.1))) (iB H a (srt.map (·.2))) (H lm=some (.lst (qs.map V.ref))) (Paired (DdS K H) qs ms) (kS d ms) (Told d (ms.map nQ) srt) ((∀y∈srt.map (·.1),kI d y/\Pr d y/\nQ y=y)) (srt.length<=most) (most<=200) (∀H',Same H H'->Q (.bl true) H')
theorem ok_n(T:Txt K mg t):FnOk P w K mg base CX0 7 t.a_n t.d_n pa' (sp_n K):=by
 have j5:=@ok_u P w K mg base t T;have h3:=@ok_7 P w K mg base t T;have g4:=@ok_2 P w K mg base t T;have h5:=@ok_c P w K mg base t T;have j6:=@ok_6 P w K mg base t T;apply T.F_n.ok sc_n
 ·have a2:=hr.units;obtain⟨l,a,v,b3,d7,srt,ms,d,most,rfl,hl,b0,c3,c4,d4,D,o,pr,i5,f6,g7⟩:=h;refine⟨_,(nJ (mF (PW.pt (lU (kO (lP (nS j5 hr.mo T.F_u (nH (pq 0) (nH (pq 3) (nH (pq 4) nI)))))) (kN (kO (lP (nS h3 hr.mo T.F_7 (nH (pq 1) (nH (pq 2) (nH (lC T.z_len (pq 0)) (nH (pq 4) nI))))))))))
   (nM (nV lF))
   mE)
   (nJ (mF (mB (Bd a2) (nS g4 hr.mo T.F_2 (nH (pq 1) (nH (pq 2) (nH (pq 3) nI)))) (pq 0) (mD _))
   (nM (nV lF))
   mE)
   (nJ (nU (i:=5) sc_n.nd rfl (Or.inl rfl) Hi)
   (nJ (lJ yD rfl (lG rfl T.z_range (nH (lC T.z_len (pq 0)) nI)) (mP (i:=6) sc_n.nd rfl (Or.inl rfl))
   (nM (jS (lC T.z_len (mG ix_B (pq 1) (pq 6) (λ_ _=>rfl))) (iE (pq 5) (mG ix_B (pq 0) (pq 6) (λ_ _=>rfl)) (cM a2)))))
   (nJ (mF (mB jU (Rg (T:= "") PySem.F.plainAttrs_dict PySem.F.slot_dict_get PySem.F.type_dict_get (Re a2) (pq 5) (nH (nS h5 hr.mo T.F_c (nH (mQ nI) (nH (pq 2) (nH (pq 3) nI)))) nI)) nK (mD _))
   (nM (nV lF))
   mE)
   (nJ (lJ yD rfl (mT (pq 0)) (mP (i:=7) sc_n.nd rfl (Or.inl rfl))
   (nM (lJ yD rfl (mT (pq 2)) (mP (i:=8) sc_n.nd rfl (Or.inl rfl))
   (nJ (nU (i:=9) sc_n.nd rfl (Or.inl rfl) (nS j6 hr.mo T.F_6 (nH (pq 7) (nH (pq 8) nI))))
   (nM (mF (PW.pt (lU (mB (aI a2) (pq 9) (pq 5) rfl) (kN (mB iW (mG (ix_T a2) (pq 5) (pq 9) (λ_ _=>rfl)) (nR lH (mG (ix_T a2) (pq 5) (pq 7) (λ_ _=>rfl)) nK) (mD _)))))
   (nM (nV lF))
   mE))))))
   (nM (nV lF)))))))),?_⟩
  show tSeq _ _ _ [some (.ref l),some (.ref a),some (.ref v),some (.int d),some (.int most),none,none,none,none,none] H;have lo:b3.length=srt.length:=by have:=mU b0;rwa[zqe]at this
  have lq:=mU d4;have nd:(srt.map (·.1)).Nodup:=o.nd;have c7:∀y∈srt,WdOk d (ms.map nQ) y/\y.2.length<srt.length:=λy F=>by
   have M:=o.p.mem_iff.mp F;have b2:ND d (ms.map nQ) (tab d (ms.map nQ) 201):=Zr;exact⟨b2.2.2 y M,by rw[o.p.length_eq];exact b2.2.1 y M⟩
  have b6:∀w∈srt.map (·.2),w.length<=most/\∀n∈w,n<ms.length:=λw R=>by
   obtain⟨y,F,rfl⟩:=nD.mp R;obtain⟨M,b2⟩:=c7 y F;refine⟨⋯,λn a6=>?_⟩;have:=M.2 n a6
   rwa[zqe]at this
  have h2:∀x∈srt.map (·.1),kI d x/\Pr d x/\canD x.1 x.2.1 x.2.2=x:=λx Y=>by
   obtain⟨y,F,rfl⟩:=nD.mp Y;obtain⟨M,b2⟩:=c7 y F;obtain⟨h4,i3,_⟩:=pr y.1 Y;exact⟨h4,i3,D.can (by have:=o.len;omega) (λn a6=>by have:=M.2 n a6;rwa[zqe]at this) M.1⟩
  have f7:(srt.map (·.2)).map (mX d (ms.map nQ))=srt.map (·.1):=by
   rw[yW];exact xS λy F=>(c7 y F).1.1.symm
  have e0:(srt.map (·.1)).Pairwise λp q=>lx (fl (dat p)) (fl (dat q))=true:=Yh (f:=dat) nd (λx _ y _ e=>fU.mp e) (λx Y y F=>En (pr x Y).1 (pr y F).1) (List.pairwise_map.mpr o.o);right;refine⟨l,b3,srt.map (·.1),d,most,rfl,hl,b0,D.1,h2,by rw[zqe];exact i5,f6,e0,λk5 C=>⟨_,rfl,iteF ?_⟩⟩;refine⟨false,l,_,rfl,SqB.lst (C _ _ hl),?_⟩
  try ext
  refine⟨a,v,srt.map (·.2),_,b3.length,most,by rw[zqe],c3.up C,C _ _ c4,by rw[zqe,lo],λw R=>⟨(b6 w R).1,λn a6=>by rw[zqe,lq];exact(b6 w R).2 n a6⟩,_,rfl,iteF ?_⟩;have d2:=C _ _ hl;have c2:=c3.up C;have c9:=C _ _ c4;have f3:=Paired.mapP b0 λ_ _ z=>DdS.up z C;have d3:=Paired.mapP d4 λ_ _ z=>DdS.up z C;left;refine⟨a,v,srt.map (·.2),d7,ms,d,rfl,c2,c9,d3,D,by rw[zqe];omega,λw R=>⟨yC (b6 w R).1 f6,(b6 w R).2⟩,λr ps a1 J g5 e3 c0=>?_⟩;rw[f7]at c0;have b5:=Paired.mapP f3 λ_ _ z=>DdS.up z J;refine Ab e3 (Paired.mapP c0 λ_ _ z=>DdAt.s z) (J _ _ d2) b5 rfl ⟨_,rfl,iteF ?_⟩;have e8:=C.trans J;have a7:=J _ _ d2;have j8:=c2.up J;have f8:=J _ _ c9;have d8:=Paired.mapP d3 λ_ _ z=>DdS.up z J;clear f3 d3 d2 c2 c9 c0 e3 g5 C J f7 e0;subst e1;refine st λN1 e1=>?_;simp only[Cq];ext;intro f b8 b7;have S:Same a1 (upd a1 f (lD f [])):=Same.new b8;generalize upd a1 f (lD f [])=h6 at*
  have d1:∀{b o},a1 b=some o->b≠f:=λ{b o}e w=>by rw[w,b8]at e;cases e
  obtain⟨f4,f5,d5⟩:=j8;have k6:f4.length=srt.length:=by have:=mU d5;rwa[zqe]at this
  subst e1;refine st λN1 e1=>lN λB eB=>?_;simp only[mY];ext;refine⟨false,l,_,rfl,SqB.lst (S _ _ a7),?_⟩
  try ext
  rw[zqe,lo];refine⟨⋯,⋯,?_⟩;rw[zS];refine gD (g:=nX 6) (tb:=B) (λi u g=>∃W,u=[some (.ref l),some (.ref a),some (.ref v),some (.int d),some (.int most),some (.ref f),W,none,none,none]/\KX f h6 g/\DTr K g f (lenT (srt.take i))) ⟨none,rfl,λ_ _ _ e=>e,b7⟩ ?_ ?_
  ·rintro k u g g9 ⟨W,rfl,U,a0⟩;obtain⟨y,Z⟩:∃y,srt[k]?=some y:=⟨_,zqd g9⟩;obtain⟨q,a9⟩:∃q,b3[k]?=some q:=⟨_,zqd ⋯⟩;obtain⟨i4,b1⟩:∃q,f4[k]?=some q:=⟨_,zqd ⋯⟩;obtain⟨k1,e5,i7⟩:=kB b5 a9;obtain⟨w',d9,g2⟩:=kB d5 b1;rw[zH,Z]at e5 d9;cases e5;cases d9;have L:∀{b o},a1 b=some o->g b=some o:=λe=>U _ _ (d1 e) (S _ _ e);have g6:=DdS.tk (i7.up S) (Aa b7 U);have hsz:1000<=sizeLine:=∅
   have nx:y.1∉(srt.take k).map (·.1):=λh=>by
    rw[List.map_take]at h;obtain⟨j,b4⟩:=xW h;have h8:j<k:=by have:=(zqa b4).1;simp at this;omega
    rw[wE h8]at b4;have:=(sW (zqa b4).1 nd).mp (b4.trans (show some y.1=(srt.map (·.1))[k]? by rw[zH,Z];rfl));omega
   have k3:(lenT (srt.take k)).length<=k:=by unfold lenT;rw[zqe,yG];omega
   subst eB;show tAsg _ _ _ [some (.ref l),some (.ref a),some (.ref v),some (.int d),some (.int most),some (.ref f),some (.int (0+(k:Int))),none,none,none] g;simp only[tAsg,gSub];ext;refine jC (i:=k) (L f5) (by rw[zH,b1];rfl) ⋯ ?_;refine⟨false,i4,_,rfl,SqB.lst (L g2),?_⟩
   try ext
   refine jC (i:=k) (L a7) (by rw[zH,a9];rfl) ⋯ ?_;rw[zqe];refine⟨f,_,q,dat y.1,rfl,rfl,a0,kH _,dS g6,⋯,λh0 h7 _ e7=>?_⟩;rw[Zq nx]at e7;refine⟨λc o e9 e=>h7 c o e9 (U c o e9 e),?_⟩;rw[yY,Z];exact e7
  ·rintro u g ⟨W,rfl,U,a0⟩;rw[rG]at a0;have L:∀{b o},a1 b=some o->g b=some o:=λe=>U _ _ (d1 e) (S _ _ e);have tk:=Aa (K:=K) b7 U;have i9:=Paired.mapP b5 λ_ _ z=>DdS.tk (DdS.up z S) tk;have e6:=Paired.mapP d8 λ_ _ z=>DdS.tk (DdS.up z S) tk;have h1:=L a7;have d6:=L f8;have i1:Same H g:=λb o e=>L (e8 _ _ e);clear eB B tk U S b8 b7 d1 d5 f5 d8 b5 L a7 f8 e8 hl c4 c3 b0 d4;have val:∀{x w},(x,w)∈srt->vT (lenT srt) (dat x)=some (.int (w.length:Nat)):=λh=>Mq nd h;left;simp only[tBMR];ext;refine⟨⟨_,a0⟩,?_⟩;refine⟨zY _,λa5 j0=>?_⟩;have c6:Same g (upd g a5 (.lst [])):=Same.new j0;have b1:(upd g a5 (.lst [])) a5=some (.lst (wV [])):=nN;generalize upd g a5 (.lst [])=h0 at*
   refine⟨false,a5,v,[],d7,ms,d,rfl,SqB.lst b1,c6 _ _ d6,Paired.mapP e6 λ_ _ z=>DdS.up z c6,D,zY _,λ_ h=>(by cases h),λg8 f9 g3 i6=>?_⟩;have N:=c6.trans g3;have es:vT (lenT srt) (dat (mX d (ms.map nQ) []))=some (.int 0):=val (w:=[]) (o.p.mem_iff.mpr Xg);refine⟨f,_,g8,dat (mX d (ms.map nQ) []),rfl,rfl,a0.up N,kH _,DdAt.dt i6,?_⟩;rw[es];refine⟨0,0,rfl,rfl,false,rfl,iteF ?_⟩;have e2:=N _ _ h1;have f0:=N _ _ d6;have g0:=Paired.mapP i9 λ_ _ z=>DdS.up z N;have g1:=Paired.mapP e6 λ_ _ z=>DdS.up z N;have j9:=a0.up N;have i2:=i1.trans N;subst e1;refine st λN1 e1=>lN λB eB=>?_;simp only[iSeq];ext;refine⟨false,⟨_,SqB.lst e2⟩,?_⟩;refine jP (g:=nX 7) (tb:=B) (λi u a4=>∃d0 I G,u=[some (.ref l),some (.ref a),some (.ref v),some (.int d),some (.int most),some (.ref f),W,d0,I,G]/\Same f9 a4) ⟨_,_,_,rfl,Same.refl _⟩ (λ_ _ _ _⟨_,_,_,_,a3⟩=>SqB.lst (a3 _ _ e2)) ?_ ?_
   ·rintro i y u a4 Z ⟨d0,I,G,rfl,a3⟩;obtain⟨q,a9,rfl⟩:=jL Z;obtain⟨x,i0,Y⟩:=kB g0 a9;obtain⟨z,j1,rfl⟩:=jL i0;have b9:=zqb j1;obtain⟨_,X,j4⟩:=pr z.1 (nD.mpr ⟨z,b9,rfl⟩);subst eB;show tFor _ _ _ _ [some (.ref l),some (.ref a),some (.ref v),some (.int d),some (.int most),some (.ref f),W,some (.ref q),I,G] a4;refine lN λB eB=>?_;simp only[iSeq];ext;refine⟨false,⟨_,SqB.lst (a3 _ _ f0)⟩,?_⟩;refine jP (g:=nX 8) (tb:=B) (λj u a8=>∃I G,u=[some (.ref l),some (.ref a),some (.ref v),some (.int d),some (.int most),some (.ref f),W,some (.ref q),I,G]/\Same f9 a8) ⟨_,_,rfl,a3⟩ (λ_ _ _ _⟨_,_,_,O⟩=>SqB.lst (O _ _ f0)) ?_ ?_
    ·rintro j y u a8 Z ⟨I,G,rfl,O⟩;obtain⟨f1,h9,rfl⟩:=jL Z;obtain⟨m,k0,i8⟩:=kB g1 h9;have f2:=zqb k0;have V:=D.pr m f2;subst eB;show tSeq _ _ _ [some (.ref l),some (.ref a),some (.ref v),some (.int d),some (.int most),some (.ref f),W,some (.ref q),some (.ref f1),G] a8;refine st λk7 j7=>?_;ext;refine⟨q,f1,_,m,d,rfl,Y.up O,i8.up O,D.1,X.sq,V.sq,X.len,V.len,X.pos,V.pos,X.bm,V.bm,X.bt,V.bt,X.bu,V.bu,λr2 k2 j2 c1=>?_⟩;rw[Le X.pos V.pos j4]at c1;obtain⟨w',j3,k4⟩:=Zz (yC o.l ∅) z (o.p.mem_iff.mp b9) (nQ m) (nD.mpr ⟨m,f2,rfl⟩);have e4:=val (o.p.mem_iff.mpr j3);have v2:=val (x:=z.1) (w:=z.2) b9;have c8:=O.trans j2;have c5:=j9.up c8;subst j7;ext;refine cY c5 (kH _) (DdAt.dt c1) ?_;rw[e4];refine⟨_,rfl,iteF ?_⟩;refine fV c5 (kH _) (DdAt.dt c1) e4 (fV c5 (kH _) (dS (Y.up c8)) v2 ?_)
     try ext
     rw[zJ ⋯];exact iteF c8
    ·rintro u a8 ⟨I,G,rfl,O⟩;exact⟨_,_,_,rfl,O⟩
   ·rintro u a4 ⟨d0,I,G,rfl,a3⟩;symm;exact g7 a4 (i2.trans a3)
theorem Zp(T:Txt K mg t):XGt K t.a_d "apart" := ⟨⟨T.h_t,T.h_u,T.h_v,T.h_z,T.e_tk,T.h_w,T.h_x,La T.h_w⟩,T.h_o,T.h_d⟩
section
open PySem.Spec PyProof.Rows
variable {X:Cx} {e:Expr} {f:Str} {pos:Pos} {te:TE} {C:Addr}
def tXg(C:Addr)(f:Str)(te:TE):TE:=λσ H Q=>te σ H λy H1=>∃p dx v,y=.ref p/\H1 p=some (iF p (.ref C) (some dx))/\H1 dx=some (XDct dx f v)/\Q v H1
theorem Zo(g:XGt X.K C f)(F:PE X e te)(l:attributeBase e f X.env (eval e X.env)=eval e X.env):PE X (.Attribute e f pos) (tXg C f te):=by
 intro r s k H Q I h;refine Fi l (thn (F r s k H _ I h) λu c⟨x,b,a,i,p,G,v,j,ep,D,q⟩=>?_);subst j;obtain rfl:u=Value.ref p:=i;obtain⟨⟨o,k1,k2,k3,y⟩,_⟩:=(show mI X.prog X.w b c.heap _ (iF _ _ _) from a.hok _ _ ep);obtain⟨⟨J,u,n,z,d⟩,_⟩:=(show mI X.prog X.w b c.heap _ (XDct _ _ _) from a.hok _ _ D);obtain⟨od,m,hl⟩:=Fm n;exact Ug g.F g.na g.hd a.kIn ⟨k1,k2,k3,by rw[y G rfl];exact m⟩ (by rw[hl,z]) (Fj d) ⟨v,b,a.tok _,d,q⟩
end
theorem Mo{H:Hp}{g:Addr}{d:Nat}{ms:List Dd}{srt:Tb}{Q:VK}(h:GrpF K t H g d ms srt)(k:Q (.int d) H):∃a fs,H g=some (.ins t.a_b a fs)/\fs.lookup (Str.ofString "axes")=none/\sp_a K t [.ref g] H Q E0:=by
 obtain⟨a,c,lo,e,f,b,_⟩:=id h.ex;exact⟨a,_,b,rfl,g,d,ms,srt,rfl,h,k⟩
theorem Zn{H:Hp}{g:Addr}{d:Nat}{ms:List Dd}{srt:Tb}{Q:VK}(h:GrpF K t H g d ms srt)(l2:srt.length<=200)(k:∀l b H',Same H H'->H l=none->H' l=some (.lst (b.map V.ref))->Paired (λp(x:Dd×List Nat)=>H' p=some (.lst (x.2.map λn=>V.int (n:Nat)))) b srt->Q (.ref l) H'):∃a fs,H g=some (.ins t.a_b a fs)/\fs.lookup (Str.ofString "words")=none/\sp_9 K t [.ref g] H Q E0:=by
 obtain⟨a,e,lo,f,i,c,_⟩:=id h.ex;exact⟨a,_,c,rfl,g,d,ms,srt,rfl,h,l2,k⟩
theorem ok_1j(T:Txt K mg t):FnOk P w K mg base CX0 17 t.a_1j t.d_1j pz' (Gf K):=by
 have h8:=@ok_h P w K mg base t T;have j8:=@ok_w P w K mg base t T;have b4:=@ok_1 P w K mg base t T;have h6:=@ok_0 P w K mg base t T;have j6:bQ P w K mg base 2 t.a_z t.d_z ["_law_e"] (sp_z t):=ok_z T;have k0:=@ok_y P w K mg base t T;have g6:=@ok_i P w K mg base t T;have f1:=@ok_a P w K mg base t T;have j9:=@ok_8 P w K mg base t T;have i2:=@ok_5 P w K mg base t T;have k1:=@ok_9 P w K mg base t T;have j7:=@ok_n P w K mg base t T;apply T.F_1j.ok sc_1j
 ·have f3:=hr.units;obtain⟨a,ns,rfl,f9,m2,l5,d3⟩:=h;refine⟨_,(nJ (jS (nS h8 hr.mo T.F_h (nH (pq 0) nI)) (Ru rfl (kP (mP (i:=1) sc_1j.nd rfl (Or.inl rfl)) (kP (mP (i:=2) sc_1j.nd rfl (Or.inl rfl)) gN))))
   (nJ (nU (i:=3) sc_1j.nd rfl (Or.inl rfl) (nS j8 hr.mo T.F_w (nH (pq 0) (nH nK nI))))
   (nJ (nU (i:=4) sc_1j.nd rfl (Or.inl rfl) (nR lH nK (nS b4 hr.mo T.F_1 (nH (pq 3) (nH (mG ix_B (mQ (nH nK (nH nK (nH nK (nH nK nI))))) (nS b4 hr.mo T.F_1 (nH (pq 3) (nH nK nI))) (λ_ _=>rfl)) nI)))))
   (nJ (nU (i:=5) sc_1j.nd rfl (Or.inl rfl) (lK hZ rfl T.z_list (nofun) (nH (pq 2) nI)))
   (nJ (mF (mB kK (nS b4 hr.mo T.F_1 (nH (pq 3) (nH nK nI))) nK (mD _))
   (nM (nU (i:=5) sc_1j.nd rfl (Or.inl rfl) (lK jX rfl T.z_tuple (nofun) (nH (pq 2) nI))))
   mE)
   (nJ (nU (i:=6) sc_1j.nd rfl (Or.inl rfl) Bx)
   (nJ (nU (i:=7) sc_1j.nd rfl (Or.inl rfl) Bx)
   (nJ (nU (i:=8) sc_1j.nd rfl (Or.inl rfl) lF)
   (nJ (Pj (i:=9) rfl rfl rfl sc_1j.nd rfl rfl rfl T.m_d (λ_ _ _ Y =>
   (nM (nU (i:=6) sc_1j.nd rfl (Or.inl rfl) (Ul (C:=t.a_b) (T.mk_b) h6 hr.mo rfl T.m_b T.b_0 .nil Y (nH (pq 1) (nH (pq 5) (nH (pq 4) nI))))))) (λ_ =>
   (nJ (nU (i:=7) sc_1j.nd rfl (Or.inl rfl) (Zo (Zp T) (pv 9) rfl))
   (nM (nU (i:=8) sc_1j.nd rfl (Or.inl rfl) (Pf j6 ((hr.a.mark _).mono ⋯) rfl T.F_z.m T.F_z.kp T.F_z.b .nil (nH (pq 9) nI)))))))
   (nJ (mF (mB (Bd f3) (lK hZ rfl T.z_list (nofun) (nH (pq 5) nI)) (pq 2) (mD _))
   (nM (nV lF))
   mE)
   (nJ (mF (mB Nk (pq 6) Bx (mD _))
   (nM (nV (Bv (pq 8) (Bw (nS k0 hr.mo T.F_y (nH (pq 7) (nH (pq 2) (nH (pq 1) (nH (pq 4) nI)))))))))
   mE)
   (nJ (mF (PW.pt (lU (kO (lP (nS g6 hr.mo T.F_i (nH (cC (C:=t.a_b) (pq 6) T.cl_b T.me_a f1 hr.mo T.b_a .nil fJ) nI)))) (lU (mB jU (cC (C:=t.a_b) (pq 6) T.cl_b T.me_a f1 hr.mo T.b_a .nil fJ) (pq 1) (mD _)) (kN (mB (Bd f3) (cC (C:=t.a_b) (pq 6) T.cl_b T.me_8 j9 hr.mo T.b_8 .nil fJ) (pq 2) (mD _))))))
   (nM (nV lF))
   mE)
   (nM (nV (nS j7 hr.mo T.F_n (nH (cC (C:=t.a_b) (pq 6) T.cl_b T.me_5 i2 hr.mo T.b_5 .nil fJ) (nH (cC (C:=t.a_b) (pq 6) T.cl_b T.me_9 k1 hr.mo T.b_9 .nil fJ) (nH (pq 2) (nH (pq 1) (nH (pq 4) nI)))))))))))))))))))),?_⟩
  show tSeq _ _ _ [some (.ref a),none,none,none,none,none,none,none,none,none] H;right;refine⟨a,ns,rfl,f9,λr l c ms d L l8 U h5 c8 c0 n f8 Y d2 c5 c3 c7 e7=>?_⟩;obtain⟨F,f6,e6,c9⟩:=Yx f8 Y d2 c5 c3 c7 e7;have D:kS d ms:=⟨f8,c7,F,f6,e6,c9⟩;clear e7 Y d2 c5 c3 c9 e6 f6 F;refine⟨false,r,_,rfl,SqB.lst c8,rfl,_,_,rfl,_,_,rfl,rfl,?_⟩;have e9:=Paired.mapP n λ_ _ z=>DdAt.s z;clear n c8;left;refine⟨a,ns,1,rfl,Ac f9 h5,∅,λf d7 e5 a1 a3=>?_⟩;have d9:BxOk 100 (bxF ns 1):=fW (k:=1);generalize bxF ns 1=b1 at*
  left;refine⟨by show 4<=sizeLine;decide,λp n=>?_⟩;have a8:=Same.new (o:=.lst [V.int 12,V.int 60,V.int 60,V.int 200]) n;have ep:(upd d7 p (.lst [V.int 12,V.int 60,V.int 60,V.int 200])) p=some (.lst [V.int 12,V.int 60,V.int 60,V.int 200]):=nN;have j3:p≠f:=λz=>by rw[z,a3]at n;cases n
  generalize upd d7 p (.lst [V.int 12,V.int 60,V.int 60,V.int 200])=i5 at*;refine⟨f,4,b1,100,rfl,a8 _ _ a3,d9,∅,∅,∅,λj1 a4 e2=>?_⟩;obtain⟨g5,b5⟩:=mM (many:=4) d9 ∅;generalize tkB b1 4=a9 at*
  generalize tkV b1 4=d0 at*;obtain⟨k,i4,h3⟩:∃k:Nat,d0=(k:Int)/\k<4:=⟨d0.toNat,⋯,⋯⟩;obtain⟨g,c2,e8⟩:∃g:Int,[V.int 12,V.int 60,V.int 60,V.int 200][k]?=some (.int g)/\1<=g/\g<=200:=by
   match k,h3 with
   |0,_=>exact⟨_,rfl,∅,∅⟩
   |1,_=>exact⟨_,rfl,∅,∅⟩
   |2,_=>exact⟨_,rfl,∅,∅⟩
   |3,_=>exact⟨_,rfl,∅,∅⟩
  have c6:j1 p=some (.lst [V.int 12,V.int 60,V.int 60,V.int 200]):=by rw[a4 p j3];exact ep
  refine⟨false,p,_,_,_,rfl,rfl,SqB.lst c6,jH c2 i4,?_⟩;refine⟨f,g,a9,101,rfl,e2,b5,∅,e8.1,⋯,λR f0 b8=>?_⟩;obtain⟨i3,a0⟩:=mM (many:=g) b5 e8.1;generalize tkB a9 g=f4 at*
  generalize tkV a9 g=e4 at*;have k5:KX f i5 R:=λb x S e=>by rw[f0 b S,a4 b S];exact e
  have O:Same U R:=fX (e5.trans a8) a1 k5
  try ext
  obtain⟨most,k6,j5,c1⟩:∃m:Nat,1+e4=(m:Int)/\1<=m/\m<=200:=⟨(1+e4).toNat,⋯,⋯,⋯⟩;rw[k6];have e0:=O _ _ c0;have i7:=Paired.mapP e9 λ_ _ z=>DdS.up z O;have l0:U f=none:=a1;left;refine⟨false,l,_,rfl,SqB.lst e0,λM W=>?_⟩;have a2:=Same.new (o:=.lst (c.map V.ref)) W;have f5:(upd R M (.lst (c.map V.ref))) M=some (.lst (c.map V.ref)):=nN;have d5:M≠f:=λz=>by rw[z,b8]at W;cases W
  generalize upd R M (.lst (c.map V.ref))=k7 at*;subst e1;refine st λN1 e1=>?_;have d4:∀b j i,Same U i->SqB b K i j (c.map V.ref)->N1 [some (.ref a),some (.int d),some (.ref l),some (.ref f),some (.int most),some (.ref j),none,none,none,none] i:=by
   intro b j i G b0;have N:=G _ _ c0;have J:=Paired.mapP e9 λ_ _ z=>DdS.up z G;clear a2 f5 W d5 i7 e0 O k5 f0 b8 a0 i3 e2 a4 c6 c2 g5 b5 a3 n ep e5 a8;left;left;left;subst e1;refine st λN1 e1=>?_;simp only[tTry,Ih,tXg];ext;intro x l2 nx i9 ne;obtain⟨h1,i8⟩:=Yc (C:=t.a_b) nx i9 ne;refine Yb (most:=most) D i8 h1 b0 J j5 c1 nx (λ_ C y Z h4=>?_) λhl srt y Z g8 o pr=>⟨rfl,?_⟩
   ·obtain⟨tb,⟨b2,g1,i0⟩,g9,k3,j0⟩:=h4;refine⟨T.h_f,λe g3=>?_⟩;have b3:=Same.new (o:=iF e (.ref t.a_d) (some C)) g3;have f2:(upd y e (iF e (.ref t.a_d) (some C))) e=some (iF e (.ref t.a_d) (some C)):=nN;generalize upd y e (iF e (.ref t.a_d) (some C))=a5 at*
    have d6:=Z.trans b3;refine⟨_,rfl,e,C,.ref b2,rfl,f2,b3 _ _ g1,e,some C,rfl,f2,?_⟩;show N1 [some (.ref a),some (.int d),some (.ref l),some (.ref f),some (.int most),some (.ref j),some .non,some (.ref b2),some (.bl true),none] a5;left;refine⟨b,j,_,rfl,b0.up d6,λu a6=>?_⟩;have I:=Same.new (o:=.lst (c.map V.ref)) a6;have b9:(upd a5 u (.lst (c.map V.ref))) u=some (.lst (c.map V.ref)):=nN;generalize upd a5 u (.lst (c.map V.ref))=g4 at*
    have q:=d6.trans I;have v:=Paired.mapP J λ_ _ z=>DdS.up z q;refine Ab b9 v (q _ _ N) v rfl ⟨_,rfl,iteF ?_⟩;left;refine⟨b2,l,tb,c,ms,d,most,rfl,(i0.up b3).up I,q _ _ N,v,D,c1,g9,k3,j0,λd1 b6=>?_⟩;exact d3 d1
   ·show N1 [some (.ref a),some (.int d),some (.ref l),some (.ref f),some (.int most),some (.ref j),some (.ref x),some .non,some (.bl false),none] y;left;refine⟨b,j,_,rfl,b0.up Z,λu a6=>?_⟩;have I:=Same.new (o:=.lst (c.map V.ref)) a6;have b9:(upd y u (.lst (c.map V.ref))) u=some (.lst (c.map V.ref)):=nN;generalize upd y u (.lst (c.map V.ref))=g4 at*
    have q:=Z.trans I;have v:=Paired.mapP J λ_ _ z=>DdS.up z q;refine Ab b9 v (q _ _ N) v rfl ⟨_,rfl,iteF ?_⟩;have X:=g8.up I;left;rw[zJ (show¬ (V.ref x=V.non) by intro z;cases z)];refine iteF ?_;left;simp only[Bq];ext;refine Mo X ⟨_,rfl,_,rfl,iteF ?_⟩;refine Mo X ⟨_,_,rfl,rfl,_,by show V.bl (!decide ((d:Int)=d))=_;rw[zM rfl];rfl,iteF ?_⟩;refine Yd X λl4 gs d1 b6 l1 h7 k8=>?_;have b7:=q.trans b6;refine Ab h7 k8 (b7 _ _ N) (Paired.mapP J λ_ _ z=>DdS.up z b7) rfl ⟨_,rfl,iteF ?_⟩;have c4:=X.up b6;symm;simp only[Bq];ext;refine Ye c4 λh2 i6 l3 d8 l6 h0 g2=>?_;refine Zn (c4.up d8) o.len λg0 j4 m1 a7 k9 k4 k2=>?_;have f7:=b7.trans (d8.trans a7);refine⟨h2,g0,l,i6,c,srt,ms,d,most,rfl,a7 _ _ h0,Paired.mapP (Yf g2) λ_ _ z=>DdS.up z a7,⟨j4,k4,Ep k2⟩,f7 _ _ N,Paired.mapP J λ_ _ z=>DdS.up z f7,D,o,pr,by rw[o.p.length_eq];exact hl,c1,λi1 m0=>?_⟩;exact d3 i1
  ext;refine⟨f,2,f4,102,rfl,a2 _ _ b8,a0,∅,∅,∅,λi g7 l7=>?_⟩;have e3:KX f k7 i:=λb x S e=>by rw[g7 b S];exact e
  have G:Same U i:=fX (O.trans a2) a1 e3;obtain⟨l9,_⟩:=mM (many:=2) a0 ∅;generalize tkV f4 2=j2 at*
  refine⟨j2,1,rfl,rfl,_,rfl,?_⟩;split
  ·refine⟨l,_,rfl,.inl ⟨SqL.of (G _ _ c0),λlt h9=>?_⟩⟩;exact d4 true lt _ (G.trans (Same.new h9)) (SqB.tup nN)
  ·exact d4 false M i G (SqB.lst (e3 _ _ d5 f5))
end
theorem us1{a:Type}{us:List a}(h:us.length=1):∃a0,us=[a0]:=match us,h with|[a0],_=>⟨a0,rfl⟩
theorem us2{b:Type}{us:List b}(h:us.length=2):∃a0 a,us=[a0,a]:=match us,h with|[a0,a],_=>⟨a0,a,rfl⟩
theorem us3{c:Type}{us:List c}(h:us.length=3):∃a0 a b,us=[a0,a,b]:=match us,h with|[a0,a,b],_=>⟨a0,a,b,rfl⟩
theorem us4{d:Type}{us:List d}(h:us.length=4):∃a0 b c a,us=[a0,b,c,a]:=match us,h with|[a0,b,c,a],_=>⟨a0,b,c,a,rfl⟩
theorem us5{e:Type}{us:List e}(h:us.length=5):∃a0 b c d a,us=[a0,b,c,d,a]:=match us,h with|[a0,b,c,d,a],_=>⟨a0,b,c,d,a,rfl⟩
abbrev caG(K:Frag)(C:Addr):Prop:=findIn K (.ref C) "__class__"=some (some (.builtin "object.__class__"))
abbrev nG(K:Frag)(x:Str)(f:Addr):Prop:=nsIn K mainGlobals x=some (some (.ref f))
local macro_rules | `(tactic| walk_at "1")=>`(tactic| (intro _ _ _ _ _ _ us hl; obtain ⟨_,hh⟩:=us1 hl; subst hh; rfl))
local macro_rules | `(tactic| walk_at "2")=>`(tactic| (intro _ _ _ _ _ _ us hl; obtain ⟨_,_,hh⟩:=us2 hl; subst hh; rfl))
theorem txt_mk{K:Frag}{h:Heap}{g8:MT}(X:K.In h)(a:h.Ns mainGlobals g8)
  {e n g f b6 b c a8 m G w N Z R t b4 L o p I b9 O a1 P x b8 k i l j U a9 S a5 a4 u a6 V q a3 W J b3 b5 z D a7 a0 Y C y M b7 b0 F r b2:Addr}{t0 y3 o7 k5 m4 k8 x7 l6 q6 x3 j1 n5 w1 j8 y2 y6 p4 h6 o0 p7 k6 u6 x2 o6 i4 s7 u2 q0 q7 n6 z3 l1 k1 t6 p5 q8 t7 q9 r4 j4 v6 j0 z5 h5 i5 w9 t1 r5 r1 o1:FuncData}
  {d:Addr}{q5 t9:Option Addr}{y0:Array (Option Value)}{u5 y9 y5 z4 g7 j5:Value}
  {g3:Addr}{w6:Value}{q3:Option Addr}{k4:Nat}{s0:Array (Option Value)}{b1:Tok}
  {s2:Tok}
  (p0:nG K "CrystalError" e)
  (m1:nG K "NoPlace" n)
  (r6:nG K "NoDeed" g)
  (s6:nG K "NoNumber" f)
  (m3:nG K "NoText" b6)
  (w4:nG K "TooMany" b)
  (p1:nG K "Group" c)
  (v7:nG K "copied" a8)
  (d0:Fun K "copied" "copied" s_17 a8 t0)
  (ab:findIn K (.ref b) "__init__"=some (some (.ref m)))
  (g4:Fun K "__init__" "TooMany.__init__" s_3 m y3)
  (x1:nG K "divisor" G)
  (e3:Fun K "divisor" "divisor" s_14 G o7)
  (s3:nG K "place" w)
  (c5:Fun K "place" "place" s_18 w k5)
  (r0:nG K "rest_place" N)
  (d8:Fun K "rest_place" "rest_place" aY N m4)
  (o4:nG K "still_rows" Z)
  (f6:Fun K "still_rows" "still_rows" aZ Z k8)
  (q1:nG K "dot" R)
  (g6:Fun K "dot" "dot" s_1k R x7)
  (h7:nG K "turned" t)
  (f2:Fun K "turned" "turned" s_1b t l6)
  (x8:nG K "without" b4)
  (e5:Fun K "without" "without" s_16 b4 q6)
  (m5:nG K "determinant" L)
  (f9:Fun K "determinant" "determinant" s_4 L x3)
  (o5:nG K "joined" o)
  (e7:Fun K "joined" "joined" s_15 o j1)
  (i2:nG K "deed" p)
  (h1:Fun K "deed" "deed" s_1g p n5)
  (v0:nG K "still" I)
  (c4:Fun K "still" "still" s_1e I w1)
  (n4:nG K "moved" b9)
  (f3:Fun K "moved" "moved" s_1c b9 j8)
  (i6:nG K "behind" O)
  (c0:Fun K "behind" "behind" s_1a O y2)
  (u9:nG K "rest" a1)
  (e8:Fun K "rest" "rest" s_1i a1 y6)
  (j3:nG K "check_most" P)
  (g5:Fun K "check_most" "check_most" Du P p4)
  (v8:nG K "check_axes" x)
  (e0:Fun K "check_axes" "check_axes" Dr x h6)
  (l7:nG K "closed" b8)
  (d5:Fun K "closed" "closed" s_12 b8 o0)
  (ac:findIn K (.ref c) "__init__"=some (some (.ref d)))
  (r8:K.lookup d=some ⟨u5,q5,.func (fnOf "__init__" "Group.__init__" (iL s_0) (jF s_0) (nP s_0) (.ref g3) y9 y5 z4 t9 g7 j5),y0⟩)
  (v5:K.lookup g3=some ⟨w6,q3,.seq #[.int 200 b1] k4,s0⟩)
  (o2:codeIn K g7 "Group.__init__"=true)
  (r9:keepIn K (.ref d)=true)
  (aa:findIn K (.ref c) "axes"=some (some (.ref k)))
  (c8:Fun K "axes" "Group.axes" Dq k p7)
  (z8:findIn K (.ref c) "makers"=some (some (.ref i)))
  (d2:Fun K "makers" "Group.makers" s_8 i k6)
  (ad:findIn K (.ref c) "members"=some (some (.ref l)))
  (c6:Fun K "members" "Group.members" s_5 l u6)
  (z9:findIn K (.ref c) "words"=some (some (.ref j)))
  (e2:Fun K "words" "Group.words" s_9 j x2)
  (t2:nG K "_law_box" U)
  (f8:Fun K "_law_box" "_law_box" Dp U o6)
  (u4:nG K "_law_take" a9)
  (h2:Fun K "_law_take" "_law_take" s_1 a9 i4)
  (l8:nG K "_law_whole" S)
  (d9:Fun K "_law_whole" "_law_whole" Do S s7)
  (k0:nG K "_law_common" a5)
  (f4:Fun K "_law_common" "_law_common" Dm a5 u2)
  (t4:nG K "_law_still" a4)
  (f7:Fun K "_law_still" "_law_still" Az a4 q0)
  (u0:nG K "_law_times" u)
  (d3:Fun K "_law_times" "_law_times" Ay u q7)
  (u1:nG K "_law_sixty" a6)
  (g2:Fun K "_law_sixty" "_law_sixty" Dl a6 n6)
  (m8:nG K "_law_signed" V)
  (c3:Fun K "_law_signed" "_law_signed" Ax V z3)
  (p9:nG K "_law_free" q)
  (g9:Fun K "_law_free" "_law_free" Aw q l1)
  (p8:nG K "_law_rows" a3)
  (f5:Fun K "_law_rows" "_law_rows" s_13 a3 k1)
  (m7:nG K "_law_based" W)
  (d7:Fun K "_law_based" "_law_based" Av W t6)
  (w5:nG K "_law_rest" J)
  (e9:Fun K "_law_rest" "_law_rest" cU J p5)
  (n0:nG K "_law_low" b3)
  (d1:Fun K "_law_low" "_law_low" s_11 b3 q8)
  (w8:nG K "_law_maker" b5)
  (d6:Fun K "_law_maker" "_law_maker" Au b5 t7)
  (x9:nG K "_law_spot" z)
  (g1:Fun K "_law_spot" "_law_spot" s_10 z q9)
  (t3:nG K "_law_makers" D)
  (c2:Fun K "_law_makers" "_law_makers" At D r4)
  (x0:nG K "_law_product" a7)
  (e6:Fun K "_law_product" "_law_product" s_6 a7 j4)
  (z2:nG K "_law_walked" a0)
  (d4:Fun K "_law_walked" "_law_walked" Dk a0 v6)
  (t8:nG K "_law_is_word" Y)
  (c9:Fun K "_law_is_word" "_law_is_word" Dj Y j0)
  (u3:nG K "_law_only" C)
  (e4:Fun K "_law_only" "_law_only" Di C z5)
  (n8:nG K "_law_all_walked" y)
  (f0:Fun K "_law_all_walked" "_law_all_walked" s_2 y h5)
  (h4:nG K "_law_are_words" M)
  (g0:Fun K "_law_are_words" "_law_are_words" s_7 M i5)
  (s9:nG K "_law_apart" b7)
  (c1:Fun K "_law_apart" "_law_apart" Dh b7 w9)
  (w0:nG K "_law_is_deed" b0)
  (f1:Fun K "_law_is_deed" "_law_is_deed" As b0 t1)
  (y4:nG K "_law_rising" F)
  (c7:Fun K "_law_rising" "_law_rising" Dg F r5)
  (z7:nG K "_law_closed" r)
  (h0:Fun K "_law_closed" "_law_closed" Df r r1)
  (y7:nG K "law" b2)
  (T:Fun K "law" "law" s_1j b2 o1)
  (n9:nsIn K mainGlobals "MOST_MEMBERS"=some (some (.int 200 s2)))
  (k3:nsIn K mainGlobals "any"=some none)
  (h8:nsIn K mainGlobals "sum"=some none)
  (l9:nsIn K mainGlobals "zip"=some none)
  (n3:nsIn K mainGlobals "enumerate"=some none)
  (l2:nsIn K mainGlobals "range"=some none)
  (w3:nsIn K mainGlobals "len"=some none)
  (v1:nsIn K mainGlobals "abs"=some none)
  (m2:nsIn K mainGlobals "isinstance"=some none)
  (m0:nsIn K mainGlobals "int"=some none)
  (p3:nsIn K mainGlobals "bool"=some none)
  (i8:nsIn K mainGlobals "list"=some none)
  (r3:nsIn K mainGlobals "tuple"=some none)
  (x5:nsIn K mainGlobals "sorted"=some none)
  (h9:nsIn K mainGlobals "dict"=some none)
  (j2:nsIn K mainGlobals "ValueError"=some none)
  (q2:kitOne K (.type "list") (.type "list")=some true)
  (s1:PySem.W.excIn K n [.type "ValueError",.type "Exception",.type "BaseException",.type "object"] "ValueError.__new__"=true)
  (n7:PySem.W.excIn K g [.type "ValueError",.type "Exception",.type "BaseException",.type "object"] "ValueError.__new__"=true)
  (m6:L2.Cls K c)
  (s8:L2.Mk K c d)
  (m9:L2.Meth K c "members" l)
  (x6:findIn K (.ref c) "dimension"=some none)
  (p2:findIn K (.ref c) "given"=some none)
  (j7:findIn K (.ref c) "ordered"=some none)
  (r7:findIn K (.ref c) "shortest"=some none)
  (y8:findIn K (.ref c) "numbers"=some none)
  (l3:L2.Meth K c "makers" i)
  (j6:kitOne K (.type "int") (.type "list")=some false)
  (z1:kitOne K (.type "int") (.type "tuple")=some false)
  (l4:L2.XIn K b e m)
  (i0:L2.XSt K b "apart")
  (w7:PySem.W.exmOne K (.ref b) (.ref b)=some true)
  (v4:PySem.W.excIn K f [.type "ValueError",.type "Exception",.type "BaseException",.type "object"] "ValueError.__new__"=true)
  (x4:PySem.W.exmOne K (.ref b) (.ref e)=some true)
  (k9:findIn K (.ref b) "__getattribute__"=some (some (.builtin "BaseException.__getattribute__")))
  (v9:findIn K (.ref b) "__getattr__"=some none)
  (l0:caG K b)
  (z6:PySem.W.mroIn K b (.type "object")=some true)
  (n2:PySem.W.mroIn K b (.type "BaseException")=some true)
  (y1:kitOne K (.ref b) (.type "ValueError")=some true)
  (u7:kitOne K (.ref b) (.ref f)=some false)
  (o9:kitOne K (.ref b) (.ref g)=some false)
  (n1:kitOne K (.ref b) (.ref b)=some true)
  (s4:kitOne K (.ref b) (.ref n)=some false)
  (l5:kitOne K (.ref b) (.ref b6)=some false)
  (w2:PySem.W.specialIn K (.builtin "object.__class__") "__get__"=some (some (.builtin "getset_descriptor.__get__")))
  (o8:PySem.W.takesIn K (.builtin "object.__class__")=some true)
  (p6:findIn K (.ref b) "apart"=some none)
  (t5:PySem.W.hasDictIn K b=true)
  (i9:L2.Meth K c "words" j)
  (r2:L2.Meth K c "axes" k)
  (k2:kitOne K (.ref b) (.ref e)=some true)
  (i7:kitOne K (.type "tuple") (.type "tuple")=some true)
  (z0:kitOne K (.type "int") (.type "int")=some true)
  (h3:kitOne K (.type "int") (.type "bool")=some false)
  :∃o3,Txt K g8 o3:=by
 have j9:=g4.binds (ps:=pv') (by walk_at "2");have a2:=Uy (st:=s_0) (ds:=[.int 200 b1]) r8 o2 r9 v5;have u8:=a2.bindsA (ps:=pm') λ_ _ _ _ _ _ _ us hl=>by obtain⟨_,_,_,_,rfl⟩:=us4 hl;exact⟨_,rfl,rfl⟩
 have s5:=a2.binds (ps:=pm') λ_ _ _ _ _ _ _ us hl=>by obtain⟨_,_,_,rfl⟩:=us3 (pG hl);exact⟨_,rfl,rfl⟩
 have q4:=c8.binds (ps:=pC') (by walk_at "1");have i1:=d2.binds (ps:=pC') (by walk_at "1");have i3:=c6.binds (ps:=pC') (by walk_at "1");have k7:=e2.binds (ps:=pC') (by walk_at "1");obtain⟨_,_,_,_,_,_,_,_,_,rfl,_,_⟩:=id T.ex;exact⟨⟨a8,m,G,w,N,Z,R,t,b4,L,o,p,I,b9,O,a1,P,x,b8,d,k,i,l,j,U,a9,S,a5,a4,u,a6,V,q,a3,W,J,b3,b5,z,D,a7,a0,Y,C,y,M,b7,b0,F,r,b2,_,_,_,_,_,_,_,_,_,_,_,_,_,_,_,_,_,_,_,_,_,_,_,_,_,_,_,_,_,_,_,_,_,_,_,_,_,_,_,_,_,_,_,_,_,_,_,_,_,_,_,e,n,g,f,b6,b,c,b1⟩,⟨⟨d0,yU X a v7,d0.binds (λ_ _ _ _ _ _ us hl=>by obtain⟨_,rfl⟩:=us1 hl;rfl)⟩,g4,j9,⟨e3,yU X a x1,e3.binds (λ_ _ _ _ _ _ us hl=>by obtain⟨_,_,rfl⟩:=us2 hl;rfl)⟩,⟨c5,yU X a s3,c5.binds (λ_ _ _ _ _ _ us hl=>by obtain⟨_,_,rfl⟩:=us2 hl;rfl)⟩,⟨d8,yU X a r0,d8.binds (λ_ _ _ _ _ _ us hl=>by obtain⟨_,rfl⟩:=us1 hl;rfl)⟩,⟨f6,yU X a o4,f6.binds (λ_ _ _ _ _ _ us hl=>by obtain⟨_,rfl⟩:=us1 hl;rfl)⟩,⟨g6,yU X a q1,g6.binds (λ_ _ _ _ _ _ us hl=>by obtain⟨_,_,rfl⟩:=us2 hl;rfl)⟩,⟨f2,yU X a h7,f2.binds (λ_ _ _ _ _ _ us hl=>by obtain⟨_,rfl⟩:=us1 hl;rfl)⟩,⟨e5,yU X a x8,e5.binds (λ_ _ _ _ _ _ us hl=>by obtain⟨_,_,_,rfl⟩:=us3 hl;rfl)⟩,⟨f9,yU X a m5,f9.binds (λ_ _ _ _ _ _ us hl=>by obtain⟨_,rfl⟩:=us1 hl;rfl)⟩,⟨e7,yU X a o5,e7.binds (λ_ _ _ _ _ _ us hl=>by obtain⟨_,_,rfl⟩:=us2 hl;rfl)⟩,⟨h1,yU X a i2,h1.binds (λ_ _ _ _ _ _ us hl=>by obtain⟨_,_,_,rfl⟩:=us3 hl;rfl)⟩,⟨c4,yU X a v0,c4.binds (λ_ _ _ _ _ _ us hl=>by obtain⟨_,rfl⟩:=us1 hl;rfl)⟩,⟨f3,yU X a n4,f3.binds (λ_ _ _ _ _ _ us hl=>by obtain⟨_,_,rfl⟩:=us2 hl;rfl)⟩,⟨c0,yU X a i6,c0.binds (λ_ _ _ _ _ _ us hl=>by obtain⟨_,_,rfl⟩:=us2 hl;rfl)⟩,⟨e8,yU X a u9,e8.binds (λ_ _ _ _ _ _ us hl=>by obtain⟨_,rfl⟩:=us1 hl;rfl)⟩,⟨g5,yU X a j3,g5.binds (λ_ _ _ _ _ _ us hl=>by obtain⟨_,rfl⟩:=us1 hl;rfl)⟩,⟨e0,yU X a v8,e0.binds (λ_ _ _ _ _ _ us hl=>by obtain⟨_,_,rfl⟩:=us2 hl;rfl)⟩,⟨d5,yU X a l7,d5.binds (λ_ _ _ _ _ _ us hl=>by obtain⟨_,_,_,rfl⟩:=us3 hl;rfl)⟩,a2,s5,u8,c8,q4,d2,i1,c6,i3,e2,k7,⟨f8,yU X a t2,f8.binds (λ_ _ _ _ _ _ us hl=>by obtain⟨_,_,rfl⟩:=us2 hl;rfl)⟩,⟨h2,yU X a u4,h2.binds (λ_ _ _ _ _ _ us hl=>by obtain⟨_,_,rfl⟩:=us2 hl;rfl)⟩,⟨d9,yU X a l8,d9.binds (λ_ _ _ _ _ _ us hl=>by obtain⟨_,rfl⟩:=us1 hl;rfl)⟩,⟨f4,yU X a k0,f4.binds (λ_ _ _ _ _ _ us hl=>by obtain⟨_,_,rfl⟩:=us2 hl;rfl)⟩,⟨f7,yU X a t4,f7.binds (λ_ _ _ _ _ _ us hl=>by obtain⟨_,rfl⟩:=us1 hl;rfl)⟩,⟨d3,yU X a u0,d3.binds (λ_ _ _ _ _ _ us hl=>by obtain⟨_,_,rfl⟩:=us2 hl;rfl)⟩,⟨g2,yU X a u1,g2.binds (λ_ _ _ _ _ _ us hl=>by obtain⟨_,_,rfl⟩:=us2 hl;rfl)⟩,⟨c3,yU X a m8,c3.binds (λ_ _ _ _ _ _ us hl=>by obtain⟨_,_,rfl⟩:=us2 hl;rfl)⟩,⟨g9,yU X a p9,g9.binds (λ_ _ _ _ _ _ us hl=>by obtain⟨_,_,rfl⟩:=us2 hl;rfl)⟩,⟨f5,yU X a p8,f5.binds (λ_ _ _ _ _ _ us hl=>by obtain⟨_,_,_,rfl⟩:=us3 hl;rfl)⟩,⟨d7,yU X a m7,d7.binds (λ_ _ _ _ _ _ us hl=>by obtain⟨_,_,rfl⟩:=us2 hl;rfl)⟩,⟨e9,yU X a w5,e9.binds (λ_ _ _ _ _ _ us hl=>by obtain⟨_,_,_,rfl⟩:=us3 hl;rfl)⟩,⟨d1,yU X a n0,d1.binds (λ_ _ _ _ _ _ us hl=>by obtain⟨_,_,_,rfl⟩:=us3 hl;rfl)⟩,⟨d6,yU X a w8,d6.binds (λ_ _ _ _ _ _ us hl=>by obtain⟨_,_,_,_,_,rfl⟩:=us5 hl;rfl)⟩,⟨g1,yU X a x9,g1.binds (λ_ _ _ _ _ _ us hl=>by obtain⟨_,_,rfl⟩:=us2 hl;rfl)⟩,⟨c2,yU X a t3,c2.binds (λ_ _ _ _ _ _ us hl=>by obtain⟨_,rfl⟩:=us1 hl;rfl)⟩,⟨e6,yU X a x0,e6.binds (λ_ _ _ _ _ _ us hl=>by obtain⟨_,_,rfl⟩:=us2 hl;rfl)⟩,⟨d4,yU X a z2,d4.binds (λ_ _ _ _ _ _ us hl=>by obtain⟨_,_,_,rfl⟩:=us3 hl;rfl)⟩,⟨c9,yU X a t8,c9.binds (λ_ _ _ _ _ _ us hl=>by obtain⟨_,_,_,rfl⟩:=us3 hl;rfl)⟩,⟨e4,yU X a u3,e4.binds (λ_ _ _ _ _ _ us hl=>by obtain⟨_,rfl⟩:=us1 hl;rfl)⟩,⟨f0,yU X a n8,f0.binds (λ_ _ _ _ _ _ us hl=>by obtain⟨_,_,_,rfl⟩:=us3 hl;rfl)⟩,⟨g0,yU X a h4,g0.binds (λ_ _ _ _ _ _ us hl=>by obtain⟨_,_,_,_,rfl⟩:=us4 hl;rfl)⟩,⟨c1,yU X a s9,c1.binds (λ_ _ _ _ _ _ us hl=>by obtain⟨_,_,_,_,rfl⟩:=us4 hl;rfl)⟩,⟨f1,yU X a w0,f1.binds (λ_ _ _ _ _ _ us hl=>by obtain⟨_,_,rfl⟩:=us2 hl;rfl)⟩,⟨c7,yU X a y4,c7.binds (λ_ _ _ _ _ _ us hl=>by obtain⟨_,_,_,rfl⟩:=us3 hl;rfl)⟩,⟨h0,yU X a z7,h0.binds (λ_ _ _ _ _ _ us hl=>by obtain⟨_,_,_,_,_,rfl⟩:=us5 hl;rfl)⟩,⟨T,yU X a y7,T.binds (λ_ _ _ _ _ _ us hl=>by obtain⟨_,rfl⟩:=us1 hl;rfl)⟩,yT X a k3,yT X a h8,yT X a l9,yT X a n3,yT X a l2,yT X a w3,yT X a v1,yT X a m2,yT X a m0,yT X a p3,yT X a i8,yT X a r3,yT X a x5,yT X a h9,yT X a j2,yU X a p0,yU X a m1,yU X a r6,yU X a s6,yU X a m3,yU X a w4,yU X a p1,⟨_,yU X a n9,_,rfl⟩,q2,s1,n7,m6,s8,m9,x6,p2,j7,r7,y8,l3,j6,z1,l4,i0,w7,v4,x4,k9,v9,l0,z6,n2,y1,u7,o9,n1,s4,l5,w2,o8,p6,t5,i9,r2,k2,i7,z0,h3,λs v=>.of_eq rfl⟩⟩
end Cw
end
open PySem PySem.W PyProof.Rows
/-! Names that the head would else lay equations under: the proof wants none of them. -/
namespace PySem.W.Fast
local macro_rules|`(command|include $x)=>`(def $x:ident:=Nat)|`(command|include $x $y $z*)=>`(def $x:ident:=Nat
include $y $z*)
include tw14778067216362889383 tw58002931555768275 tw17557022315304475945 tw4325303888847535965 tw9668621238106047278 tw4841302562737341747 tw7655678464303777610 tw66232704647739524 tw5306909625837100841 tw16515204560073380494 tw8671055105485136186 tw5081966245306739619 tw13628880491534828934 tw16055779544437797448 tw12070973412007347840 tw4702882533877668143 tw8097197927155778499 tw2513149879926894191 tw15102911320840672194 tw6599400870723499427 tw13868047165434840495 tw12406954889393647573 tw18193451877287375809 tw3586648276379045246 tw13216579451578799267 tw7093314456407302026 tw3711517185425503984 tw6822782579630097281 tw7019067203697709339 tw13654068470009480670 tw11122589849502567301 tw10203350783703475651 tw11945569476673637582 tw1304494102413084659 tw10989551389460509791 tw10269759103717282487 tw15136028037083372380 tw12672659463319077554 tw18078418811686205455 tw3520444022004095277 tw8191728726755739372 tw10086840900337176179 tw442667561348467779 tw15122687477918727118 tw225985619737772451 tw16574158225214278137 tw8755878162366302584 tw9761618781638682046 tw2566006045107810349 tw10802631553038844162 tw5073990480649687879 tw14669488746989018975 tw3848177027352433804 tw5758882837141385512 tw11388031836559304862 tw498823187253059503 tw17880597308933348295 tw17392758576582515126 tw14769041205961857406 tw9204812667495977283 tw595049355621143824 tw11231651925559110662 tw6655004638568366231 tw9092901084604041073 tw9423052098678401740 tw16301740640524274998 tw931069573941012681 tw1069829637922823837 tw3656057936860675956 tw16478802658032828948 tw15053391665417475800 tw8891787712207036871 tw16843746707425209337 tw13424998887815486194 tw6875989294564924768 tw3420170812237864143 tw5412643490980973278 tw7247045303868751157 tw3628773392723361846 tw7982810094388326122 tw371584268959275733 tw1457158596555802019 tw13876788477265425175 tw15332606480095894289 tw2936246815426961713 tw12961842619221346163 tw8904005672516486226 tw2182649358584893537 tw16925718907941019751 tw1905287875509349271 tw4477638011451007951 tw12180133036591479554 tw5374724016601489385 tw487302190995118650 tw6855144688570425867 tw2998887952665483740 tw16826001922914558623 tw15084095023580995923 tw18141768766248480789 tw2458476131696824537 tw7762977407994654543 tw9548502580681383601 tw5637155896091177354 tw17670500332199946962 tw16890006195887013738 tw9980735705076362334 tw11088907010471124574 tw9516238196483610952 tw9542973211978935204 tw1340556124262380117 tw5896110205385566432 tw8835454495400376448 tw16249042409169447747 tw14707490183818901259 tw5941642603656971325 tw11621475349687105632 tw5281871826458276349 tw6489292834351652737 tw6379667571402616294 tw12276775080114184607 tw8863308619107528477 tw1196259812345809310 tw11681149081583844028 tw3157553656960732620 tw2639310066015105940 tw7836678312189568132 tw15986773732529483578 tw7882246330576115020 tw11777288987347701796 tw4401487719439058236 tw11081316418417157256 tw12897927429428437763 tw11887917454507711180 tw4372159349580710287 tw1225284599811661880 tw17420402329020102000 tw14552497200507188725 tw4262739334064581700 tw418539442619012926 tw13734926217209072996 tw3268679966416630644 tw13499376462227139106 tw1436181857064922430 tw7005996236775113070 tw16561661307472598224 tw6579309349474229666 tw11514464856209679633 tw13544826974842972277 tw930983870248166930 tw15115467075104715536 tw3743398144295162053 tw14162287170413565384 tw17826069396412982855 tw12487233775917783382 tw114340939471536349 tw16323990355532291619 tw4920226957909516225 tw13464420983364305696 tw13315448017239753035 tw14536807524396884062 tw17104228024867475679 tw5550995480150091603 tw8265176368089512092 tw733628302635213883 tw18141916179174290460 tw2977507004394786302 tw14386925462904764117 tw10483536641103588349 tw12609288717110916280 tw1258284456876768682 tw5224886445030175868 tw5426616353994570870 tw8762083717981233431 tw5066961130593150995 tw4053267523828441819 tw6542609983069403803 tw13351236688235151906 tw7944405290332725038 tw4230624950121397391 tw15028105485083818882 tw15485246595410521150 tw5809821930197097950 tw1887125320822557599 tw130178071437292606 tw15508102843528433112 tw1059621795697099434 tw7530143514028321486 tw15617328392221824053 tw17183534179842695214 tw12285670076095273049 tw18142037593379153980 tw13361353184567568877 tw2994234622556887998 tw5332135643860712746 tw15257150162479415486 tw4702762772505099146 tw17371331514672754364 tw13477868650878212298 tw2987984257571708255 tw15282335235343839025 tw13702780194276638395 tw9736848760666202254 tw12450404427492767523 tw395591529708984239 tw18359309635678714305 tw8687392807273983904 tw2530847402038622425 tw8616196052239631589 tw3597995463166326720 tw4450688574933863089 tw4484827499499702488 tw313861850118343289 tw16537750448231016279 tw5737825566316048852 tw11980457559961385563 tw16461061856796120760 tw17095173325848296984 tw12899153260382425571 tw3337671046313685365 tw15977176811597210637 tw1537806897628619154 tw7263267359743184981 tw1091399532155147028 tw9434528757604796224 tw4701666012346005087 tw14661190278450779923 tw9506636522931276925 tw15636048460737341740 tw3547397108970447667 tw4002390626917739230 tw2525002605659357100 tw10864869682784577412 tw6201271397993833772 tw16173999810727596911 tw15652463351082941463 tw4093269566337858018 tw17532988089850529429 tw16192317131143360899 tw13390494253267838907 tw16015814963381804898 tw3390279998504865900 tw5048892895291889337 tw16822276421293813806 tw15632398493084335871 tw537287321169483491 tw12998297402564375099 tw12607348308584660690 tw173730603432774159 tw16405224665013727818 tw4365103956805638839 tw16229455850250732929 tw18192618083784982155 tw18313318120785617303 tw10802323886282990400 tw11426882548421606480 tw16055250869028019134 tw5647945705244609232 tw14301648174409141534 tw7712353365072700362 tw3576272098475457859 tw5652699972584228666 tw5151137660939242819 tw6260917233381469709 tw6034426169883861367 tw485794345638675183 tw2696905327015747345 tw12945613288185176025 tw5086417071425703326 tw7162955140376763859 tw8111810825880871184 tw10245672094095895433 tw16713344928470416621 tw16480651289111022630 tw17629406442016191871 tw16713568060572901441 tw9451811323790488140 tw13639765082051123875 tw11892632286462057380 tw3288855027895139049 tw8707524710699567103 tw9270404653476303517 tw2857537631820074950 tw8974691192139174123 tw17715483652997987856 tw14738530226630615911 tw12994322948819198288 tw12195961318056078135 tw11067496011987022613
end PySem.W.Fast
set_option maxRecDepth 100000 in
set_option maxHeartbeats 0 in
theorem PySem.Challenge.cw_crystalwords_k41_whole_closed_holds : PySem.Challenge.rw_crystalwords_k41_whole_closed.Holds := by
 w_on; o_law; k_head; (case hw=>w_witness2)
 k_fill
 refine L2.walkB (l:=PySem.Challenge.rw_crystalwords_k41_whole_closed) (k:=17) (x := "_law_script") rfl rfl ⟨rfl,by decide,by decide⟩ (λ w h Y=>PySem.W.kIn_of Y) ?F
 case F =>
  intro w mg fa h KX G hmg
  have T:∃ t,Cw.Txt (L2.KOf KX) mg t:=by
   dsimp only [L2.KOf]
   refine' Cw.txt_mk KX G ?n_19 ?n_1h ?n_1d ?n_1f ?n_1l ?n_d ?n_b ?n_17 ?F_17 ?n_3 ?F_3 ?n_14 ?F_14 ?n_18 ?F_18 ?n_q ?F_q ?n_t ?F_t ?n_1k ?F_1k ?n_1b ?F_1b ?n_16 ?F_16 ?n_4 ?F_4 ?n_15 ?F_15 ?n_1g ?F_1g ?n_1e ?F_1e ?n_1c ?F_1c ?n_1a ?F_1a ?n_1i ?F_1i ?n_s ?F_s ?n_r ?F_r ?n_12 ?F_12 ?n_0 ?l_0 ?t_Group___init__ ?c_0 ?k_0 ?n_a ?F_a ?n_8 ?F_8 ?n_5 ?F_5 ?n_9 ?F_9 ?n_w ?F_w ?n_1 ?F_1 ?n_i ?F_i ?n_g ?F_g ?n_m ?F_m ?n_j ?F_j ?n_v ?F_v ?n_f ?F_f ?n_x ?F_x ?n_13 ?F_13 ?n_p ?F_p ?n_l ?F_l ?n_11 ?F_11 ?n_k ?F_k ?n_10 ?F_10 ?n_h ?F_h ?n_6 ?F_6 ?n_c ?F_c ?n_o ?F_o ?n_z ?F_z ?n_2 ?F_2 ?n_7 ?F_7 ?n_y ?F_y ?n_e ?F_e ?n_u ?F_u ?n_n ?F_n ?n_1j ?F_1j ?n_MOST_MEMBERS ?y_any ?y_sum ?y_zip ?y_enumerate ?y_range ?y_len ?y_abs ?y_isinstance ?y_int ?y_bool ?y_list ?y_tuple ?y_sorted ?y_dict ?y_ValueError ?q_q ?q_e ?q_i ?q_j ?q_k ?q_0 ?q_5 ?q_l ?q_7 ?q_6 ?q_8 ?q_1 ?q_r ?q_s ?q_9 ?q_a ?q_f ?q_b ?q_ym ?q_t ?q_u ?q_v ?q_w ?q_x ?q_y ?q_c ?q_m ?q_g ?q_h ?q_n ?q_z ?q_10 ?q_o ?q_d ?q_2 ?q_4 ?q_3 ?q_11 ?q_p ?q_12
   (case n_19 | n_1h | n_1d | n_1f | n_1l | n_d | n_b | n_17 | n_14 | n_18 | n_q | n_t | n_1k | n_1b | n_16 | n_4 | n_15 | n_1g | n_1e | n_1c | n_1a | n_1i | n_s | n_r | n_12 | n_w | n_1 | n_i | n_g | n_m | n_j | n_v | n_f | n_x | n_13 | n_p | n_l | n_11 | n_k | n_10 | n_h | n_6 | n_c | n_o | n_z | n_2 | n_7 | n_y | n_e | n_u | n_n | n_1j=>show _=_; k_is)
   (case n_3 | n_0 | l_0 | t_Group___init__ | c_0 | k_0 | n_a | n_8 | n_5 | n_9 | n_MOST_MEMBERS | y_any | y_sum | y_zip | y_enumerate | y_range | y_len | y_abs | y_isinstance | y_int | y_bool | y_list | y_tuple | y_sorted | y_dict | y_ValueError | q_5 | q_l | q_7 | q_6 | q_8 | q_t | q_u | q_v | q_w | q_x | q_z | q_10 | q_o | q_d=>show _=_; k_is)
   (case F_17 | F_3 | F_14 | F_18 | F_q | F_t | F_1k | F_1b | F_16 | F_4 | F_15 | F_1g | F_1e | F_1c | F_1a | F_1i | F_s | F_r | F_12 | F_a | F_8 | F_5 | F_9 | F_w | F_1 | F_i | F_g | F_m | F_j | F_v | F_f | F_x | F_13 | F_p | F_l | F_11 | F_k | F_10 | F_h | F_6 | F_c | F_o | F_z | F_2 | F_7 | F_y | F_e | F_u | F_n | F_1j=>refine' L2.fun_mk ?l ?c ?k; (case l=>k_is); (case c=>k_is); (case k=>k_is))
   (case q_q | q_r | q_s | q_y | q_c | q_m | q_g | q_h | q_n | q_3 | q_11 | q_p | q_12=>kit_is)
   (case q_e | q_i | q_b=>k_exc)
   (case q_j | q_k=>exact ⟨by k_is,by k_is,by k_is,by k_is⟩)
   (case q_0 | q_1 | q_2 | q_4=>exact ⟨by k_is,by k_is,by k_is⟩)
   (case q_9=>exact ⟨by kernel_rfl,by k_is,by kernel_rfl,by kernel_rfl⟩)
   (case q_a=>exact ⟨by k_is,by kernel_rfl,by k_is⟩)
   (case q_f | q_ym=>kts_exm)
  obtain ⟨t,T⟩:=T
  have e0:=hmg.symm.trans T.F_1j.m
  cases e0
  exact ⟨t.d_1j,T.bl,λ base kb nb=>Cw.ok_1j T⟩
#print axioms PySem.Challenge.cw_crystalwords_k41_whole_closed_holds