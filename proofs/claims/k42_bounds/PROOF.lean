import PyProof.Rows.All
import Wide.All
import OpenK.AllK
import Wide.FinOn
import Lean
import PyProof.EqAt
import PyProof.EqKinds
import PyProof.TupleCall
import PySem.Challenge.RW_crystalwords_k42_bounds
set_option Elab.async false
set_option linter.all false
set_option compiler.extract_closed false
set_option genSizeOf false
set_option bootstrap.genMatcherCode false
set_option maxRecDepth 100000
local macro_rules | `(⋯)=>`(by omega)
local macro_rules | `(∅)=>`(by decide)
local macro_rules | `(nofun)=>`(by decide +kernel)
local macro_rules | `(tactic| ext)=>`(tactic| walk_at "r")
noncomputable section
theorem dLe{d k:Nat}(h:d=2\/d=3)(g:3≤k):d≤k:=by
 rcases h with h|h<;>rw[h]
 ·exact Nat.le_trans (by decide) g
 ·exact g
theorem eLe{x d k:Nat}(e:x=d)(h:d=2\/d=3)(g:3≤k):x≤k:=by rw[e];exact dLe h g
theorem eLt{x y k:Nat}(e:x=y)(g:k<y):k<x:=by rw[e];exact g
theorem iNn{x:Int}(h:0<x):¬x<0:=Int.not_lt.mpr (Int.le_of_lt h)
local macro_rules | `(tactic| omega)=>`(tactic| first | (with_reducible first | assumption | exact Int.ne_of_gt (by assumption) | exact iNn (by assumption) | exact Int.le_of_lt (by assumption) | exact eLt (by assumption) (by assumption) | exact dLe (by assumption) (by decide) | exact eLe (by assumption) (by assumption) (by decide) | exact Nat.le_trans (by assumption) (by decide) | exact Nat.lt_of_lt_of_le (by assumption) (by decide) | exact Nat.lt_of_le_of_lt (by assumption) (by decide) | exact Nat.le_trans (Nat.le_of_lt (by assumption)) (by decide) | exact Nat.le_of_lt (by assumption)) | decide | lia | omega +splitDisjunctions)
abbrev SP':=List Int×Int
abbrev LI':=List Int
abbrev PN:=List (PySem.Addr×PySem.Obj)
abbrev VP:=PySem.Value->PySem.Shared->Prop
abbrev LW:=List PySem.Value
abbrev LA:=List PySem.Addr
abbrev MT:=PySem.Str->Option PySem.Value
def zA:=@PySem.wpAny_bind
def zB:=@PySem.wpAny_pure
def zC:=@PySem.Heap.get?_push_of_some
def zD:=@if_neg
def zE:=@Nat.le_refl
def zF:=@if_pos
def zG:=@PyProof.Rows.wpS_bind
def zH:=@PyProof.Rows.wpS_pure
def zI:=@PySem.Heap.lt_size
def zJ:=@Nat.lt_of_lt_of_le
def zK:=@decide_eq_false
def zL:=@decide_eq_true
def zM:=@Array.length_toList
def zN:=@List.map_cons
def zO:=@List.getElem?_map
def zP:=@Bool.and_eq_true
def zQ:=@Bool.false_ne_true
def zR:=@PySem.Heap.get?_push_size
def zS:=@Int.toNat_natCast
def zT:=@List.mem_cons_of_mem
def zU:=@Option.some.inj
def zV:=@List.size_toArray
def zW:=@List.getElem?_append_right
def zX:=@Nat.ne_of_lt
def zY:=@List.length_cons
def zZ:=@Ne.symm
def yA:=@Nat.zero_le
def yB:=@List.getElem?_append_left
def yC:=@Nat.le_trans
def yD:=@List.mem_cons_self
def yE:=@List.length_append
def yF:=@List.mem_of_getElem?
def yG:=@List.append_assoc
def yH:=@Array.toList_append
def yI:=@PySem.wpAny_mono
def yJ:=@List.cons.injEq
def yK:=@LawfulBEq.eq_of_beq
def yL:=@PySem.W.mg_of
def yM:=@Array.getElem?_toList
def yN:=@List.length_take
def yO:=@PySem.F.excBase_ValueError
def yP:=@List.length_map
def yQ:=@List.mem_append_right
def yR:=@PySem.PassesOwn.never
def yS:=@PySem.W.mg_none_of
def yT:=@List.take_of_length_le
def yU:=@PySem.wpAny_holding
def yV:=@Nat.pow_le_pow_right
def yW:=@Nat.lt_irrefl
def yX:=@PySem.Heap.get?_update_self
def yY:=@PySem.wpAny_field
def yZ:=@PySem.F.plainAttrs_list
def xA:=@List.getElem?_range
def xB:=@List.map_append
def xC:=@List.mem_cons
def xD:=@PySem.wpAny_newObj_type
def xE:=@PySem.F.slot_list_append
def xF:=@PySem.F.type_list_append
def xG:=@List.all_cons
def xH:=@List.lookup_cons
def xI:=@PyProof.Rows.wpS_forRange
def xJ:=@List.zipWith_cons_cons
def xK:=@PySem.Heap.get?_update_other
def xL:=@PySem.W.kia_one
def xM:=@List.getElem?_eq_getElem
def xN:=@List.take_add_one
def xO:=@PySem.Heap.size_push
def xP:=@Int.natAbs_mul
def xQ:=@PyProof.Rows.mulOk_of_bits
def xR:=@List.map_map
def xS:=@PySem.wpAny_Call_Name_kw
def xT:=@PySem.wpAny_call_entry
def xU:=@Int.mul_pos
def xV:=@List.getElem?_set_self
def xW:=@List.length_zipWith
def xX:=@List.take_append_drop
def xY:=@PyProof.Rows.callWith_type1
def xZ:=@PySem.wpAny_callSpecial?_slot
def wA:=@PySem.wpAny_standAt
def wB:=@Int.fmod_eq_emod_of_nonneg
def wC:=@decide_eq_true_eq
def wD:=@congrArg
def wE:=@List.getElem?_zipWith
def wF:=@Nat.lt_of_le_of_lt
def wG:=@Nat.mul_le_mul_right
def wH:=@PySem.wpAny_seqItems
def wI:=@List.getElem?_of_mem
def wJ:=@List.mem_append_left
def wK:=@PySem.W.looks_findIn
def wL:=@PyProof.Rows.wpS_mono
def wM:=@PySem.F.slot_dict_keyiterator_next
def wN:=@of_decide_eq_true
def wO:=@List.append_nil
def wP:=@List.getElem_of_mem
def wQ:=@List.map_congr_left
def wR:=@List.replicate_succ
def wS:=@Nat.zero_add
def wT:=@PySem.wpAny_rule
def wU:=@PyProof.Rows.wpS_modify
def wV:=@PySem.IntMulOk.of_left
def wW:=@PySem.Obj.data_mapFields
def wX:=@PySem.W.Looks.here
def wY:=@Int.add_zero
def wZ:=@PySem.codeAny_mono
def vA:=@Int.mul_comm
def vB:=@PySem.wpAny_attempt
def vC:=@PySem.wpAny_typeNameOfWhole_keyiter
def vD:=@List.eq_nil_of_length_eq_zero
def vE:=@PySem.Heap.SameBut.update
def vF:=@PySem.mem_of_lookup
def vG:=@PySem.wpAny_setField
def vH:=@Nat.mul_le_mul
def vI:=@List.all_eq_true
def vJ:=@PySem.wpAny_call
def vK:=@Nat.sub_self
def vL:=@Nat.le_of_lt
def vM:=@PySem.wpAny_setField_rec
def vN:=@List.getElem?_eq_none
def vO:=@PySem.wpAny_passesOwn
def vP:=@List.perm_append_comm
def vQ:=@List.foldl_cons
def vR:=@PySem.F.slot_tuple_iterator_next
def vS:=@Int.natAbs_add_le
def vU:=@List.mem_or_eq_of_mem_set
def vV:=@List.drop_eq_getElem_cons
def vW:=@PySem.codeAny_call_builtin
def vX:=@List.getElem?_set_ne
def vY:=@List.eraseIdx_append_of_length_le
def vZ:=@Nat.le_succ
def uA:=@List.nodup_nil
def uB:=@Int.le_of_lt
def uC:=@List.take_length
def uD:=@PySem.wpAny_isInstance
def uE:=@Nat.lt_succ_self
def uF:=@List.getElem_mem
def uG:=@PySem.wpAny_typeNameOf_keyiter
def uH:=@List.zipIdx_cons
def uI:=@List.length_drop
def uJ:=@Int.zero_mul
def uK:=@List.forIn_cons
def uL:=@List.getElem?_drop
def uM:=@PySem.wpAny_loadPart'
def uN:=@PySem.W.callWith_K
def uO:=@PySem.wpAny_pyIter_tuple
def uP:=@List.length_range
def uQ:=@PySem.wpAny_loadPart_at
def uR:=@List.flatten_cons
def uS:=@PySem.wpAny_truthy_bool
def uT:=@Array.toList_push
def uU:=@List.cons_lt_cons_iff
def uV:=@PySem.wpAny_typeOf
def uW:=@PySem.Obj.isFreed_of_fields
def uX:=@PyProof.Rows.wpS_get
def uY:=@List.Pairwise.sublist
def uZ:=@Nat.lt_or_ge
def tD:=@List.getElem_map
def tE:=@PySem.Calls.evalArgs_plain
def tF:=@List.ext_getElem
def tG:=@PySem.Around.under_plainId
def tH:=@Array.toList_reverse
def tI:=@List.eraseIdx_of_length_le
def tJ:=@List.getD_eq_getElem?_getD
def tK:=@Nat.pow_add
def tL:=@PySem.W.looks_mroIn
def tM:=@List.filterMap_cons
def tN:=@List.of_mem_zip
def tO:=@List.nodup_cons
def tP:=@Bool.eq_iff_iff
def tQ:=@PySem.wpAny_execs_nil
def tR:=@PySem.codeAny_builtin
def tS:=@List.mem_of_mem_eraseIdx
def tU:=@Nat.ne_of_gt
def tV:=@Nat.add_zero
def tW:=@List.getElem?_take_of_lt
def tX:=@of_decide_eq_false
def tY:=@Nat.pow_succ
def tZ:=@List.foldl_append
def sD:=@PySem.wpAny_pyIter_list
def sE:=@List.drop_sublist
def sF:=@PyProof.Rows.subscriptTail_builtinR
def sG:=@Int.fmod_nonneg_of_pos
def sH:=@List.length_pos_of_mem
def sI:=@PySem.W.cellsFrom_some
def sJ:=@List.drop_eq_nil_of_le
def sK:=@PySem.wpAny_onRaise
def sL:=@Nat.add_assoc
def sQ:=@PySem.W.any_some
def sT:=@List.Perm.append_left
def sU:=@List.getElem?_reverse
def sV:=@List.contains_iff_mem
def sW:=@Nat.mul_comm
def sZ:=@PySem.W.hideAll_none
def rA:=@List.length_eraseIdx
def rB:=@List.nil_append
def rC:=@Nat.succ_mul
def rD:=@PySem.wpAny_updateSeq_pair
def rE:=@Nat.succ.inj
def rF:=@List.getElem?_zipIdx
def rG:=@Nat.min_eq_left
def rH:=@PySem.F.slot_zip_next
def rJ:=@PySem.W.hideAll_get
def rK:=@PySem.BindsTo.of_defaults
def rL:=@PySem.W.plainGet_of
def rM:=@PySem.W.looks_clsIn
def rN:=@PyProof.Rows.wpS_lift
def rO:=@Int.mul_le_mul
def rP:=@PySem.wpAny_loadPart
def rQ:=@Int.mul_one
def rR:=@List.getElem_range
def rS:=@PySem.Code.quiet_builtin
def rT:=@PySem.wpAny_tupleItemsOf
def rV:=@PySem.W.isNs_of_in
def rW:=@List.mem_singleton
def rX:=@Int.lt_of_le_of_lt
def rY:=@Array.size_extract
def rZ:=@List.zip_cons_cons
def qB:=@Int.fmod_lt_of_pos
def qC:=@PySem.W.of_hideAll
def qD:=@PyProof.Rows.assignInOrder_cons
def qE:=@List.any_cons
def qF:=@Nat.mul_assoc
def qG:=@List.take_add
def qH:=@PySem.plainId_quiet
def qI:=@PySem.W.kitx_list
def qJ:=@PySem.Obj.cls_mapFields
def qK:=@List.nodup_append
def qL:=@PySem.PassesOwn.leaving
def qM:=@Nat.le_of_succ_le
def qN:=@Nat.lt_succ_of_lt
def qO:=@PySem.wpAny_dictEntries
def qP:=@List.reverse_perm
def qQ:=@Nat.le_add_right
def qR:=@Nat.mul_lt_mul''
def qT:=@Int.dvd_refl
def qU:=@Nat.le_of_eq
def qV:=@PySem.wpAny_pyHash_int
def qW:=@PySem.W.Looks.ld
def qX:=@PySem.Heap.Ns.of_isNs
def qZ:=@PySem.wpAny_dictEpoch
def pC:=@Nat.two_pow_pos
def pE:=@PySem.pushCells_keeps
def pF:=@PySem.seqIndex_of
def pG:=@PySem.wpAny_letGo
def pH:=@Int.one_mul
def pI:=@PySem.wpAny_newTuple
def pJ:=@PySem.isSubtype_stop
def pK:=@List.drop_drop
def pL:=@List.take_zero
def pN:=@PySem.wpAny_bindName
def pO:=@PySem.call_meets
def pQ:=@PySem.seqIndex_neg
def pR:=@Int.mul_zero
def pS:=@PySem.wpAny_mkText
def pU:=@Int.zero_add
def pV:=@Nat.min_self
def pW:=@beq_iff_eq
def pY:=@beq_eq_false_iff_ne
def pZ:=@List.pairwise_cons
def oA:=@List.mem_map
def oB:=@Array.getElem?_eq_some_iff
def oC:=@List.pairwise_append
def oE:=@List.pairwise_map
def oF:=@List.mem_append
def oG:=@List.mem_range
def oH:=@List.not_lt
def oJ:=@List.mem_filterMap
def oK:=@List.getElem?_eq_some_iff
namespace L2
open PySem PySem.Spec PyProof.Rows
open PySem.W (Frag)
abbrev Key:=Sum Int Str
def Ew:Key->Value->Bool
 |.inl k,v=>Value.isInt k v
 |.inr x,v=>Value.isStrOf x v
def keyH(w:World):Key->Int
 |.inl k=>hashInt k
 |.inr x=>hashStr w x
theorem iB:∀{k:Key}{v:Value},Ew k v=true->(∃i t,k=Sum.inl i/\v=Value.int i t)\/(∃x t,k=Sum.inr x/\v=Value.str x t)
 |.inl i,v,h=>by
  obtain⟨t,e⟩:=Value.isInt_shape (k:=i) (v:=v) h;exact .inl ⟨i,t,rfl,e⟩
 |.inr x,v,h=>by
  obtain⟨t,e⟩:=Value.isStrOf_shape (x:=x) (v:=v) h;exact .inr ⟨x,t,rfl,e⟩
theorem Ld(a b:Int):decide ((Sum.inl a:Key)=Sum.inl b)=(a == b):=by
 by_cases e:a=b
 ·subst e;simp
 ·have h:¬ (Sum.inl a:Key)=Sum.inl b:=λq=>e (Sum.inl.inj q);rw[zK h];exact(pY.mpr e).symm
theorem Lc(a b:Str):decide ((Sum.inr a:Key)=Sum.inr b)=decide (a=b):=by
 by_cases e:a=b
 ·subst e;simp
 ·have h:¬ (Sum.inr a:Key)=Sum.inr b:=λq=>e (Sum.inr.inj q);rw[zK h,zK e]
theorem Lb(a:Int)(b:Str):decide ((Sum.inl a:Key)=Sum.inr b)=false:=zK (λq=>nomatch q)
theorem La(a:Str)(b:Int):decide ((Sum.inr a:Key)=Sum.inl b)=false:=zK (λq=>nomatch q)
def Ev(prog:Program)(w:World):PySem.KeyKind prog w Key where
 is:=Ew
 hash:=keyH w
 inj:=λv a b ha hb=>by
  rcases iB ha with⟨i,t,rfl,rfl⟩|⟨x,t,rfl,rfl⟩
  ·rcases iB hb with⟨j,u,rfl,e⟩|⟨y,u,rfl,e⟩
   ·injection e with e1 _;rw[e1]
   ·exact nomatch e
  ·rcases iB hb with⟨j,u,rfl,e⟩|⟨y,u,rfl,e⟩
   ·exact nomatch e
   ·injection e with e1 _;rw[e1]
 byValue:=λk v h=>by
  rcases iB h with⟨i,t,rfl,rfl⟩|⟨x,t,rfl,rfl⟩ <;> rfl
 pyHash:=λhv h=>by
  rcases iB hv with⟨i,t,rfl,rfl⟩|⟨x,t,rfl,rfl⟩
  ·exact qV h
  ·exact wpAny_pyHash_str h
 eqBool:=λhu hv h=>by
  rcases iB hu with⟨i,t,rfl,rfl⟩|⟨x,t,rfl,rfl⟩
  ·rcases iB hv with⟨j,u,rfl,rfl⟩|⟨y,u,rfl,rfl⟩
   ·rw[Ld]at h;exact wpAny_eqBool_int h
   ·rw[Lb]at h;exact SeqAt.EqAt.int_str i t y u _ _ _ _ h
  ·rcases iB hv with⟨j,u,rfl,rfl⟩|⟨y,u,rfl,rfl⟩
   ·rw[La]at h;exact SeqAt.EqAt.str_int x t j u _ _ _ _ h
   ·rw[Lc]at h;exact wpAny_eqBool_str h
 «strs»:=λk x t v h=>by
  rcases iB h with⟨i,u,rfl,e⟩|⟨y,u,rfl,e⟩
  ·exact nomatch e
  ·injection e with e1 _;subst e1;cases v <;> rfl
inductive V where
 |non|bl(b:Bool)|int(i:Int)|str(x:Str)|byt(b:Array UInt8)|flt(b:UInt64)|ref(a:Addr)|ty(n:String)
 deriving DecidableEq
def RelV:V->Value->Prop
 |.non,u=>u=Value.none
 |.bl b,u=>u=Value.bool b
 |.int i,u=>∃t,u=Value.int i t
 |.str x,u=>∃t,u=Value.str x t
 |.byt b,u=>∃t,u=Value.bytes b t
 |.flt b,u=>∃t,u=Value.float b t
 |.ref a,u=>u=Value.ref a
 |.ty n,u=>u=Value.type n
abbrev Vals:List V->LW->Prop:=Paired RelV
theorem Vals.length{xs:List V}{us:LW}(r:Vals xs us):xs.length=us.length:=Paired.length r
theorem Vals.get:∀{xs:List V}{us:LW}{i:Nat}{x:V},Vals xs us->xs[i]?=some x->∃u,us[i]?=some u/\RelV x u
 |_,_,_,_,.nil,e=>by simp at e
 |_,_,0,_,.cons r _,e=>by simp at e;subst e;exact⟨_,rfl,r⟩
 |_,_,i+1,x,.cons _ b,e=>by
  obtain⟨u,c,a⟩:=Vals.get (i:=i) (x:=x) b (by simpa using e);exact⟨u,by simpa using c,a⟩
theorem Vals.set{x:V}{u:Value}(r:RelV x u):∀{xs:List V}{us:LW}(i:Nat),Vals xs us->Vals (xs.set i x) (us.set i u)
 |_,_,_,.nil=>.nil
 |_,_,0,.cons _ t=>.cons r t
 |_,_,i+1,.cons q t=>.cons q (Vals.set r i t)
theorem Vals.append:∀{xs ys:List V}{us a:LW},Vals xs us->Vals ys a->Vals (xs++ys) (us++a)
 |_,_,_,_,.nil,s=>s
 |_,_,_,_,.cons r b,s=>.cons r (Vals.append b s)
theorem Vals.take:∀{xs:List V}{us:LW}(n:Nat),Vals xs us->Vals (xs.take n) (us.take n)
 |_,_,0,_=>.nil
 |_,_,_+1,.nil=>.nil
 |_,_,n+1,.cons r t=>.cons r (Vals.take n t)
theorem Vals.drop:∀{xs:List V}{us:LW}(n:Nat),Vals xs us->Vals (xs.drop n) (us.drop n)
 |_,_,0,r=>r
 |_,_,_+1,.nil=>.nil
 |_,_,n+1,.cons _ t=>Vals.drop n t
theorem Vals.none_of:∀{xs:List V}{us:LW}{i:Nat},Vals xs us->xs[i]?=none->us[i]?=none:=λ{xs us i}r e=>by
 have b:=r.length;have a:xs.length<=i:=List.getElem?_eq_none_iff.mp e;exact List.getElem?_eq_none_iff.mpr ⋯
def RelO:Option V->Option Value->Prop
 |some v,some u=>RelV v u
 |none,none=>True
 |_,_=>False
def KV{κ:Type}:List (κ×V)->List (κ×Value)->Prop:=Paired λ(p:κ×V)(q:κ×Value)=>p.1=q.1/\RelV p.2 q.2
def kV:Key->V
 |.inl i=>.int i
 |.inr x=>.str x
inductive HO where
  |lst(xs:List V)
  |tup(xs:List V)
  |dK(kvs:List (Key×V))|dT(kvs:List (List Key×V))
  |set(S:Int->Bool)(n:Nat)
  |ins(C dx:Addr)(fs:List (Str×V))
  |own(x:Addr)
  |xd(fs:List (Str×V))
  |met(f x:Addr)
  |rng(lo hi:Int)
  |frz(o:Obj)(u:HO)
  |tbl(ps:Array Value)
  |ext(φ:Heap->Prop)
abbrev Hp:=Addr->Option HO
def upd(H:Hp)(a:Addr)(o:HO):Hp:=λb=>if b=a then some o else H b
theorem oS{H:Hp}{a:Addr}{o:HO}:upd H a o a=some o:=by unfold upd;rw[zF rfl]
theorem oV{H:Hp}{a b:Addr}{o:HO}(h:b≠a):upd H a o b=H b:=by unfold upd;rw[zD h]
theorem nY{H:Hp}{a b:Addr}{o:HO}(h:H a=some o)(h':H b=none):a≠b:=by
 intro e;subst e;rw[h]at h';cases h'
section
variable (P:Program) (w:World)
def nM(H:Hp)(h:Heap)(a:Addr):HO->Prop
 |.lst xs=>xs.length<=sizeLine/\∃(its:LW)(n:Nat),Vals xs its/\h.get? a=some {cls:=.type "list",data:=.seq its.toArray n}
 |.tup xs=>xs.length<=sizeLine/\∃its:LW,Vals xs its/\IsTup h a its.toArray
 |.dK kvs=>kvs.length<=sizeLine/\(a == sysModules)=false/\∃vs,KV kvs vs/\h.DictOf (Ev P w) a vs
 | .dT kvs=>kvs.length<=sizeLine/\(a == sysModules)=false/\∃xs:List (List Key×Addr×Value),
   Paired (λ(p:List Key×V)(q:List Key×Addr×Value)=>p.1=q.1/\H q.2.1=some (.tup (p.1.map kV))/\RelV p.2 q.2.2) kvs xs /\
   ∃o es ep,h.get? a=some o/\o.ExactDict/\o.data=.dict es ep/\es.toList=xs.map (entryOfKey (tupleKind (Ev P w)))/\(xs.map (·.1)).Nodup
 |.set S n=>h.SetOf (intKind P w) a S n
 | .ins C dx fs=>H dx=some (.own a)/\fs.length<=1000/\dx≠a/\h.get? a=some (PySem.W.instObj C dx) /\
   ∃mA,h.Ns1 dx mA/\(∀f,RelO (fs.lookup f) (mA f))/\PySem.Within mA (fs.map (·.1))
 |.own _=>∃o,h.get? a=some o
 |.xd fs=>∃mA,h.Ns1 a mA/\∀f,RelO (fs.lookup f) (mA f)
 |.rng lo hi=>∃t u v,h.get? a=some {cls:=.type "range",data:=.fields #[.int lo t,.int hi u,.int 1 v]}
 |.frz o u=>h.get? a=some o/\nM H h a u
 |.tbl ps=>h.get? a=some {cls:=.none,data:=.fields ps}
 |.met f x=>h.get? a=some (PySem.W.methodObj (.ref f) (.ref x))
 |.ext φ=>φ h/\(∃o,h.get? a=some o)/\∀h1 h2:Heap,φ h1->(∀o,h1.get? a=some o->h2.get? a=some o)->φ h2
def HOk(H:Hp)(h:Heap):Prop:=∀a o,H a=some o->nM P w H h a o
end
section
variable {P:Program} {w:World} {H H':Hp} {h h':Heap} {a:Addr} {o:HO}
theorem nM.lt(x:nM P w H h a o):a<h.objs.size:=by
 cases o with
 |lst xs=>obtain⟨_,_,_,_,e⟩:=x;exact zI e
 |tup xs=>obtain⟨_,_,_,p⟩:=x;exact p.lt
 |dK kvs=>obtain⟨_,_,_,_,o,_,_,e,_⟩:=x;exact zI e
 |dT kvs=>obtain⟨_,_,_,_,o,_,_,e,_⟩:=x;exact zI e
 |set b n=>obtain⟨o,_,_,_,e,_⟩:=x;exact zI e
 |ins C g fs=>obtain⟨_,_,_,e,_⟩:=x;exact zI e
 |own y=>obtain⟨_,e⟩:=x;exact zI e
 |xd fs=>obtain⟨_,⟨_,_,_,e,_⟩,_⟩:=x;exact zI e
 |rng lo hi=>obtain⟨_,_,_,e⟩:=x;exact zI e
 |frz d u=>obtain⟨e,_⟩:=x;exact zI e
 |tbl ps=>exact zI (show h.get? a=some _ from x)
 |met f y=>exact zI (show h.get? a=some _ from x)
 |ext c=>obtain⟨_,⟨_,e⟩,_⟩:=x;exact zI e
theorem Paired.mapP{g c:Type}{F i:g->c->Prop}:∀{e:List g}{d:List c},Paired F e d->(∀a b,F a b->i a b)->Paired i e d
 |_,_,.nil,_=>.nil
 |_,_,.cons r j,f=>.cons (f _ _ r) (Paired.mapP j f)
theorem nM.stay(x:nM P w H h a o)(k:∀b u,(b=a\/H b=some (.own a))->h.get? b=some u->h'.get? b=some u)
  (F:∀b,H b=some (.own a)->H' b=some (.own a))(t:∀b xs,H b=some (.tup xs)->H' b=some (.tup xs)):nM P w H' h' a o:=by
 induction o with
 |lst xs=>obtain⟨z,its,n,r,e⟩:=x;exact⟨z,its,n,r,k _ _ (.inl rfl) e⟩
 |tup xs=>obtain⟨z,its,r,g,e,c⟩:=x;exact⟨z,its,r,g,k _ _ (.inl rfl) e,c⟩
 |dK kvs=>obtain⟨z,y,vs,r,g,es,ep,e,c⟩:=x;exact⟨z,y,vs,r,g,es,ep,k _ _ (.inl rfl) e,c⟩
 |dT kvs =>
  obtain⟨z,y,xs,r,g,es,ep,e,c⟩:=x;exact⟨z,y,xs,Paired.mapP r λp q z=>⟨z.1,t _ _ z.2.1,z.2.2⟩,g,es,ep,k _ _ (.inl rfl) e,c⟩
 |set G n=>obtain⟨g,es,ep,j,e,c⟩:=x;exact⟨g,es,ep,j,k _ _ (.inl rfl) e,c⟩
 |ins C J fs =>
  obtain⟨d,z,D,e,i,⟨od,es,ep,l,c⟩,r⟩:=x;exact⟨F _ d,z,D,k _ _ (.inl rfl) e,i,⟨od,es,ep,k _ _ (.inr d) l,c⟩,r⟩
 |own y=>obtain⟨g,e⟩:=x;exact⟨g,k _ _ (.inl rfl) e⟩
 |xd fs=>obtain⟨i,⟨od,es,ep,e,c⟩,r⟩:=x;exact⟨i,⟨od,es,ep,k _ _ (.inl rfl) e,c⟩,r⟩
 |rng lo hi=>obtain⟨j,u,v,e⟩:=x;exact⟨j,u,v,k _ _ (.inl rfl) e⟩
 |frz g u m=>obtain⟨e,q⟩:=x;exact⟨k _ _ (.inl rfl) e,m q⟩
 |tbl ps =>
  have e:h.get? a=some {cls:=.none,data:=.fields ps}:=x;show h'.get? a=some {cls:=.none,data:=.fields ps};exact k a _ (.inl rfl) e
 |met f y =>
  have e:h.get? a=some (PySem.W.methodObj (.ref f) (.ref y)):=x;show h'.get? a=some (PySem.W.methodObj (.ref f) (.ref y));exact k a _ (.inl rfl) e
 |ext I=>obtain⟨p,⟨o,e⟩,st⟩:=x;exact⟨st _ _ p λo q=>k _ _ (.inl rfl) q,⟨o,k _ _ (.inl rfl) e⟩,st⟩
theorem HOk.lt(x:HOk P w H h)(e:H a=some o):a<h.objs.size:=(x a o e).lt
theorem HOk.fresh(x:HOk P w H h)(e:h.objs.size<=a):H a=none:=by
 cases q:H a with
 |none=>rfl
 |some u=>exact absurd (zJ (x.lt q) e) (yW _)
theorem HOk.kept(x:HOk P w H h)(k:∀b u,h.get? b=some u->h'.get? b=some u):HOk P w H h':=λa o e =>
 (x a o e).stay (λb u _ q=>k b u q) (λ_ q=>q) λ_ _ q=>q
theorem HOk.laid(x:HOk P w H h)(k:∀b u,h.get? b=some u->h'.get? b=some u)(g:h.objs.size<=a)(new:nM P w (upd H a o) h' a o):HOk P w (upd H a o) h':=λb u e=>by
 have d:=x.fresh g
 by_cases f:b=a
 ·subst f;rw[oS]at e;cases e;exact new
 ·rw[oV f]at e;exact(x b u e).stay (λc v _ q=>k c v q) (λc q=>by rw[oV (nY q d)];exact q) λc xs q=>by rw[oV (nY q d)];exact q
end
def Rd(H:Hp)(a:Addr)(u:HO):Prop:=H a=some u\/∃o,H a=some (.frz o u)
theorem Rd.ok{P:Program}{w:World}{H:Hp}{h:Heap}{a:Addr}{u:HO}(r:Rd H a u)(x:HOk P w H h):nM P w H h a u:=by
 rcases r with r|⟨o,r⟩
 ·exact x a u r
 ·obtain⟨_,q⟩:=x a _ r;exact q
def Mut:Option HO->Prop
 |some (.lst _)=>True
 |some (.dK _)=>True
 |some (.dT _)=>True
 |some (.set _ _)=>True
 |some (.ins _ _ _)=>True
 |some (.ext _)=>True
 |_=>False
section
variable {P:Program} {w:World} {H:Hp} {h h':Heap} {x e:Addr} {o':HO}
theorem HOk.write(ok:HOk P w H h)(a:Mut (H x))(l:e=x\/H e=some (.own x))(k:∀b u,b≠e->h.get? b=some u->h'.get? b=some u)(n:∃u,h'.get? e=some u)
  (new:nM P w (upd H x o') h' x o'):HOk P w (upd H x o') h':=λb u q=>by
 have i:∀c y,H c=some (.own y)->c≠x:=λc y r z=>by subst z;rw[r]at a;exact a
 have o:∀c xs,H c=some (.tup xs)->c≠x:=λc xs r z=>by subst z;rw[r]at a;exact a
 by_cases f:b=x
 ·subst f;rw[oS]at q;cases q;exact new
 ·rw[oV f]at q
  by_cases g:b=e
  ·have j:H b=some (.own x):=by
    rcases l with z|z
    ·exact absurd (g.trans z) f
    ·rw[g];exact z
   rw[q]at j;cases j;obtain⟨v,m⟩:=n;exact⟨v,by rw[g];exact m⟩
  ·refine(ok b u q).stay (λc v d r=>k c v ?_ r) (λc r=>by rw[oV (i c b r)];exact r) λc xs r=>by rw[oV (o c xs r)];exact r
   rcases d with rfl|d
   ·exact g
   ·rintro rfl;rcases l with z|z
    ·exact i c b d z
    ·rw[d]at z;cases z;exact f rfl
end
structure Un(fs ex:LA)(H H':Hp)(h h':Heap):Prop where
 keep:∀b o,h.get? b=some o->H b=none->b∉fs->b∉ex->h'.get? b=some o
 slot:∀b o,h.get? b=some o->H b=none->b∈fs->b∉ex->∃sl,h'.get? b=some {o with slots:=sl}
 free:∀b o,h.get? b=some o->H b=none->b∉ex->H' b=none
 there:∀b o,h.get? b=some o->b∉ex->∃o',h'.get? b=some o'
 tups:∀b xs,H b=some (.tup xs)->H' b=some (.tup xs)
 frzs:∀b o u,H b=some (.frz o u)->H' b=some (.frz o u)
 tbls:∀b ps,H b=some (.tbl ps)->∃more,H' b=some (.tbl (ps++more))
section
variable {fs fs' ex ex':LA} {H H1 H2:Hp} {h h1 h2 h':Heap} {a x e:Addr} {o:HO}
theorem Un.any(u:Un fs ex H H1 h h1){b:Addr}{c:Obj}(q:h.get? b=some c)(n:H b=none)(d:b∉ex):∃g,h1.get? b=some {c with slots:=g}:=by
 by_cases f:b∈fs
 ·exact u.slot b c q n f d
 ·exact⟨c.slots,u.keep b c q n f d⟩
theorem Un.trans(a:Un fs ex H H1 h h1)(b:Un fs ex H1 H2 h1 h2):Un fs ex H H2 h h2 where
 keep:=λc f q n g d=>b.keep c f (a.keep c f q n g d) (a.free c f q n d) g d
 slot:=λc f q n g d=>by
  obtain⟨p,e1⟩:=a.slot c f q n g d;obtain⟨m,i⟩:=b.slot c _ e1 (a.free c f q n d) g d;exact⟨m,i⟩
 free:=λc f q n d=>by
  obtain⟨j,e1⟩:=a.there c f q d;exact b.free c j e1 (a.free c f q n d) d
 there:=λc f q d=>by
  obtain⟨j,e1⟩:=a.there c f q d;exact b.there c j e1 d
 tups:=λc xs q=>b.tups c xs (a.tups c xs q)
 frzs:=λc f xs q=>b.frzs c f xs (a.frzs c f xs q)
 tbls:=λc ps q=>by
  obtain⟨k,e1⟩:=a.tbls c ps q;obtain⟨l,i⟩:=b.tbls c _ e1;exact⟨k++l,by rw[i,Array.append_assoc]⟩
theorem Un.kept(k:∀b u,h.get? b=some u->h'.get? b=some u):Un fs ex H H h h':=
 ⟨λb c q _ _ _=>k b c q,λb c q _ _ _=>⟨c.slots,k b c q⟩,λ_ _ _ n _=>n,λb c q _=>⟨c,k b c q⟩,λ_ _ q=>q,λ_ _ _ q=>q,λ_ ps q=>⟨#[],by rw[q];simp⟩⟩
theorem Un.refl:Un fs ex H H h h:=Un.kept λ_ _ q=>q
theorem Un.laid(k:∀b u,h.get? b=some u->h'.get? b=some u)(d:h.objs.size<=a)(c:H a=none):Un fs ex H (upd H a o) h h' where
 keep:=λb u q _ _ _=>k b u q
 slot:=λb u q _ _ _=>⟨u.slots,k b u q⟩
 free:=λb u q n _=>by rw[oV (zX (zJ (zI q) d))];exact n
 there:=λb u q _=>⟨u,k b u q⟩
 tups:=λb xs q=>by rw[oV (nY q c)];exact q
 frzs:=λb u xs q=>by rw[oV (nY q c)];exact q
 tbls:=λb ps q=>⟨#[],by rw[oV (nY q c),q];simp⟩
theorem Un.write(c:Mut (H x))(l:e=x\/H e=some (.own x))(k:∀b u,b≠e->h.get? b=some u->h'.get? b=some u)(j:∃u,h'.get? e=some u):Un fs ex H (upd H x o) h h':=by
 have f:∀b,H b=none->b≠x:=λb n z=>by subst z;rw[n]at c;exact c
 have g:∀b,H b=none->b≠e:=λb n z=>by
  subst z;rcases l with r|r
  ·exact f b n r
  ·rw[n]at r;cases r
 have d:∀b u,H b=some u->¬ Mut (some u)->b≠x:=λb u q nm z=>by subst z;rw[q]at c;exact nm c
 refine⟨λb u q n _ _=>k b u (g b n) q,λb u q n _ _=>⟨u.slots,k b u (g b n) q⟩,λb u q n _=>by rw[oV (f b n)];exact n,λb u q _=>?_,
  λb xs q=>by rw[oV (d b _ q λz=>z)];exact q,λb u xs q=>by rw[oV (d b _ q λz=>z)];exact q,λb ps q=>⟨#[],by rw[oV (d b _ q λz=>z),q];simp⟩⟩
 by_cases i:b=e
 ·subst i;exact j
 ·exact⟨u,k b u i q⟩
theorem Un.mono(u:Un fs ex H H1 h h1)(i:∀b∈fs,b∈fs')(f:∀b∈ex,b∈ex'):Un fs' ex' H H1 h h1:=
 ⟨λb d q n g c=>u.keep b d q n (λz=>g (i b z)) λz=>c (f b z),λ_ _ q n _ c=>u.any q n λz=>c (f _ z),λb d q n c=>u.free b d q n λz=>c (f b z),λb d q c=>u.there b d q λz=>c (f b z),u.tups,u.frzs,u.tbls⟩
end
def trk(h:Heap)(H:Hp):LA:=(List.range h.objs.size).filter λa=>(H a).isSome
def hidT(h:Heap)(H:Hp):Heap:=PySem.W.hideAll h (trk h H)
theorem Mz(h:Heap)(H:Hp):(hidT h H).objs.size=h.objs.size:=PySem.W.hideAll_size _ _
theorem My{h:Heap}{H:Hp}{b:Addr}{o:Obj}(e:h.get? b=some o)(n:H b=none):(hidT h H).get? b=some o:=
 rJ _ e λa=>by
  have q:(H b).isSome=true:=(List.mem_filter.mp a).2;rw[n]at q;simp at q
theorem Mx{h:Heap}{H:Hp}{b:Addr}{o:Obj}(e:(hidT h H).get? b=some o):h.get? b=some o/\H b=none:=by
 have a:h.get? b=some o:=qC (trk h H) e;refine⟨a,?_⟩;cases q:H b with
 |none=>rfl
 |some x =>
  have c:b∈trk h H:=List.mem_filter.mpr ⟨oG.mpr (zI a),by simp[q]⟩;have z:(hidT h H).get? b=none:=sZ (trk h H) c;rw[z]at e;cases e
def Mw(g h:Heap)(L:Addr):PN:=(List.range h.objs.size).filterMap λa=>if a=L\/(g.get? a).isSome=true then none else(h.get? a).map λo=>(a,o)
def rest(g h:Heap)(L d:Addr):PN:=(Mw g h L).filter λp=>decide (p.1≠d)
structure Mod(K:Frag)(mg:MT)(base:Heap):Prop where
 kin:K.In base
 glob:base.Ns mainGlobals mg
 blt:∃mb,base.Ns builtinsNs mb/\∀x:Str,x≠"__name__" -> mb x=bootBuiltins x
 nolimit:base.NoLimit
structure Cx where
 prog:Program
 w:World
 K:Frag
 mg:MT
 base:Heap
 A:Around
 N:List Str
 s₀:Shared
 H₀:Hp
 env:Env
 outer:List Env
 stack:List Env
 ex:LA
 fn:Str->Bool
 calm:Bool
 pn:PN
 xe:VP
def frs(l:List Env):LA:=l.filterMap (·.frame)
abbrev Cx.fs(X:Cx):LA:=frs X.outer
def Vis(sc:Scope)(x:Str):Prop:=sc.names.lookup x=some .local\/sc.names.lookup x=some .cell\/sc.names.lookup x=some .free
def Loc(sc:Scope)(x:Str):Prop:=sc.names.lookup x=some .local\/sc.names.lookup x=some .cell
def Look(env:Env)(h:Heap)(m:MT)(x:Str)(u:Value):Prop:=
 (env.kindOf x=some .local/\m x=some u)\/((env.kindOf x=some .cell\/env.kindOf x=some .free)/\∃c,env.cells.lookup x=some c/\h.IsCell c (some u))
structure Cx.Ok(X:Cx):Prop where
 mod:Mod X.K X.mg X.base
 kind:X.env.scope.kind=.function
 glob:X.env.globals=mainGlobals
 blt:X.env.builtins=builtinsNs
 above:X.s₀.heap.objs.size<=X.env.locals
 inj:∀x y c,X.env.cells.lookup x=some c->X.env.cells.lookup y=some c->x=y
 has:∀x,(X.env.kindOf x=some .cell\/X.env.kindOf x=some .free)->∃c,X.env.cells.lookup x=some c
 cab:∀x c,X.fn x=true->X.env.cells.lookup x=some c->X.s₀.heap.objs.size<=c
 hd:X.calm=true->X.A.handled=none
 frames:X.A.frames=some X.stack
 stk:X.stack=X.outer\/(X.stack=X.env:: X.outer/\X.env.frame=some X.env.locals)
 exf:∀b∈X.ex,b≠X.env.locals/\∀x c,X.env.cells.lookup x=some c->c≠b
 bs:∀b o,X.base.get? b=some o->X.s₀.heap.get? b=some o/\X.H₀ b=none
 bsz:X.base.objs.size<=X.s₀.heap.objs.size
 noex:∀b o,X.base.get? b=some o->b∉X.ex
 exfs:∀b∈X.ex,b∉X.fs
 funs:X.s₀.heap.FunFrames X.base X.outer
 frf:∀b∈X.fs,X.H₀ b=none
structure Inv(X:Cx)(pins:PN)(σ:List (Option V))(H:Hp)(s:Shared):Prop where
 ok:X.Ok
 os:s.os=X.s₀.os
 bare:AllBare s.gens
 base:Un X.fs X.ex X.H₀ H X.s₀.heap s.heap
 loc:∃m,s.heap.Ns X.env.locals m/\∀(i:Nat)(x:Str)(v:V),X.N[i]?=some x->σ[i]?=some (some v)->Vis X.env.scope x->∃u,RelV v u/\Look X.env s.heap m x u
 cell:∀x c,X.env.cells.lookup x=some c->∃v,s.heap.IsCell c v
 free:H X.env.locals=none
 freeC:∀x c,X.env.cells.lookup x=some c->H c=none
 pin:∀p∈X.pn++pins,s.heap.get? p.1=some p.2/\H p.1=none/\p.1≠X.env.locals/\p.1∉X.fs/\∀v,p.2.data≠.cell v
 hok:HOk X.prog X.w H s.heap
 len:σ.length=X.N.length
section
variable {X:Cx} {pins:PN} {σ:List (Option V)} {H H':Hp} {s:Shared} {h':Heap}
theorem Cx.Ok.nofr(ok:X.Ok){b:Addr}{o:Obj}(e:X.base.get? b=some o):b∉X.fs:=λa=>by
 have:=(ok.funs.mem a).1;rw[e]at this;cases this
theorem Inv.bs(I:Inv X pins σ H s):∀b o,X.base.get? b=some o->s.heap.get? b=some o/\H b=none:=λb o e =>
 ⟨I.base.keep b o (I.ok.bs b o e).1 (I.ok.bs b o e).2 (I.ok.nofr e) (I.ok.noex b o e),I.base.free b o (I.ok.bs b o e).1 (I.ok.bs b o e).2 (I.ok.noex b o e)⟩
theorem Inv.bk(I:Inv X pins σ H s):∀b o,X.base.get? b=some o->s.heap.get? b=some o:=λb o e=>(I.bs b o e).1
theorem Inv.mod(I:Inv X pins σ H s):Mod X.K X.mg X.base:=I.ok.mod
theorem Inv.kIn(I:Inv X pins σ H s):X.K.In s.heap:=I.ok.mod.kin.keeps I.bk
theorem Inv.nolimit(I:Inv X pins σ H s):s.heap.NoLimit:=I.ok.mod.nolimit.keeps I.bk
theorem Inv.fr(I:Inv X pins σ H s):∃m,Fr X.base X.env.locals s.heap m:=
 let ⟨m,a,_⟩:=I.loc
 ⟨m,a,I.bk,yC I.ok.bsz I.ok.above⟩
theorem Inv.lt(I:Inv X pins σ H s):X.env.locals<s.heap.objs.size:=let ⟨_,a,_⟩:=I.loc;a.lt
theorem Inv.sz(I:Inv X pins σ H s):X.s₀.heap.objs.size<=s.heap.objs.size:=yC I.ok.above (vL I.lt)
theorem Inv.nofs(I:Inv X pins σ H s){a:Addr}(h:s.heap.objs.size<=a):a∉X.fs:=λb=>by
 obtain⟨_,o,c,_⟩:=I.ok.funs.mem b;exact absurd (zJ (zI c) (yC I.sz h)) (yW _)
theorem Inv.cne(I:Inv X pins σ H s):∀x c,X.env.cells.lookup x=some c->c≠X.env.locals:=λx c e z=>by
 obtain⟨v,o,b,a⟩:=I.cell x c e;obtain⟨m,⟨g,es,ep,d,f,_⟩,_⟩:=I.loc;rw[z,d]at b;cases b;rw[f]at a;cases a
theorem Inv.funs(I:Inv X pins σ H s):s.heap.FunFrames X.base X.outer:=by
 have all:∀(l:List Env),(∀b∈frs l,b∈X.fs)->X.s₀.heap.FunFrames X.base l->s.heap.FunFrames X.base l:=by
  intro l
  induction l with
  |nil=>intro _ _;trivial
  |cons env r g =>
   intro f hl;obtain⟨i,⟨L,o,c,k,m,j⟩,hr⟩:=hl;have a:L∈X.fs:=f L (by unfold frs;rw[tM,c];exact yD);obtain⟨n,e⟩:=I.base.slot L o m (I.ok.frf L a) a λz=>I.ok.exfs L z a;exact⟨i,⟨L,_,c,k,e,j⟩,g (λb d=>f b (by unfold frs;rw[tM,c];exact zT _ d)) hr⟩
 exact all X.outer (λ_ d=>d) I.ok.funs
theorem Inv.stack(I:Inv X pins σ H s):s.heap.FunFrames X.base X.stack:=by
 rcases I.ok.stk with e|⟨e,b⟩
 ·rw[e];exact I.funs
 ·rw[e];obtain⟨m,a,_⟩:=I.loc;refine .cons (by rw[I.ok.kind];decide) b a ?_ I.funs;exact Heap.get?_none_of_le (yC I.ok.bsz I.ok.above)
theorem Inv.stkSub(I:Inv X pins σ H s):∀b∈frs X.stack,b∈X.env.locals:: X.fs:=λb a=>by
 rcases I.ok.stk with e|⟨e,c⟩
 ·rw[e]at a;exact zT _ a
 ·rw[e]at a;unfold frs at a;rw[tM,c]at a;exact a
theorem Inv.stkFree(I:Inv X pins σ H s):∀b∈frs X.stack,H b=none:=λb a=>by
 rcases xC.mp (I.stkSub b a) with e|a
 ·rw[e];exact I.free
 ·obtain⟨_,o,c,_⟩:=I.ok.funs.mem a;exact I.base.free b o c (I.ok.frf b a) λz=>I.ok.exfs b z a
theorem Inv.step{g':Array GenState}{t':Nat}{d':Drawn}{ch:LA}(I:Inv X pins σ H s)
  (j:∀b∈ch,(b∈X.ex\/X.s₀.heap.objs.size<=b)/\b≠X.env.locals/\(∀x c,X.env.cells.lookup x=some c->c≠b)/\∀p∈X.pn++pins,p.1≠b)
  (F:∀b o,b≠X.env.locals->b∉X.fs->b∉ch->s.heap.get? b=some o->H b=none->h'.get? b=some o)
  (N:∀b o,b≠X.env.locals->b∈X.fs->b∉ch->s.heap.get? b=some o->H b=none->∃G,h'.get? b=some {o with slots:=G})(free:∀b o,b∉ch->s.heap.get? b=some o->H b=none->H' b=none)
  (there:∀b o,b∉ch->s.heap.get? b=some o->∃w,h'.get? b=some w)
  (S:∀b xs,H b=some (.tup xs)->H' b=some (.tup xs))(T:∀b o u,H b=some (.frz o u)->H' b=some (.frz o u))(a0:∀b ps,H b=some (.tbl ps)->∃more,H' b=some (.tbl (ps++more)))
  (ns:∀m,s.heap.Ns X.env.locals m->h'.Ns X.env.locals m)(R:HOk X.prog X.w H' h')(W:AllBare g'):
  Inv X pins σ H' {s with heap:=h',gens:=g',drawn:=d',toks:=t'}:=by
 have J:∀b o,X.s₀.heap.get? b=some o->b≠X.env.locals:=λb o e=>zX (zJ (zI e) I.ok.above);have C:∀b o,X.s₀.heap.get? b=some o->b∉X.ex->b∉ch:=λb o e a f=>by
  rcases(j b f).1 with z|z
  ·exact a z
  ·exact absurd (zJ (zI e) z) (yW _)
 have O:∀x c,X.env.cells.lookup x=some c->∀v,s.heap.IsCell c v->h'.IsCell c v:=λx c e v⟨o,g,D⟩=>by
  have y:c∉ch:=λz=>(j c z).2.2.1 x c e rfl
  by_cases M:c∈X.fs
  ·obtain⟨G,q⟩:=N c o (I.cne x c e) M y g (I.freeC x c e);exact⟨_,q,D⟩
  ·exact⟨o,F c o (I.cne x c e) M y g (I.freeC x c e),D⟩
 refine⟨I.ok,I.os,W,⟨λb o e n f a=>?_,λb o e n f a=>?_,λb o e n a=>?_,λb o e a=>?_,λb xs e=>S b xs (I.base.tups b xs e),λb o xs e=>T b o xs (I.base.frzs b o xs e),λb ps e=>?_⟩,?_,λx c e=>?_,?_,λx c e=>?_,λp P=>?_,R,I.len⟩
 ·exact F b o (J b o e) f (C b o e a) (I.base.keep b o e n f a) (I.base.free b o e n a)
 ·obtain⟨G,e1⟩:=I.base.slot b o e n f a;obtain⟨Z,t⟩:=N b _ (J b o e) f (C b o e a) e1 (I.base.free b o e n a);exact⟨Z,t⟩
 ·obtain⟨w,e1⟩:=I.base.there b o e a;exact free b w (C b o e a) e1 (I.base.free b o e n a)
 ·obtain⟨w,e1⟩:=I.base.there b o e a;exact there b w (C b o e a) e1
 ·obtain⟨U,e1⟩:=I.base.tbls b ps e;obtain⟨a2,t⟩:=a0 b _ e1;exact⟨U++a2,by rw[t,Array.append_assoc]⟩
 ·obtain⟨m,a1,hl⟩:=I.loc;refine⟨m,ns m a1,λi x v e1 t Y=>?_⟩;obtain⟨u,r,l⟩:=hl i x v e1 t Y;refine⟨u,r,?_⟩;rcases l with l|⟨k,c,e,z⟩
  ·exact .inl l
  ·exact .inr ⟨k,c,e,O x c e _ z⟩
 ·obtain⟨v,z⟩:=I.cell x c e;exact⟨v,O x c e v z⟩
 ·obtain⟨m,⟨o,_,_,g,_⟩,_⟩:=I.loc;exact free _ o (λz=>(j _ z).2.1 rfl) g I.free
 ·obtain⟨v,o,g,D⟩:=I.cell x c e;exact free c o (λz=>(j c z).2.2.1 x c e rfl) g (I.freeC x c e)
 ·obtain⟨e,n,K,L,d⟩:=I.pin p P;have y:p.1∉ch:=λz=>(j p.1 z).2.2.2 p P rfl;exact⟨F p.1 p.2 K L y e n,free p.1 p.2 y e n,K,L,d⟩
theorem Inv.un{t':Nat}(I:Inv X pins σ H s)(u:Un X.fs [] H H' s.heap h')(f:HOk X.prog X.w H' h'):Inv X pins σ H' {s with heap:=h',toks:=t'}:=by
 obtain⟨m,⟨o,es,ep,d,r⟩,_⟩:=id I.loc;obtain⟨q,i⟩:=u.any d I.free (by simp);exact I.step (g':=s.gens) (d':=s.drawn) (ch:=[]) (λ_ z=>nomatch z) (λb o _ a _ e n=>u.keep b o e n a (by simp)) (λb o _ a _ e n=>u.slot b o e n a (by simp)) (λb o _ e n=>u.free b o e n (by simp)) (λb o _ e=>u.there b o e (by simp)) u.tups u.frzs u.tbls (λt k=>by
  obtain⟨p,j,l,c,g⟩:=k;rw[d]at c;cases c;exact⟨_,j,l,i,g⟩) f I.bare
theorem Inv.call{g':Array GenState}{t':Nat}{d':Drawn}{ch:LA}(I:Inv X pins σ H s)(u:Un (frs X.stack) ch H H' s.heap h')(j:HOk X.prog X.w H' h')(l:AllBare g')
  (f:∀b∈ch,(b∈X.ex\/X.s₀.heap.objs.size<=b)/\b≠X.env.locals/\(∀x c,X.env.cells.lookup x=some c->c≠b)/\∀p∈X.pn++pins,p.1≠b):
  Inv X pins σ H' {s with heap:=h',gens:=g',drawn:=d',toks:=t'}:=by
 obtain⟨m,⟨o,es,ep,i,r⟩,_⟩:=id I.loc;obtain⟨C,d⟩:=u.any i I.free λz=>(f _ z).2.1 rfl;exact I.step (ch:=ch) f (λb o d v a e n=>u.keep b o e n (λz=>(xC.mp (I.stkSub b z)).elim d v) a) (λb o _ _ a e n=>u.any e n a) (λb o a e n=>u.free b o e n a) (λb o a e=>u.there b o e a) u.tups u.frzs u.tbls (λD t=>by
  obtain⟨y,q,w,g,k⟩:=t;rw[i]at g;cases g;exact⟨_,q,w,d,k⟩) j l
theorem Inv.turned{t':Nat}{a:Addr}(I:Inv X pins σ H s)(k:∀b o,b≠a->s.heap.get? b=some o->h'.get? b=some o)(y:H a=none)(f:a≠X.env.locals)
  (l:a∈X.ex\/X.s₀.heap.objs.size<=a)(i:∀x c,X.env.cells.lookup x=some c->c≠a)(w:∀p∈X.pn++pins,p.1≠a):Inv X pins σ H {s with heap:=h',toks:=t'}:=by
 have g:∀b u,H b=some u->b≠a:=λb u e z=>by rw[z,y]at e;cases e
 refine I.step (g':=s.gens) (d':=s.drawn) (ch:=[a]) (λb t=>?_) (λb o _ _ d e _=>k b o (λz=>d (by simp[z])) e) (λb o _ _ d e _=>⟨o.slots,k b o (λz=>d (by simp[z])) e⟩) (λ_ _ _ _ n=>n)
  (λb o d e=>⟨o,k b o (λz=>d (by simp[z])) e⟩) (λ_ _ e=>e) (λ_ _ _ e=>e) (λb ps e=>⟨#[],by rw[e];simp⟩) (λm j=>?_) (λb u e=>?_) I.bare
 ·have e:b=a:=by simpa using t
  subst e;exact⟨l,f,i,w⟩
 ·obtain⟨o,es,ep,C,r⟩:=j;exact⟨o,es,ep,k _ o (zZ f) C,r⟩
 ·refine(I.hok b u e).stay (λc v d q=>k c v ?_ q) (λ_ q=>q) λ_ _ q=>q;rcases d with z|z
  ·rw[z];exact g b u e
  ·exact g c _ z
theorem Inv.tok(I:Inv X pins σ H s)(t:Nat):Inv X pins σ H {s with toks:=t}:=I.un (h':=s.heap) (t':=t) Un.refl I.hok
theorem Inv.kept{t':Nat}(I:Inv X pins σ H s)(k:∀b u,s.heap.get? b=some u->h'.get? b=some u):Inv X pins σ H {s with heap:=h',toks:=t'}:=I.un (Un.kept k) (I.hok.kept k)
theorem Inv.laid{a:Addr}{o:HO}{t':Nat}(I:Inv X pins σ H s)(k:∀b u,s.heap.get? b=some u->h'.get? b=some u)(c:s.heap.objs.size<=a)(new:nM X.prog X.w (upd H a o) h' a o):
  Inv X pins σ (upd H a o) {s with heap:=h',toks:=t'}:=I.un (Un.laid k c (I.hok.fresh c)) (I.hok.laid k c new)
theorem Inv.write{x e:Addr}{o:HO}{t':Nat}(I:Inv X pins σ H s)(c:Mut (H x))(a:e=x\/H e=some (.own x))(k:∀b u,b≠e->s.heap.get? b=some u->h'.get? b=some u)(d:∃u,h'.get? e=some u)
  (new:nM X.prog X.w (upd H x o) h' x o):Inv X pins σ (upd H x o) {s with heap:=h',toks:=t'}:=I.un (Un.write c a k d) (I.hok.write c a k d new)
theorem Inv.pins_of{a:PN}(I:Inv X pins σ H s)(h:∀p∈a,s.heap.get? p.1=some p.2/\H p.1=none/\p.1≠X.env.locals/\p.1∉X.fs/\∀v,p.2.data≠.cell v):Inv X a σ H s:=
 ⟨I.ok,I.os,I.bare,I.base,I.loc,I.cell,I.free,I.freeC,λp b=>(oF.mp b).elim (λz=>I.pin p (wJ _ z)) (h p),I.hok,I.len⟩
theorem Ax{N:List Str}(d:N.Nodup){i j:Nat}{x:Str}(a:N[i]?=some x)(b:N[j]?=some x):i=j:=by
 obtain⟨f,e1⟩:=oK.mp a;obtain⟨e,c⟩:=oK.mp b;exact(List.getElem_inj d).mp (e1.trans c.symm)
theorem Eu{M:Model}{A:Around}{E:VP}{i:Nat}{x:Str}{v:V}{u:Value}{Q:Unit->Shared->Prop}(I:Inv X pins σ H s)(a3:X.N.Nodup)(hi:X.N[i]?=some x)(l:Loc X.env.scope x)(r:RelV v u)
  (h:∀L,Inv X pins (σ.set i (some v)) H L->(∃a,Heap.SameBut a s.heap L.heap/\(a=X.env.locals\/X.env.cells.lookup x=some a))->Q () L)(a9:X.fn x=true\/X.env.scope.names.lookup x=some .local:=by first|exact .inl rfl|exact .inr rfl|assumption):wpAny M A (storeName X.env x u) Q E s:=by
 obtain⟨m,S,hl⟩:=id I.loc;have b0:(X.env.scope.kind == .class || (X.env.scope.kind == .module && X.env.locals != X.env.globals))=false:=by rw[I.ok.kind];rfl
 have a2:i<σ.length:=by rw[I.len];exact(oK.mp hi).1
 have cne:=I.cne;have a4:∀{a:Addr}{h':Heap},(∃o,s.heap.get? a=some o/\H a=none)->Heap.SameBut a s.heap h'->HOk X.prog X.w H h':=λ{a h'}b3 f b b1 e=>by
  obtain⟨_,_,Z⟩:=b3;refine(I.hok b b1 e).stay (λc F g q=>(f.2 c ?_).trans q) (λ_ q=>q) λ_ _ q=>q;rintro rfl;rcases g with rfl|g
  ·rw[Z]at e;cases e
  ·rw[Z]at g;cases g
 rcases l with w|w
 ·refine wpAny_storeName_local w S (λh' a8 f=>?_) b0;obtain⟨b2,_,_,b4,_⟩:=id S;refine h _ ⟨I.ok,I.os,I.bare,⟨λb o e n D l=>?_,λb o e n D l=>?_,I.base.free,λb o e l=>?_,I.base.tups,I.base.frzs,I.base.tbls⟩,⟨_,a8,λj y Y e1 t O=>?_⟩,λy c e=>?_,I.free,I.freeC,λp T=>?_,a4 ⟨b2,b4,I.free⟩ f,by simpa using I.len⟩ ⟨_,f,.inl rfl⟩
  ·exact(f.2 b (zX (zJ (zI e) I.ok.above))).trans (I.base.keep b o e n D l)
  ·obtain⟨U,e1⟩:=I.base.slot b o e n D l;exact⟨U,(f.2 b (zX (zJ (zI e) I.ok.above))).trans e1⟩
  ·obtain⟨P,e1⟩:=I.base.there b o e l;exact⟨P,(f.2 b (zX (zJ (zI e) I.ok.above))).trans e1⟩
  ·by_cases C:j=i
   ·subst C;rw[hi]at e1;cases e1;rw[xV a2]at t;cases t;exact⟨u,r,.inl ⟨w,by simp⟩⟩
   ·rw[vX (zZ C)]at t;obtain⟨K,N,q⟩:=hl j y Y e1 t O;refine⟨K,N,?_⟩;rcases q with⟨k,e⟩|⟨k,c,e,z⟩
    ·refine .inl ⟨k,?_⟩;have:y≠x:=λe=>C (Ax a3 e1 (e ▸ hi));simp[this,e]
    ·exact .inr ⟨k,c,e,z.sameBut f (cne y c e)⟩
  ·obtain⟨F,z⟩:=I.cell y c e;exact⟨F,z.sameBut f (cne y c e)⟩
  ·obtain⟨e,n,G,W,d⟩:=I.pin p T;exact⟨(f.2 p.1 G).trans e,n,G,W,d⟩
 ·have R:X.fn x=true:=by
   rcases a9 with z|z
   ·exact z
   ·rw[z]at w;cases w
  obtain⟨c,g⟩:=I.ok.has x (.inl w);obtain⟨F,z⟩:=I.cell x c g;refine wpAny_storeName_cell I.ok.kind w g z (λh' a0 f=>?_);obtain⟨a1,a5,b7⟩:=id z;refine h {s with heap:=h'} ⟨I.ok,I.os,I.bare,⟨λb o e n D l=>?_,λb o e n D l=>?_,I.base.free,λb o e l=>?_,I.base.tups,I.base.frzs,I.base.tbls⟩,⟨m,S.sameBut f (zZ (cne x c g)),λj y Y e1 t O=>?_⟩,λy J e=>?_,I.free,I.freeC,λp T=>?_,a4 ⟨a1,a5,I.freeC x c g⟩ f,by simpa using I.len⟩ ⟨c,f,.inr g⟩
  ·exact(f.2 b (zX (zJ (zI e) (I.ok.cab x c R g)))).trans (I.base.keep b o e n D l)
  ·obtain⟨U,e1⟩:=I.base.slot b o e n D l;exact⟨U,(f.2 b (zX (zJ (zI e) (I.ok.cab x c R g)))).trans e1⟩
  ·obtain⟨P,e1⟩:=I.base.there b o e l;exact⟨P,(f.2 b (zX (zJ (zI e) (I.ok.cab x c R g)))).trans e1⟩
  ·by_cases C:j=i
   ·subst C;rw[hi]at e1;cases e1;rw[xV a2]at t;cases t;exact⟨u,r,.inr ⟨.inl w,c,g,a0⟩⟩
   ·rw[vX (zZ C)]at t;obtain⟨K,N,q⟩:=hl j y Y e1 t O;refine⟨K,N,?_⟩;rcases q with q|⟨k,J,e,b6⟩
    ·exact .inl q
    ·refine .inr ⟨k,J,e,b6.sameBut f ?_⟩;rintro rfl;exact C (Ax a3 e1 (I.ok.inj _ _ _ e g ▸ hi))
  ·by_cases a6:J=c
   ·subst a6;exact⟨_,a0⟩
   ·obtain⟨b8,a7⟩:=I.cell y J e;exact⟨b8,a7.sameBut f a6⟩
  ·obtain⟨e,n,G,W,d⟩:=I.pin p T;refine⟨(f.2 p.1 ?_).trans e,n,G,W,d⟩;intro q;rw[q,a5]at e;have b5:a1=p.2:=zU e;exact d F (by rw[←b5];exact b7)
theorem gE{M:Model}{A:Around}{E:VP}{i:Nat}{x:Str}{v:V}{u:Value}{Q:Unit->Shared->Prop}(I:Inv X pins σ H s)(e:X.N.Nodup)(hi:X.N[i]?=some x)(b:Loc X.env.scope x)(r:RelV v u)
  (h:∀a,Inv X pins (σ.set i (some v)) H a->Q () a)(c:X.fn x=true\/X.env.scope.names.lookup x=some .local:=by first|exact .inl rfl|exact .inr rfl|assumption):wpAny M A (storeName X.env x u) Q E s:=
 Eu I e hi b r (λa d _=>h a d) c
theorem Inv.call'{a:Shared}{ch:LA}(I:Inv X pins σ H s)(j:a.os=s.os)(u:Un (frs X.stack) ch H H' s.heap a.heap)(f:HOk X.prog X.w H' a.heap)(i:AllBare a.gens)
  (d:∀b∈ch,(b∈X.ex\/X.s₀.heap.objs.size<=b)/\b≠X.env.locals/\(∀x c,X.env.cells.lookup x=some c->c≠b)/\∀p∈X.pn++pins,p.1≠b):Inv X pins σ H' a:=by
 obtain⟨h',g',d',t',g⟩:=a;have e:g=s.os:=j;subst e;exact I.call (g':=g') (t':=t') (d':=d') u f i d
end
abbrev XK:=Value->Option Addr->Hp->Prop
abbrev St:=List (Option V)
abbrev VK:=V->Hp->Prop
abbrev TE:=St->Hp->VK->Prop
abbrev TT:=St->Hp->(Bool->Hp->Prop)->Prop
abbrev TA:=St->Hp->(List V->Hp->Prop)->Prop
structure Ends where
 nx:St->Hp->Prop
 rt:VK
 bk:St->Hp->Prop:=λ_ _=>False
 ct:St->Hp->Prop:=λ_ _=>False
abbrev TS:=Ends->St->Hp->Prop
def EP(X:Cx)(pins:PN)(σ:St)(Q:VK)(u:Value)(s':Shared):Prop:=∃v H',Inv X pins σ H' s'/\RelV v u/\Q v H'
def TP(X:Cx)(pins:PN)(σ:St)(Q:Bool->Hp->Prop)(b:Bool)(s':Shared):Prop:=∃H',Inv X pins σ H' s'/\Q b H'
def AP(X:Cx)(pins:PN)(σ:St)(Q:List V->Hp->Prop)(us:LW)(s':Shared):Prop:=∃vs H',Inv X pins σ H' s'/\Vals vs us/\Q vs H'
def SP(X:Cx)(pins:PN)(D:Ends)(f:Flow)(s':Shared):Prop:=
 match f with
 |.next=>∃σ' H',Inv X pins σ' H' s'/\D.nx σ' H'
 |.brk=>∃σ' H',Inv X pins σ' H' s'/\D.bk σ' H'
 |.cont=>∃σ' H',Inv X pins σ' H' s'/\D.ct σ' H'
 |.ret u=>∃v σ' H',Inv X pins σ' H' s'/\RelV v u/\D.rt v H'
def PE(X:Cx)(e:Expr)(t:TE):Prop:=
 ∀(pins:PN)(s:Shared)(σ:St)(H:Hp)(Q:VK),Inv X pins σ H s->t σ H Q->wpAny (model X.prog X.w) X.A (eval e X.env) (EP X pins σ Q) X.xe s
def PT(X:Cx)(e:Expr)(t:TT):Prop:=
 ∀(pins:PN)(s:Shared)(σ:St)(H:Hp)(Q:Bool->Hp->Prop),Inv X pins σ H s->t σ H Q->wpAny (model X.prog X.w) X.A (isTrue e X.env (eval e X.env)) (TP X pins σ Q) X.xe s
def PW(X:Cx)(e:Expr)(t:TT):Prop:=
 ∀(whole:Sem Value)(pins:PN)(s:Shared)(σ:St)(H:Hp)(Q:Bool->Hp->Prop),Inv X pins σ H s->t σ H Q->wpAny (model X.prog X.w) X.A (isTrue e X.env whole) (TP X pins σ Q) X.xe s
theorem PW.pt{X:Cx}{e:Expr}{t:TT}(h:PW X e t):PT X e t:=h _
def PA(X:Cx)(es:List Expr)(t:TA):Prop:=
 ∀(pos:Pos)(pins:PN)(s:Shared)(σ:St)(H:Hp)(Q:List V->Hp->Prop),Inv X pins σ H s->t σ H Q->wpAny (model X.prog X.w) X.A (spliced (backTo pos (starEach es X.env))) (AP X pins σ Q) X.xe s
def PS(X:Cx)(st:Stmt)(t:TS):Prop:=
 ∀(pins:PN)(s:Shared)(σ:St)(H:Hp)(D:Ends),Inv X pins σ H s->t D σ H->wpAny (model X.prog X.w) X.A (exec st X.env) (SP X pins D) X.xe s
def PSs(X:Cx)(st:List Stmt)(t:TS):Prop:=
 ∀(pins:PN)(s:Shared)(σ:St)(H:Hp)(D:Ends),Inv X pins σ H s->t D σ H->wpAny (model X.prog X.w) X.A (execs st X.env) (SP X pins D) X.xe s
theorem thn{c:Type}{b:Sem c}{Q d:c->Shared->Prop}{M:Model}{A:Around}{E:VP}{s:Shared}(h:wpAny M A b Q E s)(e:∀a s,Q a s->d a s):wpAny M A b d E s:=yI h e λ_ _ x=>x
section
variable {X:Cx}
def tVar(i:Nat):TE:=λσ H Q=>∃v,σ[i]?=some (some v)/\Q v H
def tC(v:V):TE:=λ_ H Q=>Q v H
theorem Mv{i:Nat}{x:Str}{pos:Pos}(n:X.N[i]?=some x)(j:Vis X.env.scope x)(b:(x == ("__debug__" :Str))=false:=by decide)(q:(x == ("__classdict__" :Str))=false:=by decide):PE X (.Name x pos) (tVar i):=by
 intro k s p H Q I h;obtain⟨v,e,h⟩:=h;obtain⟨m,t,hl⟩:=I.loc;obtain⟨u,r,l⟩:=hl i x v n e j;have d:EP X k p Q u s:=⟨v,H,I,r,h⟩;rcases l with⟨a,o⟩|⟨a,c,f,g⟩
 ·exact wpAny_Name (wpAny_loadName_local I.ok.kind a t o d) b
 ·rcases a with a|a
  ·exact wpAny_Name (wpAny_loadName_cell I.ok.kind a f g d) b
  ·exact wpAny_Name (wpAny_loadName_free I.ok.kind a f g d q) b
theorem oO{i j pos}:PE X (.Constant (.int i) j pos) (tC (.int i)):=λ_ _ _ H _ I h=>wpAny_Constant_int ⟨.int i,H,I.tok _,⟨_,rfl⟩,h⟩
theorem kJ{b j pos}:PE X (.Constant (.bool b) j pos) (tC (.bl b)):=λ_ _ _ H _ I h=>Constant_bool ⟨.bl b,H,I,rfl,h⟩
theorem cC{j pos}:PE X (.Constant .none j pos) (tC .non):=λ_ _ _ H _ I h=>Constant_none ⟨.non,H,I,rfl,h⟩
theorem mJ{x j pos}:PE X (.Constant (.str x) j pos) (tC (.str x)):=λ_ _ _ H _ I h=>Calls.Constant_str ⟨.str x,H,I.tok _,⟨_,rfl⟩,h⟩
def Gl(X:Cx)(x:Str):Prop:=X.env.kindOf x=some .globalImplicit
theorem kZ{E:VP}{a:PN}{s:Shared}{e:St}{H:Hp}{x:Str}{u:Value}{pos:Pos}{Q:VP}(I:Inv X a e H s)(b:Gl X x)(c:X.mg x=some u)(h:Q u s)
  (d:(x == ("__debug__" :Str))=false:=by decide):wpAny (model X.prog X.w) X.A (eval (.Name x pos) X.env) Q E s:=
 Calls.Name_function_global I.ok.kind b (Calls.loadGlobal_global (by rw[I.ok.glob];exact I.mod.glob.keeps I.bk) c h) d
theorem iO{E:VP}{b:PN}{s:Shared}{i:St}{H:Hp}{x:Str}{u:Value}{pos:Pos}{Q:VP}(I:Inv X b i H s)(c:Gl X x)(e:X.mg x=none)(a:bootBuiltins x=some u)(h:Q u s)
  (j:x≠"__name__" := by decide)(f:(x == ("__debug__" :Str))=false:=by decide):wpAny (model X.prog X.w) X.A (eval (.Name x pos) X.env) Q E s:=by
 obtain⟨k,g,d⟩:=I.mod.blt;exact Calls.Name_function_global I.ok.kind c (Calls.loadGlobal_builtin (by rw[I.ok.glob];exact I.mod.glob.keeps I.bk) e (by rw[I.ok.blt];exact g.keeps I.bk) ((d x j).trans a) h) f
theorem lP{x:Str}{v:V}{u:Value}{pos:Pos}(c:Gl X x)(a:X.mg x=some u)(r:RelV v u)(b:(x == ("__debug__" :Str))=false:=by decide):PE X (.Name x pos) (tC v):=
 λ_ _ _ H _ I h=>kZ I c a ⟨v,H,I,r,h⟩ b
theorem iP{x:Str}{v:V}{u:Value}{pos:Pos}(b:Gl X x)(c:X.mg x=none)(a:bootBuiltins x=some u)(r:RelV v u)(e:x≠"__name__" := by decide)(d:(x == ("__debug__" :Str))=false:=by decide):PE X (.Name x pos) (tC v):=
 λ_ _ _ H _ I h=>iO I b c a ⟨v,H,I,r,h⟩ e d
variable {a b:Expr} {ta tb:TE} {pos:Pos}
def tB(t:TE):TT:=λσ H Q=>t σ H λx H1=>∃c,x=.bl c/\Q c H1
theorem mS{e:Expr}{f:TE}(h:PE X e f)(m:∀c,isTrue e X.env c=(do let v ←c;standAt e.pos;holding [v] (truthy v)):=by intro _;rfl):PT X e (tB f):=by
 intro i s k H Q I g;refine isTrue_plain (thn (h i s k H _ I g) λv n⟨x,H1,l,r1,j⟩=>?_) (m _);obtain⟨d,rfl,q⟩:=j;cases r1;exact uS ⟨H1,l,q⟩
variable {tA tB':TT} {rest:List Expr}
def tAnd(t u:TT):TT:=λσ H Q=>t σ H λc H1=>if c=true then u σ H1 Q else Q false H1
def tOr(t u:TT):TT:=λσ H Q=>t σ H λc H1=>if c=true then Q true H1 else u σ H1 Q
def tNot(t:TT):TT:=λσ H Q=>t σ H λc H1=>Q (!c) H1
theorem kK(d:PT X a tA):PW X (.BoolOp .Or [a] pos) tA:=by
 intro i f s g H Q I h;refine isTrue_or (thn (d f s g H Q I h) λc j e=>?_);cases c with
 |false=>exact isTrue_or_nil e
 |true=>exact e
theorem lD(i:PT X a tA)(k:PW X (.BoolOp .Or (b:: rest) pos) tB'):PW X (.BoolOp .Or (a:: b:: rest) pos) (tOr tA tB'):=by
 intro j d s f H Q I h;refine isTrue_or (thn (i d s f H _ I h) λc l⟨H1,g,e⟩=>?_);cases c with
 |true=>exact⟨H1,g,e⟩
 |false=>exact k j d l f H1 Q g e
theorem cD(d:PT X a tA):PT X (.UnaryOp .Not a pos) (tNot tA):=by
 intro e s f H Q I h;exact isTrue_not (d e s f H (λc H1=>Q (!c) H1) I h)
def Mu(ta tb:TE):TE:=λσ H Q=>ta σ H λx H1=>∃c,x=.bl c/\if c=true then tb σ H1 Q else Q (.bl false) H1
def tOrV(ta tb:TE):TE:=λσ H Q=>ta σ H λx H1=>∃c,x=.bl c/\if c=true then Q (.bl true) H1 else tb σ H1 Q
def t_w(ta:TE):TE:=λσ H Q=>ta σ H λx H1=>∃c,x=.bl c/\Q (.bl (!c)) H1
theorem fZ{op}{c:TE}(h:PE X a c):PE X (.BoolOp op [a] pos) c:=λe s f H Q I d=>BoolOp_one (h e s f H Q I d)
theorem cE(i:PE X a ta)(j:PE X (.BoolOp .And (b:: rest) pos) tb):PE X (.BoolOp .And (a:: b:: rest) pos) (Mu ta tb):=by
 intro e s f H Q I h;refine BoolOp_and (thn (i e s f H _ I h) λv k⟨x,H1,g,r1,d⟩=>?_);obtain⟨c,rfl,d⟩:=d;cases r1;refine uS ?_;cases c with
 |true=>exact j e k f H1 Q g d
 |false=>exact⟨.bl false,H1,g,rfl,d⟩
theorem Mt(i:PE X a ta)(j:PE X (.BoolOp .Or (b:: rest) pos) tb):PE X (.BoolOp .Or (a:: b:: rest) pos) (tOrV ta tb):=by
 intro e s f H Q I h;refine BoolOp_or (thn (i e s f H _ I h) λv k⟨x,H1,g,r1,d⟩=>?_);obtain⟨c,rfl,d⟩:=d;cases r1;refine uS ?_;cases c with
 |false=>exact j e k f H1 Q g d
 |true=>exact⟨.bl true,H1,g,rfl,d⟩
def tIf(t:TT)(ta tb:TE):TE:=λσ H Q=>t σ H λc H1=>if c=true then ta σ H1 Q else tb σ H1 Q
theorem Mr{c:Expr}(l:PT X c tA)(k:PE X a ta)(m:PE X b tb):PE X (.IfExp c a b pos) (tIf tA ta tb):=by
 intro e s f H Q I h;refine wpAny_IfExp (thn (l e s f H _ I h) λd j⟨H1,i,g⟩=>?_);cases d with
 |true=>exact k e j f H1 Q i g
 |false=>exact m e j f H1 Q i g
end
def SqL(K:Frag)(H:Hp)(a:Addr)(xs:List V):Prop:=
 Rd H a (.lst xs) \/
  ∃(o:Obj)(its:Array Value)(n:Nat),K.lookup a=some o/\o.cls=.type "list" /\ o.dict=none/\o.data=.seq its n/\its.size<=sizeLine/\Vals xs its.toList
def SqT(K:Frag)(H:Hp)(a:Addr)(xs:List V):Prop:=
 Rd H a (.tup xs) \/
  ∃(o:Obj)(its:Array Value)(n:Nat),K.lookup a=some o/\o.cls=.type "tuple" /\ o.data=.seq its n/\its.size<=sizeLine/\Vals xs its.toList
def absV:Value->Option V
 |.none=>some .non
 |.bool b=>some (.bl b)
 |.int i _=>some (.int i)
 |.str x _=>some (.str x)
 |.bytes b _=>some (.byt b)
 |.float b _=>some (.flt b)
 |.ref a=>some (.ref a)
 |.type n=>some (.ty n)
 |_=>none
theorem RelV.abs{x:V}{u:Value}(r:RelV x u):absV u=some x:=by
 cases x with
 |non=>cases r;rfl
 |bl _=>cases r;rfl
 |int _=>obtain⟨t,rfl⟩:=r;rfl
 |str _=>obtain⟨t,rfl⟩:=r;rfl
 |byt _=>obtain⟨t,rfl⟩:=r;rfl
 |flt _=>obtain⟨t,rfl⟩:=r;rfl
 |ref _=>cases r;rfl
 |ty _=>cases r;rfl
theorem RelV.inj{x y:V}{u:Value}(r:RelV x u)(q:RelV y u):x=y:=zU (r.abs.symm.trans q.abs)
theorem Vals.inj:∀{xs ys:List V}{us:LW},Vals xs us->Vals ys us->xs=ys
 |_,_,_,.nil,.nil=>rfl
 |_,_,_,.cons r a,.cons b t'=>by rw[r.inj b,Vals.inj a t']
section
variable {X:Cx} {pins:PN} {σ:St} {H:Hp} {s:Shared} {a:Addr} {xs ys:List V}
theorem SqL.of{K:Frag}(h:H a=some (.lst xs)):SqL K H a xs:=.inl (.inl h)
theorem SqT.of{K:Frag}(h:H a=some (.tup xs)):SqT K H a xs:=.inl (.inl h)
theorem Inv.list(I:Inv X pins σ H s)(h:SqL X.K H a xs):∃its:LW,Vals xs its/\PlainL s.heap a its.toArray/\xs.length<=sizeLine:=by
 rcases h with h|⟨o,its,n,b,d,c,f,g,r⟩
 ·obtain⟨z,its,n,r,e⟩:=h.ok I.hok;exact⟨its,r,⟨_,n,e,rfl,rfl,rfl⟩,z⟩
 ·refine⟨its.toList,r,⟨o,n,I.kIn a o b,d,c,by simpa using f⟩,?_⟩;have e:=r.length;simp only[Array.length_toList]at e;omega
theorem Inv.tuple(I:Inv X pins σ H s)(h:SqT X.K H a xs):∃its:LW,Vals xs its/\IsTup s.heap a its.toArray/\xs.length<=sizeLine:=by
 rcases h with h|⟨o,its,n,c,d,b,f,r⟩
 ·obtain⟨z,its,r,p⟩:=h.ok I.hok;exact⟨its,r,p,z⟩
 ·refine⟨its.toList,r,⟨o,I.kIn a o c,d,n,by simpa using b⟩,?_⟩;have e:=r.length;simp only[Array.length_toList]at e;omega
theorem Inv.list_inj(I:Inv X pins σ H s)(h:SqL X.K H a xs)(h':SqL X.K H a ys):xs=ys:=by
 obtain⟨its,r,⟨o,n,e,_,_,d⟩,_⟩:=I.list h;obtain⟨its',c,⟨g,i,b,_,_,d'⟩,_⟩:=I.list h';rw[e]at b;cases b;rw[d]at d';injection d' with f _;have:its=its':=by simpa using wD Array.toList f
 subst this;exact r.inj c
theorem Inv.tuple_inj(I:Inv X pins σ H s)(h:SqT X.K H a xs)(h':SqT X.K H a ys):xs=ys:=by
 obtain⟨its,r,⟨o,e,_,n,d⟩,_⟩:=I.tuple h;obtain⟨its',c,⟨g,b,_,i,d'⟩,_⟩:=I.tuple h';rw[e]at b;cases b;rw[d]at d';injection d' with f _;have:its=its':=by simpa using wD Array.toList f
 subst this;exact r.inj c
end
abbrev Cx.wish(X:Cx)(E:VP):Cx:={X with xe:=E}
abbrev Cx.nox(X:Cx):Cx:=X.wish λ_ _=>False
theorem Cx.Ok.wish{X:Cx}(ok:X.Ok)(E:VP):(X.wish E).Ok:=
 ⟨ok.mod,ok.kind,ok.glob,ok.blt,ok.above,ok.inj,ok.has,ok.cab,ok.hd,ok.frames,ok.stk,ok.exf,ok.bs,ok.bsz,ok.noex,ok.exfs,ok.funs,ok.frf⟩
theorem Cx.Ok.unwish{X:Cx}{E:VP}(ok:(X.wish E).Ok):X.Ok:=
 ⟨ok.mod,ok.kind,ok.glob,ok.blt,ok.above,ok.inj,ok.has,ok.cab,ok.hd,ok.frames,ok.stk,ok.exf,ok.bs,ok.bsz,ok.noex,ok.exfs,ok.funs,ok.frf⟩
section
variable {X:Cx} {pins:PN} {σ:St} {H:Hp} {s:Shared} {E:VP}
theorem Inv.wish(I:Inv X pins σ H s)(E:VP):Inv (X.wish E) pins σ H s:=⟨I.ok.wish E,I.os,I.bare,I.base,I.loc,I.cell,I.free,I.freeC,I.pin,I.hok,I.len⟩
theorem Inv.unwish(I:Inv (X.wish E) pins σ H s):Inv X pins σ H s:=⟨I.ok.unwish,I.os,I.bare,I.base,I.loc,I.cell,I.free,I.freeC,I.pin,I.hok,I.len⟩
theorem SP.unwish{D:Ends}{f:Flow}{b:Shared}(h:SP (X.wish E) pins D f b):SP X pins D f b:=by
 cases f with
 |next=>obtain⟨a,H',I,q⟩:=h;exact⟨a,H',I.unwish,q⟩
 |brk=>obtain⟨a,H',I,q⟩:=h;exact⟨a,H',I.unwish,q⟩
 |cont=>obtain⟨a,H',I,q⟩:=h;exact⟨a,H',I.unwish,q⟩
 |ret u=>obtain⟨v,a,H',I,r,q⟩:=h;exact⟨v,a,H',I.unwish,r,q⟩
theorem PE.nox{e:Expr}{a:TE}(h:PE X.nox e a):PE X e a:=λpins s σ H Q I b =>
 yI (h pins s σ H Q (I.wish _) b) (λ_ _⟨v,H',c,r,q⟩=>⟨v,H',c.unwish,r,q⟩) λ_ _ z=>False.elim z
theorem PT.nox{e:Expr}{a:TT}(h:PT X.nox e a):PT X e a:=λpins s σ H Q I b =>
 yI (h pins s σ H Q (I.wish _) b) (λ_ _⟨H',c,q⟩=>⟨H',c.unwish,q⟩) λ_ _ z=>False.elim z
theorem PSs.nox{st:List Stmt}{a:TS}(h:PSs X.nox st a):PSs X st a:=λpins s σ H D I b =>
 yI (h pins s σ H D (I.wish _) b) (λ_ _ q=>q.unwish) λ_ _ z=>False.elim z
end
section
variable {X:Cx} {st:Stmt} {rest:List Stmt} {t u:TS} {e:Expr} {te:TE} {pos:Pos}
def Mq:TS:=λD σ H=>D.nx σ H
def tSeq(t u:TS):TS:=λD σ H=>t {D with nx:=u D} σ H
theorem nJ:PSs X [] Mq:=λ_ _ a H _ I h=>tQ ⟨a,H,I,h⟩
theorem oQ(g:PS X st t)(b:PSs X rest u):PSs X (st:: rest) (tSeq t u):=by
 intro a s i H D I h;refine wpAny_execs_cons (thn (g a s i H {D with nx:=u D} I h) λf j q=>?_);cases f with
 |next =>
  obtain⟨d,H',c,q⟩:=q;exact b a j d H' D c q
 |ret v=>exact q
 |brk=>exact q
 |cont=>exact q
theorem oR(a:PS X st t):PSs X [st] t:=by
 intro b s c H D I h;refine wpAny_execs_cons (thn (a b s c H D I h) λf d q=>?_);cases f with
 |next=>exact tQ q
 |ret v=>exact q
 |brk=>exact q
 |cont=>exact q
theorem Inv.quiet{b:PN}{a:St}{H:Hp}{s:Shared}(I:Inv X b a H s):interactive X.env=false:=by simp[interactive,I.ok.kind]
def Et(te:TE):TS:=λD σ H=>te σ H λ_ H1=>D.nx σ H1
theorem kC(f:PE X e te)(g:swapsWith e none pos.line X.env=pure false:=by rfl):PS X (.Expr e pos) (Et te):=by
 intro b s a H D I h;exact wpAny_Expr_any (thn (f b s a H _ I h) λv i⟨x,H1,d,r1,c⟩=>⟨a,H1,d,c⟩) I.quiet g
def tRet(te:TE):TS:=λD σ H=>te σ H D.rt
theorem oZ(f:PE X e te):PS X (.Return (some e) pos) (tRet te):=by
 intro b s a H D I h;exact wpAny_Return_some (thn (f b s a H _ I h) λv g⟨x,H1,d,r1,c⟩=>⟨x,a,H1,d,r1,c⟩)
def t_y:TS:=λD _ H=>D.rt .non H
def tIfS(c:TT)(t u:TS):TS:=λD σ H=>c σ H λb H1=>if b=true then t D σ H1 else u D σ H1
theorem nK{c:Expr}{a b:List Stmt}{j:TT}(n:PT X c j)(m:PSs X a t)(o:PSs X b u):PS X (.If c a b pos) (tIfS j t u):=by
 intro f s g H D I h;refine wpAny_If (thn (n f s g H _ I h) λd l⟨H1,k,i⟩=>?_);cases d with
 |true=>exact m f l g H1 D k i
 |false=>exact o f l g H1 D k i
def Mp:TS:=λ_ _ _=>False
theorem Mo{a:List Stmt}:PSs X a Mp:=λ_ _ _ _ _ _ h=>h.elim
end
abbrev TG:=V->St->Hp->(St->Hp->Prop)->Prop
abbrev TGs:=List V->St->Hp->(St->Hp->Prop)->Prop
def PG(X:Cx)(target:Expr)(t:TG):Prop:=
 ∀(pins:PN)(s:Shared)(σ:St)(H:Hp)(v:V)(u:Value)(Q:St->Hp->Prop),Inv X pins σ H s->RelV v u->t v σ H Q ->
  wpAny (model X.prog X.w) X.A (assign target X.env u) (λ_ s'=>∃σ' H',Inv X pins σ' H' s'/\Q σ' H') X.xe s
def PGs(X:Cx)(ts:List Expr)(t:TGs):Prop:=
 ∀(pins:PN)(s:Shared)(σ:St)(H:Hp)(vs:List V)(us:LW)(Q:St->Hp->Prop),Inv X pins σ H s->Vals vs us->t vs σ H Q ->
  wpAny (model X.prog X.w) X.A (assignInOrder ((assignEach ts X.env).map (·.2)) us) (λ_ s'=>∃σ' H',Inv X pins σ' H' s'/\Q σ' H') X.xe s
abbrev TSet:=V->V->V->Hp->(Hp->Prop)->Prop
def PSet(X:Cx)(t:TSet):Prop:=
 ∀(pins:PN)(s:Shared)(σ:St)(H:Hp)(o i v:V)(ov iv u:Value)(Q:Hp->Prop),Inv X pins σ H s->RelV o ov->RelV i iv->RelV v u->t o i v H Q ->
  wpAny (model X.prog X.w) X.A (setItem ov iv u) (λ_ s'=>∃H',Inv X pins σ H' s'/\Q H') X.xe s
abbrev TIp:=V->V->Hp->VK->Prop
def PIp(X:Cx)(op:Operator)(t:TIp):Prop:=
 ∀(pins:PN)(s:Shared)(σ:St)(H:Hp)(x y:V)(v u:Value)(Q:VK),Inv X pins σ H s->RelV x v->RelV y u->t x y H Q ->
  wpAny (model X.prog X.w) X.A (inplaceOp op v u) (EP X pins σ Q) X.xe s
section
variable {X:Cx} {pos:Pos}
def nB(i:Nat):TG:=λv σ H Q=>Q (σ.set i (some v)) H
theorem mD{i:Nat}{x:Str}(d:X.N.Nodup)(hi:X.N[i]?=some x)(a:Loc X.env.scope x)(b:X.fn x=true\/X.env.scope.names.lookup x=some .local:=by first|exact .inl rfl|exact .inr rfl|assumption):PG X (.Name x pos) (nB i):=by
 intro e s f H v u Q I r h;exact wpAny_assign_Name (gE I d hi a r (λg c=>⟨_,H,c,h⟩) b)
def gNil:TGs:=λvs σ H Q=>vs=[]/\Q σ H
def mW(t:TG)(u:TGs):TGs:=λvs σ H Q=>∃v r,vs=v:: r/\t v σ H λσ' H'=>u r σ' H' Q
theorem iQ:PGs X [] gNil:=by
 intro b s a H vs us Q I r h;obtain⟨e,h⟩:=h;subst e;cases r;exact assignInOrder_nil ⟨a,H,I,h⟩
theorem lQ{e:Expr}{es:List Expr}{b:TG}{u:TGs}(i:PG X e b)(f:PGs X es u)
  (l:(assignEach (e:: es) X.env).map (·.2)=assign e X.env:: (assignEach es X.env).map (·.2):=by rfl):PGs X (e:: es) (mW b u):=by
 intro a s k H vs us Q I r h;obtain⟨v,n,e1,h⟩:=h;subst e1;cases r with
 |cons r d =>
  rw[l];refine qD (thn (i a s k H _ _ _ I r h) λ_ m⟨c,H1,j,g⟩=>?_);exact f a m c H1 _ _ Q j d g
def gTup(K:Frag)(n:Nat)(t:TGs):TG:=λv σ H Q=>∃a xs,v=.ref a/\SqT K H a xs/\xs.length=n/\t xs σ H Q
theorem gF{es:List Expr}{k:Nat}{g:TGs}{n:Nat}(q:X.calm=true)(h:PGs X es g)
  (w:(assignEach es X.env).length=n:=by rfl)(l:(assignEach es X.env).findIdx? (·.1)=none:=by rfl):PG X (.Tuple es k pos) (gTup X.K n g):=by
 intro d s f H v u Q I r c;obtain⟨a,xs,e1,m,hl,c⟩:=c;subst e1;cases r;obtain⟨its,i,t,x⟩:=I.tuple m;refine assign_Tuple_tuple (I.ok.hd q) t (by simp[w,←hl,i.length]) l λh' j=>?_;have p:Inv X d f H {s with heap:=h'}:=I.kept (t':=s.toks) λb o e=>j b o (zX (zI e)) e;exact h d _ f H xs _ Q p (by simpa using i) c
def gSub(to ti:TE)(t:TSet):TG:=λv σ H Q=>to σ H λo H1=>ti σ H1 λi H2=>t o i v H2 λH3=>Q σ H3
theorem eE{o i:Expr}{g f:TE}{e:TSet}(l:PE X o g)(hi:PE X i f)(z:PSet X e)
  (q:∀v,assign (.Subscript o i pos) X.env v=(do
   let a ←holding [v] (eval o X.env)
   let b ←holding [v,a] (eval i X.env)
   standAt pos
   holding [v,a,b] (setItem a b v)
   release [v,a,b] []):=by intro _;rfl):PG X (.Subscript o i pos) (gSub g f e):=by
 intro d s c H v u Q I r h;rw[q];refine zA (yU (thn (l d s c H _ I h) λa k⟨x,H1,p,r1,t⟩=>?_));refine zA (yU (thn (hi d k c H1 _ p t) λb w⟨y,H2,C,r2,m⟩=>?_));refine zA (wA (zA (yU (thn (z d w c H2 x y v a b u _ C r1 r2 r m) λ_ D⟨H3,j,n⟩=>?_))));exact wpAny_release ⟨c,H3,j,n⟩
def tAsg(te:TE)(g:TG):TS:=λD σ H=>te σ H λx H1=>g x σ H1 D.nx
theorem gG{a e:Expr}{te:TE}{g:TG}(l:PE X e te)(f:PG X a g)(m:swapsWithSole [a] e pos.line X.env=pure false:=by rfl)(d:swappedStores [a] e X.env=pure none:=by rfl)
  (j:(assignEach [a] X.env).map (·.2)=[assign a X.env]:=by rfl):PS X (.Assign [a] e pos) (tAsg te g):=by
 intro b s c H D I h;refine wpAny_Assign_stores (thn (l b s c H _ I h) λv n⟨x,H1,k,r1,i⟩=>?_) m d;rw[j];exact thn (f b n c H1 x v _ k r1 i) λ_ o q=>q
theorem oW{i:Nat}{x:Str}{e:Expr}{te:TE}{a:Pos}(g:X.N.Nodup)(hi:X.N[i]?=some x)(b:Loc X.env.scope x)(l:PE X e te)(m:swapsWith e (some (.Name x a)) pos.line X.env=pure false:=by rfl)(d:X.fn x=true\/X.env.scope.names.lookup x=some .local:=by first|exact .inl rfl|exact .inr rfl|assumption):
  PS X (.Assign [.Name x a] e pos) (tAsg te (nB i)):=by
 intro c s j H D I h;refine wpAny_Assign_Name (thn (l c s j H _ I h) λv p⟨y,H1,k,r1,f⟩=>?_) m;exact gE k g hi b r1 (λo n=>⟨_,H1,n,f⟩) d
def tPar(i j:Nat)(ta:TA):TS:=λD σ H=>ta σ H λvs H1=>∃v w,vs=[v,w]/\D.nx ((σ.set i (some v)).set j (some w)) H1
theorem Mn{i j:Nat}{x y:Str}{a b:Expr}{F:TA}{k l pt:Pos}{m k2 g}(W:X.calm=true)(C:X.N.Nodup)(hi:X.N[i]?=some x)(S:X.N[j]?=some y)(N:i≠j)
  (r:X.env.scope.names.lookup x=some .local)(G:X.env.scope.names.lookup y=some .local)(U:PA X [a,b] F)
  (J:swappedStores [.Tuple [.Name x k,.Name y l] m pt] (.Tuple [a,b] k2 g) X.env=pure (some [x,y]))
  (Y:swapsWithSole [.Tuple [.Name x k,.Name y l] m pt] (.Tuple [a,b] k2 g) pos.line X.env=pure false:=by rfl):
  PS X (.Assign [.Tuple [.Name x k,.Name y l] m pt] (.Tuple [a,b] k2 g) pos) (tPar i j F):=by
 intro t s u H D I h;rw[exec_Assign_arm];refine zA (wA ?_);rw[Y];refine zA (zB ?_);rw[zD ∅];refine zA (Tuple_ (thn (U _ t s u H _ I h) λus c⟨vs,H1,R,r1,n⟩=>?_));obtain⟨v,w,e1,n⟩:=n;subst e1;obtain⟨f,d,rfl,M,L⟩:∃f d,us=[f,d]/\RelV v f/\RelV w d:=by
  cases r1 with
  | cons p q =>
   cases q with
   |cons O V =>
    cases V;exact⟨_,_,rfl,p,O⟩
 refine xD ?_ (by show 2<=sizeLine;decide);have Z:Inv X t u H1 {c with heap:=c.heap.push {cls:=.type "tuple",data:=.seq [f,d].toArray}}:=R.kept (t':=c.toks) λb o e=>zC _ e;rw[J];refine zA (zB ?_);show wpAny (model X.prog X.w) X.A (do rule "assign.swapped-stores";let items ←unpackItems (.ref c.heap.objs.size) 2 none;assignInOrder [λv=>bindName X.env y v,λv=>bindName X.env x v] items.reverse;pure Flow.next) _ _ _;refine zA (wT (zA (unpackItems_tuple (items:=#[f,d]) (I.ok.hd W) (IsTup.new c.heap _) λh' P=>?_)));have K:=Z.kept (h':=h') (t':=c.toks) λb o e=>P b o (zX (zI e)) e;show wpAny _ _ (assignInOrder [λv=>bindName X.env y v,λv=>bindName X.env x v] [d,f] >>= λ_=>pure Flow.next) _ _ _;refine zA (qD (pN (gE K C S (.inl G) L (λa1 T=>?_) (.inr G))));refine qD (pN (gE T C hi (.inl r) M (λa0 z=>assignInOrder_nil (zB ?_)) (.inr r)));rw[List.set_comm _ _ (zZ N)]at z;exact⟨_,H1,z,n⟩
def tAug(i:Nat)(te:TE)(ti:TIp):TS:=λD σ H=>∃x,σ[i]?=some (some x)/\te σ H λy H1=>ti x y H1 λz H2=>D.nx (σ.set i (some z)) H2
theorem Es{i:Nat}{x:Str}{e:Expr}{te:TE}{op:Operator}{g:TIp}{M:Pos}(G:X.N.Nodup)(hi:X.N[i]?=some x)(b:Loc X.env.scope x)(O:PE X e te)(o:PIp X op g)(F:X.fn x=true\/X.env.scope.names.lookup x=some .local:=by first|exact .inl rfl|exact .inr rfl|assumption):
  PS X (.AugAssign (.Name x M) op e pos) (tAug i te g):=by
 intro d s f H D I h;obtain⟨v,e1,h⟩:=h;obtain⟨m,L,hl⟩:=I.loc;have t:Vis X.env.scope x:=by rcases b with k|k;exact .inl k;exact .inr (.inl k)
 obtain⟨u,r,l⟩:=hl i x v hi e1 t;refine wpAny_AugAssign_Name ?_;have go:wpAny (model X.prog X.w) X.A (eval e X.env) (λw R=>wpAny (model X.prog X.w) X.A (inplaceOp op u w) (λr C=>wpAny (model X.prog X.w) X.A (storeName X.env x r) (λ_=>SP X d D .next) X.xe C) X.xe R) X.xe s:=by
  refine thn (O d s f H _ I h) λw n⟨y,H1,J,r1,N⟩=>?_;refine thn (o d n f H1 v y u w _ J r r1 N) λz V⟨U,H2,S,r2,p⟩=>?_;exact gE S G hi b r2 (λT j=>⟨_,H2,j,p⟩) F
 rcases l with⟨a,q⟩|⟨a,c,P,K⟩
 ·exact wpAny_loadName_local I.ok.kind a L q go
 ·rcases a with a|a
  ·exact wpAny_loadName_cell I.ok.kind a P K go
  ·rcases b with k|k
   ·have:X.env.scope.names.lookup x=some .free:=a;rw[k]at this;cases this
   ·have:X.env.scope.names.lookup x=some .free:=a;rw[k]at this;cases this
def ipI(f:Int->Int->Int):TIp:=λx y H Q=>∃i j,x=.int i/\y=.int j/\Q (.int (f i j)) H
theorem Er:PIp X .Add (ipI λi j=>i+j):=by
 intro c s d H x y v u Q I r1 r2 h;obtain⟨i,j,e1,a,q⟩:=h;subst e1;subst a;obtain⟨b,rfl⟩:=r1;obtain⟨t',rfl⟩:=r2;exact iadd_int ⟨.int _,H,I.tok _,⟨_,rfl⟩,q⟩
def Ep(c:TT)(tb:TS):TS:=λD σ H=>∃W:Nat->St->Hp->Prop,(∃m,W m σ H)/\∀m σ H,W m σ H ->
 c σ H λb H1=>if b=true then∃N:St->Hp->Prop,(∀σ' H',N σ' H'->∃m',m'<m/\W m' σ' H')/\tb {D with nx:=N,ct:=N,bk:=D.nx} σ H1 else D.nx σ H1
theorem Aw{c:Expr}{body:List Stmt}{r:TT}{tb:TS}(t:PassesOwn (model X.prog X.w) X.A X.env X.xe)(L:PT X c r)(O:PSs X body tb):PS X (.While c body [] pos) (Ep r tb):=by
 intro j s z H D I h;obtain⟨G,⟨F,C⟩,K⟩:=h;refine wpAny_While (codeAny_whileLoop (λn w=>∃p H',Inv X j p H' w/\G n p H') ?_ F ⟨z,H,I,C⟩);rintro n x ⟨g,H1,J,y⟩;refine vO t (thn (L j x g H1 _ J (K n g H1 y)) λb M⟨H2,u,d⟩=>?_);cases b with
 | true =>
  obtain⟨N,q,d⟩:=d;rw[zF rfl];refine vO t (thn (O j M g H2 _ u d) λf P e=>?_);cases f with
  |next =>
   obtain⟨a,H3,i,l⟩:=e;obtain⟨o,k,m⟩:=q a H3 l;exact⟨o,k,a,H3,i,m⟩
  |cont =>
   obtain⟨a,H3,i,l⟩:=e;obtain⟨o,k,m⟩:=q a H3 l;exact⟨o,k,a,H3,i,m⟩
  |brk=>exact e
  |ret v=>exact e
 |false =>
  rw[zD zQ];exact tQ ⟨g,H2,u,d⟩
end
structure It where
 go:Nat->Hp->Prop
 yld:Nat->Hp->V->Hp->Prop
 stop:Nat->Hp->Prop
def FpOk(X:Cx)(pins:PN)(H:Hp)(b:Addr):Prop:=
 H b=none/\b≠X.env.locals/\b∉X.fs/\(b∈X.ex\/X.s₀.heap.objs.size<=b)/\(∀x c,X.env.cells.lookup x=some c->c≠b)/\∀p∈X.pn++pins,p.1≠b
theorem Inv.fpOk{X:Cx}{d:PN}{f:St}{H H':Hp}{s:Shared}{b:Addr}(I:Inv X d f H s)(a:s.heap.objs.size<=b)(i:H' b=none):FpOk X d H' b:=by
 refine⟨i,tU (zJ I.lt a),I.nofs a,.inr (yC I.sz a),λx c e z=>?_,λp g z=>?_⟩
 ·obtain⟨v,q⟩:=I.cell x c e;exact absurd (zJ q.lt (by rw[z];exact a)) (yW _)
 ·exact absurd (zJ (zI (I.pin p g).1) (by rw[z];exact a)) (yW _)
structure Turn(P:Program)(w:World)(K:Frag)(tg:Expr)(J:It)(fp:LA)(it:Addr)(tn:Nat->Heap->Prop):Prop where
 mem:it∈fp
 obj:∀i h,tn i h->∀b∈fp,∃o,h.get? b=some o/\∀v,o.data≠.cell v
 keep:∀i h h',tn i h->(∀b∈fp,∀o,h.get? b=some o->h'.get? b=some o)->tn i h'
 item:∀(X:Cx),X.prog=P->X.w=w->X.K=K->X.calm=true->∀(i:Nat)(pins:PN)(s:Shared)(σ:St)(H:Hp)(E:VP),Inv X pins σ H s->(∀b∈fp,FpOk X pins H b)->tn i s.heap->J.go i H ->
  wpAny (model P w) X.A (pyNext (.ref it)) (λr s1=>∃u,r=some u /\
   wpAny (model P w) X.A (letOwnedTupleGo tg (.ref it) u) (λ_ s2=>∃x H',Inv X pins σ H' s2/\RelV x u/\J.yld i H x H'/\tn (i+1) s2.heap/\∀b∈fp,H' b=none) E s1) E s
 done:∀(X:Cx),X.prog=P->X.w=w->X.K=K->X.calm=true->∀(i:Nat)(pins:PN)(s:Shared)(σ:St)(H:Hp)(E:VP),Inv X pins σ H s->(∀b∈fp,FpOk X pins H b)->tn i s.heap->J.stop i H ->
  wpAny (model P w) X.A (pyNext (.ref it)) (λr s1=>r=none/\Inv X pins σ H s1) E s
 self:∀(A:Around)(i:Nat)(s:Shared)(Q:VP)(E:VP),tn i s.heap->Q (.ref it) s->wpAny (model P w) A (pyIter (.ref it)) Q E s
abbrev TI:=St->Hp->(It->Hp->Prop)->Prop
def PIE(X:Cx)(pins:PN)(σ:St)(tg:Expr)(R:It->Hp->Prop)(itv:Value)(s2:Shared):Prop:=
 ∃(it:Addr)(fp:LA)(tn:Nat->Heap->Prop)(J:It)(H':Hp),itv=.ref it/\Inv X pins σ H' s2/\Turn X.prog X.w X.K tg J fp it tn/\tn 0 s2.heap/\(∀b∈fp,FpOk X pins H' b)/\R J H'
def PI(X:Cx)(tg iter:Expr)(wi:TI):Prop:=
 ∀(pins:PN)(s:Shared)(σ:St)(H:Hp)(R:It->Hp->Prop),Inv X pins σ H s->wi σ H R ->
  wpAny (model X.prog X.w) X.A (eval iter X.env) (λv s1=>wpAny (model X.prog X.w) X.A (pyIter v) (PIE X pins σ tg R) X.xe s1) X.xe s
theorem Av {M:Model}{A:Around}{E:VP}{s:Shared}{b:Expr}{c:Addr}{u:Value}{o:Obj}{n:String}{vs:Array Value}{Q:Unit->Shared->Prop}(g:s.heap.get? c=some o)(e:o.cls=.type n)(d:o.data=.fields vs)
    (f:["enumerate","zip","dict_itemiterator","dict_reverseitemiterator","odict_iterator","itertools.zip_longest","itertools.pairwise"].contains n=false)(a:Q () s):wpAny M A (letOwnedTupleGo b (.ref c) u) Q E s:=by
  unfold letOwnedTupleGo;cases b <;> first
    |exact zB a
    |(cases u <;> first
        |exact zB a
        | (refine zA (wpAny_load g ?_)
           rw[e,d];show wpAny M A (if(["enumerate","zip","dict_itemiterator","dict_reverseitemiterator","odict_iterator","itertools.zip_longest","itertools.pairwise"].contains n && vs[0]? == some (rawInt _))=true then _ else _) Q E s;rw[zD (by intro h;rw[f,Bool.false_and]at h;cases h)];exact zB a))
def Itl(K:Frag)(a:Addr):It:=
 ⟨λi H=>∃xs x,SqL K H a xs/\xs[i]?=some x,λi H x H'=>H'=H/\∀xs,SqL K H a xs->xs[i]?=some x,λi H=>∃xs,SqL K H a xs/\xs.length<=i⟩
def Itt(K:Frag)(a:Addr):It:=
 ⟨λi H=>∃xs x,SqT K H a xs/\xs[i]?=some x,λi H x H'=>H'=H/\∀xs,SqT K H a xs->xs[i]?=some x,λi H=>∃xs,SqT K H a xs/\xs.length<=i⟩
def Itr(lo:Int)(n:Nat):It:=⟨λi _=>i<n,λi H x H'=>H'=H/\x=.int (lo+i),λi _=>n<=i⟩
theorem Mm{P:Program}{w:World}{K:Frag}{R:Expr}(a f:Addr):Turn P w K R (Itl K a) [f] f (λi h=>h.IsListIter f a i) where
 mem:=by simp
 obj:=λi h st b g=>by
  have e:b=f:=by simpa using g
  subst e;obtain⟨o,e,c,d⟩:=st;exact⟨o,e,λv z=>by rw[d]at z;cases z⟩
 keep:=λi h h' st k=>st.at λo e=>k f (by simp) o e
 item:=by
  intro X n m G O i L s M H E I l st F;subst n m G;obtain⟨xs,x,j,q⟩:=F;obtain⟨its,C,p,V⟩:=I.list j;obtain⟨u,S,a0⟩:=C.get q;obtain⟨D,r,U,t,y,J⟩:=l f (by simp);refine wpAny_pyNext_list_item st p.isList (x:=u) (by simpa using S) λh' N Y=>?_;have W:Inv X L M H {s with heap:=h'}:=I.turned (t':=s.toks) (λb o g e=>(Y.2 b g).trans e) D r t y J;obtain⟨o,e,c,d⟩:=id N;exact⟨u,rfl,Av (s:={s with heap:=h'}) e c d ∅ ⟨x,H,W,a0,⟨rfl,λys Z=>by rw[I.list_inj Z j];exact q⟩,N,λb g=>(l b g).1⟩⟩
 done:=by
  intro X n m G O i L s M H E I l st F;subst n m G;obtain⟨xs,j,q⟩:=F;obtain⟨its,C,p,V⟩:=I.list j;obtain⟨D,r,U,t,y,J⟩:=l f (by simp);have hl:=C.length;exact wpAny_pyNext_list_end (I.ok.hd O) st p.isList (by simp;omega) λh' T=>⟨rfl,I.turned (t':=s.toks) (λb o g e=>T b o g e) D r t y J⟩
 self:=λ_ _ _ _ _ st h=>wpAny_pyIter_listiter st h
theorem Ml{P:Program}{w:World}{K:Frag}{R:Expr}(a f:Addr):Turn P w K R (Itt K a) [f] f (λi h=>h.IsTupleIter f a i) where
 mem:=by simp
 obj:=λi h st b g=>by
  have e:b=f:=by simpa using g
  subst e;obtain⟨o,e,c,d⟩:=st;exact⟨o,e,λv z=>by rw[d]at z;cases z⟩
 keep:=λi h h' st k=>st.at λo e=>k f (by simp) o e
 item:=by
  intro X n m G O i L s M H E I l st F;subst n m G;obtain⟨xs,x,j,q⟩:=F;obtain⟨its,C,p,V⟩:=I.tuple j;obtain⟨u,S,a0⟩:=C.get q;obtain⟨D,r,U,t,y,J⟩:=l f (by simp);refine wpAny_pyNext_tuple_item st (show s.heap.IsTuple a its.toArray from p) (x:=u) (by simpa using S) λh' N Y=>?_;have W:Inv X L M H {s with heap:=h'}:=I.turned (t':=s.toks) (λb o g e=>(Y.2 b g).trans e) D r t y J;obtain⟨o,e,c,d⟩:=id N;exact⟨u,rfl,Av (s:={s with heap:=h'}) e c d ∅ ⟨x,H,W,a0,⟨rfl,λys Z=>by rw[I.tuple_inj Z j];exact q⟩,N,λb g=>(l b g).1⟩⟩
 done:=by
  intro X n m G O i L s M H E I l st F;subst n m G;obtain⟨xs,j,q⟩:=F;obtain⟨its,C,p,V⟩:=I.tuple j;obtain⟨D,r,U,t,y,J⟩:=l f (by simp);have hl:=C.length;exact wpAny_pyNext_tuple_end (I.ok.hd O) st (show s.heap.IsTuple a its.toArray from p) (by simp;omega) λh' T=>⟨rfl,I.turned (t':=s.toks) (λb o g e=>T b o g e) D r t y J⟩
 self:=λ_ _ _ _ _ st h=>wpAny_pyIter_tupleiter st h
theorem Mj{P:Program}{w:World}{K:Frag}{D:Expr}(a:Addr)(lo:Int)(n:Nat):Turn P w K D (Itr lo n) [a] a (λi h=>IsRangeIter h a (lo+(i:Nat)*1) ((n:Int)-(i:Nat)) 1) where
 mem:=by simp
 obj:=λi h st b c=>by
  have e:b=a:=by simpa using c
  subst e;exact⟨_,st,λv z=>by
   have O:Data.fields _=Data.cell v:=z;cases O⟩
 keep:=λi h h' st k=>k a (by simp) _ st
 item:=by
  intro X g f r u i x s y H E I d st q;subst g f r;obtain⟨p,j,J,l,m,t⟩:=d a (by simp);have M:=Walks.range (prog:=X.prog) (w:=X.w) (I.ok.hd u) a lo 1 n;refine M.item i s _ _ q st λv h' tk L C R=>?_;obtain⟨G,rfl⟩:=L;have N:Inv X x y H {s with heap:=h',toks:=tk}:=I.turned (λb o c e=>R b o (by simpa using c) e) p j l m t;refine⟨_,rfl,Av (s:={s with heap:=h',toks:=tk}) (n:= "range_iterator") C rfl rfl ∅ ⟨.int (lo+i),H,N,⟨G,?_⟩,⟨rfl,rfl⟩,C,λb c=>(d b c).1⟩⟩;rw[rQ]
 done:=by
  intro X g f r u i x s y H E I d st q;subst g f r;obtain⟨p,j,J,l,m,t⟩:=d a (by simp);exact wpAny_pyNext_range_end (I.ok.hd u) st (by have:n<=i:=q;omega) λh' F=>⟨rfl,I.turned (t':=s.toks) (λb o c e=>F b o c e) p j l m t⟩
 self:=λ_ _ _ _ _ st h=>wpAny_pyIter_rangeiter st h
section
variable {X:Cx} {tg:Expr}
theorem Mi{c:PN}{f:St}{H:Hp}{s:Shared}{R:It->Hp->Prop}{E:VP}{lo hi:Int}{a u v:Tok}{tk:Nat}(I:Inv X c f H s)(k:-(2^62)<=lo)(i:lo<2^62)(m:-(2^62)<=hi)(j:hi<2^62)
  (q:R (Itr lo (hi-lo).toNat) H):wpAny (model X.prog X.w) X.A (pyIter (.ref s.heap.objs.size)) (PIE X c f tg R) E {s with heap:=s.heap.push {cls:=.type "range",data:=.fields #[.int lo a,.int hi u,.int 1 v]},toks:=tk}:=by
 refine wpAny_pyIter_range (IsRange.new ..) (small_one k i m j) ?_;have d:Inv X c f H {s with heap:=s.heap.push {cls:=.type "range",data:=.fields #[.int lo a,.int hi u,.int 1 v]},toks:=tk}:=I.kept λb o e=>zC _ e;refine⟨(s.heap.push {cls:=.type "range",data:=.fields #[.int lo a,.int hi u,.int 1 v]}).objs.size,[(s.heap.push {cls:=.type "range",data:=.fields #[.int lo a,.int hi u,.int 1 v]}).objs.size],_,_,H,rfl,
  d.kept (t':=tk) λb o e=>zC _ e,Mj _ lo (hi-lo).toNat,?_,λb l=>?_,q⟩
 ·have e1:lo+((0:Nat):Int)*1=lo:=by simp
  have g:(((hi-lo).toNat:Nat):Int)-((0:Nat):Int)=Builtin.Range.rangeSize lo hi 1:=by rw[rangeSize_one];split <;> omega
  show IsRangeIter _ _ (lo+((0:Nat):Int)*1) ((((hi-lo).toNat:Nat):Int)-((0:Nat):Int)) 1;rw[e1,g];exact zR _ rfl
 ·have e:b=(s.heap.push {cls:=.type "range",data:=.fields #[.int lo a,.int hi u,.int 1 v]}).objs.size:=by simpa using l
  subst e;exact d.fpOk (zE _) (d.hok.fresh (zE _))
def mF(ta:TA):TI:=λσ H R=>ta σ H λvs H1=>∃j:Int,vs=[.int j]/\-(2^62)<=j/\j<2^62/\R (Itr 0 j.toNat) H1
theorem mT{a:Expr}{c:TA}{p pos:Pos}(g:Gl X "range")(k:X.mg "range"=none)(d:PA X [a] c)(o:starEach [a] X.env=[(false,eval a X.env)]:=by rfl):PI X tg (.Call (.Name "range" p) [a] [] pos) (mF c):=by
 intro f s m H R I h;refine Call_ (iO I g k boot_range (xY (thn (d pos f s m H _ I h) λus u⟨vs,H1,n,r1,b⟩=>?_) o rfl));obtain⟨j,e,b,l,q⟩:=b;subst e;cases r1 with
 |cons r i =>
  cases i;obtain⟨t,rfl⟩:=r;exact call_range_1 (Mi n ⋯ ⋯ b l (by simpa using q))
def tFor(wi:TI)(g:TG)(tb:TS):TS:=λD σ H=>wi σ H λJ H1=>∃W:Nat->Nat->St->Hp->Prop,(∃m,W 0 m σ H1)/\∀i m σ H,W i m σ H ->
 (J.stop i H/\D.nx σ H)\/(J.go i H/\∃N:St->Hp->Prop,(∀σ' H',N σ' H'->∃m',m'<m/\W (i+1) m' σ' H')/\∀x H',J.yld i H x H'->g x σ H' λσ2 H2=>tb {D with nx:=N,ct:=N,bk:=D.nx} σ2 H2)
def eF(fp:LA)(h:Heap):PN:=fp.filterMap λb=>(h.get? b).map λo=>(b,o)
theorem cF{a:LA}{h:Heap}{b:Addr}{o:Obj}(c:b∈a)(e:h.get? b=some o):(b,o)∈eF a h:=oJ.mpr ⟨b,c,by rw[e];rfl⟩
theorem Mh{a:LA}{h:Heap}{p:Addr×Obj}(c:p∈eF a h):p.1∈a/\h.get? p.1=some p.2:=by
 obtain⟨b,f,e⟩:=oJ.mp c;cases q:h.get? b with
 |none=>rw[q]at e;cases e
 |some o =>
  rw[q]at e;have d:(b,o)=p:=zU e;subst d;exact⟨f,q⟩
theorem Inv.pinned{a:PN}{g:St}{H:Hp}{s:Shared}{c:LA}(I:Inv X a g H s)(l:∀b∈c,FpOk X a H b)(q:∀b∈c,∃o,s.heap.get? b=some o/\∀v,o.data≠.cell v):Inv X (a++eF c s.heap) g H s:=
 I.pins_of λp n=>(oF.mp n).elim (λz=>I.pin p (yQ _ z)) λz=>by
  obtain⟨i,e⟩:=Mh z;obtain⟨j,k,m,_⟩:=l p.1 i;obtain⟨o,f,d⟩:=q p.1 i;rw[e]at f;cases f;exact⟨e,j,k,m,d⟩
theorem Inv.unpinned{b pl:PN}{a:St}{H:Hp}{s:Shared}(I:Inv X (b++pl) a H s):Inv X b a H s:=I.pins_of λp c=>I.pin p (yQ _ (wJ _ c))
theorem lE{G:Expr}{body:List Stmt}{W:TI}{g:TG}{tb:TS}{pos:Pos}(z:PassesOwn (model X.prog X.w) X.A X.env X.xe)(a1:X.calm=true)(hi:PI X tg G W)(a6:PG X tg g)(k:PSs X body tb)
  (d1:∀x,foldedSetIterable G X.env x=pure x:=by intro _;rfl):PS X (.For tg G body [] pos) (tFor W g tb):=by
 intro p s U H D I h;refine wpAny_For (thn (hi p s U H _ I h) λv d3 a4=>thn a4 λd6 d7 b6=>?_) d1;obtain⟨d5,t,R,d4,H2,e,d2,T,c5,V,Y,⟨b4,b1⟩,c4⟩:=b6;subst e
 -- what stays true of the iterator's objects through the loop
 have C:∀{H':Hp},(∀b∈t,H' b=none)->∀b∈t,FpOk X p H' b:=λc2 b k=>⟨c2 b k,(V b k).2⟩;refine codeAny_forLoop_any (λn P=>∃i y H',Inv X p y H' P/\R i P.heap/\(∀b∈t,H' b=none)/\Y i n y H') ?_ b4 ⟨0,U,H2,d2,c5,λb k=>(V b k).1,b1⟩;rintro n O ⟨i,w,H3,K,M,L,c6⟩;rcases c4 i n w H3 c6 with⟨stop,b2⟩|⟨go,N,b7,step⟩
 ·refine vO z (thn (T.done X rfl rfl rfl a1 i p O w H3 X.xe K (C L) M stop) λr a2⟨hr,c0⟩=>?_);subst hr;exact tQ ⟨w,H3,c0,b2⟩
 ·refine vO z (thn (T.item X rfl rfl rfl a1 i p O w H3 X.xe K (C L) M go) λr a2⟨u,hr,a7⟩=>?_);subst hr;refine vO z (thn a7 λ_ a0⟨x,S,b5,b9,a5,F,b3⟩=>?_);have c1:=b5.pinned (C b3) (T.obj _ _ F);refine vO z (thn (a6 _ a0 w S x u _ c1 b9 (step x S a5)) λ_ c3⟨a9,b0,c8,b8⟩=>?_);refine vO z (thn (k _ c3 a9 b0 _ c8 b8) λf J l=>?_);have Z:∀{a:St}{j:Hp},Inv X (p++eF t a0.heap) a j J->N a j->∃m,m<n/\∃i y H',Inv X p y H' J/\R i J.heap/\(∀b∈t,H' b=none)/\Y i m y H':=λ{a j}c q=>by
   obtain⟨d0,a8,c7⟩:=b7 a j q;refine⟨d0,a8,i+1,a,j,c.unpinned,T.keep _ _ _ F λb k o e=>(c.pin (b,o) (yQ _ (yQ _ (cF k e)))).1,λb k=>?_,c7⟩;obtain⟨o,e,d⟩:=T.obj _ _ F b k;exact(c.pin (b,o) (yQ _ (yQ _ (cF k e)))).2.1
  cases f with
  |next=>obtain⟨a,j,c,q⟩:=l;exact Z c q
  |cont=>obtain⟨a,j,c,q⟩:=l;exact Z c q
  |brk=>obtain⟨a,j,c,l⟩:=l;exact⟨a,j,c.unpinned,l⟩
  |ret v=>obtain⟨c9,a,j,c,a3,l⟩:=l;exact⟨c9,a,j,c.unpinned,a3,l⟩
end
theorem Mg{K:Frag}{a:Addr}{xs:List V}{g:TG}{tb:TS}{D:Ends}{b:St}{H:Hp}(c:Nat->St->Hp->Prop)(o:c 0 b H)(hl:∀i b H,i<=xs.length->c i b H->SqL K H a xs)
  (t:∀i x b H,xs[i]?=some x->c i b H->g x b H λj H2=>tb {D with nx:=c (i+1),ct:=c (i+1),bk:=D.nx} j H2)(r:∀b H,c xs.length b H->D.nx b H):
  ∃d:Nat->Nat->St->Hp->Prop,(∃m,d 0 m b H)/\∀i m b H,d i m b H ->
   ((Itl K a).stop i H/\D.nx b H)\/((Itl K a).go i H/\∃N:St->Hp->Prop,(∀f H',N f H'->∃l,l<m/\d (i+1) l f H')/\∀x H',(Itl K a).yld i H x H'->g x b H' λj H2=>tb {D with nx:=N,ct:=N,bk:=D.nx} j H2):=by
 refine⟨λi m b H=>m=xs.length-i/\i<=xs.length/\c i b H,⟨xs.length,by simp,yA _,o⟩,?_⟩;rintro i m b H ⟨rfl,hi,p⟩;have q:=hl i b H hi p
 by_cases k:i<xs.length
 ·refine .inr ⟨⟨xs,xs[i],q,by simp[k]⟩,c (i+1),λf H' n=>⟨xs.length-(i+1),⋯,rfl,k,n⟩,λx H' y=>?_⟩;obtain⟨e,y⟩:=y;subst e;exact t i x b _ (y xs q) p
 ·have e:i=xs.length:=⋯
  subst e;exact .inl ⟨⟨xs,q,zE _⟩,r b H p⟩
theorem Mf{K:Frag}{a:Addr}{xs:List V}{g:TG}{tb:TS}{D:Ends}{b:St}{H:Hp}(c:Nat->St->Hp->Prop)(o:c 0 b H)(hl:∀i b H,i<=xs.length->c i b H->SqT K H a xs)
  (t:∀i x b H,xs[i]?=some x->c i b H->g x b H λj H2=>tb {D with nx:=c (i+1),ct:=c (i+1),bk:=D.nx} j H2)(r:∀b H,c xs.length b H->D.nx b H):
  ∃d:Nat->Nat->St->Hp->Prop,(∃m,d 0 m b H)/\∀i m b H,d i m b H ->
   ((Itt K a).stop i H/\D.nx b H)\/((Itt K a).go i H/\∃N:St->Hp->Prop,(∀f H',N f H'->∃l,l<m/\d (i+1) l f H')/\∀x H',(Itt K a).yld i H x H'->g x b H' λj H2=>tb {D with nx:=N,ct:=N,bk:=D.nx} j H2):=by
 refine⟨λi m b H=>m=xs.length-i/\i<=xs.length/\c i b H,⟨xs.length,by simp,yA _,o⟩,?_⟩;rintro i m b H ⟨rfl,hi,p⟩;have q:=hl i b H hi p
 by_cases k:i<xs.length
 ·refine .inr ⟨⟨xs,xs[i],q,by simp[k]⟩,c (i+1),λf H' n=>⟨xs.length-(i+1),⋯,rfl,k,n⟩,λx H' y=>?_⟩;obtain⟨e,y⟩:=y;subst e;exact t i x b _ (y xs q) p
 ·have e:i=xs.length:=⋯
  subst e;exact .inl ⟨⟨xs,q,zE _⟩,r b H p⟩
theorem Me{lo:Int}{n:Nat}{g:TG}{tb:TS}{D:Ends}{a:St}{H:Hp}(b:Nat->St->Hp->Prop)(o:b 0 a H)
  (r:∀i a H,i<n->b i a H->g (.int (lo+i)) a H λj H2=>tb {D with nx:=b (i+1),ct:=b (i+1),bk:=D.nx} j H2)(q:∀a H,b n a H->D.nx a H):
  ∃d:Nat->Nat->St->Hp->Prop,(∃m,d 0 m a H)/\∀i m a H,d i m a H ->
   ((Itr lo n).stop i H/\D.nx a H)\/((Itr lo n).go i H/\∃N:St->Hp->Prop,(∀f H',N f H'->∃k,k<m/\d (i+1) k f H')/\∀x H',(Itr lo n).yld i H x H'->g x a H' λj H2=>tb {D with nx:=N,ct:=N,bk:=D.nx} j H2):=by
 refine⟨λi m a H=>m=n-i/\i<=n/\b i a H,⟨n,by simp,yA _,o⟩,?_⟩;rintro i m a H ⟨rfl,hi,p⟩
 by_cases c:i<n
 ·refine .inr ⟨c,b (i+1),λf H' l=>⟨n-(i+1),⋯,rfl,c,l⟩,λx H' y=>?_⟩;obtain⟨e,y⟩:=y;subst e y;exact r i a _ c p
 ·have e:i=n:=⋯
  subst e;exact .inl ⟨zE _,q a H p⟩
abbrev R2:=V->V->Hp->VK->Prop
def OpR(X:Cx)(f:Value->Value->Sem Value)(r:R2):Prop:=
 ∀(pins:PN)(s:Shared)(σ:St)(H:Hp)(x y:V)(v u:Value)(Q:VK),Inv X pins σ H s->RelV x v->RelV y u->r x y H Q ->
  wpAny (model X.prog X.w) X.A (f v u) (EP X pins σ Q) X.xe s
def UnR(X:Cx)(f:Value->Sem Value)(r:V->Hp->VK->Prop):Prop:=
 ∀(pins:PN)(s:Shared)(σ:St)(H:Hp)(x:V)(v:Value)(Q:VK),Inv X pins σ H s->RelV x v->r x H Q ->
  wpAny (model X.prog X.w) X.A (f v) (EP X pins σ Q) X.xe s
def mU(X:Cx)(f:Value)(r:List V->Hp->VK->Prop):Prop:=
 ∀(pins:PN)(s:Shared)(σ:St)(H:Hp)(xs:List V)(us:LW)(Q:VK),Inv X pins σ H s->Vals xs us->r xs H Q ->
  wpAny (model X.prog X.w) X.A (call f us) (EP X pins σ Q) X.xe s
def tOp(r:R2)(ta tb:TE):TE:=λσ H Q=>ta σ H λx H1=>tb σ H1 λy H2=>r x y H2 Q
def tUn(r:V->Hp->VK->Prop)(ta:TE):TE:=λσ H Q=>ta σ H λx H1=>r x H1 Q
def rI(C:Int->Int->Prop)(g:Int->Int->V):R2:=λx y H Q=>∃i j,x=.int i/\y=.int j/\C i j/\Q (g i j) H
def rI0(g:Int->Int->V):R2:=λx y H Q=>∃i j,x=.int i/\y=.int j/\Q (g i j) H
def rU(g:Int->V):V->Hp->VK->Prop:=λx H Q=>∃i,x=.int i/\Q (g i) H
section
variable {X:Cx} {a b c:Expr} {ta tb tc:TE} {pos:Pos}
theorem binT(i:PE X a ta)(o:PE X b tb){e:PN}{s:Shared}{d:St}{H:Hp}{R:V->V->Hp->Prop}(I:Inv X e d H s)
  (h:ta d H λx H1=>tb d H1 λy H2=>R x y H2){Q:VP}{f:Value->Value->Sem Value}
  (j:∀v u g x y H2,Inv X e d H2 g->RelV x v->RelV y u->R x y H2->wpAny (model X.prog X.w) X.A (f v u) Q X.xe g):
  wpAny (model X.prog X.w) X.A (eval a X.env) (λv m=>wpAny (model X.prog X.w) X.A (eval b X.env) (λu p=>wpAny (model X.prog X.w) X.A (f v u) Q X.xe p) X.xe m) X.xe s:=by
 refine thn (i e s d H _ I h) λv q⟨x,H1,n,r1,k⟩=>?_;refine thn (o e q d H1 _ n k) λu g⟨y,H2,r,r2,l⟩=>?_;exact j v u g x y H2 r r1 r2 l
theorem oP{op:Operator}{r:R2}(l:OpR X (binaryOp op) r)(d:PE X a ta)(k:PE X b tb):PE X (.BinOp a op b pos) (tOp r ta tb):=by
 intro f s i H Q I h;exact wpAny_BinOp (binT d k I h λv u j x y H2 m e g q=>l f j i H2 x y v u Q m e g q)
theorem gU{op:UnaryOp}{r:V->Hp->VK->Prop}(k:UnR X (unaryOp op) r)(f:PE X a ta):PE X (.UnaryOp op a pos) (tUn r ta):=by
 intro d s e H Q I h;exact UnaryOp_ (thn (f d s e H _ I h) λv j⟨x,H1,i,r1,g⟩=>k d j e H1 x v Q i r1 g)
theorem opI{f:Value->Value->Sem Value}{C:Int->Int->Prop}{g:Int->Int->Int}
  (m:∀(i j:Int)(d u:Tok)(s:Shared)(Q:VP)(E:VP),C i j->Q (.int (g i j) s.toks) {s with toks:=s.toks+1}->wpAny (model X.prog X.w) X.A (f (.int i d) (.int j u)) Q E s):
  OpR X f (rI C λi j=>.int (g i j)):=by
 intro n s o H x y v u Q I e k h;obtain⟨i,j,rfl,rfl,l,q⟩:=h;obtain⟨d,rfl⟩:=e;obtain⟨t',rfl⟩:=k;exact m i j d t' s _ _ l ⟨.int (g i j),H,I.tok _,⟨_,rfl⟩,q⟩
theorem opI0{f:Value->Value->Sem Value}{g:Int->Int->Int}
  (l:∀(i j:Int)(d u:Tok)(s:Shared)(Q:VP)(E:VP),Q (.int (g i j) s.toks) {s with toks:=s.toks+1}->wpAny (model X.prog X.w) X.A (f (.int i d) (.int j u)) Q E s):
  OpR X f (rI0 λi j=>.int (g i j)):=by
 intro m s n H x y v u Q I e k h;obtain⟨i,j,rfl,rfl,q⟩:=h;obtain⟨d,rfl⟩:=e;obtain⟨t',rfl⟩:=k;exact l i j d t' s _ _ ⟨.int (g i j),H,I.tok _,⟨_,rfl⟩,q⟩
theorem opB0{f:Value->Value->Sem Value}{g:Int->Int->Bool}
  (l:∀(i j:Int)(d u:Tok)(s:Shared)(Q:VP)(E:VP),Q (.bool (g i j)) s->wpAny (model X.prog X.w) X.A (f (.int i d) (.int j u)) Q E s):
  OpR X f (rI0 λi j=>.bl (g i j)):=by
 intro m s n H x y v u Q I e k h;obtain⟨i,j,rfl,rfl,q⟩:=h;obtain⟨d,rfl⟩:=e;obtain⟨t',rfl⟩:=k;exact l i j d t' s _ _ ⟨.bl (g i j),H,I,rfl,q⟩
def CPow(i j:Int):Prop:=0<=j/\j<=1000000/\i.natAbs<2^64
def CMul(i j:Int):Prop:=(-(2^64)<i/\i<2^64)\/(-(2^64)<j/\j<2^64)
theorem CMul.ok{i j:Int}(h:CMul i j):IntMulOk i j:=by
 rcases h with⟨e,d⟩|⟨e,d⟩
 ·exact .of_left (intBits_le_64 e d)
 ·exact .of_right (intBits_le_64 e d)
theorem mC:OpR X (binaryOp .Add) (rI0 λi j=>.int (i+j)):=opI0 λ_ _ _ _ _ _ _ q=>add_int q
theorem lV:OpR X (binaryOp .Sub) (rI0 λi j=>.int (i-j)):=opI0 λ_ _ _ _ _ _ _ q=>sub_int q
theorem nP:OpR X (binaryOp .Mod) (rI (λ_ j=>j≠0) λi j=>.int (i.fmod j)):=opI λ_ _ _ _ _ _ _ d q=>mod_int' d q
theorem Au:OpR X (binaryOp .Pow) (rI CPow λi j=>.int (i^j.toNat)):=opI λ_ _ _ _ _ _ _ d q=>pow_int_small d.1 d.2.1 d.2.2 q
theorem unI{f:Value->Sem Value}{g:Int->Int}
  (j:∀(i:Int)(d:Tok)(s:Shared)(Q:VP)(E:VP),Q (.int (g i) s.toks) {s with toks:=s.toks+1}->wpAny (model X.prog X.w) X.A (f (.int i d)) Q E s):
  UnR X f (rU λi=>.int (g i)):=by
 intro k s l H x v Q I e h;obtain⟨i,rfl,q⟩:=h;obtain⟨d,rfl⟩:=e;exact j i d s _ _ ⟨.int (g i),H,I.tok _,⟨_,rfl⟩,q⟩
theorem gW:UnR X (unaryOp .USub) (rU λi=>.int (-i)):=unI λ_ _ _ _ _ q=>neg_int q
end
def scal:V->V->Bool
 |.non,.non=>true|.non,.int _=>true|.int _,.non=>true|.non,.bl _=>true|.bl _,.non=>true|.non,.str _=>true|.str _,.non=>true
 |.int _,.int _=>true|.bl _,.bl _=>true|.str _,.str _=>true|.byt _,.byt _=>true
 |.int _,.str _=>true|.str _,.int _=>true|.bl _,.str _=>true|.str _,.bl _=>true
 |_,_=>false
def rEq:R2:=λx y H Q=>scal x y=true/\Q (.bl (decide (x=y))) H
def rNe:R2:=λx y H Q=>scal x y=true/\Q (.bl (!decide (x=y))) H
theorem Eo{i j:Int}:decide (V.int i=V.int j)=(i == j):=by
 rw[tP];simp
theorem En{i j:Bool}:decide (V.bl i=V.bl j)=(i == j):=by
 rw[tP];simp
theorem Em{i j:Str}:decide (V.str i=V.str j)=(i == j):=by
 rw[tP];simp
theorem El{i j:Array UInt8}:decide (V.byt i=V.byt j)=(i.toList == j.toList):=by
 rw[tP];cases i;cases j;simp
section
variable {X:Cx} {a b c:Expr} {ta tb tc:TE} {pos:Pos}
theorem nX{f:PN}{d:St}{H:Hp}{s:Shared}{Q:VK}{k k':Bool}(I:Inv X f d H s)(q:Q (.bl k) H)(e:k=k'):EP X f d Q (.bool k') s:=by
 subst e;exact⟨.bl k,H,I,rfl,q⟩
theorem At:OpR X (compareOp .Eq) rEq:=by
 intro k s l H x y v u Q I f d h;obtain⟨e,q⟩:=h;cases x with
 |non =>
  cases f;cases y with
  |non=>cases d;exact PySem.EqNone.eq_none_none (nX I q (by simp))
  |bl j=>cases d;exact PySem.EqNone.eq_none_bool (nX I q (by simp))
  |int j=>obtain⟨t',rfl⟩:=d;exact PySem.EqNone.eq_none_int (nX I q (by simp))
  |str j=>obtain⟨t',rfl⟩:=d;exact PySem.EqNone.eq_none_str (nX I q (by simp))
  |_=>exact absurd (show false=true from e) zQ
 |bl i =>
  cases f;cases y with
  |non=>cases d;exact PySem.EqNone.eq_bool_none (nX I q (by simp))
  |bl j=>cases d;exact eq_bool (nX I q En)
  |str j=>obtain⟨t',rfl⟩:=d;exact PySem.EqMixed.eq_bool_str (nX I q (by simp))
  |_=>exact absurd (show false=true from e) zQ
 |int i =>
  obtain⟨g,rfl⟩:=f;cases y with
  |non=>cases d;exact PySem.EqNone.eq_int_none (nX I q (by simp))
  |int j=>obtain⟨t',rfl⟩:=d;exact eq_int (nX I q Eo)
  |str j=>obtain⟨t',rfl⟩:=d;exact PySem.EqMixed.eq_int_str (nX I q (by simp))
  |_=>exact absurd (show false=true from e) zQ
 |str i =>
  obtain⟨g,rfl⟩:=f;cases y with
  |non=>cases d;exact PySem.EqNone.eq_str_none (nX I q (by simp))
  |bl j=>cases d;exact PySem.EqMixed.eq_str_bool (nX I q (by simp))
  |int j=>obtain⟨t',rfl⟩:=d;exact PySem.EqMixed.eq_str_int (nX I q (by simp))
  |str j=>obtain⟨t',rfl⟩:=d;exact eq_str (nX I q Em)
  |_=>exact absurd (show false=true from e) zQ
 |byt i =>
  obtain⟨g,rfl⟩:=f;cases y with
  |byt j=>obtain⟨t',rfl⟩:=d;exact PySem.W.eq_bytes (nX I q El)
  |_=>exact absurd (show false=true from e) zQ
 |_=>cases y <;> exact absurd (show false=true from e) zQ
theorem cG:OpR X (compareOp .NotEq) rNe:=by
 intro k s l H x y v u Q I f d h;obtain⟨e,q⟩:=h;cases x with
 |non =>
  cases f;cases y with
  |non=>cases d;exact PySem.EqNone.ne_none_none (nX I q (by simp))
  |bl j=>cases d;exact PySem.EqNone.ne_none_bool (nX I q (by simp))
  |int j=>obtain⟨t',rfl⟩:=d;exact PySem.EqNone.ne_none_int (nX I q (by simp))
  |str j=>obtain⟨t',rfl⟩:=d;exact PySem.EqNone.ne_none_str (nX I q (by simp))
  |_=>exact absurd (show false=true from e) zQ
 |bl i =>
  cases f;cases y with
  |non=>cases d;exact PySem.EqNone.ne_bool_none (nX I q (by simp))
  |bl j=>cases d;exact ne_bool (nX I q (wD not En))
  |str j=>obtain⟨t',rfl⟩:=d;exact PySem.EqMixed.ne_bool_str (nX I q (by simp))
  |_=>exact absurd (show false=true from e) zQ
 |int i =>
  obtain⟨g,rfl⟩:=f;cases y with
  |non=>cases d;exact PySem.EqNone.ne_int_none (nX I q (by simp))
  |int j=>obtain⟨t',rfl⟩:=d;exact ne_int (nX I q (wD not Eo))
  |str j=>obtain⟨t',rfl⟩:=d;exact PySem.EqMixed.ne_int_str (nX I q (by simp))
  |_=>exact absurd (show false=true from e) zQ
 |str i =>
  obtain⟨g,rfl⟩:=f;cases y with
  |non=>cases d;exact PySem.EqNone.ne_str_none (nX I q (by simp))
  |bl j=>cases d;exact PySem.EqMixed.ne_str_bool (nX I q (by simp))
  |int j=>obtain⟨t',rfl⟩:=d;exact PySem.EqMixed.ne_str_int (nX I q (by simp))
  |str j=>obtain⟨t',rfl⟩:=d;exact ne_str (nX I q (wD not Em))
  |_=>exact absurd (show false=true from e) zQ
 |byt i =>
  obtain⟨g,rfl⟩:=f;cases y with
  |byt j=>obtain⟨t',rfl⟩:=d;exact PySem.W.ne_bytes (nX I q (wD not El))
  |_=>exact absurd (show false=true from e) zQ
 |_=>cases y <;> exact absurd (show false=true from e) zQ
theorem gX:OpR X (compareOp .Lt) (rI0 λi j=>.bl (decide (i<j))):=opB0 λ_ _ _ _ _ _ _ q=>lt_int q
theorem cH:OpR X (compareOp .Gt) (rI0 λi j=>.bl (decide (j<i))):=opB0 λ_ _ _ _ _ _ _ q=>gt_int q
theorem Md:OpR X (compareOp .Is) (λx y H Q=>y=.non/\Q (.bl (decide (x=.non))) H):=by
 intro f s g H x y v u Q I d e h;obtain⟨rfl,q⟩:=h;cases e;refine is_none_gen (nX I q ?_);cases x <;> first
  |(cases d;rfl)
  |(obtain⟨i,rfl⟩:=d;rfl)
theorem OpR.or{f:Value->Value->Sem Value}{r g:R2}(h:OpR X f r)(h':OpR X f g):OpR X f (λx y H Q=>r x y H Q\/g x y H Q):=by
 intro e s j H x y v u Q I d i q;rcases q with q|q
 ·exact h e s j H x y v u Q I d i q
 ·exact h' e s j H x y v u Q I d i q
theorem nH(b:Expr){op:CmpOp}(h:op≠.In:=by decide)(d:op≠.NotIn:=by decide):behindInMarks op b=false:=by
 have e1:(op == CmpOp.In)=false:=by cases op <;> first|rfl|exact absurd rfl h
 have e:(op == CmpOp.NotIn)=false:=by cases op <;> first|rfl|exact absurd rfl d
 cases b <;> simp[behindInMarks,e1,e]
theorem iR{op:CmpOp}{r:R2}(m:OpR X (compareOp op) r)(d:PE X a ta)(l:PE X b tb)(i:behindInMarks op b=false):PE X (.Compare a [op] [b] pos) (tOp r ta tb):=by
 intro f s j H Q I h;exact wpAny_Compare1 (binT d l I h λv u k x y H2 n e g q=>m f k j H2 x y v u Q n e g q) i
def cI(t:TE):TT:=λσ H Q=>t σ H λx H'=>∃k,x=.bl k/\Q k H'
theorem nI{op:CmpOp}{r:R2}(C:OpR X (compareOp op) r)(g:PE X a ta)(t:PE X b tb)(l:behindInMarks op b=false):PT X (.Compare a [op] [b] pos) (cI (tOp r ta tb)):=by
 intro d s f H Q I h;refine wpAny_isTrue_Compare1 (thn (g d s f H _ I h) λv w⟨x,H1,p,r1,j⟩=>thn (t d w f H1 _ p j) λu q⟨y,H2,D,r2,n⟩ =>
  thn (C d q f H2 x y v u _ D r1 r2 n) λc F⟨z,H3,i,m,k,e,o⟩=>?_) l
 subst e;cases m;exact uS ⟨H3,i,o⟩
theorem cJ:(sizeLine:Nat)<2^63:=by rw[sizeLine_eq];decide
theorem jA{x:V}{us:LW}(r:Vals [x] us):∃u,us=[u]/\RelV x u:=by
 cases r with
 |cons r1 r2=>cases r2;exact⟨_,rfl,r1⟩
theorem Mc{x y:V}{us:LW}(r:Vals [x,y] us):∃u d,us=[u,d]/\RelV x u/\RelV y d:=by
 cases r with
 |cons r1 r2 =>
  cases r2 with
  |cons f e=>cases e;exact⟨_,_,rfl,r1,f⟩
theorem gY:mU X (.builtin "abs") (λxs H Q=>∃i,xs=[.int i]/\Q (.int (if i<0 then -i else i)) H):=by
 intro f s d H xs us Q I r h;obtain⟨i,rfl,q⟩:=h;obtain⟨u,rfl,e,rfl⟩:=jA r;exact call_abs_int λu tk=>⟨.int (if i<0 then -i else i),H,I.tok _,⟨_,rfl⟩,q⟩
theorem Mb(e:X.calm=true):mU X (.builtin "min") (λxs H Q=>∃i j,xs=[.int i,.int j]/\Q (.int (if j<i then j else i)) H):=by
 intro f s l H xs us Q I r h;obtain⟨i,j,rfl,q⟩:=h;obtain⟨u,g,rfl,⟨m,rfl⟩,⟨t',rfl⟩⟩:=Mc r;refine min_two_ints (I.ok.hd e) λh' tk k=>⟨_,H,I.kept k,?_,q⟩
 by_cases d:j<i
 ·rw[zF d,zF d];exact⟨_,rfl⟩
 ·rw[zD d,zD d];exact⟨_,rfl⟩
theorem Ek:mU X (.type "int") (λxs H Q=>(∃i,xs=[.int i]/\Q (.int i) H)\/∃k,xs=[.bl k]/\Q (.int (if k then 1 else 0)) H):=by
 intro f s d H xs us Q I r h;rcases h with⟨i,rfl,q⟩|⟨k,rfl,q⟩
 ·obtain⟨u,rfl,e,rfl⟩:=jA r;exact call_int_int ⟨.int i,H,I,⟨_,rfl⟩,q⟩
 ·obtain⟨u,rfl,r1⟩:=jA r;cases r1;exact call_int_bool ⟨.int (if k then 1 else 0),H,I.tok _,⟨_,rfl⟩,q⟩
end
structure ObjM(h:Heap)(x dx C:Addr)(mA:MT):Prop where
 obj:h.get? x=some (PySem.W.instObj C dx)
 ns:h.Ns1 dx mA
 ne:dx≠x
theorem Ej{h:Heap}{c:Addr}{b:MT}(n:h.Ns1 c b):∃od,h.get? c=some od/\∀name,PySem.W.lookIn name od=some (b name):=by
 obtain⟨o,es,ep,k,i,f,_,g⟩:=n;refine⟨o,k,λname=>?_⟩;have e:=g name;unfold nsFind findBy at e;rw[←Array.find?_toList]at e;unfold PySem.W.lookIn;rw[i];dsimp only;split
 ·rename_i y q;rw[q]at e;exact wD some e
 ·rename_i q;rw[q]at e;have a:es.toList.any (·.refKey)=false:=by
   rw[List.any_eq_false];intro y l;obtain⟨z,m,j⟩:=f y (Array.mem_toList_iff.mp l);simp[DictEntry.refKey,j]
  have d:¬ es.toList.any (·.refKey)=true:=by rw[a];exact zQ
  rw[zD d];exact wD some e
theorem ObjM.look{h:Heap}{x b C:Addr}{a:MT}(I:ObjM h x b C a):∃od,PySem.W.InstAt h x (PySem.W.instObj C b) C (some od)/\∀name,PySem.W.lookIn name od=some (a name):=
 let ⟨od,c,hl⟩:=Ej I.ns
 ⟨od,⟨I.obj,rfl,rfl,c⟩,hl⟩
section
variable {prog:Program} {w:World} {A:Around} {E:VP} {s:Shared} {K:Frag} {x dx C f:Addr} {mA:MT} {name:Str} {v:Value}
theorem Ma{g:Bool}{Q:VP}(X:K.In s.heap)(I:ObjM s.heap x dx C mA)(c:PySem.W.plainGet K C name=true)(hh:PySem.W.hasDictIn K C=true)
  (a:PySem.W.findIn K (.ref C) name=some none)(b:mA name=some v)(d:PySem.W.handedIn v=true)(h:Q v {s with toks:=s.toks+1}):
  wpAny (model prog w) A (getAttr (.ref x) name g) Q E s:=by
 obtain⟨od,e,hl⟩:=I.look;exact PySem.W.get_value X e (rL c).1 (PySem.W.findObj_own hh a rfl (by rw[hl,b])) d h
theorem Nz{pl:Sem Bool}{Q:Value×LW->Shared->Prop}(X:K.In s.heap)(I:ObjM s.heap x dx C mA)(a:PySem.W.plainGet K C name=true)
  (c:PySem.W.findIn K (.ref C) name=some (some (.ref f)))(e:PySem.W.isFn K (.ref f)=true)(b:mA name=none)(h:Q (.ref f,[.ref x]) s):
  wpAny (model prog w) A (getMethod (.ref x) name pl) Q E s:=by
 obtain⟨od,d,hl⟩:=I.look;exact PySem.W.method_fn X d (rL a).1 (rL a).2 c (pW.mp e) (by show(PySem.W.lookIn name od).map (·.isSome)=some false;rw[hl,b];rfl) h
theorem Ny{ns:List Str}{Q:Unit->Shared->Prop}(X:K.In s.heap)(I:ObjM s.heap x dx C mA)
  (o:PySem.W.findIn K (.ref C) "__setattr__"=some (some (.builtin "object.__setattr__")))(p:PySem.W.plainOver K C=true)(l:PySem.W.takerIn K C name=some none)(hh:PySem.W.hasDictIn K C=true)
  (e:PySem.Within mA ns)(hsz:ns.length<=sizeLine)
  (h:∀h',ObjM h' x dx C (λy=>if y=name then some v else mA y)->Heap.SameBut dx s.heap h'->Q () {s with heap:=h',toks:=s.toks+2}):
  wpAny (model prog w) A (setAttr (.ref x) name v) Q E s:=by
 obtain⟨od,c,hl⟩:=I.look;refine PySem.W.set_plain X c o (PySem.W.osa_open (s:={s with toks:=s.toks+1}) (r:=none) X c p l λb=>?_);obtain⟨q,m,n⟩:=sQ hh;have g:s.heap.get? x=some ⟨.ref C,some dx,.plain,#[]⟩:=I.obj;refine zA (zB (zA (zA (rP g (zA (wX (s:={s with toks:=s.toks+1}) (rM X m) ?_))))));rw[n];refine zB (a:=some dx) (zA (zB (zA ?_)));refine wpAny_nsSet1 (s:={s with toks:=s.toks+1}) I.ns λh' d a=>?_;obtain⟨t,u,r,j,i,k⟩:=d.count (PySem.Within.cons name v e);refine zA (wpAny_lookBehind j (by rw[i];exact pastItsLine_dict (yC k (by rw[zY];omega))) ?_);exact zB (h _ ⟨(a.2 _ (zZ I.ne)).trans I.obj,d,I.ne⟩ a)
theorem As{R:Result->Shared->Prop}{vs:LW}{a:List (Str×Value)}(X:K.In s.heap)(e:PySem.W.makesIn K C=true)
  (hi:PySem.W.findIn K (.ref C) "__init__"=some (some (.ref f)))(c:PySem.W.typeIn K (.ref f)=some (.type "function"))
  (h:codeAny (model prog w) (A.under (.builtin "type.__call__" ⟨.ref C:: vs,a⟩)) (.call (.ref f) ⟨.ref (s.heap.objs.size+1):: vs,a⟩) (PySem.W.InitBack (s.heap.objs.size+1) R)
   {s with heap:=(s.heap.push PySem.W.emptyDict).push (PySem.W.instObj C s.heap.objs.size)}):
  codeAny (model prog w) A (.call (.ref C) ⟨vs,a⟩) R s:=by
 obtain⟨hh,g,d,j,i⟩:=s;exact PySem.W.make_core (PySem.W.makes_of X e) (wK X hi) (λb=>PySem.W.bind_fn X b c) (.inl rfl) h
end
def putF(f:Str)(v:V):List (Str×V)->List (Str×V)
 |[]=>[(f,v)]
 |(g,x):: r=>if g=f then(g,v):: r else(g,x):: putF f v r
theorem Ei(f g:Str)(v:V):∀fs:List (Str×V),(putF f v fs).lookup g=if g=f then some v else fs.lookup g
 |[]=>by
  show List.lookup g [(f,v)]=_
  by_cases h:g=f
  ·have a:(g == f)=true:=pW.mpr h;simp only[List.lookup,a,if_pos h]
  ·have a:(g == f)=false:=pY.mpr h;simp only[List.lookup,a,if_neg h]
 | (k,x):: r=>by
  have c:=Ei f g v r;rw[show putF f v ((k,x):: r)=(if k=f then(k,v):: r else(k,x):: putF f v r) from rfl]
  by_cases b:k=f
  ·rw[zF b]
   by_cases h:g=k
   ·have a:(g == k)=true:=pW.mpr h;simp only[List.lookup,a,if_pos (h.trans b)]
   ·have a:(g == k)=false:=pY.mpr h;simp only[List.lookup,a,if_neg (λe:g=f=>h (e.trans b.symm))]
  ·rw[zD b]
   by_cases h:g=k
   ·have a:(g == k)=true:=pW.mpr h;simp only[List.lookup,a,if_neg (λe:g=f=>b (h.symm.trans e))]
   ·have a:(g == k)=false:=pY.mpr h;simp only[List.lookup,a];exact c
theorem Ar(f:Str)(v:V):∀fs:List (Str×V),f∈(putF f v fs).map (·.1)/\∀g,g∈fs.map (·.1)->g∈(putF f v fs).map (·.1)
 |[]=>⟨by simp[putF],λg h=>by simp at h⟩
 | (k,x):: r=>by
  obtain⟨b,c⟩:=Ar f v r;rw[show putF f v ((k,x):: r)=(if k=f then(k,v):: r else(k,x):: putF f v r) from rfl]
  by_cases a:k=f
  ·rw[zF a];subst a;exact⟨by simp,λg h=>by simpa using h⟩
  ·rw[zD a];refine⟨?_,λg h=>?_⟩
   ·rw[zN];exact zT _ b
   ·rw[zN]at h ⊢;rcases xC.mp h with e|e
    ·exact xC.mpr (.inl e)
    ·exact zT _ (c g e)
theorem Eh(f:Str)(v:V):∀fs:List (Str×V),(putF f v fs).length<=fs.length+1
 |[]=>by simp[putF]
 |(k,x):: r=>by
  have b:=Eh f v r;rw[show putF f v ((k,x):: r)=(if k=f then(k,v):: r else(k,x):: putF f v r) from rfl]
  by_cases a:k=f
  ·rw[zF a,zY,zY];omega
  ·rw[zD a,zY,zY];omega
theorem RelO.some_of{v:V}{o:Option Value}(r:RelO (some v) o):∃u,o=some u/\RelV v u:=by
 cases o with
 |none=>exact(show False from r).elim
 |some u=>exact⟨u,rfl,r⟩
theorem RelO.none_of{o:Option Value}(r:RelO none o):o=none:=by
 cases o with
 |none=>rfl
 |some u=>exact(show False from r).elim
theorem Eg{v:V}{u:Value}(r:RelV v u):PySem.W.handedIn u=true:=by
 cases v with
 |non=>cases(show u=Value.none from r);rfl
 |bl b=>cases(show u=Value.bool b from r);rfl
 |int i=>obtain⟨t,e⟩:=(show∃t,u=Value.int i t from r);cases e;rfl
 |str x=>obtain⟨t,e⟩:=(show∃t,u=Value.str x t from r);cases e;rfl
 |byt b=>obtain⟨t,e⟩:=(show∃t,u=Value.bytes b t from r);cases e;rfl
 |flt b=>obtain⟨t,e⟩:=(show∃t,u=Value.float b t from r);cases e;rfl
 |ref a=>cases(show u=Value.ref a from r);rfl
 |ty n=>cases(show u=Value.type n from r);rfl
section
variable {P:Program} {w:World} {H H':Hp} {h h':Heap} {a C dx:Addr} {fs fs':List (Str×V)}
theorem cK(g:HOk P w H h)(e:H a=some (.ins C dx fs)):∃b,ObjM h a dx C b/\(∀f,RelO (fs.lookup f) (b f))/\PySem.Within b (fs.map (·.1))/\fs.length<=1000/\H dx=some (.own a):=by
 obtain⟨d,z,c,i,b,n,r,q⟩:=(show nM P w H h a (.ins C dx fs) from g a _ e);exact⟨b,⟨i,n,c⟩,r,q,z,d⟩
end
structure Cls(K:Frag)(C:Addr):Prop where
 pg:PySem.W.plainGet K C Str.empty=true
 hd:PySem.W.hasDictIn K C=true
 po:PySem.W.plainOver K C=true
 sa:PySem.W.findIn K (.ref C) "__setattr__"=some (some (.builtin "object.__setattr__"))
theorem Cls.get{K:Frag}{C:Addr}(c:Cls K C)(f:Str):PySem.W.plainGet K C f=true:=c.pg
def gH(K:Frag)(C:Addr)(f:Str):Prop:=PySem.W.findIn K (.ref C) f=some none
theorem gH.taker{K:Frag}{C:Addr}{f:Str}(n:gH K C f):PySem.W.takerIn K C f=some none:=by
 unfold PySem.W.takerIn;rw[show PySem.W.findIn K (.ref C) f=some none from n];rfl
structure Meth(K:Frag)(C:Addr)(m:Str)(f:Addr):Prop where
 at_:PySem.W.findIn K (.ref C) m=some (some (.ref f))
 fn:PySem.W.isFn K (.ref f)=true
 kp:PySem.W.keepIn K (.ref f)=true
section
variable {X:Cx} {pins:PN} {σ:St} {H:Hp} {s:Shared} {a C dx:Addr} {fs:List (Str×V)} {f:Str} {v:V} {A:Around} {E:VP}
theorem Nx{b:Bool}{Q:VP}(I:Inv X pins σ H s)(e:H a=some (.ins C dx fs))(c:Cls X.K C)(n:gH X.K C f)(l:fs.lookup f=some v)
  (h:∀u g,Inv X pins σ H g->RelV v u->Q u g):wpAny (model X.prog X.w) A (getAttr (.ref a) f b) Q E s:=by
 obtain⟨i,O,r,_,_,_⟩:=cK I.hok e;obtain⟨u,j,d⟩:=RelO.some_of (v:=v) (o:=i f) (by rw[←l];exact r f);exact Ma I.kIn O (c.get f) c.hd n j (Eg d) (h u _ (I.tok _) d)
theorem Nw{m:Str}{g:Addr}{pl:Sem Bool}{Q:Value×LW->Shared->Prop}(I:Inv X pins σ H s)(e:H a=some (.ins C dx fs))(c:Cls X.K C)(k:Meth X.K C m g)(l:fs.lookup m=none)
  (h:Q (.ref g,[.ref a]) s):wpAny (model X.prog X.w) A (getMethod (.ref a) m pl) Q E s:=by
 obtain⟨d,O,r,_,_,_⟩:=cK I.hok e;have b:d m=none:=RelO.none_of (by rw[←l];exact r m);exact Nz I.kIn O (c.get m) k.at_ k.fn b h
theorem Nv{y:V}{u:Value}{Q:Unit->Shared->Prop}(I:Inv X pins σ H s)(e:H a=some (.ins C dx fs))(c:Cls X.K C)(n:gH X.K C f)(hl:fs.length<1000)(w:RelV y u)
  (h:∀i,Inv X pins σ (upd H a (.ins C dx (putF f y fs))) i->Q () i):wpAny (model X.prog X.w) A (setAttr (.ref a) f u) Q E s:=by
 obtain⟨j,O,r,k,_,l⟩:=cK I.hok e;have p:(fs.map (·.1)).length<=sizeLine:=by rw[yP,sizeLine_eq];omega
 refine Ny I.kIn O c.sa c.po n.taker c.hd k p λh' d m=>h _ ?_;have D:∃o,h'.get? dx=some o:=let ⟨o,_,_,x,_⟩:=d.ns;⟨o,x⟩
 refine I.write (x:=a) (e:=dx) (by rw[e];exact True.intro) (.inr l) (λb q F z=>(m.2 b F).trans z) D ?_;refine⟨by rw[oV O.ne];exact l,?_,O.ne,d.obj,_,d.ns,λg=>?_,λg t=>?_⟩
 ·have:=Eh f y fs;omega
 ·show RelO ((putF f y fs).lookup g) (if g=f then some u else j g);rw[Ei]
  by_cases q:g=f
  ·rw[zF q,zF q];exact w
  ·rw[zD q,zD q];exact r g
 ·by_cases q:g=f
  ·rw[q];exact(Ar f y fs).1
  ·refine(Ar f y fs).2 g (k g λz=>t ?_);show(if g=f then some u else j g)=none;rw[zD q];exact z
theorem Inv.made(I:Inv X pins σ H s):Inv X pins σ (upd (upd H s.heap.objs.size (.own (s.heap.objs.size+1))) (s.heap.objs.size+1) (.ins C s.heap.objs.size []))
  {s with heap:=(s.heap.push PySem.W.emptyDict).push (PySem.W.instObj C s.heap.objs.size)}:=by
 have e1:(s.heap.push PySem.W.emptyDict).get? s.heap.objs.size=some PySem.W.emptyDict:=zR s.heap rfl;have d:((s.heap.push PySem.W.emptyDict).push (PySem.W.instObj C s.heap.objs.size)).get? (s.heap.objs.size+1)=some (PySem.W.instObj C s.heap.objs.size):=by
  have:=zR (s.heap.push PySem.W.emptyDict) (o:=PySem.W.instObj C s.heap.objs.size) rfl
  rwa[xO]at this
 have j:(s.heap.push PySem.W.emptyDict).Ns s.heap.objs.size (λ_=>none):=⟨PySem.W.emptyDict,#[],_,e1,rfl,(λe i=>absurd i (by simp)),λ_=>rfl⟩;have g:=I.laid (a:=s.heap.objs.size) (o:=.own (s.heap.objs.size+1)) (h':=s.heap.push PySem.W.emptyDict) (t':=s.toks) (λb u q=>zC _ q) (zE _) ⟨_,e1⟩;refine g.laid (a:=s.heap.objs.size+1) (o:=.ins C s.heap.objs.size []) (t':=s.toks) (λb u q=>zC _ q) (qU (xO _ _)) ?_;have c:s.heap.objs.size≠s.heap.objs.size+1:=zX (uE _);refine⟨by rw[oV c,oS],yA _,c,d,λ_=>none,(Heap.Ns1.of_empty j).at λo q=>zC _ q,λ_=>True.intro,λy k=>absurd rfl k⟩
theorem Ef{prog:Program}{w:World}{env:Env}{e:Expr}{f:Str}{pos:Pos}{s:Shared}{Q:VP}(c:attributeBase e f env (eval e env)=eval e env)
  (h:wpAny (model prog w) A (eval e env) (λo b=>wpAny (model prog w) A (getAttr o f true) Q E b) E s):wpAny (model prog w) A (eval (.Attribute e f pos) env) Q E s:=
 Attribute_any_ h (by rw[arm_eval_Attribute,c])
end
def tFld(K:Frag)(ta:TE)(f:Str):TE:=λσ H Q=>ta σ H λx H1=>∃a C dx fs v,x=.ref a/\H1 a=some (.ins C dx fs)/\Cls K C/\gH K C f/\fs.lookup f=some v/\Q v H1
def sFld(K:Frag)(ta tv:TE)(f:Str):TS:=λD σ H=>tv σ H λy H1=>ta σ H1 λx H2=>∃a C dx fs,x=.ref a/\H2 a=some (.ins C dx fs)/\Cls K C/\gH K C f/\fs.length<1000 /\
 D.nx σ (upd H2 a (.ins C dx (putF f y fs)))
section
variable {X:Cx} {o e value:Expr} {f:Str} {pos pos' tpos:Pos} {ta tv:TE}
theorem cL(m:PE X e ta)(p:attributeBase e f X.env (eval e X.env)=eval e X.env):PE X (.Attribute e f pos) (tFld X.K ta f):=by
 intro g s i H Q I h;refine Ef p (thn (m g s i H _ I h) λu D⟨x,H1,j,b,a,C,z,fs,v,d,k,c,n,l,q⟩=>?_);subst d;obtain rfl:u=Value.ref a:=b;exact Nx j k c n l λw y t r=>⟨v,H1,t,r,q⟩
theorem eG(m:PE X o ta)(k:PE X value tv)(z:swapsWith value (some (.Attribute o f pos')) pos.line X.env=pure false):PS X (.Assign [.Attribute o f pos'] value pos) (sFld X.K ta tv f):=by
 intro d s b H D I h;refine plainObj_wpAny_Assign_Attribute (thn (k d s b H _ I h) λu F⟨y,H1,t,p,q⟩=>thn (m d F b H1 _ t q) λw K⟨x,H2,G,g,a,C,L,fs,i,v,c,n,l,r⟩=>?_) z;subst i;obtain rfl:w=Value.ref a:=g;exact Nv G v c n l p λJ j=>⟨b,_,j,r⟩
end
section
variable {X:Cx} {pins:PN} {σ:St} {H:Hp} {s:Shared} {A:Around} {E:VP} {Q:VP} {c:Value} {b:Bool}
inductive TyOf(K:Frag)(H:Hp):V->Value->Prop where
 |non:TyOf K H .non (.type "NoneType")
 |bl (x:Bool):TyOf K H (.bl x) (.type "bool")
 |int (i:Int):TyOf K H (.int i) (.type "int")
 |str (x:Str):TyOf K H (.str x) (.type "str")
 |flt (x:UInt64):TyOf K H (.flt x) (.type "float")
 |lst {a:Addr} {xs:List V} (e:H a=some (.lst xs)):TyOf K H (.ref a) (.type "list")
 |frz {a:Addr} {o:Obj} {xs:List V} (e:H a=some (.frz o (.lst xs))):TyOf K H (.ref a) (.type "list")
 |tup {a:Addr} {xs:List V} (e:H a=some (.tup xs)):TyOf K H (.ref a) (.type "tuple")
 |dK {a:Addr} {kvs:List (Key×V)} (e:H a=some (.dK kvs)):TyOf K H (.ref a) (.type "dict")
 |dT {a:Addr} {kvs:List (List Key×V)} (e:H a=some (.dT kvs)):TyOf K H (.ref a) (.type "dict")
 | ins {a C dx:Addr} {fs:List (Str×V)} (e:H a=some (.ins C dx fs)) (cl:Cls K C) (ha:PySem.W.findIn K (.ref C) "__class__"=some (some (.builtin "object.__class__")))
   (hn:PySem.W.specialIn K (.builtin "object.__class__") "__get__"=some (some (.builtin "getset_descriptor.__get__"))) (htk:PySem.W.takesIn K (.builtin "object.__class__")=some true)
   (hm:PySem.W.mroIn K C (.type "object")=some true):TyOf K H (.ref a) (.ref C)
theorem Nu{x:V}{u g:Value}(I:Inv X pins σ H s)(d:RelV x u)(ty:TyOf X.K H x g)(e:PySem.W.kitOne X.K g c=some b)(h:∀tk,Q (.bool b) {s with toks:=tk}):
  wpAny (model X.prog X.w) A (call (.builtin "isinstance") [u,c]) Q E s:=by
 cases ty with
 |non=>cases(show u=Value.none from d);exact xL PySem.W.kitx_none I.kIn True.intro e (λz=>nomatch z) h
 |bl y=>cases(show u=Value.bool y from d);exact xL PySem.W.kitx_bool I.kIn True.intro e (λz=>nomatch z) h
 |int i=>obtain⟨g,q⟩:=(show∃g,u=Value.int i g from d);cases q;exact xL PySem.W.kitx_int I.kIn True.intro e (λz=>nomatch z) h
 |str y=>obtain⟨g,q⟩:=(show∃g,u=Value.str y g from d);cases q;exact xL PySem.W.kitx_str I.kIn True.intro e (λz=>nomatch z) h
 |flt y=>obtain⟨g,q⟩:=(show∃g,u=Value.float y g from d);cases q;exact xL PySem.W.kitx_float I.kIn True.intro e (λz=>nomatch z) h
 |@lst a xs f =>
  cases(show u=Value.ref a from d);obtain⟨_,_,n,_,j⟩:=(show nM X.prog X.w H s.heap a (.lst xs) from I.hok a _ f);exact xL qI I.kIn ⟨_,j,rfl⟩ e (λz=>nomatch z) h
 |@frz a t xs f =>
  cases(show u=Value.ref a from d);obtain⟨_,_,_,n,_,j⟩:=(show nM X.prog X.w H s.heap a (.frz t (.lst xs)) from I.hok a _ f);exact xL qI I.kIn ⟨_,j,rfl⟩ e (λz=>nomatch z) h
 |@tup a xs f =>
  cases(show u=Value.ref a from d);obtain⟨_,_,_,p⟩:=(show nM X.prog X.w H s.heap a (.tup xs) from I.hok a _ f);obtain⟨o,j,k,_⟩:=p;exact xL PySem.W.kitx_tuple I.kIn ⟨o,j,k⟩ e (λz=>nomatch z) h
 |@dK a kvs f =>
  cases(show u=Value.ref a from d);obtain⟨_,_,vs,_,p⟩:=(show nM X.prog X.w H s.heap a (.dK kvs) from I.hok a _ f);obtain⟨o,es,ep,j,k,_⟩:=p;exact xL PySem.W.kitx_dict I.kIn ⟨o,j,k.1⟩ e (λz=>nomatch z) h
 |@dT a kvs f =>
  cases(show u=Value.ref a from d);obtain⟨_,_,xs,_,o,es,ep,j,k,_⟩:=(show nM X.prog X.w H s.heap a (.dT kvs) from I.hok a _ f);exact xL PySem.W.kitx_dict I.kIn ⟨o,j,k.1⟩ e (λz=>nomatch z) h
 |@ins a C G fs f l m D w r =>
  cases(show u=Value.ref a from d);obtain⟨F,O,_⟩:=cK I.hok f;obtain⟨od,v,_⟩:=O.look;exact xL (PySem.W.kitx_own (l.get _) l.hd m D w r) I.kIn v e (λz=>nomatch z) h
end
structure Room(k:Nat)(A:Around):Prop where
 hd:A.handled=none
 dp:A.depth+3*k+5<recursionLimit
 un:A.units+16*k+200<cLine
theorem Room.mono{j k:Nat}{A:Around}(r:Room k A)(h:j<=k):Room j A:=⟨r.hd,by have:=r.dp;omega,by have:=r.un;omega⟩
theorem Room.mo{j k:Nat}{A:Around}(r:Room k A)(h:j<=k:=by first|decide|omega):Room j A:=r.mono h
theorem Room.deeper{k:Nat}{A:Around}(r:Room (k+1) A)(env:Env):Room k (A.deeper env):=
 ⟨r.hd,by have:=r.dp;show A.depth+1+3*k+5<_;omega,by have:=r.un;show A.units+3+16*k+200<_;omega⟩
theorem Room.in1{k:Nat}{A:Around}(r:Room (k+1) A):Room k A.in1:=
 ⟨r.hd,by have:=r.dp;show A.depth+3*k+5<_;omega,by have:=r.un;show A.units+1+16*k+200<_;omega⟩
theorem Nt{A:Around}{C:Addr}{us:LW}{a:List (Str×Value)}:(A.under (.builtin "type.__call__" ⟨.ref C:: us,a⟩)).depth=A.depth+1:=by
 first|rfl|simp[Around.under,Code.weight,Code.isCreation,Code.isGuard,Code.isCaller,Code.frames,Code.isFrame,guardIds]
theorem Nr{A:Around}{C:Addr}{us:LW}{a:List (Str×Value)}:(A.under (.builtin "type.__call__" ⟨.ref C:: us,a⟩)).units=A.units+1:=by
 first|rfl|simp[Around.under,Code.cUnits,Code.frames,Code.isFrame]
theorem Room.make{k:Nat}{A:Around}(r:Room (k+1) A)(C:Addr)(us:LW)(a:List (Str×Value)):Room k (A.under (.builtin "type.__call__" ⟨.ref C:: us,a⟩)):=
 ⟨r.hd,by have:=r.dp;rw[Nt];omega,by have:=r.un;rw[Nr];omega⟩
theorem Room.depth{k:Nat}{A:Around}(r:Room k A):A.depth<recursionLimit:=by have:=r.dp;omega
theorem Room.units{k:Nat}{A:Around}(r:Room k A):A.units+64<cLine:=by have:=r.un;omega
def tNil:TA:=λ_ H Q=>Q [] H
def nO(ta:TE)(tr:TA):TA:=λσ H Q=>ta σ H λx H1=>tr σ H1 λxs H2=>Q (x:: xs) H2
section
variable {X:Cx} {e:Expr} {es:List Expr} {te:TE} {t:TA} {pos:Pos}
theorem oN:PA X [] tNil:=λ_ _ _ _ H Q I h=>Calls.spliced_nil ⟨[],H,I,.nil,h⟩
theorem oM(c:PE X e te)(hr:PA X es t)(i:starEach (e:: es) X.env=(false,eval e X.env):: starEach es X.env:=by rfl):PA X (e:: es) (nO te t):=by
 intro pos a s b H Q I h;rw[i];show wpAny _ _ (spliced ((false,eval e X.env):: backTo pos (starEach es X.env))) _ _ s;refine Calls.spliced_cons (thn (c a s b H _ I h) λu j⟨x,H1,g,r1,d⟩=>?_);exact thn (hr pos a j b H1 _ g d) λus l⟨xs,H2,k,r2,f⟩=>⟨x:: xs,H2,k,.cons r1 r2,f⟩
def tTup(t:TA):TE:=λσ H Q=>t σ H λxs H1=>xs.length<=sizeLine/\∀p,H1 p=none->Q (.ref p) (upd H1 p (.tup xs))
def tLst(t:TA):TE:=λσ H Q=>t σ H λxs H1=>xs.length<=sizeLine/\∀p,H1 p=none->Q (.ref p) (upd H1 p (.lst xs))
theorem kD{j}(h:PA X es t):PE X (.Tuple es j pos) (tTup t):=by
 intro d s i H Q I g;refine wpAny_Tuple_spliced (thn (h pos d s i H _ I g) λus a⟨xs,H1,c,r,z,q⟩=>⟨by rw[←r.length];exact z,?_⟩);have f:H1 a.heap.objs.size=none:=c.hok.fresh (zE _);refine⟨.ref a.heap.objs.size,upd H1 a.heap.objs.size (.tup xs),c.laid (t':=a.toks) (λb u e=>zC _ e) (zE _) ?_,rfl,q _ f⟩;exact⟨z,us,r,⟨_,zR _ rfl,rfl,_,rfl⟩⟩
theorem nS(h:PA X es t):PE X (.List es pos) (tLst t):=by
 intro d s i H Q I g;refine wpAny_List_spliced (thn (h pos d s i H _ I g) λus a⟨xs,H1,c,r,z,q⟩=>⟨by rw[←r.length];exact z,?_⟩);have f:H1 a.heap.objs.size=none:=c.hok.fresh (zE _);refine⟨.ref a.heap.objs.size,upd H1 a.heap.objs.size (.lst xs),c.laid (t':=a.toks) (λb u e=>zC _ e) (zE _) ?_,rfl,q _ f⟩;exact⟨z,us,0,r,zR _ rfl⟩
end
abbrev Sp:=List V->Hp->VK->XK->Prop
abbrev CXT:=List Env->Hp->Shared->XK->VP
structure Env0(P:Program)(w:World)(K:Frag)(mg:MT)(base:Heap)(A:Around)(outer:List Env)(s:Shared)(H:Hp):Prop where
 frames:A.frames=some outer
 mod:Mod K mg base
 bs:∀b o,base.get? b=some o->s.heap.get? b=some o/\H b=none
 bsz:base.objs.size<=s.heap.objs.size
 funs:s.heap.FunFrames base outer
 frf:∀b∈frs outer,H b=none
 hok:HOk P w H s.heap
 bare:AllBare s.gens
def CE(outer:List Env)(P:Program)(w:World)(H:Hp)(s:Shared)(Q:VK)(u:Value)(s':Shared):Prop:=
 ∃v H',s'.os=s.os/\AllBare s'.gens/\Un (frs outer) [] H H' s.heap s'.heap/\HOk P w H' s'.heap/\RelV v u/\Q v H'
def CR(CX:CXT)(outer:List Env)(P:Program)(w:World)(H:Hp)(s:Shared)(Q:VK)(E:XK)(r:Result)(s':Shared):Prop:=
 match r with
 |.ok (.ret u)=>CE outer P w H s Q u s'
 |.ok _=>False
 |.error e=>CX outer H s E e s'
structure FnOk(P:Program)(w:World)(K:Frag)(mg:MT)(base:Heap)(CX:CXT)(k:Nat)(f:Addr)(fd:FuncData)(ps:List Str)(sp:Sp):Prop where
 len:∀vs H Q E,sp vs H Q E->vs.length=ps.length
 run:∀(A:Around)(outer:List Env)(s:Shared)(H:Hp)(args:Args)(us:LW)(vs:List V)(Q:VK)(E:XK),Room k A->Env0 P w K mg base A outer s H->BindsTo s fd args (ps.zip us)->Vals vs us->sp vs H Q E ->
  codeAny (model P w) A (.call (.ref f) args) (CR CX outer P w H s Q E) s
theorem FnOk.mono{P:Program}{w:World}{K:Frag}{b:MT}{base:Heap}{c:CXT}{j k:Nat}{f:Addr}{d:FuncData}{ps:List Str}{a:Sp}(F:FnOk P w K b base c j f d ps a)(h:j<=k):
  FnOk P w K b base c k f d ps a:=⟨F.len,λA outer s H e us vs Q E hr=>F.run A outer s H e us vs Q E (hr.mono h)⟩
theorem FnOk.imp{P:Program}{w:World}{K:Frag}{c:MT}{base:Heap}{d:CXT}{k:Nat}{f:Addr}{e:FuncData}{ps:List Str}{b a:Sp}(F:FnOk P w K c base d k f e ps b)
  (h:∀vs H Q E,a vs H Q E->b vs H Q E):FnOk P w K c base d k f e ps a:=
 ⟨λvs H Q E q=>F.len vs H Q E (h _ _ _ _ q),λA outer s H i us vs Q E hr j l g m=>F.run A outer s H i us vs Q E hr j l g (h _ _ _ _ m)⟩
theorem Env0.make{P:Program}{w:World}{K:Frag}{a:MT}{base:Heap}{A:Around}{outer:List Env}{s:Shared}{H:Hp}(e:Env0 P w K a base A outer s H)(C:Addr)(us:LW)(b:List (Str×Value)):
  Env0 P w K a base (A.under (.builtin "type.__call__" ⟨.ref C:: us,b⟩)) outer s H:=⟨by first|exact e.frames|(simpa [Around.under,Code.envs,Code.isFrame,pushEnvs]using e.frames),e.mod,e.bs,e.bsz,e.funs,e.frf,e.hok,e.bare⟩
theorem Env0.in1{P:Program}{w:World}{K:Frag}{a:MT}{base:Heap}{A:Around}{outer:List Env}{s:Shared}{H:Hp}(e:Env0 P w K a base A outer s H):
  Env0 P w K a base A.in1 outer s H:=⟨e.frames,e.mod,e.bs,e.bsz,e.funs,e.frf,e.hok,e.bare⟩
section
variable {X:Cx} {pins:PN} {σ:St} {H:Hp} {s s':Shared}
theorem Inv.env0(I:Inv X pins σ H s):Env0 X.prog X.w X.K X.mg X.base X.A X.stack s H:=
 ⟨I.ok.frames,I.ok.mod,I.bs,yC I.ok.bsz I.sz,I.stack,I.stkFree,I.hok,I.bare⟩
theorem Inv.after{Q:VK}{u:Value}(I:Inv X pins σ H s)(h:CE X.stack X.prog X.w H s Q u s'):EP X pins σ Q u s':=by
 obtain⟨v,H',c,f,un,a,r,q⟩:=h;obtain⟨hh,g,d,i,e⟩:=s';obtain rfl:e=s.os:=c;exact⟨v,H',I.call (h':=hh) (g':=g) (d':=d) (t':=i) (ch:=[]) un a f (λb z=>absurd z (by simp)),r,q⟩
end
def kL(sp:Sp)(dvs:List V)(E:XK)(t:TA):TE:=λσ H Q=>t σ H λvs H1=>sp (vs++dvs) H1 Q E
def Aq(C:Addr)(m:Str)(sp:Sp)(dvs:List V)(E:XK)(ta:TE)(t:TA):TE:=λσ H Q=>ta σ H λx H1=>∃a dx fs,x=.ref a/\H1 a=some (.ins C dx fs)/\fs.lookup m=none /\
 t σ H1 λvs H2=>sp (x:: (vs++dvs)) H2 Q E
def Ee(C:Addr)(sp:Sp)(dvs:List V)(E:XK)(t:TA):TE:=λσ H Q=>t σ H λvs H1=>∀x dx,H1 x=none->H1 dx=none->dx≠x ->
 sp (.ref x:: (vs++dvs)) (upd (upd H1 dx (.own x)) x (.ins C dx [])) (λv H2=>v=.non/\Q (.ref x) H2) E
def mM(K:Frag)(fd:FuncData)(ps:List Str)(ds:LW):Prop:=
 ∀(s:Shared)(us:LW),K.In s.heap->(us++ds).length=ps.length->BindsTo s fd ⟨us,[]⟩ (ps.zip (us++ds))
theorem mM.all{K:Frag}{a:FuncData}{ps:List Str}(h:∀us:LW,us.length=ps.length->bindArgs a ⟨us,[]⟩=pure (ps.zip us)):mM K a ps []:=λs us _ hl=>by
 rw[wO]at hl ⊢;exact .of_eq (h us hl)
def iC(CX:CXT)(X:Cx)(E:XK):Prop:=∀(pins:PN)(σ:St)(H:Hp)(s:Shared)(e:Value)(s':Shared),Inv X pins σ H s->CX X.stack H s E e s'->X.xe e s'
section
variable {X:Cx} {CX:CXT} {k:Nat} {f C:Addr} {fd:FuncData} {ps:List Str} {sp:Sp} {dvs:List V} {ds:LW} {E:XK} {x m:Str} {p pos apos:Pos} {e o:Expr} {es:List Expr} {ta:TE} {t:TA}
theorem Ed{b:PN}{c:St}{H:Hp}{s:Shared}{Q:VK}{us:LW}{vs:List V}(F:FnOk X.prog X.w X.K X.mg X.base CX k f fd ps sp)(hr:Room k X.A)(j:mM X.K fd ps ds)(g:Vals dvs ds)(d:iC CX X E)
  (I:Inv X b c H s)(r:Vals vs us)(h:sp (vs++dvs) H Q E):wpAny (model X.prog X.w) X.A (call (.ref f) us) (EP X b c Q) X.xe s:=by
 have r2:Vals (vs++dvs) (us++ds):=r.append g;have hl:(us++ds).length=ps.length:=by rw[←r2.length];exact F.len _ _ _ _ h
 refine vJ (wZ (F.run X.A X.stack s H ⟨us,[]⟩ (us++ds) (vs++dvs) Q E hr I.env0 (j s us I.kIn hl) r2 h) λr i a=>?_);cases r with
 |error e=>exact d b c H s e i I a
 |ok fl =>
  cases fl with
  |ret u=>exact I.after a
  |next=>exact False.elim a
  |brk=>exact False.elim a
  |cont=>exact False.elim a
theorem cM(F:FnOk X.prog X.w X.K X.mg X.base CX k f fd ps sp)(hr:Room k X.A)(i:Gl X x)(j:X.mg x=some (.ref f))(g:PySem.W.keepIn X.K (.ref f)=true)(y:mM X.K fd ps ds)(n:Vals dvs ds)(c:iC CX X E)
  (b:PA X (e:: es) t)(l:(x == ("__debug__" :Str))=false:=by decide)(w:starEach (e:: es) X.env=(false,eval e X.env):: starEach es X.env:=by rfl)(v:(backTo pos (starEach es X.env)).any (·.1)=false:=by rfl):
  PE X (.Call (.Name x p) (e:: es) [] pos) (kL sp dvs E t):=by
 intro d s u H Q I h;refine xS (kZ I i j ?_ l);refine uN (h₀:=X.base) I.ok.mod.kin g (thn (b pos d s u H _ I h) λus z⟨vs,H1,a,r,q⟩=>⟨a.kIn,?_⟩) w v;exact Ed F hr y n c a r q
theorem cN{pl:Sem Bool}(z:PE X o ta)(c:Cls X.K C)(d:Meth X.K C m f)(F:FnOk X.prog X.w X.K X.mg X.base CX k f fd ps sp)(hr:Room k X.A)(G:mM X.K fd ps ds)(v:Vals dvs ds)(n:iC CX X E)
  (D:eval (.Call (.Attribute o m apos) [] [] pos) X.env=(do
   let g ←eval o X.env
   standAt apos.atName
   let (f,first) ←holding [g] (getMethod g m pl)
   callWith pos f first (backTo pos (starEach [] X.env)) (backToKw pos (keywordEach [] X.env))):=by rfl):
  PE X (.Call (.Attribute o m apos) [] [] pos) (Aq C m sp dvs E ta tNil):=by
 intro r s w H Q I h;refine PySem.W.methodCall_KW (pl:=pl) (thn (z r s w H _ I h) λu K⟨x,H1,b,i,a,J,fs,j,y,l,q⟩=>?_) D;subst j;obtain rfl:u=Value.ref a:=i;refine Nw b y c d l ?_;exact PySem.W.callWith_K0 (first:=[.ref a]) b.kIn d.kp (Ed (us:=[.ref a]) (vs:=[.ref a]) F hr G v n b (.cons rfl .nil) q)
structure Mk(K:Frag)(C f:Addr):Prop where
 makes:PySem.W.makesIn K C=true
 init:PySem.W.findIn K (.ref C) "__init__"=some (some (.ref f))
 fn:PySem.W.isFn K (.ref f)=true
 kp:PySem.W.keepIn K (.ref C)=true
theorem Nq{d:PN}{g:St}{H:Hp}{s:Shared}{Q:VK}{us:LW}{vs:List V}(M:Mk X.K C f)(F:FnOk X.prog X.w X.K X.mg X.base CX k f fd ps sp)(hr:Room (k+1) X.A)(z:mM X.K fd ps ds)(q:Vals dvs ds)
  (j:iC CX X E)(I:Inv X d g H s)(r:Vals vs us)
  (h:∀x b,H x=none->H b=none->b≠x->sp (.ref x:: (vs++dvs)) (upd (upd H b (.own x)) x (.ins C b [])) (λv H2=>v=.non/\Q (.ref x) H2) E):
  wpAny (model X.prog X.w) X.A (call (.ref C) us) (EP X d g Q) X.xe s:=by
 have i:=h (s.heap.objs.size+1) s.heap.objs.size (I.hok.fresh (vZ _)) (I.hok.fresh (zE _)) (zX (uE _));have c:=Inv.made (C:=C) I;have r2:Vals (V.ref (s.heap.objs.size+1):: (vs++dvs)) (Value.ref (s.heap.objs.size+1):: (us++ds)):=.cons rfl (r.append q);have hl:(Value.ref (s.heap.objs.size+1):: us++ds).length=ps.length:=by
  have e:=r2.length;rw[F.len _ _ _ _ i]at e;exact e.symm
 refine vJ (As (f:=f) I.kIn M.makes M.init (pW.mp M.fn) (wZ (F.run _ X.stack _ _ ⟨Value.ref (s.heap.objs.size+1):: us,[]⟩ (Value.ref (s.heap.objs.size+1):: (us++ds)) _ _ E (hr.make C us [])
  (c.env0.make C us []) (z _ (Value.ref (s.heap.objs.size+1):: us) c.kIn hl) r2 i) λr y a=>?_))
 cases r with
 |error e=>exact j d g _ _ e y c a
 | ok fl =>
  cases fl with
  |ret u =>
   obtain⟨v,H',l,D,n,w⟩:=c.after a;subst n;exact⟨D,⟨V.ref (s.heap.objs.size+1),H',l,rfl,w⟩⟩
  |next=>exact False.elim a
  |brk=>exact False.elim a
  |cont=>exact False.elim a
theorem Np(M:Mk X.K C f)(F:FnOk X.prog X.w X.K X.mg X.base CX k f fd ps sp)(hr:Room (k+1) X.A)(g:Gl X x)(i:X.mg x=some (.ref C))(w:mM X.K fd ps ds)(l:Vals dvs ds)(c:iC CX X E)
  (b:PA X (e:: es) t)(j:(x == ("__debug__" :Str))=false:=by decide)(v:starEach (e:: es) X.env=(false,eval e X.env):: starEach es X.env:=by rfl)(u:(backTo pos (starEach es X.env)).any (·.1)=false:=by rfl):
  PE X (.Call (.Name x p) (e:: es) [] pos) (Ee C sp dvs E t):=by
 intro d s n H Q I h;refine xS (kZ I g i ?_ j);refine uN (h₀:=X.base) I.ok.mod.kin M.kp (thn (b pos d s n H _ I h) λus y⟨vs,H1,a,r,q⟩=>⟨a.kIn,?_⟩) v u;exact Nq M F hr w l c a r q
end
def PK(X:Cx)(kws:List Keyword)(t:TA):Prop:=
 ∀(pos:Pos)(pins:PN)(s:Shared)(σ:St)(H:Hp)(Q:List V->Hp->Prop),Inv X pins σ H s->t σ H Q->wpAny (model X.prog X.w) X.A (evalAll ((backToKw pos (keywordEach kws X.env)).map (·.2))) (AP X pins σ Q) X.xe s
section
variable {X:Cx} {CX:CXT} {k:Nat} {f C:Addr} {fd:FuncData} {ps ks:List Str} {sp:Sp} {E:XK} {x m:Str} {p pos apos kpos:Pos} {e o:Expr} {es:List Expr} {kws:List Keyword} {te ta:TE} {t tk:TA} {nm:Option Str}
theorem No:PK X [] tNil:=λ_ _ _ _ H Q I h=>wpAny_evalAll_nil ⟨[],H,I,.nil,h⟩
theorem Nn(c:PE X e te)(hr:PK X kws t):PK X (⟨nm,e,kpos⟩:: kws) (nO te t):=by
 intro pos a s b H Q I h;show wpAny _ _ (evalAll ((do let v ←eval e X.env;standAt pos;pure v):: (backToKw pos (keywordEach kws X.env)).map (·.2))) _ _ s;refine wpAny_evalAll_cons (zA (thn (c a s b H _ I h) λu j⟨x,H1,i,r1,d⟩=>zA (wA (zB ?_))));exact thn (hr pos a j b H1 _ i d) λus n⟨xs,H2,l,r2,g⟩=>⟨x:: xs,H2,l,.cons r1 r2,g⟩
variable {g:LW->LW->LW} {gV:List V->List V->List V}
end
structure nF(N P:List Str)(sc:Scope):Prop where
 kind:sc.kind=.function
 co:sc.isCoroutine=false
 gen:sc.isGenerator=false
 nd:N.Nodup
 pre:N.take P.length=P
 par:∀x∈P,sc.names.lookup x=some .local\/sc.names.lookup x=some .cell
 nofree:∀y∈sc.names,y.2≠.free
theorem Eb{b:Str->Option NameKind}{x:Str}:∀{binds:List (Str×Value)}{m:MT},(∀v,(x,v)∉binds)->bindL b binds m x=m x
 |[],_,_=>rfl
 | (n,v):: r,m,h=>by
  unfold bindL;rw[Eb λw a=>h w (zT _ a)];split
  ·have:x≠n:=by rintro rfl;exact h v yD
   simp[this]
  ·rfl
theorem Ea{b:Str->Option NameKind}{x:Str}:∀{binds:List (Str×Value)}{m:MT},(∀v,(x,v)∉binds)->bindC b binds m x=m x
 |[],_,_=>rfl
 | (n,v):: r,m,h=>by
  unfold bindC;rw[Ea λw a=>h w (zT _ a)];split
  ·rfl
  ·have:x≠n:=by rintro rfl;exact h v yD
   simp[this]
theorem Fz{b:Str->Option NameKind}{x:Str}{v:Value}:∀{P:List Str}{vs:LW}{i:Nat}{m:MT},P.Nodup->P[i]?=some x->vs[i]?=some v->b x=some .local ->
  bindL b (P.zip vs) m x=some v
 |[],_,_,_,_,h,_,_=>by simp at h
 |_:: _,[],_,_,_,_,h,_=>by simp at h
 |p:: P,w:: vs,0,m,nd,c,a,d=>by
  simp at c a;subst c;subst a;show bindL b ((p,w):: P.zip vs) m p=_;unfold bindL;rw[Eb λv e=>(tO.mp nd).1 (tN e).1,zF d];simp
 |p:: P,w:: vs,i+1,m,nd,c,a,d=>by
  show bindL b ((p,w):: P.zip vs) m x=_;unfold bindL;exact Fz (i:=i) (tO.mp nd).2 (by simpa using c) (by simpa using a) d
theorem Fy{b:Str->Option NameKind}{x:Str}{v:Value}:∀{P:List Str}{vs:LW}{i:Nat}{m:MT},P.Nodup->P[i]?=some x->vs[i]?=some v->b x≠some .local ->
  bindC b (P.zip vs) m x=some v
 |[],_,_,_,_,h,_,_=>by simp at h
 |_:: _,[],_,_,_,_,h,_=>by simp at h
 |p:: P,w:: vs,0,m,nd,c,a,d=>by
  simp at c a;subst c;subst a;show bindC b ((p,w):: P.zip vs) m p=_;unfold bindC;rw[Ea λv e=>(tO.mp nd).1 (tN e).1,zD d];simp
 |p:: P,w:: vs,i+1,m,nd,c,a,d=>by
  show bindC b ((p,w):: P.zip vs) m x=_;unfold bindC;exact Fy (i:=i) (tO.mp nd).2 (by simpa using c) (by simpa using a) d
def start(N:List Str)(vs:List V):St:=vs.map some++List.replicate (N.length-vs.length) none
def cxOf(CX:CXT)(P:Program)(w:World)(K:Frag)(mg:MT)(base:Heap)(N:List Str)(qual:Str)(scope:Scope)(f:Addr)(cd:Value)(A:Around)(outer:List Env)(s:Shared)(H:Hp)(E:XK):Cx where
 prog:=P
 w:=w
 K:=K
 mg:=mg
 base:=base
 A:=A.deeper (envOfC qual scope s.heap.objs.size f cd)
 N:=N
 s₀:=s
 H₀:=H
 env:=envOfC qual scope s.heap.objs.size f cd
 outer:=outer
 stack:=envOfC qual scope s.heap.objs.size f cd:: outer
 ex:=[]
 calm:=true
 fn:=λ_=>true
 pn:=[]
 xe:=λe s'=>wpAny (model P w) (A.deeper (envOfC qual scope s.heap.objs.size f cd)) (leaving (envOfC qual scope s.heap.objs.size f cd) e) (λ_ s''=>CX outer H s E e s'') (λe' s''=>CX outer H s E e' s'') s'
theorem Fx{sc:Scope}{n:Nat}{x:Str}(h:sc.names.lookup x=some .cell):∃c,(cellsFrom n sc.names []).lookup x=some c:=by
 have q:=sI sc.names n [] (.inl h);exact Option.isSome_iff_exists.mp q
theorem Fw{I:CXT}{P:Program}{w:World}{K:Frag}{D:MT}{base:Heap}{N ps:List Str}{C:Str}{j:Scope}{f:Addr}{o:Value}{A:Around}{outer:List Env}{s J:Shared}{H:Hp}{E:XK}{us:LW}{vs:List V}
  (m:nF N ps j)(O:A.handled=none)(g:Env0 P w K D base A outer s H)(hl:vs.length=ps.length)(r:Vals vs us)
  (x:InCallC s s.heap.objs.size (bindL (envOfC C j s.heap.objs.size f o).kindOf (ps.zip us) λ_=>none) (cellsFrom (s.heap.objs.size+1) j.names []) (bindC (envOfC C j s.heap.objs.size f o).kindOf (ps.zip us) λ_=>none) J):
  Inv (cxOf I P w K D base N C j f o A outer s H E) [] (start N vs) H J:=by
 have U:ps.length<=N.length:=by have:=wD List.length m.pre;rw[yN]at this;omega
 obtain⟨t,tk,rfl,M⟩:=x.done;have F:∀b:Addr,b∉(cxOf I P w K D base N C j f o A outer s H E).ex:=λb z=>absurd (show b∈([]:LA) from z) (by simp);refine⟨⟨g.mod,m.kind,rfl,rfl,zE _,λy z c t d=>?_,λy l=>?_,λy c _ h=>?_,λ_=>O,Around.frames_deeper g.frames,.inr ⟨rfl,rfl⟩,λb z=>absurd z (F b),g.bs,g.bsz,λb _ _=>F b,λb z=>absurd z (F b),g.funs,g.frf⟩,
  rfl,g.bare,Un.kept M,⟨_,x.toInCall.ns,λi y v t d T=>?_⟩,λy c h=>⟨_,x.cell y c h⟩,g.hok.fresh (zE _),λy c h=>?_,λp n=>absurd (show p∈([]:PN) from n) (by simp),g.hok.kept M,?_⟩
 ·exact name_of_addr x.apart (vF t) (vF d)
 ·have l:j.names.lookup y=some .cell\/j.names.lookup y=some .free:=l;rcases l with l|l
  ·exact Fx l
  ·exact absurd rfl (m.nofree _ (vF l))
 ·exact vL (x.above y c (vF h))
 ·have hi:i<vs.length:=by
   unfold start at d
   by_cases hi:i<vs.length
   ·exact hi
   ·rw[zW (by simpa using hi)]at d;rw[List.getElem?_replicate]at d;split at d <;> cases d
  have S:vs[i]?=some v:=by
   unfold start at d;rw[yB (by simpa using hi),zO]at d;cases e:vs[i]? with
   |none=>rw[e]at d;cases d
   |some a=>rw[e]at d;cases d;rfl
  obtain⟨u,G,R⟩:=r.get S;have n:ps[i]?=some y:=by
   rw[←m.pre,tW ⋯];exact t
  have L:ps.Nodup:=by rw[←m.pre];exact m.nd.sublist (List.take_sublist _ _)
  refine⟨u,R,?_⟩;rcases m.par y (yF n) with k|k
  ·exact .inl ⟨k,Fz L n G k⟩
  ·obtain⟨c,e⟩:=Fx (n:=s.heap.objs.size+1) k;refine .inr ⟨.inl k,c,e,?_⟩;have q:=x.cell y c e;rw[Fy L n G (by show j.names.lookup y≠_;rw[k];decide)]at q;exact q
 ·exact g.hok.fresh (vL (x.above y c (vF h)))
 ·unfold start;show _=N.length;rw[yE,yP,List.length_replicate];omega
theorem cO{m:CXT}{P:Program}{w:World}{K:Frag}{l:MT}{base:Heap}{k:Nat}{f:Addr}{name d:Str}{T:Arguments}{body:List Stmt}{a:Scope}{J kV S O cdv R Y:Value}{M od:Option Addr}
  {a0:Array (Option Value)}{N ps:List Str}{t:Sp}(a3:K.lookup f=some ⟨Y,od,.func (PySem.W.fnOf name d T body a J kV S O M cdv R),a0⟩)(W:PySem.W.codeIn K cdv d=true)(i:nF N ps a)
  (len:∀vs H Q E,t vs H Q E->vs.length=ps.length)
  (U:∀(A:Around)(outer:List Env)(s:Shared)(H:Hp)(vs:List V)(Q:VK)(E:XK),Room k (A.deeper (envOfC d a s.heap.objs.size f cdv))->t vs H Q E ->
   ∃C,PSs (cxOf m P w K l base N d a f cdv A outer s H E) body C/\C {nx:=λ_ H'=>Q .non H',rt:=Q} (start N vs) H):
  FnOk P w K l base m (k+1) f (PySem.W.fnOf name d T body a J kV S O M cdv R) ps t:=by
 refine⟨len,λA outer s H a7 us vs Q E hr j a5 r G=>?_⟩;have hl:=len _ _ _ _ G;have KX:K.In s.heap:=j.mod.kin.keeps λb o e=>(j.bs b o e).1;have a1:s.heap.NoLimit:=j.mod.nolimit.keeps λb o e=>(j.bs b o e).1;have Z:∀y∈ps.zip us,a.names.lookup y.1=some .local\/(a.names.lookup y.1=some .cell/\((cellsFrom (s.heap.objs.size+1) a.names []).lookup y.1).isSome=true):=λ⟨n,v⟩a2=>by
  rcases i.par n (tN a2).1 with q|q
  ·exact .inl q
  ·exact .inr ⟨q,sI _ _ _ (.inl q)⟩
 refine codeAny_call_function hr.depth (KX _ _ a3) rfl i.co i.gen rfl (PySem.W.codeRec_of KX W) (a5 _ _ _ _ ?_);refine wpAny_newFunctionEnv_cells i.kind Z λenv a4 F x=>?_;subst a4;refine⟨a1.keeps x.toInCall.keep,codeAny_func ?_⟩;obtain⟨C,a6,X⟩:=U A outer s H vs Q E (hr.deeper _) G;have I:Inv (cxOf m P w K l base N d a f cdv A outer s H E) [] (start N vs) H F:=Fw i hr.hd j hl r x;refine yI (a6 [] F (start N vs) H _ I X) (λfl z g=>?_) λe z g=>g;have L:∀{p:St}{H':Hp}{v:V}{u:Value},Inv (cxOf m P w K l base N d a f cdv A outer s H E) [] p H' z->RelV v u->Q v H'->CE outer P w H s Q u z:=
  λ{p H' v u}c D q=>⟨v,H',c.os,c.bare,c.base,c.hok,D,q⟩
 cases fl with
 |ret u =>
  obtain⟨v,p,H',c,D,q⟩:=g;exact L c D q
 |next =>
  obtain⟨p,H',c,q⟩:=g;exact L (v:=V.non) (u:=Value.none) c rfl q
 |brk =>
  obtain⟨_,_,_,q⟩:=g;exact False.elim q
 |cont =>
  obtain⟨_,_,_,q⟩:=g;exact False.elim q
section
variable {X:Cx} {x:Str} {p pos:Pos} {e:Expr} {es:List Expr} {t:TA} {id T:String} {r:List V->Hp->VK->Prop}
def tCB(r:List V->Hp->VK->Prop)(t:TA):TE:=λσ H Q=>t σ H λvs H1=>r vs H1 Q
theorem nQ(n:mU X (.builtin id) r)(f:Gl X x)(i:X.mg x=none)(d:bootBuiltins x=some (.builtin id))(c:PA X (e:: es) t)(j:x≠"__name__" := by decide)(k:(x == ("__debug__" :Str))=false:=by decide)
  (o:starEach (e:: es) X.env=(false,eval e X.env):: starEach es X.env:=by rfl)(m:(backTo pos (starEach es X.env)).any (·.1)=false:=by rfl):PE X (.Call (.Name x p) (e:: es) [] pos) (tCB r t):=by
 intro a s b H Q I h;refine xS (iO I f i d ?_ j k);exact PyProof.Rows.callWith_builtin1 (thn (c pos a s b H _ I h) λus q⟨vs,H1,l,r1,g⟩=>n a q b H1 vs us Q l r1 g) o m
theorem lF(n:mU X (.type T) r)(f:Gl X x)(i:X.mg x=none)(d:bootBuiltins x=some (.type T))(c:PA X (e:: es) t)(j:x≠"__name__" := by decide)(k:(x == ("__debug__" :Str))=false:=by decide)
  (o:starEach (e:: es) X.env=(false,eval e X.env):: starEach es X.env:=by rfl)(m:(backTo pos (starEach es X.env)).any (·.1)=false:=by rfl):PE X (.Call (.Name x p) (e:: es) [] pos) (tCB r t):=by
 intro a s b H Q I h;refine xS (iO I f i d ?_ j k);exact xY (thn (c pos a s b H _ I h) λus q⟨vs,H1,l,r1,g⟩=>n a q b H1 vs us Q l r1 g) o m
end
end L2
namespace HT
open PySem PyProof.Rows
section
open PySem.SeqAt
open PySem.AutoSeq1 (wpAny_loadPart')
open PySem.MeetsSeq PySem.MeetsSeq2 PySem.MeetsSeq3
end
section
variable {prog:Program} {w:World} {A:Around} {E:VP} {s:Shared}
def sIx(n d:Nat):Option Int->Nat
 |none=>d
 |some v=>if v<0 then(v+(n:Int)).toNat else min v.toNat n
theorem sIx_none(n d:Nat):sIx n d none=d:=rfl
theorem sIx_nat(n d k:Nat):sIx n d (some (k:Int))=min k n:=by
 show(if(k:Int)<0 then((k:Int)+(n:Int)).toNat else min (k:Int).toNat n)=min k n;rw[zD ⋯,zS]
theorem Nm(n d:Nat)(b:d<=n)(o:Option Int):sIx n d o<=n:=by
 cases o with
 |none=>exact b
 |some v =>
  show(if v<0 then(v+(n:Int)).toNat else min v.toNat n)<=n
  by_cases a:v<0
  ·rw[zF a];omega
  ·rw[zD a];exact Nat.min_le_right _ _
theorem Fv(v:Int)(n d:Nat):(if v<0 then max (v+(n:Int)) 0 else min v (n:Int))=((sIx n d (some v):Nat):Int):=by
 show(if v<0 then max (v+(n:Int)) 0 else min v (n:Int))=(((if v<0 then(v+(n:Int)).toNat else min v.toNat n):Nat):Int)
 by_cases a:v<0
 ·simp only[if_pos a];omega
 ·simp only[if_neg a];omega
theorem Nl(lo hi:Option Int)(n:Nat):Builtin.Slice.sliceAdjust lo hi 1 (n:Int)=(((sIx n 0 lo:Nat):Int),((sIx n n hi:Nat):Int)):=by
 have a:¬ ((1:Int)<0):=⋯
 unfold Builtin.Slice.sliceAdjust;simp only[a,if_false];refine Prod.ext ?_ ?_
 ·cases lo with
  |none=>rfl
  |some v=>exact Fv v n 0
 ·cases hi with
  |none=>rfl
  |some v=>exact Fv v n n
theorem Nk(i j:Nat):Builtin.Slice.slicePlaces (i:Int) (j:Int) 1=j-i:=by
 unfold Builtin.Slice.slicePlaces;have a:(1:Int) > 0:=⋯
 simp only[a,if_true,Int.ediv_one];split <;> omega
theorem Fu{v:Value}{o:Option Int}{Q:Option Int->Shared->Prop}(p:IsPart v o)(h:Q o s):wpAny (model prog w) A (Builtin.Slice.slicePartIndex v) Q E s:=by
 cases p with
 |none=>exact slicePart_none h
 |int i t=>exact slicePart_int h
theorem Nj{e:Addr}{d b:Value}{lo hi:Option Int}{n:Nat}{Q:Int×Int×Nat->Shared->Prop}(g:s.heap.IsSliceOf e d b .none)(pl:IsPart d lo)(f:IsPart b hi)
  (h:Q (((sIx n 0 lo:Nat):Int),1,sIx n n hi-sIx n 0 lo) s):wpAny (model prog w) A (Builtin.Slice.sliceApplied (.ref e) (pure (n:Int))) Q E s:=by
 obtain⟨i,a,j,c⟩:=id g;unfold Builtin.Slice.sliceApplied Builtin.Slice.sliceFields;refine zA (zA (yY a c (x:=d) rfl (zA (yY a c (x:=b) rfl (zA (yY a c (x:=.none) rfl (zB ?_)))))));refine zA (slicePart_none ?_);show wpAny _ _ (if((1:Int) == 0)=true then _ else _) _ _ s;rw[zD ∅];refine zA (Fu pl (zA (Fu f (zA (zB ?_)))));show wpAny _ _ (match Builtin.Slice.sliceAdjust lo hi 1 (n:Int) with|(lo,hi)=>pure (lo,(1:Int),Builtin.Slice.slicePlaces lo hi 1)) _ _ s;rw[Nl lo hi n];show wpAny _ _ (pure (((sIx n 0 lo:Nat):Int),(1:Int),Builtin.Slice.slicePlaces ((sIx n 0 lo:Nat):Int) ((sIx n n hi:Nat):Int) 1)) _ _ s;rw[Nk];exact zB h
theorem Ni(xs:Array Value)(i k:Nat):((List.range k).filterMap λ(m:Nat)=>xs[((i:Int)+(m:Int)*1).toNat]?).toArray=((xs.toList.drop i).take k).toArray:=by
 have e:(λ(m:Nat)=>xs[((i:Int)+(m:Int)*1).toNat]?)=λm=>xs[i+m]?:=by
  funext m
  have:((i:Int)+(m:Int)*1).toNat=i+m:=⋯
  rw[this]
 rw[e];have:=pick_run xs i k;rw[List.filterMap_map]at this;have a:((λx=>xs[x]?)∘ λx=>i+x)=λm=>xs[i+m]?:=rfl;rw[a]at this;rw[this]
theorem getItem_tuple_cut{d c:Addr}{items:Array Value}{f e:Value}{lo hi:Option Int}{Q:VP}(a:IsTup s.heap d items)(g:s.heap.IsSliceOf c f e .none)(pl:IsPart f lo)(k:IsPart e hi)
  (i:¬ (sIx items.size 0 lo=0/\sIx items.size items.size hi=items.size))
  (h:Q (.ref s.heap.objs.size) {s with heap:=s.heap.push {cls:=.type "tuple",data:=.seq ((items.toList.drop (sIx items.size 0 lo)).take (sIx items.size items.size hi-sIx items.size 0 lo)).toArray}})
  (hsz:items.size<=sizeLine):wpAny (model prog w) A (getItem (.ref d) (.ref c)) Q E s:=by
 have b:sizeOk (.seq ((items.toList.drop (sIx items.size 0 lo)).take (sIx items.size items.size hi-sIx items.size 0 lo)).toArray):=by
  show((items.toList.drop (sIx items.size 0 lo)).take (sIx items.size items.size hi-sIx items.size 0 lo)).toArray.size<=sizeLine;rw[zV,yN,uI,zM];omega
 have u:sIx items.size items.size hi<=items.size:=Nm _ _ (zE _) hi;obtain⟨m,l,n,t⟩:=id g;have j:s.TypeIs (.ref c) "slice" := ⟨m,l,n⟩;unfold getItem
 try with_reducible refine yU ?_
 first|refine zA (zB ?_)|skip
 refine zA (wpAny_sequenceKey a.typeIs ∅ ?_);refine zA (xZ (name:=Str.ofString "__getitem__") a.typeIs PyProof.Rows.slot_tuple_getitem
  (xT PyProof.Rows.slot_tuple_getitem a.typeIs entry_tuple_getitem ?_ (args_tuple_getitem _ _)))
 show wpAny _ _ (Builtin.Tuple.tupleItemsOf (.ref d) >>= _) _ _ s;refine zA (tupleItemsOf_ a ?_);refine zA (uV j ?_);rw[zF ∅];refine zA (Nj g pl k ?_);have o:¬ ((((sIx items.size 0 lo:Nat):Int) == 0 && (1:Int) == 1 && (sIx items.size items.size hi-sIx items.size 0 lo) == items.size)=true):=by
  intro q;rw[zP,zP]at q;have p:((sIx items.size 0 lo:Nat):Int)=0:=yK q.1.1;have r:sIx items.size items.size hi-sIx items.size 0 lo=items.size:=yK q.2;exact i ⟨⋯,⋯⟩
 show wpAny _ _ (if(((sIx items.size 0 lo:Nat):Int) == 0 && (1:Int) == 1 && (sIx items.size items.size hi-sIx items.size 0 lo) == items.size)=true then _ else _) _ _ s;rw[zD o,Ni]
 first
  |exact zA (m:=Builtin.Tuple.tupleExact _) (xD (zB ⟨_,rfl,zB h⟩) b)
  |exact zA (m:=Builtin.Tuple.tupleExact _) (xD (zA (zB (zB ⟨_,rfl,zB h⟩))) b)
  |exact zA (zA (m:=Builtin.Tuple.tupleExact _) (xD (zB (zB ⟨_,rfl,zB h⟩)) b))
  |exact zA (zA (m:=Builtin.Tuple.tupleExact _) (xD (zB ⟨_,rfl,zB h⟩) b))
end
end HT
namespace L2
open PySem PySem.Spec PyProof.Rows
open PySem.W (Frag)
abbrev TO:=St->Hp->(Option Int->Hp->Prop)->Prop
def PO(X:Cx)(e:Option Expr)(t:TO):Prop:=
 ∀(pins:PN)(s:Shared)(σ:St)(H:Hp)(Q:Option Int->Hp->Prop),Inv X pins σ H s->t σ H Q ->
  wpAny (model X.prog X.w) X.A (evalPart e X.env) (λu s'=>∃o H',Inv X pins σ H' s'/\IsPart u o/\Q o H') X.xe s
def Ap:TO:=λ_ H Q=>Q none H
def Ao(t:TE):TO:=λσ H Q=>t σ H λx H1=>∃i,x=.int i/\Q (some i) H1
section
variable {X:Cx} {e:Expr} {te:TE} {lo hi:Option Expr} {tl th:TO} {pos p2:Pos}
theorem cP:PO X none Ap:=by
 intro b s a H Q I h;rw[evalPart_none];exact zB ⟨none,H,I,.none,h⟩
theorem cQ(h:PE X e te):PO X (some e) (Ao te):=by
 intro b s d H Q I a;rw[evalPart_some];refine thn (h b s d H _ I a) λu j⟨x,H1,f,r1,c⟩=>?_;obtain⟨i,rfl,q⟩:=c;obtain⟨g,rfl⟩:=r1;exact⟨some i,H1,f,.int i g,q⟩
def SlR(X:Cx)(r:V->Option Int->Option Int->Hp->VK->Prop):Prop:=
 ∀(pins:PN)(s:Shared)(σ:St)(H:Hp)(x:V)(v vl vu:Value)(lo hi:Option Int)(sl:Addr)(Q:VK),Inv X pins σ H s->RelV x v->s.heap.IsSliceOf sl vl vu .none->IsPart vl lo->IsPart vu hi->r x lo hi H Q ->
  ∃T id,typeLookup (.type T) "__getitem__"=pure (some (.builtin id))/\s.TypeIs v T/\wpAny (model X.prog X.w) X.A (getItem v (.ref sl)) (EP X pins σ Q) X.xe s
theorem SlR.or{r c:V->Option Int->Option Int->Hp->VK->Prop}(h:SlR X r)(h':SlR X c):SlR X (λx lo hi H Q=>r x lo hi H Q\/c x lo hi H Q):=by
 intro b s i H x v j g lo hi f Q I a k pl d q;rcases q with q|q
 ·exact h b s i H x v j g lo hi f Q I a k pl d q
 ·exact h' b s i H x v j g lo hi f Q I a k pl d q
def tSl(r:V->Option Int->Option Int->Hp->VK->Prop)(te:TE)(tl th:TO):TE:=λσ H Q=>te σ H λx H1=>tl σ H1 λl H2=>th σ H2 λu H3=>r x l u H3 Q
theorem cR{r:V->Option Int->Option Int->Hp->VK->Prop}(hr:SlR X r)(C:PE X e te)(hl:PO X lo tl)(j:PO X hi th):PE X (.Subscript e (.Slice lo hi none p2) pos) (tSl r te tl th):=by
 intro c s d H Q I h;refine Subscript_ (thn (C c s d H _ I h) λv k⟨x,H1,w,r1,z⟩=>?_);refine wpAny_Slice (thn (hl c k d H1 _ w z) λg D⟨l,H2,G,pl,o⟩=>thn (j c D d H2 _ G o) λf a⟨u,H3,i,m,t⟩=>?_);rw[evalPart_none];refine zB ?_;have y:Inv X c d H3 {a with heap:=a.heap.push {cls:=.type "slice",data:=.fields #[g,f,.none]}}:=i.kept (t':=a.toks) λb J q=>zC _ q;obtain⟨T,id,p,F,n⟩:=hr c {a with heap:=a.heap.push {cls:=.type "slice",data:=.fields #[g,f,.none]}} d H3 x v g f l u a.heap.objs.size Q y r1 (Heap.IsSliceOf.new ..) pl m t;show wpAny (model X.prog X.w) X.A (subscriptTail e (.Slice lo hi none p2) v (.ref a.heap.objs.size)) (EP X c d Q) X.xe {a with heap:=a.heap.push {cls:=.type "slice",data:=.fields #[g,f,.none]}};exact tail_any (ops:=[.ref a.heap.objs.size,v]) F p n (by with_unfolding_all rfl)
def cutV(xs:List V)(lo hi:Option Int):List V:=(xs.drop (HT.sIx xs.length 0 lo)).take (HT.sIx xs.length xs.length hi-HT.sIx xs.length 0 lo)
theorem Ft(xs:List V)(lo hi:Option Int):(cutV xs lo hi).length<=xs.length:=by
 unfold cutV;rw[yN,uI];omega
def rSlT(K:Frag):V->Option Int->Option Int->Hp->VK->Prop:=λx lo hi H Q=>∃a xs,x=.ref a/\SqT K H a xs /\
 ¬ (HT.sIx xs.length 0 lo=0/\HT.sIx xs.length xs.length hi=xs.length)/\∀p,H p=none->Q (.ref p) (upd H p (.tup (cutV xs lo hi)))
theorem Nh:SlR X (rSlT X.K):=by
 intro m s t H x v u o lo hi n Q I i l pl k h;obtain⟨a,xs,rfl,j,g,q⟩:=h;cases i;obtain⟨its,r,f,d⟩:=I.tuple j;have c:its.toArray.size=xs.length:=by rw[zV];exact r.length.symm
 refine⟨"tuple",_,PyProof.Rows.slot_tuple_getitem.lookup,f.typeIs,?_⟩;refine HT.getItem_tuple_cut f l pl k (by rw[c];exact g) ?_ (by rw[c];exact d);rw[c];refine⟨.ref s.heap.objs.size,_,I.laid (t':=s.toks) (o:=.tup (cutV xs lo hi)) (λb p q=>zC _ q) (zE _) ?_,rfl,q _ (I.hok.fresh (zE _))⟩;exact⟨yC (Ft xs lo hi) d,_,(r.drop (HT.sIx xs.length 0 lo)).take (HT.sIx xs.length xs.length hi-HT.sIx xs.length 0 lo),IsTup.new _ _⟩
end
def ixN(n:Nat)(i:Int):Option Nat:=if 0<=i then(if i<n then some i.toNat else none) else if -(n:Int)<=i then some (i+n).toNat else none
def atI{α:Type}(xs:List α)(i:Int):Option α:=(ixN xs.length i).bind λj=>xs[j]?
theorem Fs{n:Nat}{i:Int}{j:Nat}(h:ixN n i=some j):seqIndex? i n=some j/\j<n/\-(n:Int)<=i/\i<n:=by
 unfold ixN at h
 by_cases b:0<=i
 ·rw[zF b]at h
  by_cases a:i<n
  ·rw[zF a]at h;have e:i.toNat=j:=zU h;exact⟨by rw[pF b a,e],⋯,⋯,a⟩
  ·rw[zD a]at h;cases h
 ·rw[zD b]at h
  by_cases a:-(n:Int)<=i
  ·rw[zF a]at h;have e:(i+n).toNat=j:=zU h;exact⟨by rw[pQ ⋯ a,e],⋯,a,⋯⟩
  ·rw[zD a]at h;cases h
theorem Fq{a:Type}{xs:List a}{i:Int}{v:a}(h:atI xs i=some v):∃j,seqIndex? i xs.length=some j/\xs[j]?=some v/\j<xs.length/\-(xs.length:Int)<=i/\i<xs.length:=by
 unfold atI at h;cases e:ixN xs.length i with
 |none=>rw[e]at h;cases h
 |some j =>
  rw[e]at h;obtain⟨d,b,f,c⟩:=Fs e;exact⟨j,d,h,b,f,c⟩
theorem Ng{a:Type}{xs:List a}{j:Nat}{v:a}(h:xs[j]?=some v):atI xs (j:Int)=some v:=by
 have b:j<xs.length:=(oK.mp h).1;have e:ixN xs.length (j:Int)=some j:=by
  unfold ixN;rw[zF ⋯,zF ⋯];simp
 unfold atI;rw[e];exact h
def Nf(b:Expr):Prop:=∀o i,subscripted b false o i=operate [o,i] (getItem o i)
def IxR(X:Cx)(r:R2):Prop:=
 ∀(value slice:Expr)(pins:PN)(s:Shared)(σ:St)(H:Hp)(x y:V)(v u:Value)(Q:VK),Inv X pins σ H s->RelV x v->RelV y u->r x y H Q ->
  subscripted slice false v u=operate [v,u] (getItem v u)->wpAny (model X.prog X.w) X.A (subscriptTail value slice v u) (EP X pins σ Q) X.xe s
def MtR(X:Cx)(id:String)(r:V->List V->Hp->VK->Prop):Prop:=
 ∀(pins:PN)(s:Shared)(σ:St)(H:Hp)(x:V)(xs:List V)(v:Value)(us:LW)(Q:VK),Inv X pins σ H s->RelV x v->Vals xs us->r x xs H Q ->
  wpAny (model X.prog X.w) X.A (call (.builtin id) (v:: us)) (EP X pins σ Q) X.xe s
section
variable {X:Cx} {a b:Expr} {ta tb:TE} {pos:Pos}
theorem IxR.or{r e:R2}(h:IxR X r)(h':IxR X e):IxR X (λx y H Q=>r x y H Q\/e x y H Q):=by
 intro j i d s g H x y v u Q I c f q k;rcases q with q|q
 ·exact h j i d s g H x y v u Q I c f q k
 ·exact h' j i d s g H x y v u Q I c f q k
theorem MtR.or{id:String}{r e:V->List V->Hp->VK->Prop}(h:MtR X id r)(h':MtR X id e):MtR X id (λx xs H Q=>r x xs H Q\/e x xs H Q):=by
 intro d s f H x xs v us Q I c g q;rcases q with q|q
 ·exact h d s f H x xs v us Q I c g q
 ·exact h' d s f H x xs v us Q I c g q
theorem nV{r:R2}(hr:IxR X r)(c:PE X a ta)(j:PE X b tb)(k:Nf b):PE X (.Subscript a b pos) (tOp r ta tb):=by
 intro e s g H Q I h;exact Subscript_ (binT c j I h λv u i x y H2 l d f q=>hr a b e i g H2 x y v u Q l d f q (k _ _))
def rIxL(K:Frag):R2:=λx y H Q=>∃p xs i v,x=.ref p/\y=.int i/\SqL K H p xs/\atI xs i=some v/\Q v H
def rIxT(K:Frag):R2:=λx y H Q=>∃p xs i v,x=.ref p/\y=.int i/\SqT K H p xs/\atI xs i=some v/\Q v H
theorem Nd:IxR X (rIxL X.K):=by
 intro R P f s g H x y v u Q I t F h m;obtain⟨p,xs,i,z,rfl,rfl,D,K,q⟩:=h;cases t;obtain⟨L,rfl⟩:=F;obtain⟨its,r,pl,N⟩:=I.list D;obtain⟨j,c,G,M,C,J⟩:=Fq K;obtain⟨w,e,n⟩:=r.get G;have hl:=r.length;have O:=cJ;have k:EP X f g Q w s:=⟨z,H,I,n,q⟩
 by_cases l:0<=i
 ·have d:i.toNat=j:=by
   rw[pF l J]at c;exact zU c
  exact item_listR pl.isList l ⋯ (by rw[d];simpa using e) k m
 ·have d:(i+(its.toArray.size:Int)).toNat=j:=by
   rw[pQ ⋯ C]at c;rw[zV,←hl];exact zU c
  exact sF (x:=w) pl.isList.typeIs slot_list_getitem.lookup
   (wpAny_getItem_list_neg (Q:=λr o=>r=w/\EP X f g Q r o) pl.isList ⋯ (by rw[zV] <;> omega) ⋯ (by rw[d];simpa using e) ⟨rfl,k⟩) m
theorem Nc:IxR X (rIxT X.K):=by
 intro O N c s d H x y v u Q I l n h D;obtain⟨p,xs,i,z,rfl,rfl,m,C,q⟩:=h;cases l;obtain⟨F,rfl⟩:=n;obtain⟨its,r,pl,K⟩:=I.tuple m;obtain⟨j,f,o,J,G,M⟩:=Fq C;obtain⟨w,g,e⟩:=r.get o;have hl:=r.length;have L:=cJ;have t:EP X c d Q w s:=⟨z,H,I,e,q⟩;exact sF (x:=w) pl.typeIs slot_tuple_getitem.lookup
  (getItem_tuple (j:=j) (Q:=λr k=>r=w/\EP X c d Q r k) pl ⋯ ⋯ (by rw[zV,←hl];exact f) (by simpa using g) ⟨rfl,t⟩) D
theorem Nb(its:LW)(n j:Nat)(u:Value):Obj.mapSeq (·.setIfInBounds j u) {cls:=.type "list",data:=.seq its.toArray n}={cls:=.type "list",data:=.seq (its.set j u).toArray n}:=by
 simp[Obj.mapSeq]
theorem Inv.lst{d:PN}{c:St}{H:Hp}{s:Shared}{p:Addr}{xs:List V}(I:Inv X d c H s)(h:H p=some (.lst xs)):
  ∃(its:LW)(n:Nat),Vals xs its/\s.heap.get? p=some {cls:=.type "list",data:=.seq its.toArray n}/\xs.length<=sizeLine:=by
 obtain⟨z,its,n,r,e⟩:=I.hok p _ h;exact⟨its,n,r,e,z⟩
theorem Inv.lstUpd{d:PN}{i:St}{H:Hp}{s:Shared}{p:Addr}{xs ys:List V}{its its':LW}{n c:Nat}{f:Obj->Obj}(I:Inv X d i H s)(h:H p=some (.lst xs))
  (m:s.heap.get? p=some {cls:=.type "list",data:=.seq its.toArray n})(g:f {cls:=.type "list",data:=.seq its.toArray n}={cls:=.type "list",data:=.seq its'.toArray c})(r:Vals ys its')(j:ys.length<=sizeLine)(l:Nat):
  Inv X d i (upd H p (.lst ys)) {s with heap:=s.heap.update p f,toks:=l}:=by
 have e:(s.heap.update p f).get? p=some {cls:=.type "list",data:=.seq its'.toArray c}:=by
  rw[yX f m (by rw[g] <;> rfl),g]
 refine I.write (x:=p) (e:=p) (by rw[h];trivial) (.inl rfl) (λb u k q=>(xK _ _ (zZ k)).trans q) ⟨_,e⟩ ?_;exact⟨j,its',c,r,e⟩
def cS:V->V->V->Hp->(Hp->Prop)->Prop:=λo i v H Q=>∃p xs k j,o=.ref p/\i=.int k/\H p=some (.lst xs)/\ixN xs.length k=some j/\Q (upd H p (.lst (xs.set j v)))
theorem An:PSet X cS:=by
 intro x s y H o i v M J u Q I F z w h;obtain⟨p,xs,k,j,rfl,rfl,t,D,q⟩:=h;cases F;obtain⟨G,rfl⟩:=z;obtain⟨its,n,r,d,C⟩:=I.lst t;obtain⟨c,K,g,f⟩:=Fs D;have hl:=r.length;have L:=cJ;have l:Inv X x y (upd H p (.lst (xs.set j v))) {s with heap:=s.heap.update p (Obj.mapSeq (·.setIfInBounds j u))}:=
  I.lstUpd t d (Nb its n j u) (r.set w j) (by rw[List.length_set];exact C) s.toks
 by_cases m:0<=k
 ·have e:k.toNat=j:=by
   rw[pF m f]at c;exact zU c
  exact PySem.W.ki_setAt d m ⋯ (by rw[zV,←hl];exact f) (by rw[e];exact⟨_,l,q⟩)
 ·have e:(k+(its.toArray.size:Int)).toNat=j:=by
   rw[pQ ⋯ g]at c;rw[zV,←hl];exact zU c
  exact PySem.W.ki_setBack d ⋯ (by rw[zV,←hl];exact g) ⋯ (by rw[e];exact⟨_,l,q⟩)
theorem Na(lo hi:Option Int)(n:Nat):(sliceBounds lo hi none n).1=((HT.sIx n 0 lo:Nat):Int)/\(sliceBounds lo hi none n).2.1=((HT.sIx n n hi:Nat):Int)/\(sliceBounds lo hi none n).2.2=1:=by
 refine⟨?_,?_,rfl⟩
 ·cases lo with
  |none=>simp[sliceBounds,HT.sIx]
  |some i =>
   simp only[sliceBounds,HT.sIx,Option.getD_none,show(1:Int) > 0 by decide,if_true]
   by_cases h:i<0
   ·simp only[h,if_true] <;> omega
   ·simp only[h,if_false] <;> omega
 ·cases hi with
  |none=>simp[sliceBounds,HT.sIx]
  |some i =>
   simp only[sliceBounds,HT.sIx,Option.getD_none,show(1:Int) > 0 by decide,if_true]
   by_cases h:i<0
   ·simp only[h,if_true] <;> omega
   ·simp only[h,if_false] <;> omega
theorem Oz(its:LW)(lo hi:Option Int):slicePick its.toArray lo hi none=((its.drop (HT.sIx its.length 0 lo)).take (HT.sIx its.length its.length hi-HT.sIx its.length 0 lo)).toArray:=by
 obtain⟨d,c,e⟩:=Na lo hi its.toArray.size;unfold slicePick;rw[d,c,e];simp only[sliceRange_one,pick_run,List.size_toArray] <;> rfl
def rSlL(K:Frag):V->Option Int->Option Int->Hp->VK->Prop:=λx lo hi H Q=>∃a xs,x=.ref a/\SqL K H a xs/\∀p,H p=none->Q (.ref p) (upd H p (.lst (cutV xs lo hi)))
theorem Oy:SlR X (rSlL X.K):=by
 intro k s o H x v p m lo hi l Q I d j pl g h;obtain⟨a,xs,rfl,e,q⟩:=h;cases d;obtain⟨its,r,c,i⟩:=I.list e;have f:=r.length;refine⟨"list",_,slot_list_getitem.lookup,c.isList.typeIs,?_⟩;refine wpAny_getItem_list_slice c.isList j pl g .none (by simp) ?_ (by rw[List.size_toArray] <;> omega);rw[Oz,←f];refine⟨.ref s.heap.objs.size,_,I.laid (t':=s.toks) (o:=.lst (cutV xs lo hi)) (λb n q=>zC _ q) (zE _) ?_,rfl,q _ (I.hok.fresh (zE _))⟩;exact⟨yC (Ft xs lo hi) i,_,0,(r.drop (HT.sIx xs.length 0 lo)).take (HT.sIx xs.length xs.length hi-HT.sIx xs.length 0 lo),zR _ rfl⟩
def iS:V->Bool
 |.non=>true
 |.bl _=>true
 |.int _=>true
 |.str _=>true
 |_=>false
def eqV:V->V->Bool
 |.non,.non=>true
 |.bl a,.bl b=>a == b
 |.bl a,.int b=>(if a then 1 else 0) == b
 |.int a,.bl b=>a == (if b then 1 else 0)
 |.int a,.int b=>a == b
 |.str a,.str b=>a == b
 |_,_=>false
theorem Ox{A:Around}{s:Shared}{y x:V}{u v:Value}(e:RelV y u)(c:RelV x v)(g:iS y=true)(f:iS x=true):SeqAt.EqAt A s u v (eqV y x):=by
 cases y with
 |non =>
  cases e;cases x with
  |non=>cases c;exact SeqAt.EqAt.same _
  |bl b=>cases c;exact SeqAt.EqAt.none_bool b
  |int b=>obtain⟨d,rfl⟩:=c;exact SeqAt.EqAt.none_int b d
  |str b=>obtain⟨d,rfl⟩:=c;exact SeqAt.EqAt.none_str b d
  |_=>exact absurd (show false=true from f) zQ
 |bl a =>
  cases e;cases x with
  |non=>cases c;exact SeqAt.EqAt.bool_none a
  |bl b=>cases c;exact SeqAt.EqAt.bool_bool a b
  |int b=>obtain⟨d,rfl⟩:=c;exact SeqAt.EqAt.bool_int a b d
  |str b=>obtain⟨d,rfl⟩:=c;exact SeqAt.EqAt.bool_str a b d
  |_=>exact absurd (show false=true from f) zQ
 |int a =>
  obtain⟨t',rfl⟩:=e;cases x with
  |non=>cases c;exact SeqAt.EqAt.int_none a t'
  |bl b=>cases c;exact SeqAt.EqAt.int_bool a t' b
  |int b=>obtain⟨d,rfl⟩:=c;exact SeqAt.EqAt.int_int a t' b d
  |str b=>obtain⟨d,rfl⟩:=c;exact SeqAt.EqAt.int_str a t' b d
  |_=>exact absurd (show false=true from f) zQ
 |str a =>
  obtain⟨t',rfl⟩:=e;cases x with
  |non=>cases c;exact SeqAt.EqAt.str_none a t'
  |bl b=>cases c;exact SeqAt.EqAt.str_bool a t' b
  |int b=>obtain⟨d,rfl⟩:=c;exact SeqAt.EqAt.str_int a t' b d
  |str b=>obtain⟨d,rfl⟩:=c;exact SeqAt.EqAt.str_str a t' b d
  |_=>exact absurd (show false=true from f) zQ
 |_=>exact absurd (show false=true from g) zQ
def eqU(x:V)(u:Value):Bool:=match u with
 |.none=>eqV .non x
 |.bool b=>eqV (.bl b) x
 |.int i _=>eqV (.int i) x
 |.str z _=>eqV (.str z) x
 |_=>false
theorem Fp{x y:V}{u:Value}(r:RelV y u)(f:iS y=true):eqU x u=eqV y x:=by
 cases y with
 |non=>cases r;rfl
 |bl b=>cases r;rfl
 |int i=>obtain⟨t,rfl⟩:=r;rfl
 |str z=>obtain⟨t,rfl⟩:=r;rfl
 |_=>exact absurd (show false=true from f) zQ
theorem Am{x:V}:∀{xs:List V}{us:LW},Vals xs us->xs.all iS=true->us.any (eqU x)=xs.any λy=>eqV y x
 |_,_,.nil,_=>rfl
 |y:: xs,u:: us,.cons r t,f=>by
  rw[xG,zP]at f;rw[qE,qE,Fp r f.1,Am t f.2]
theorem Al{A:Around}{s:Shared}{x:V}{v:Value}(d:RelV x v)(e:iS x=true):∀{xs:List V}{us:LW},Vals xs us->xs.all iS=true->∀u∈us,SeqAt.EqAt A s u v (eqU x u)
 |_,_,.nil,_=>λu c=>by cases c
 |y:: xs,u:: us,.cons r i,f=>λg c=>by
  rw[xG,zP]at f;rcases xC.mp c with rfl|c
  ·rw[Fp r f.1];exact Ox r d f.1 e
  ·exact Al d e i f.2 g c
def inV(x:V)(xs:List V):Bool:=xs.any λy=>eqV y x
def rIn(K:Frag)(neg:Bool):R2:=λx y H Q=>∃p xs,y=.ref p/\(SqL K H p xs\/SqT K H p xs)/\iS x=true/\xs.all iS=true/\Q (.bl (if neg then !inV x xs else inV x xs)) H
theorem Ak:OpR X (compareOp .NotIn) (rIn X.K true):=by
 intro j s k H x y v u Q I e i h;obtain⟨p,xs,rfl,c,f,fs,q⟩:=h;cases i;rcases c with c|c
 ·obtain⟨its,r,pl,g⟩:=I.list c;refine SeqAt.notIn_listAt (eqU x) pl.isList (λw d=>Al e f r fs w (by simpa using d)) ⟨.bl _,H,I,rfl,?_⟩;rw[show its.toArray.any (eqU x)=its.any (eqU x) by simp,Am r fs];exact q
 ·obtain⟨its,r,pl,g⟩:=I.tuple c;refine SeqAt.notIn_tupleAt (eqU x) pl (λw d=>Al e f r fs w (by simpa using d)) ⟨.bl _,H,I,rfl,?_⟩;rw[show its.toArray.any (eqU x)=its.any (eqU x) by simp,Am r fs];exact q
theorem Ow:mU X (.builtin "len") (λxs H Q=>∃p ys,xs=[.ref p]/\(SqL X.K H p ys\/SqT X.K H p ys)/\Q (.int ys.length) H):=by
 intro i s j H xs us Q I r h;obtain⟨p,ys,rfl,c,q⟩:=h;obtain⟨u,rfl,f⟩:=jA r;cases f;have k:=cJ;rcases c with c|c
 ·obtain⟨its,e,pl,g⟩:=I.list c;have d:=e.length;exact Calls.call_len_list pl.isList (by simp only[List.size_toArray] <;> omega) ⟨.int ys.length,H,I.tok _,⟨s.toks+1,by rw[zV,d]⟩,q⟩
 ·obtain⟨its,e,pl,g⟩:=I.tuple c;have d:=e.length;exact len_tuple pl (by simp only[List.size_toArray] <;> omega) ⟨.int ys.length,H,I.tok _,⟨s.toks+1,by rw[zV,d]⟩,q⟩
theorem mU.or{f:Value}{r e:List V->Hp->VK->Prop}(h:mU X f r)(h':mU X f e):mU X f (λxs H Q=>r xs H Q\/e xs H Q):=by
 intro d s c H xs us Q I g q;rcases q with q|q
 ·exact h d s c H xs us Q I g q
 ·exact h' d s c H xs us Q I g q
theorem Ov:mU X (.type "list") (λxs H Q=>∃p ys,xs=[.ref p]/\(SqL X.K H p ys\/SqT X.K H p ys)/\∀l,H l=none->Q (.ref l) (upd H l (.lst ys))):=by
 intro y s z H xs us Q I r h;obtain⟨p,ys,rfl,g,q⟩:=h;obtain⟨u,rfl,w⟩:=jA r;cases w;have v:∀(its:LW),Vals ys its->ys.length<=sizeLine->∀(h':Heap)(d:Nat),(∀b t,s.heap.get? b=some t->h'.get? b=some t) ->
   h'.get? s.heap.objs.size=some {cls:=.type "list",dict:=none,data:=.seq its.toArray d,slots:=#[]}->EP X y z Q (.ref s.heap.objs.size) {s with heap:=h'}:=λits c f h' d i e =>
  ⟨.ref s.heap.objs.size,_,I.laid (t':=s.toks) i (zE _) (show nM X.prog X.w _ h' _ (.lst ys) from⟨f,its,d,c,e⟩),rfl,q _ (I.hok.fresh (zE _))⟩
 rcases g with g|g
 ·obtain⟨its,c,pl,f⟩:=I.list g;have x:=c.length;obtain⟨o,m,k,n,j⟩:=pl.isList;exact call_list_seq p (.inl rfl) m k j (λh' d i e=>v its c f h' d i e) (by simp only[List.size_toArray] <;> omega)
 ·obtain⟨its,c,pl,f⟩:=I.tuple g;have x:=c.length;obtain⟨o,m,k,n,j⟩:=pl;exact call_list_seq p (.inr rfl) m k j (λh' d i e=>v its c f h' d i e) (by simp only[List.size_toArray] <;> omega)
theorem Ou:mU X (.type "tuple") (λxs H Q=>∃p ys,xs=[.ref p]/\((SqL X.K H p ys/\∀l,H l=none->Q (.ref l) (upd H l (.tup ys)))\/(SqT X.K H p ys/\Q (.ref p) H))):=by
 intro f s i H xs us Q I r h;obtain⟨p,ys,rfl,h⟩:=h;obtain⟨u,rfl,k⟩:=jA r;cases k;rcases h with⟨d,q⟩|⟨d,q⟩
 ·obtain⟨its,c,pl,g⟩:=I.list d;have t:=c.length;refine call_tuple_list pl.isList (λh' m=>?_) (by simp only[List.size_toArray] <;> omega);have j:Inv X f i H {s with heap:=h'}:=I.kept (t':=s.toks) m;have n:Inv X f i (upd H h'.objs.size (.tup ys)) {s with heap:=h'.push {cls:=.type "tuple",data:=.seq its.toArray}}:=
   j.laid (t':=s.toks) (λb o e=>zC _ e) (zE _) (show nM X.prog X.w _ _ _ (.tup ys) from⟨g,its,c,IsTup.new _ _⟩)
  exact⟨.ref h'.objs.size,_,n,rfl,q _ (j.hok.fresh (zE _))⟩
 ·obtain⟨its,c,pl,g⟩:=I.tuple d;exact call_tuple_same pl ⟨.ref p,H,I,rfl,q⟩
def tyV(K:Frag)(T:String)(x:V)(H:Hp):Prop:=match x with
 |.str _=>T="str"
 |.int _=>T="int"
 | .ref p=>(T="list" /\ ∃xs,SqL K H p xs)\/(T="tuple" /\ ∃o,K.lookup p=some o/\o.cls=.type "tuple" /\ o.dict=none) \/
   (T="dict" /\ ((∃kvs,H p=some (.dK kvs))\/∃kvs,H p=some (.dT kvs)))\/(T="set" /\ ∃S n,H p=some (.set S n))
 |_=>False
theorem Ot{m:PN}{t:St}{H:Hp}{s:Shared}{T:String}{x:V}{v:Value}(I:Inv X m t H s)(r:RelV x v)(ty:tyV X.K T x H):
  s.TypeIs v T/\∀a,v=.ref a->∃l,s.heap.get? a=some l/\l.dict=none:=by
 cases x with
 |str z =>
  obtain⟨k,rfl⟩:=r;cases(show T="str" from ty);exact⟨typeIs_str s z k,λ_ e=>nomatch e⟩
 |int i =>
  obtain⟨k,rfl⟩:=r;cases(show T="int" from ty);exact⟨typeIs_int s i k,λ_ e=>nomatch e⟩
 | ref p =>
  cases r;rcases ty with⟨rfl,xs,q⟩|⟨rfl,o,d,u,j⟩|⟨rfl,d⟩|⟨rfl,w,n,d⟩
  ·obtain⟨its,_,pl,_⟩:=I.list q;refine⟨pl.isList.typeIs,λa e=>?_⟩;cases e;obtain⟨o,n,e,c,j,_⟩:=pl;exact⟨o,e,j⟩
  ·refine⟨⟨o,I.kIn p o d,u⟩,λa e=>?_⟩;cases e;exact⟨o,I.kIn _ o d,j⟩
  ·have z:∃o,s.heap.get? p=some o/\o.ExactDict:=by
    rcases d with⟨kvs,d⟩|⟨kvs,d⟩
    ·obtain⟨_,_,_,_,o,_,_,e,f,_⟩:=I.hok p _ d;exact⟨o,e,f⟩
    ·obtain⟨_,_,_,_,o,_,_,e,f,_⟩:=I.hok p _ d;exact⟨o,e,f⟩
   obtain⟨o,e,f⟩:=z;refine⟨⟨o,e,f.1⟩,λa g=>?_⟩;cases g;exact⟨o,e,f.2.1⟩
  ·obtain⟨o,_,_,_,e,f,_⟩:=I.hok p _ d;refine⟨⟨o,e,f.1⟩,λa g=>?_⟩;cases g;exact⟨o,e,f.2.1⟩
 |_=>exact False.elim ty
def tBM0(K:Frag)(T:String)(r:V->List V->Hp->VK->Prop)(to:TE):TE:=λσ H Q=>to σ H λx H1=>tyV K T x H1/\r x [] H1 Q
def tBM(K:Frag)(T:String)(r:V->List V->Hp->VK->Prop)(to:TE)(t:TA):TE:=λσ H Q=>to σ H λx H1=>tyV K T x H1/\t σ H1 λxs H2=>r x xs H2 Q
variable {o e:Expr} {es:List Expr} {to:TE} {t:TA} {name:Str} {apos cpos:Pos} {T id:String} {r:V->List V->Hp->VK->Prop}
theorem jH(j:PlainAttrs T)(G:Slot T name id)(i:typeOf (.builtin id)=pure (.type "method_descriptor"))(n:MtR X id r)(m:PE X o to)(C:PA X (e:: es) t)
  (u:attributeBase o name X.env (eval o X.env)=eval o X.env:=by rfl)
  (y:((backTo cpos (starEach (e:: es) X.env)).all (λx=>!x.1) && (backToKw cpos (keywordEach [] X.env)).all (λx=>x.1.isSome)
   && decide ((e:: es).length+([]:List Keyword).length+(if([]:List Keyword).isEmpty then 0 else 1)<30))=true:=by rfl)
  (w:(apos.endLine == cpos.line)=true:=by rfl)(J:starEach (e:: es) X.env=(false,eval e X.env):: starEach es X.env:=by rfl)(q:(backTo cpos (starEach es X.env)).any (·.1)=false:=by rfl):
  PE X (.Call (.Attribute o name apos) (e:: es) [] cpos) (tBM X.K T r to t):=by
 intro c s d H Q I h;refine wpAny_Call_method_late u y w rfl (thn (m c s d H _ I h) λv l⟨x,H1,g,r1,ty,D⟩=>?_);obtain⟨k,z⟩:=Ot g r1 ty;refine⟨T,id,j,G,i,k,z,?_⟩;have f:=C cpos c l d H1 _ g D;rw[J]at f ⊢;refine Calls.callWith_builtin (by show(false || (backTo cpos (starEach es X.env)).any (·.1))=false;rw[q] <;> rfl) (tE ?_);exact thn f λus F⟨vs,H2,K,r2,p⟩=>n c F d H2 x vs v us Q K r1 r2 p
end
def MtM(X:Cx)(id:String)(r:V->List V->Hp->VK->Prop):Prop:=
 ∀(pins:PN)(s:Shared)(σ:St)(H:Hp)(x:V)(xs:List V)(v:Value)(us:LW)(Q:VK),Inv X pins σ H s->RelV x v->Vals xs us->r x xs H Q ->
  wpAny (model X.prog X.w) X.A (call (.builtin id) (v:: us)) (EP X pins σ Q) X.xe s
theorem Vals.one{x:V}{us:LW}(h:Vals [x] us):∃u,us=[u]/\RelV x u:=by
 cases h with|cons r h=>cases h;exact⟨_,rfl,r⟩
theorem Vals.two{x y:V}{us:LW}(h:Vals [x,y] us):∃u v,us=[u,v]/\RelV x u/\RelV y v:=by
 cases h with|cons r h=>obtain⟨v,rfl,q⟩:=Vals.one h;exact⟨_,_,rfl,r,q⟩
theorem Vals.eraseIdx:∀{xs:List V}{us:LW}(i:Nat),Vals xs us->Vals (xs.eraseIdx i) (us.eraseIdx i)
 |_,_,_,.nil=>.nil
 |_,_,0,.cons _ t=>t
 |_,_,i+1,.cons r t=>.cons r (Vals.eraseIdx i t)
theorem Vals.reverse{xs:List V}{us:LW}(h:Vals xs us):Vals xs.reverse us.reverse:=by
 induction h with
 |nil=>exact .nil
 |cons r b a=>rw[List.reverse_cons,List.reverse_cons];exact Vals.append a (.cons r .nil)
theorem Vals.rep{xs:List V}{us:LW}(h:Vals xs us):∀k:Nat,Vals (List.replicate k xs).flatten (List.replicate k us).flatten
 |0=>.nil
 |k+1=>by
  rw[wR,wR,uR,uR];exact Vals.append h (Vals.rep h k)
theorem Fo{a:Type}:∀(l:List a)(i:Nat),(l.eraseIdx i).length<=l.length
 |[],_=>zE _
 |_:: _,0=>vZ _
 |_:: r,i+1=>Nat.succ_le_succ (Fo r i)
theorem Fn(its:LW):∀(k:Nat)(acc:LW),
  List.foldl (λb c=>b++c) acc.toArray (List.replicate k its.toArray)=(acc++(List.replicate k its).flatten).toArray
 |0,acc=>by simp
 | k+1,acc=>by
  have e:acc.toArray++its.toArray=(acc++its).toArray:=by simp
  have a:(acc++its)++(List.replicate k its).flatten=acc++(List.replicate (k+1) its).flatten:=by
   rw[wR,uR,yG]
  rw[←a,←Fn its k (acc++its),←e,wR,vQ]
section
variable {X:Cx} {pins:PN} {σ:St} {H:Hp} {s:Shared} {l b:Addr} {xs ys zs:List V}
theorem Inv.lset{its its':LW}{n:Nat}{f:Array Value->Array Value}{t':Nat}(I:Inv X pins σ H s)(g:H l=some (.lst xs))
  (e:s.heap.get? l=some {cls:=.type "list",data:=.seq its.toArray n})(d:f its.toArray=its'.toArray)(a:Vals ys its')(c:ys.length<=sizeLine):
  Inv X pins σ (upd H l (.lst ys)) {s with heap:=s.heap.update l (Obj.mapSeq f),toks:=t'}:=by
 have q:=PySem.IsL.update e f;rw[d]at q;refine I.write (x:=l) (e:=l) (by rw[g];exact trivial) (.inl rfl) (λk u j i=>(xK s.heap (Obj.mapSeq f) (zZ j)).trans i) ⟨_,q⟩ ?_;exact⟨c,its',_,a,q⟩
theorem Inv.lnew{its:LW}{t':Nat}(I:Inv X pins σ H s)(a:Vals ys its)(c:ys.length<=sizeLine):
  Inv X pins σ (upd H s.heap.objs.size (.lst ys)) {s with heap:=s.heap.push {cls:=.type "list",data:=.seq its.toArray},toks:=t'}:=
 I.laid (λ_ _ q=>zC _ q) (zE _) ⟨c,its,0,a,zR _ rfl⟩
theorem Inv.fresh(I:Inv X pins σ H s):H s.heap.objs.size=none:=I.hok.fresh (zE _)
theorem Inv.lstM(I:Inv X pins σ H s)(a:H l=some (.lst xs)):xs.length<=sizeLine/\∃(its:LW)(n:Nat),Vals xs its/\xs.length=its.length/\s.heap.get? l=some {cls:=.type "list",data:=.seq its.toArray n}:=by
 obtain⟨z,its,n,r,e⟩:=I.hok l _ a;exact⟨z,its,n,r,r.length,e⟩
theorem Os{n:Nat}(h:n<=sizeLine):Builtin.List.listTooLong n=false:=by
 unfold Builtin.List.listTooLong;exact zK ⋯
end
section
variable {X:Cx}
def Fm:V->List V->Hp->VK->Prop:=λx vs H Q=>∃l xs y,x=.ref l/\vs=[y]/\H l=some (.lst xs)/\xs.length<sizeLine/\Q .non (upd H l (.lst (xs++[y])))
theorem jI:MtM X "list.append" Fm:=by
 intro f s i H x vs v us Q I b d h;obtain⟨l,xs,y,rfl,rfl,a,g,q⟩:=h;cases b;obtain⟨u,rfl,c⟩:=d.one;obtain⟨z,its,n,r,hl,e⟩:=I.lstM a;refine pO F.slot_list_append ⟨_,e,rfl⟩ F.entry_list_append (F.args_list_append_2 _ _) (PySem.list_append l its.toArray n u (by rw[zV];omega)) ⟨e,?_⟩;refine⟨.non,_,I.lset (its':=its++[u]) a e (by simp) (r.append (.cons c .nil)) ?_,rfl,q⟩;rw[yE,List.length_singleton];omega
def Oq:V->List V->Hp->VK->Prop:=λx vs H Q=>∃l xs i k y,x=.ref l/\vs=[.int i]/\H l=some (.lst xs)/\-(2^63)<=i/\i<2^63/\seqIndex? i xs.length=some k/\xs[k]?=some y/\Q y (upd H l (.lst (xs.eraseIdx k)))
theorem Op:MtM X "list.pop" Oq:=by
 intro C s D H x vs v us Q I c t h;obtain⟨l,xs,i,k,y,rfl,rfl,a,j,f,d,p,q⟩:=h;cases c;obtain⟨u,rfl,m⟩:=t.one;obtain⟨o,rfl⟩:=m;obtain⟨z,its,n,r,hl,e⟩:=I.lstM a;obtain⟨w,b,g⟩:=r.get p;refine pO F.slot_list_pop ⟨_,e,rfl⟩ F.entry_list_pop (F.args_list_pop_2 _ _)
  (MeetsSeq.list_pop_at l its.toArray n i o k w (fitsIndex_both j f) (by rw[zV,←hl];exact d) (by rw[←yM];exact b) (by rw[zV];omega)) ⟨e,?_⟩
 refine⟨y,_,I.lset (its':=its.eraseIdx k) a e ?_ (r.eraseIdx k) ?_,g,q⟩
 ·show its.toArray.eraseIdxIfInBounds k=(its.eraseIdx k).toArray;rw[List.eraseIdxIfInBounds_toArray]
 ·have:=Fo xs k;omega
def rCat:R2:=λx y H Q=>∃l b xs zs,x=.ref l/\y=.ref b/\H l=some (.lst xs)/\H b=some (.lst zs)/\xs.length+zs.length<=sizeLine/\∀p,H p=none->Q (.ref p) (upd H p (.lst (xs++zs)))
theorem gZ:OpR X (binaryOp .Add) rCat:=by
 intro k s o H x y v u Q I c g h;obtain⟨l,b,xs,zs,rfl,rfl,i,f,m,q⟩:=h;cases c;cases g;obtain⟨z,its,n,r,hl,e⟩:=I.lstM i;obtain⟨p,a,w,r2,t,d⟩:=I.lstM f;refine PySem.P.add_list e d ?_ (by rw[zV,zV];omega);have j:its.toArray++a.toArray=(its++a).toArray:=by simp
 rw[j];exact⟨.ref _,_,I.lnew (t':=s.toks) (r.append r2) (by rw[yE];omega),rfl,q _ I.fresh⟩
def rRep:R2:=λx y H Q=>∃l k xs,x=.ref l/\y=.int k/\H l=some (.lst xs)/\-(2^63)<=k/\k<2^63/\xs.length*k.toNat<=sizeLine /\
 ∀p,H p=none->Q (.ref p) (upd H p (.lst (List.replicate k.toNat xs).flatten))
theorem Oo{a:Type}(xs:List a)(k:Nat):(List.replicate k xs).flatten.length=k*xs.length:=by
 induction k with
 |zero=>simp
 |succ k b=>rw[wR,uR,yE,b,rC,Nat.add_comm]
theorem Fl:OpR X (binaryOp .Mult) rRep:=by
 intro L s N H x y v u Q I p w h;obtain⟨l,k,xs,rfl,rfl,D,j,C,f,q⟩:=h;cases p;obtain⟨b,rfl⟩:=w;obtain⟨z,its,n,r,hl,e⟩:=I.lstM D;have i:its.toArray.size*k.toNat<=sizeLine:=by rw[zV,←hl];exact f
 have J:¬ its.toArray.size*k.toNat > (2^63-1)/8:=by
  have:(sizeLine:Nat)<=(2^63-1)/8:=∅
  omega
 have K:¬ (!Builtin.List.listFitsIndex k)=true:=by
  rw[fitsIndex_both j C];exact zQ
 have g:¬ Builtin.List.listTooLong (its.toArray.size*k.toNat)=true:=by
  rw[Os i];exact zQ
 have G:List.foldl (λd c=>d++c) #[] (List.replicate (if its.toArray.isEmpty=true then 0 else k.toNat) its.toArray)=(List.replicate k.toNat its).flatten.toArray:=by
  have t:∀m:Nat,List.foldl (λd c=>d++c) #[] (List.replicate m its.toArray)=(List.replicate m its).flatten.toArray:=λm=>by
   have:=Fn its m [];rw[rB]at this;exact this
  rw[t];cases its with
  |nil=>simp
  |cons a M=>rw[zD (by simp)]
 refine wpAny_binaryOp_repeat_ref (T:= "list") (U:= "int") ∅ ⟨_,e,rfl⟩ (λo=>typeIs_int o k b) noFill_list_mul F.fills_int_mul F.slot_int_rmul repeat_list F.slot_int_index.lookup
  (pO F.slot_int_rmul (typeIs_int s k b) F.entry_int_rmul (F.args_int_rmul_2 _ _) (int___rmul___int_list k b l its.toArray n)
   ⟨e,rfl,⟨_,e,rfl⟩,pO F.slot_list_mul ⟨_,e,rfl⟩ F.entry_list_mul (F.args_list_mul_2 _ _) (AutoListH.list___mul___list_int_3 l its.toArray n k b K J g) ⟨e,?_⟩⟩)
 rw[G];exact⟨.ref _,_,I.lnew (t':=s.toks) (r.rep k.toNat) (by rw[Oo,sW];exact f),rfl,q _ I.fresh⟩
end
section
variable {prog:Program} {w:World} {A:Around} {E:VP} {s:Shared}
set_option maxRecDepth 100000 in
end
end L2
namespace Att
open PySem PySem.W PySem.Calls PyProof.Rows
theorem On{P:Params}{h:Heap}:∀(ns:LI')(vs:LW),WellAll P h vs (ns.map WData.int)->IntsAre vs ns:=by
 intro ns
 induction ns with
 |nil =>
  intro vs w;rw[List.map_nil]at w;cases w;exact .nil
 | cons n ns c =>
  intro vs w;rw[zN]at w;cases w with
  |cons a b =>
   cases a;exact .cons _ _ (c _ b)
theorem Fk{l:OpenLaw}{n:Nat}(w:l.most=some n){P:Params}{h:Heap}{args:List WData}{vals:LW}
  (e:l.row.toRowW.claim.pre args=true)(m:WellAll P h vals args):
  ∃a vs ns,vals=[Value.ref a]/\args=[WData.list (ns.map WData.int)]/\h.get? a=some {cls:=.type "list",data:=.seq vs.toArray}/\IntsAre vs ns/\ns.length<=n:=by
 have v:WShape.hasAll [] args [.list .int]=true:=(pre_splitW e).1;have f:l.pre.holds [] {args:=args}=true:=(pre_splitW e).2;obtain⟨d,r,rfl,p,k⟩:=hasAllW_cons v;obtain rfl:=hasAllW_nil k;obtain⟨xs,rfl,u⟩:=hasW_list p;obtain⟨ns,rfl⟩:=items_int u;have g:ns.length<=n:=by
  unfold OpenLaw.pre at f;have b:(WTm.not (.lt (.lit (.int (n:Int))) (.len (.arg 0)))).holds [] {args:=[.list (ns.map .int)]}=true:=by
   have b:=(holds_andW f).1;rw[w]at b;exact b
  have c:=condW_of b (w_not (w_lt w_lit (w_len_list (w_arg rfl))));rw[yP]at c;refine Nat.le_of_not_lt λq=>?_;have o:(n:Int)<((ns.length:Nat):Int):=⋯
  first
   |(rw[zL o]at c;exact absurd c ∅)
   |(simp at c;omega)
 cases m with
 |cons i t =>
  cases t;cases i with
  |list x j=>exact⟨_,_,ns,rfl,rfl,x,On ns _ j,g⟩
theorem Fj(l:OpenLaw)(args:List WData):l.row.toRowW.claim.post args (.bool true) args=true:=
 postW_of (r:=l.row.toRowW) (X:=(true == true))
  (show WShape.has [] (.bool true) .bool=true by first|rfl|decide|simp[WShape.has,WShape.arms,WShape.armsAll])
  (show(WTm.eq .res (.lit (.bool true))).value [] {args:=args,res:=some (.bool true),after:=args}=some (.bool (true == true)) from w_eq_bool (w_res rfl) w_lit) rfl
theorem attach_call{l:OpenLaw}{n:Nat}{q:Program}{t:List Str}{v:(MT)->Heap->Prop}{x:World->Heap->Prop}{d:DefRec}
  (V:l.most=some n)(S:d.params.defaults=[])
  (call:∀(w:World)(k b:Shared)(g j:MT)(c:Addr)(o:Obj)(m e p:Value)(a:Addr)(vs:LW)(ns:LI'),
   Ground q t [] v w k g j b.heap->x w b.heap ->
   b.heap.get? c=some o->o.data=.func (docDef d.name d.params d.body d.scope m e p)->b.heap.CodeRec e d.name->g d.name=some (.ref c) ->
   b.heap.get? a=some {cls:=.type "list",data:=.seq vs.toArray}->IntsAre vs ns->ns.length<=n->b.gens=#[] ->
   codeAny (model l.prog w) callerA (.call (.ref c) ⟨[.ref a],[]⟩) (λr i=>r=.ok (.ret (.bool true))/\OldK b.heap i.heap/\i.os=b.os/\AllBare i.gens) b):
  WalkO q t v x l.row.toRowW d [] (λf vs=>PySem.call f vs):=by
 intro w k b g j R T c o m e p N kV G D F u J I X vals as K Y Z C a0;obtain rfl:N=.none:=Dflts.none u S;obtain rfl:kV=.none:=Dflts.noKw u;obtain⟨a,vs,ns,rfl,rfl,y,W,z⟩:=Fk V K C;refine enter_call (wZ (call w k b g j c o m e p a vs ns R T G (fd_plain D) F J y W z I) λr i O=>?_);obtain⟨rfl,U,P,L⟩:=O;exact⟨.inl ⟨.bool true,.bool true,[],rfl,λ_=>rfl,.bool true,Fj l _,λ_=>⟨List.Pairwise.nil,λ_ M=>(nomatch M)⟩⟩,U,P,L⟩
section
variable {prog:Program} {w:World} {A:Around} {E:VP} {s:Shared} {K:Frag}
def t_Q(h:Heap)(L d:Addr):PN:=(List.range h.objs.size).filterMap λa=>if a=L\/a=d then none else(h.get? a).map λo=>(a,o)
end
end Att
namespace L2
open PySem PySem.Spec PyProof.Rows
open PySem.W (Frag)
theorem Fi:∀{vs:LW}{ns:LI'},IntsAre vs ns->Vals (ns.map V.int) vs
 |_,_,.nil=>.nil
 |_,_,.cons n t h=>.cons ⟨t,rfl⟩ (Fi h)
def Only(H:Hp):Prop:=∀b,H b=none\/∃o xs,H b=some (.frz o (.lst xs))
theorem Fh{P:Program}{w:World}{K:Frag}{i t:MT}{I:CXT}{k:Nat}{y a:Addr}{S:FuncData}{x:Str}{G:Sp}{c:Shared}{vs:LW}{ns:LI'}
  (KX:K.In c.heap)(M:c.heap.Ns mainGlobals i)(f:c.heap.Ns builtinsNs t)(a2:∀x:Str,x≠"__name__" -> t x=bootBuiltins x)(b3:c.heap.NoLimit)(a4:c.gens=#[])
  (p:c.heap.get? a=some {cls:=.type "list",data:=.seq vs.toArray})(hi:IntsAre vs ns)(hl:ns.length<=sizeLine)(hr:Room k callerA)
  (F:∀base:Heap,K.In base->base.Ns mainGlobals i->FnOk P w K i base I k y S [x] G)(a6:∀(s:Shared)(u:Value),BindsTo s S ⟨[u],[]⟩ [(x,u)])
  (a1:∀H:Hp,Only H->SqL K H a (ns.map V.int)->G [.ref a] H (λv _=>v=.bl true) λ_ _ _=>False)
  (U:∀H e g,I [] H c (λ_ _ _=>False) e g->False):
  codeAny (model P w) callerA (.call (.ref y) ⟨[.ref a],[]⟩) (λr g=>r=.ok (.ret (.bool true))/\OldK c.heap g.heap/\g.os=c.os/\AllBare g.gens) c:=by
 have J:=Fi hi;have b1:=hi.length
 -- from an abstract heap in which nothing but the script may be tracked
 have L:∀H:Hp,Only H->SqL K H a (ns.map V.int)->HOk P w H c.heap->(∀b,H b≠none->b=a)->(H a≠none->K.lookup a=none) ->
   codeAny (model P w) callerA (.call (.ref y) ⟨[.ref a],[]⟩) (λr g=>r=.ok (.ret (.bool true))/\OldK c.heap g.heap/\g.os=c.os/\AllBare g.gens) c:=by
  intro H R b0 D N a7;have O:∀{b:Addr}{o:Obj},c.heap.get? b=some o->H b=none->(hidT c.heap H).get? b=some o:=λe n=>My e n;have b7:∀{b:Addr}{o:Obj}{es:Array DictEntry}{ep:Nat},c.heap.get? b=some o->o.data=.dict es ep->H b=none:=λ{b o es ep}e d=>by
   cases q:H b with
   |none=>rfl
   |some u =>
    have C:b=a:=N b (by rw[q];simp);subst C;rw[p]at e;cases e;have d':Data.seq vs.toArray _=Data.dict es ep:=d;cases d'
  have l:∀{b:Addr}{m:MT},c.heap.Ns b m->(hidT c.heap H).Ns b m:=λ{b m}⟨o,es,ep,e,d,r⟩=>⟨o,es,ep,O e (b7 e d),d,r⟩;have T:K.In (hidT c.heap H):=λb o e=>O (KX b o e) (by
   cases q:H b with
   |none=>rfl
   |some u =>
    have C:b=a:=N b (by rw[q];simp);subst C;rw[a7 (by rw[q];simp)]at e;cases e)
  have a5:Mod K i (hidT c.heap H):=⟨T,l M,⟨t,l f,a2⟩,let ⟨X,a0,a8⟩:=b3;⟨X,l a0,a8⟩⟩;have b6:Env0 P w K i (hidT c.heap H) callerA [] c H:=⟨rfl,a5,λb o e=>Mx e,qU (Mz _ _),trivial,λb f=>absurd (show b∈([]:LA) from f) (by simp),D,.of_eq a4⟩;refine wZ ((F _ T (l M)).run callerA [] c H ⟨[.ref a],[]⟩ [.ref a] [.ref a] _ _ hr b6 (a6 c (.ref a)) (.cons rfl .nil) (a1 H R b0)) λr g h=>?_;cases r with
  |error e=>exact(U H e g h).elim
  | ok fl =>
   cases fl with
   |next=>exact False.elim h
   |brk=>exact False.elim h
   |cont=>exact False.elim h
   | ret u =>
    obtain⟨v,H',b2,b5,un,Y,a3,q⟩:=h;have b4:v=.bl true:=q;subst b4;obtain rfl:u=Value.bool true:=a3;refine⟨rfl,OldK.of_keep λb o e=>?_,b2,b5⟩;cases q:H b with
    |none=>exact un.keep b o e q (by intro z;exact absurd (show b∈([]:LA) from z) (by simp)) (by simp)
    |some u =>
     rcases R b with z|⟨a9,xs,z⟩
     ·rw[q]at z;cases z
     ·have Z:=un.frzs b a9 _ z;obtain⟨e1,_⟩:=D b _ z;obtain⟨W,_⟩:=Y b _ Z;rw[e]at e1;cases e1;exact W
 cases hk:K.lookup a with
 |some o =>
  -- the script is one of the module's own objects
  have e:=KX a o hk;rw[p]at e;cases e;refine L (λ_=>none) (λ_=>.inl rfl) (.inr ⟨_,vs.toArray,_,hk,rfl,rfl,rfl,by rw[zV,b1];exact hl,by simpa using J⟩) (λb u z=>by have j:(none:Option HO)=some u:=z;cases j) (λb z=>absurd rfl z) λz=>absurd rfl z
 | none =>
  refine L (λb=>if b=a then some (.frz {cls:=.type "list",data:=.seq vs.toArray} (.lst (ns.map V.int))) else none) (λb=>?_) (.inl (.inr ⟨{cls:=.type "list",data:=.seq vs.toArray},zF rfl⟩)) (λb u z=>?_) (λb z=>?_) λ_=>hk
  ·by_cases f:b=a
   ·exact .inr ⟨_,_,zF f⟩
   ·exact .inl (zD f)
  ·by_cases f:b=a
   ·have j:=(zF f).symm.trans z;cases j;subst f;exact⟨p,by rw[yP];exact hl,vs,_,J,p⟩
   ·have j:=(zD f).symm.trans z;cases j
  ·by_cases f:b=a
   ·exact f
   ·exact absurd (zD f) z
abbrev KOf{K:Frag}{h:Heap}(_:K.In h):Frag:=K
theorem t_P{l:PySem.W.OpenLaw}{n k:Nat}{q:Program}{D:List Str}{N:(MT)->Heap->Prop}{t:World->Heap->Prop}{d:DefRec}{K:Params->Frag}{r:World->CXT}{p:World->Sp}{x:Str}
  (T:l.most=some n)(S:n<=sizeLine)(L:d.params.defaults=[])(hr:Room k callerA)
  (M:∀(w:World)(h:Heap),t w h->(K w.params).In h)
  (F:∀(w:World)(b:MT)(g:Addr)(h:Heap),(K w.params).In h->h.Ns mainGlobals b->b d.name=some (.ref g) ->
   ∃j:FuncData,(∀(s:Shared)(u:Value),BindsTo s j ⟨[u],[]⟩ [(x,u)]) /\
    ∀base:Heap,(K w.params).In base->base.Ns mainGlobals b->FnOk l.prog w (K w.params) b base (r w) k g j [x] (p w))
  (G:∀(w:World)(H:Hp)(a:Addr)(ns:LI'),ns.length<=n->Only H->SqL (K w.params) H a (ns.map V.int)->p w [.ref a] H (λv _=>v=.bl true) λ_ _ _=>False)
  (y:∀(w:World)(H:Hp)(s:Shared)(e:Value)(i:Shared),r w [] H s (λ_ _ _=>False) e i->False):
  PySem.W.WalkO q D N t l.row.toRowW d [] (λf vs=>PySem.call f vs):=by
 refine Att.attach_call T L λw a1 P b Z g o a4 Y a5 a vs ns c O a3 a0 a2 J z W m I=>?_;have KX:=M w _ O;obtain⟨j,X,C⟩:=F w b g _ KX c.T.g J;exact Fh KX c.T.g c.T.b c.T.builtins c.T.nolimit I z W (yC m S) hr C X (λH U R=>G w H a ns m U R) λH e i=>y w H P e i
def cT(s:Stmt)(j:Nat):Stmt:=match s with
 |.ClassDef _ _ _ body _ _ _ _ _ _ _=>body.getD j (.Pass ⟨0,0,0,0⟩)
 |_=>.Pass ⟨0,0,0,0⟩
def jB(s:Stmt):Arguments:=match s with
 |.FunctionDef _ a _ _ _ _ _ _ _ _=>a
 |_=>{posonlyargs:=[],args:=[],vararg:=none,kwonlyargs:=[],kw_defaults:=[],kwarg:=none,defaults:=[]}
def lR(s:Stmt):List Stmt:=match s with
 |.FunctionDef _ _ b _ _ _ _ _ _ _=>b
 |_=>[]
def oU(s:Stmt):Scope:=match s with
 |.FunctionDef _ _ _ _ _ _ sc _ _ _=>sc
 |_=>{kind:=.function,names:=[],isGenerator:=false,isCoroutine:=false}
abbrev CX0:CXT:=λ_ _ _ _ _ _=>False
abbrev E0:XK:=λ_ _ _=>False
theorem fA{X:Cx}:iC CX0 X E0:=λ_ _ _ _ _ _ _ h=>h.elim
structure Fun(K:Frag)(x qual:Str)(st:Stmt)(f:Addr)(fd:FuncData):Prop where
 ex:∃(oc:Value)(od:Option Addr)(kV doc pm:Value)(an:Option Addr)(cdv ct:Value)(osl:Array (Option Value)),
  fd=PySem.W.fnOf x qual (jB st) (lR st) (oU st) .none kV doc pm an cdv ct/\K.lookup f=some ⟨oc,od,.func fd,osl⟩/\PySem.W.codeIn K cdv qual=true
 kp:PySem.W.keepIn K (.ref f)=true
section
variable {P:Program} {w:World} {K:Frag} {mg:MT} {base:Heap}
theorem Fun.ok{x c:Str}{st:Stmt}{f:Addr}{d:FuncData}{N ps:List Str}{k:Nat}{b:Sp}(F:Fun K x c st f d)(e:nF N ps (oU st))(len:∀vs H Q E,b vs H Q E->vs.length=ps.length)
  (i:∀(cdv:Value)(A:Around)(outer:List Env)(s:Shared)(H:Hp)(vs:List V)(Q:VK)(E:XK),Room k (A.deeper (envOfC c (oU st) s.heap.objs.size f cdv))->b vs H Q E ->
   ∃a,PSs (cxOf CX0 P w K mg base N c (oU st) f cdv A outer s H E).nox (lR st) a/\a {nx:=λ_ H'=>Q .non H',rt:=Q} (start N vs) H):FnOk P w K mg base CX0 (k+1) f d ps b:=by
 obtain⟨r,od,kV,o,t,p,cdv,n,m,rfl,g,j⟩:=F.ex;refine cO g j e len λA outer s H vs Q E hr l=>?_;obtain⟨a,h,q⟩:=i cdv A outer s H vs Q E hr l;exact⟨a,h.nox,q⟩
theorem Fun.binds{x e:Str}{st:Stmt}{f:Addr}{g:FuncData}{ps:List Str}(F:Fun K x e st f g)
  (h:∀(kV b d:Value)(c:Option Addr)(cdv a:Value)(us:LW),us.length=ps.length->bindArgs (PySem.W.fnOf x e (jB st) (lR st) (oU st) .none kV b d c cdv a) ⟨us,[]⟩=pure (ps.zip us)):mM K g ps []:=by
 obtain⟨j,od,kV,b,d,c,cdv,a,l,rfl,i,k⟩:=F.ex;exact .all (h kV b d c cdv a)
theorem fun_mk{x a:Str}{st:Stmt}{f:Addr}{i:Value}{od e:Option Addr}{j:Array (Option Value)}{kV d g cdv b:Value}(l:K.lookup f=some ⟨i,od,.func (PySem.W.fnOf x a (jB st) (lR st) (oU st) .none kV d g e cdv b),j⟩)
  (c:PySem.W.codeIn K cdv a=true)(k:PySem.W.keepIn K (.ref f)=true):Fun K x a st f (PySem.W.fnOf x a (jB st) (lR st) (oU st) .none kV d g e cdv b):=⟨⟨i,od,kV,d,g,e,cdv,b,j,rfl,l,c⟩,k⟩
end
theorem iU{n:Nat}(h:n<=1000):n<sizeLine:=wF h ∅
section
variable {X:Cx}
theorem pv(i:Nat){x:Str}{pos:Pos}(c:X.N[i]?=some x:=by rfl)(b:Vis X.env.scope x:=by first|exact Or.inl rfl|exact Or.inr (Or.inl rfl)|exact Or.inr (Or.inr rfl))(d:(x == ("__debug__" :Str))=false:=by decide)
  (a:(x == ("__classdict__" :Str))=false:=by decide):PE X (.Name x pos) (tVar i):=Mv c b d a
end
theorem iteF{A B:Prop}(h:B):if false=true then A else B:=by
 rw[zD zQ];exact h
theorem iteT{A B:Prop}(h:A):if true=true then A else B:=by
 rw[zF rfl];exact h
theorem ite2{c A B:Prop}[Decidable c](a:c->A)(b:¬ c->B):if c then A else B:=by
 by_cases h:c
 ·rw[zF h];exact a h
 ·rw[zD h];exact b h
def Same(H H':Hp):Prop:=∀b o,H b=some o->H' b=some o
theorem Same.refl(H:Hp):Same H H:=λ_ _ h=>h
theorem Same.trans{H H1 H2:Hp}(a:Same H H1)(b:Same H1 H2):Same H H2:=λc o h=>b c o (a c o h)
theorem Same.free{H H':Hp}(e:Same H H'){l:Addr}(h:H' l=Option.none):H l=Option.none:=by
 cases q:H l with
 |none=>rfl
 |some o =>
  rw[e l o q]at h;cases h
theorem Same.seq{K:Frag}{H H':Hp}{a:Addr}{xs:List V}(e:Same H H')(h:SqL K H a xs):SqL K H' a xs:=by
 rcases h with(h|⟨o,h⟩)|h
 ·exact .inl (.inl (e _ _ h))
 ·exact .inl (.inr ⟨o,e _ _ h⟩)
 ·exact .inr h
end L2
set_option maxHeartbeats 4000000
namespace L2
open PySem PySem.Spec PyProof.Rows
open PySem.W (Frag)
inductive E1{T0:Type}(P:T0->Prop):Prop
 |mk (x0:T0):P x0->E1 P
inductive E2{T0 T1:Type}(P:T0->T1->Prop):Prop
 |mk (x0:T0) (x1:T1):P x0 x1->E2 P
inductive E3{T0 T1 T2:Type}(P:T0->T1->T2->Prop):Prop
 |mk (x0:T0) (x1:T1) (x2:T2):P x0 x1 x2->E3 P
inductive E4{T0 T1 T2 T3:Type}(P:T0->T1->T2->T3->Prop):Prop
 |mk (x0:T0) (x1:T1) (x2:T2) (x3:T3):P x0 x1 x2 x3->E4 P
inductive E5{T0 T1 T2 T3 T4:Type}(P:T0->T1->T2->T3->T4->Prop):Prop
 |mk (x0:T0) (x1:T1) (x2:T2) (x3:T3) (x4:T4):P x0 x1 x2 x3 x4->E5 P
inductive E6{T0 T1 T2 T3 T4 T5:Type}(P:T0->T1->T2->T3->T4->T5->Prop):Prop
 |mk (x0:T0) (x1:T1) (x2:T2) (x3:T3) (x4:T4) (x5:T5):P x0 x1 x2 x3 x4 x5->E6 P
inductive E7{T0 T1 T2 T3 T4 T5 T6:Type}(P:T0->T1->T2->T3->T4->T5->T6->Prop):Prop
 |mk (x0:T0) (x1:T1) (x2:T2) (x3:T3) (x4:T4) (x5:T5) (x6:T6):P x0 x1 x2 x3 x4 x5 x6->E7 P
inductive E8{T0 T1 T2 T3 T4 T5 T6 T7:Type}(P:T0->T1->T2->T3->T4->T5->T6->T7->Prop):Prop
 |mk (x0:T0) (x1:T1) (x2:T2) (x3:T3) (x4:T4) (x5:T5) (x6:T6) (x7:T7):P x0 x1 x2 x3 x4 x5 x6 x7->E8 P
inductive E9{T0 T1 T2 T3 T4 T5 T6 T7 T8:Type}(P:T0->T1->T2->T3->T4->T5->T6->T7->T8->Prop):Prop
 |mk (x0:T0) (x1:T1) (x2:T2) (x3:T3) (x4:T4) (x5:T5) (x6:T6) (x7:T7) (x8:T8):P x0 x1 x2 x3 x4 x5 x6 x7 x8->E9 P
inductive A3(a b c:Prop):Prop|mk:a->b->c->A3 a b c
inductive A4(a b c d:Prop):Prop|mk:a->b->c->d->A4 a b c d
inductive A5(a b c d e:Prop):Prop|mk:a->b->c->d->e->A5 a b c d e
inductive A6(a b c d e f:Prop):Prop|mk:a->b->c->d->e->f->A6 a b c d e f
inductive A7(a b c d e f g:Prop):Prop|mk:a->b->c->d->e->f->g->A7 a b c d e f g
inductive A8(a b c d e f g h:Prop):Prop|mk:a->b->c->d->e->f->g->h->A8 a b c d e f g h
inductive A9(a b c d e f g h i:Prop):Prop|mk:a->b->c->d->e->f->g->h->i->A9 a b c d e f g h i
inductive A10(a b c d e f g h i j:Prop):Prop|mk:a->b->c->d->e->f->g->h->i->j->A10 a b c d e f g h i j
inductive A11(a b c d e f g h i j k:Prop):Prop|mk:a->b->c->d->e->f->g->h->i->j->k->A11 a b c d e f g h i j k
inductive A17(a b c d e f g h i j k l m n o p q:Prop):Prop|mk:a->b->c->d->e->f->g->h->i->j->k->l->m->n->o->p->q->A17 a b c d e f g h i j k l m n o p q
def clOf(env:Env):List (Str×NameKind)->List (Str×Addr)->List (Str×Addr)
 |[],cs=>cs
 |(n,k):: r,cs=>clOf env r (if k == .free then(n,(env.cells.lookup n).getD 0):: cs else cs)
theorem Aj{env:Env}{n:Str}{c:Addr}:∀{l:List (Str×NameKind)}{cs:List (Str×Addr)},(∀y∈l,y.2=.free->∃c,env.cells.lookup y.1=some c) ->
  (clOf env l cs).lookup n=some c->cs.lookup n=some c\/env.cells.lookup n=some c
 |[],_,_,h=>.inl h
 | (m,k):: r,cs,hl,h=>by
  have hr:∀y∈r,y.2=.free->∃c,env.cells.lookup y.1=some c:=λy i=>hl y (zT _ i);rcases Aj hr h with q|q
  ·by_cases a:(k == NameKind.free)=true
   ·rw[zF a]at q;obtain⟨d,e⟩:=hl (m,k) yD (by simpa using a);rw[xH]at q;cases hm:n == m with
    |true =>
     rw[hm]at q;have b:(env.cells.lookup m).getD 0=c:=zU q;have g:n=m:=by simpa using hm
     rw[e]at b;have f:d=c:=b;rw[g,e,f];exact .inr rfl
    |false =>
     rw[hm]at q;exact .inl q
   ·rw[zD a]at q;exact .inl q
  ·exact .inr q
theorem Ai{env:Env}{n:Str}:∀{l:List (Str×NameKind)}{cs:List (Str×Addr)},((n,NameKind.free)∈l\/∃c,cs.lookup n=some c)->∃c,(clOf env l cs).lookup n=some c
 |[],_,h=>by
  rcases h with h|h
  ·simp at h
  ·exact h
 | (m,k):: r,cs,h=>by
  refine Ai (l:=r) ?_
  by_cases b:(n,NameKind.free)∈r
  ·exact .inl b
  ·refine .inr ?_;rcases h with h|⟨c,h⟩
   ·rcases xC.mp h with e|e
    ·cases e;rw[zF ∅];exact⟨(env.cells.lookup n).getD 0,by rw[xH];simp⟩
    ·exact absurd e b
   ·by_cases a:(k == NameKind.free)=true
    ·rw[zF a,xH];cases hm:n == m with
     |true=>exact⟨_,rfl⟩
     |false=>exact⟨c,h⟩
    ·rw[zD a];exact⟨c,h⟩
theorem Fg{d:Scope}{env:Env}(h:∀y∈d.names,y.2=.free->∃c,env.cells.lookup y.1=some c):closureFor d env=pure (clOf env d.names []):=by
 have go:∀(l:List (Str×NameKind))(cs:List (Str×Addr)),(∀y∈l,y.2=.free->∃c,env.cells.lookup y.1=some c) ->
   (forIn l cs (λ(x:Str×NameKind)(r:List (Str×Addr))=>if x.2 == NameKind.free then(do let a ←cellOf env x.1;pure (ForInStep.yield ((x.1,a):: r))) else(pure (ForInStep.yield r):Sem _)):Sem _)=pure (clOf env l cs):=by
  intro l
  induction l with
  |nil=>intro cs _;rfl
  | cons y r f =>
   intro cs hl;obtain⟨n,k⟩:=y;have hr:∀y∈r,y.2=.free->∃c,env.cells.lookup y.1=some c:=λy g=>hl y (zT _ g);rw[uK]
   by_cases b:(k == NameKind.free)=true
   ·obtain⟨c,e⟩:=hl (n,k) yD (by simpa using b);have e1:cellOf env n=pure c:=by unfold cellOf;rw[show env.cells.lookup n=some c from e]
    dsimp only;rw[zF b,e1];simp only[pure_bind];rw[f _ hr];show _=pure (clOf env r _);rw[zF b,show env.cells.lookup n=some c from e]
    all_goals rfl
   ·dsimp only;rw[zD b];simp only[pure_bind];rw[f _ hr];show _=pure (clOf env r _);rw[zD b]
 have e:closureFor d env=(forIn d.names ([]:List (Str×Addr)) (λ(x:Str×NameKind)(r:List (Str×Addr))=>if x.2 == NameKind.free then(do let a ←cellOf env x.1;pure (ForInStep.yield ((x.1,a):: r))) else(pure (ForInStep.yield r):Sem _)):Sem _):=by
  unfold closureFor
  first
   |rfl
   |(simp only[bind_pure];rfl)
   |(simp;done)
 rw[e];exact go _ _ h
theorem Ff{env:Env}:∀{b:List (Str×NameKind)}{x:Str},b.lookup x=some .free ->
  (b.map λ(n,k)=>if(k == NameKind.free && env.scope.kind == .function && env.kindOf n == some .cell) then(n,NameKind.cell) else(n,k)).lookup x=some .cell \/
  (b.map λ(n,k)=>if(k == NameKind.free && env.scope.kind == .function && env.kindOf n == some .cell) then(n,NameKind.cell) else(n,k)).lookup x=some .free
 |[],_,h=>by simp at h
 | (n,k):: r,x,h=>by
  have c:=@Ff env r x;cases hx:x == n with
  |true =>
   simp only[List.lookup_cons,hx]at h;cases h
   by_cases a:(NameKind.free == NameKind.free && env.scope.kind == .function && env.kindOf n == some .cell)=true
   ·refine .inl ?_;rw[zN];dsimp only;rw[zF a,xH,hx]
   ·refine .inr ?_;rw[zN];dsimp only;rw[zD a,xH,hx]
  |false =>
   simp only[List.lookup_cons,hx]at h;rw[zN];dsimp only
   by_cases a:(k == NameKind.free && env.scope.kind == .function && env.kindOf n == some .cell)=true
   ·rw[zF a,xH,hx];exact c h
   ·rw[zD a,xH,hx];exact c h
structure cU(X:Cx)(scope:Scope)(x:Str)(fr:List (Str×Nat)):Prop where
 kind:scope.kind=.function
 cell:∀y∈scope.names,y.2≠.cell
 free:∀y∈scope.names,y.2=.free->X.env.kindOf y.1=some .cell\/X.env.kindOf y.1=some .free
 loc:∀y∈scope.names,y.2=.local->scope.names.lookup y.1=some .local
 name:scope.names.lookup x=some .local
 nd:(x:: fr.map (·.1)).Nodup
 fr:∀p∈fr,X.N[p.2]?=some p.1/\scope.names.lookup p.1=some .free
def mX(fr:List (Str×Nat))(σ:St):St:=fr.map λp=>σ.getD p.2 none
section
variable {X:Cx} {scope:Scope} {x:Str} {fr:List (Str×Nat)}
theorem cU.cells{b:PN}{a:St}{H:Hp}{s:Shared}(c:cU X scope x fr)(I:Inv X b a H s):∀y∈scope.names,y.2=.free->∃c,X.env.cells.lookup y.1=some c:=
 λy d e=>I.ok.has y.1 (c.free y d e)
theorem cU.was{d:PN}{a:St}{H:Hp}{s:Shared}(c:cU X scope x fr)(I:Inv X d a H s){y:Str}{b:Addr}(h:(clOf X.env scope.names []).lookup y=some b):X.env.cells.lookup y=some b:=by
 rcases Aj (c.cells I) h with q|q
 ·simp at q
 ·exact q
def Fe(i:Nat)(te:TE):TS:=λD σ H=>te σ H λv H1=>D.nx (σ.set i (some v)) H1
end
def Dc(h:Heap)(e:Addr)(o:Option Addr):Prop:=∃oe,h.get? e=some oe/\∀dx,o=some dx->oe.dict=some dx
theorem Om(o:Obj)(f:Array Value->Array Value):(o.mapFields f).dict=o.dict:=by
 unfold Obj.mapFields;split <;> rfl
section
variable {M:Model} {A:Around} {E:VP} {s:Shared}
theorem Ah{base:Heap}{env:Env}{outer:List Env}{L e:Addr}{g:Obj}{vs:Array Value}{head a0:Value}{N:Bool}{Q:Unit->Shared->Prop}(R:A.frames=some (env:: outer))(hl:s.heap.FunFrames base (env:: outer))(G:env.frame=some L)
  (n:s.heap.get? e=some g)(I:base.StaysIn s.heap)(F:base.get? e=none)(j:g.data=.fields vs)(hsz:1<vs.size)(O:vs[0]?=some a0){od:Option Addr}(J:∀k,od=some k->g.dict=some k)
  (h:∀h',Heap.NotedW base (env:: outer) e g.cls a0 (rawInt L) s.heap h'->Dc h' e od->Q () {s with heap:=h'}):
  wpAny M A (do let a ←frameOf env;let pl ←entryPlaceOf L N;let b ←EntryCells.newEntry head a .none (rawInt L) .none pl;setField (.ref e) 1 b) Q E s:=by
 have K:e∉(env:: outer).filterMap (·.frame):=by
  intro m;have⟨_,o,t,f⟩:=hl.mem m;rw[n]at t;cases t;exact f vs j
 refine zA (wpAny_frameOf_fun R hl G λc l=>zA (wpAny_entryPlaceOf λpl C=>?_));unfold EntryCells.newEntry newFields;refine zA (xD ?_ (C.sizeOk5 _ _ _ _ _));have r:c.get? e=some g:=(l.2.1 e K).trans n;have b1:base.StaysIn c:=λb o q=>(l.2.1 b (by intro m;rw[(hl.mem m).1]at q;cases q)).trans (I b o q);generalize hT:({cls:=.type "traceback",dict:=none,data:=.fields ([head,.ref L,.none,rawInt L,.none]++(if pl.isEmpty then List.replicate 6 Value.none else pl)).toArray}:Obj)=i;have w:=zC (h:=c) i r;refine vG w j hsz ?_;have v:c.objs.size≠e:=tU (zI r);have x:=wW j (·.setIfInBounds 1 (Value.ref c.objs.size));have u:=yX (Obj.mapFields (·.setIfInBounds 1 (Value.ref c.objs.size))) w (uW x);have P:((c.push i).update e (Obj.mapFields (·.setIfInBounds 1 (Value.ref c.objs.size)))).get? c.objs.size=some i:=(xK _ _ (zZ v)).trans (zR c (by subst hT;rfl));have p:∀b o,b≠e->c.get? b=some o->((c.push i).update e (Obj.mapFields (·.setIfInBounds 1 (Value.ref c.objs.size)))).get? b=some o:=λb o q d=>(xK _ _ (zZ q)).trans (zC _ d);have D:∀b o,s.heap.get? b=some o->(∀vs,o.data≠.fields vs)->b≠e:=λb o d f q=>by
  rw[q,n]at d;cases d;exact f vs j
 refine h _ ⟨λb o q=>p b o (by intro z;rw[z,F]at q;cases q) (b1 b o q),hl.of_keeps λb o d f=>?_,?_,λb o d f=>?_⟩ ⟨_,u,λk q=>(Om _ _).trans (J k q)⟩
 ·obtain⟨y,q⟩:=l.2.2 b o d;exact⟨_,p b _ (D b o d f) q,rfl⟩
 ·subst hT;exact⟨_,_,c.objs.size,_,_,u,⟨qJ _ _,by rw[Array.getElem?_setIfInBounds_ne ∅];exact O⟩,x,by simp[hsz],b1.fresh,v,P,rfl,by first|(simp;done)|(rcases C with rfl|⟨_,_,_,_,_,_,_,rfl⟩ <;> simp)⟩
 ·obtain⟨y,q⟩:=l.2.2 b o d;exact⟨y,p b _ (D b o d f) q⟩
theorem Fd{base:Heap}{l:List Env}{e:Addr}{r a0 fl:Value}{Q:Unit->Shared->Prop}(y:base.StaysIn s.heap)(hl:s.heap.FunFrames base l)(F:s.heap.TracedAtW base e r a0 fl){od:Option Addr}(G:Dc s.heap e od)
  (h:∀h',base.StaysIn h'->h'.FunFrames base l->h'.TracedW base e r a0->Dc h' e od->s.heap.UpToSlots h'->Q () {s with heap:=h'}):wpAny M A (setFlight (.ref e) none) Q E s:=by
 obtain⟨u,vs,T,I,ts,i,D,n,p,w,k,j,g,x⟩:=F;obtain⟨J,m,C⟩:=G;rw[i]at m;cases m;have t:3<ts.size:=(oB.mp x).1;have c:∀b,b≠T->(s.heap.update T (Obj.mapFields (·.setIfInBounds 3 ((none:Option Addr).elim Value.none λf=>rawInt f)))).get? b=s.heap.get? b:=λb q=>xK _ _ (zZ q);have v:∀b o,s.heap.get? b=some o->(∀vs,o.data≠.fields vs)->b≠T:=λb o a d q=>by
  rw[q,j]at a;cases a;exact d ts g
 unfold setFlight;refine zA (yY i n p ?_);rw[zF (show(Value.ref T != Value.none)=true by simp)];refine vG j g t (h _ (λb o q=>(c b (by intro z;rw[z,w]at q;cases q)).trans (y b o q)) (hl.of_keeps λb o a d=>⟨o,(c b (v b o a d)).trans a,rfl⟩) ?_ ⟨u,(c e (zZ k)).trans i,C⟩ λb o a d=>⟨o.slots,(c b (v b o a d)).trans a⟩);exact⟨u,vs,T,_,_,(c e (zZ k)).trans i,D,n,p,w,k,yX _ j (uW (wW g _)),wW g _,by simp[t]⟩
theorem Fc{base:Heap}{env:Env}{outer:List Env}{L e:Addr}{n a0:Value}{Q:Unit->Shared->Prop}(R:A.frames=some (env:: outer))(t:env.frame=some L)(y:Heap.FlyingW base (env:: outer) e n a0 s.heap){od:Option Addr}(N:Dc s.heap e od)
  (J:∀h',Heap.HeldW base (env:: outer) e n a0 L h'->Dc h' e od->s.heap.UpToSlots h'->Q () {s with heap:=h'}):wpAny M A (noteFrame (.ref e) env) Q E s:=by
 obtain⟨v,r,w,V,vs,T,S,ts,j,⟨G,K⟩,l,m,P,x,g,i,p⟩:=y;obtain⟨U,k,F⟩:=N;rw[j]at k;cases k;subst G;unfold noteFrame;simp only[t];refine zA (yY j l m ?_);rw[zF (show(Value.ref T != Value.none)=true by simp)];refine zA (yY g i p ?_);rw[zD (show¬ ((Value.none == rawInt L)=true) by simp[rawInt])];refine zA (vG g i (oB.mp p).1 ?_);have f:∀b,b≠T->(s.heap.update T (Obj.mapFields (·.setIfInBounds 3 Value.none))).get? b=s.heap.get? b:=λb q=>xK _ _ (zZ q);have u:∀b o,s.heap.get? b=some o->(∀vs,o.data≠.fields vs)->b≠T:=λb o a d q=>by
  rw[q,g]at a;cases a;exact d ts i
 refine Ah R (w.of_keeps λb o a d=>⟨o,(f b (u b o a d)).trans a,rfl⟩) t ((f e (zZ x)).trans j) (λb o q=>(f b (by intro z;rw[z,P]at q;cases q)).trans (v b o q)) r l (oB.mp m).1 K F λh'⟨D,C,I,O⟩c=>?_;exact J h' ⟨D,r,C,I⟩ c λb o a d=>O b o ((f b (u b o a d)).trans a) d
theorem cV{base:Heap}{l:List Env}{e L:Addr}{a a0:Value}{Q:Unit->Shared->Prop}(hh:Heap.HeldW base l e a a0 L s.heap){od:Option Addr}(i:Dc s.heap e od)
  (f:∀h',Heap.FlyingW base l e a a0 h'->Dc h' e od->s.heap.UpToSlots h'->Q () {s with heap:=h'}):wpAny M A (setFlight (.ref e) none) Q E s:=
 let ⟨d,j,g,k⟩:=hh;Fd d g k i λh' k1 k2 k3 c b=>f h' ⟨k1,j,k2,k3⟩ c b
theorem Ol{base:Heap}{l:List Env}{e:Addr}{a a0:Value}{Q:Unit->Shared->Prop}(hh:Heap.FlyingW base l e a a0 s.heap){od:Option Addr}(i:Dc s.heap e od)
  (f:∀h',Heap.FlyingW base l e a a0 h'->Dc h' e od->s.heap.UpToSlots h'->Q () {s with heap:=h'}):wpAny M A (setFlight (.ref e) none) Q E s:=
 let ⟨d,j,g,k⟩:=hh;Fd d g k.at i λh' k1 k2 k3 c b=>f h' ⟨k1,j,k2,k3⟩ c b
theorem Oj{base:Heap}{env:Env}{outer:List Env}{L e:Addr}{a a0:Value}{Q:Unit->Shared->Prop}(m:A.frames=some (env:: outer))(d:env.frame=some L)(k:Heap.FlyingW base (env:: outer) e a a0 s.heap){od:Option Addr}(l:Dc s.heap e od)
  (i:∀h',Heap.FlyingW base outer e a a0 h'->Dc h' e od->s.heap.UpToSlots h'->Q () {s with heap:=h'}):wpAny M A (leaving env (.ref e)) Q E s:=by
 unfold leaving;refine zA (Fc m d k l λj hh c o=>?_);refine cV (s:={s with heap:=j}) hh c λf⟨k1,k2,⟨_,_,k3⟩,n⟩g b=>i f ⟨k1,k2,k3,n⟩ g (o.trans b)
theorem Oi{base h:Heap}{env:Env}{outer:List Env}{L e:Addr}{f:Value}{l:LW}{Q:Unit->Shared->Prop}(C:A.frames=some (env:: outer))(g:env.frame=some L)(i:base.StaysIn h)(hl:h.FunFrames base (env:: outer))(c:Heap.MadeExcOf h s.heap e f l)
  (y:∀h' d,Heap.FlyingW base outer e f (.ref d) h'->Dc h' e none->s.heap.UpToSlots h'->Q () {s with heap:=h'}):wpAny M A (leaving env (.ref e)) Q E s:=by
 obtain⟨d,j,D,F⟩:=c.there;have fr:∀b,h.get? b=none->base.get? b=none:=λb a=>by
  cases hq:base.get? b with
  |none=>rfl
  |some t=>rw[i b t hq]at a;cases a
 unfold leaving noteFrame;simp only[g];refine zA (zA (yY j rfl (x:=.none) rfl ?_));rw[zD ∅];refine Ah C (hl.of_keeps λb o a _=>⟨o,c.keeps b o a,rfl⟩) g j (λb o a=>c.keeps b o (i b o a)) (fr e c.new) rfl (by simp) (a0:=.ref d) rfl (od:=none) (λ_ q=>by cases q) λk⟨n,m,w,z⟩p=>?_;refine cV (s:={s with heap:=k}) ⟨n,fr e c.new,m,w⟩ p λu⟨k1,k2,⟨_,_,k3⟩,x⟩v r=>y u d ⟨k1,k2,k3,x⟩ v (Heap.UpToSlots.trans z r)
end
theorem nM.there{P:Program}{w:World}{H:Hp}{h:Heap}{a:Addr}{o:HO}(x:nM P w H h a o):∃b,h.get? a=some b:=by
 cases o with
 |lst xs=>obtain⟨_,_,_,_,e⟩:=x;exact⟨_,e⟩
 |tup xs=>obtain⟨_,_,_,b,e,_⟩:=x;exact⟨b,e⟩
 |dK kvs=>obtain⟨_,_,_,_,o,_,_,e,_⟩:=x;exact⟨_,e⟩
 |dT kvs=>obtain⟨_,_,_,_,o,_,_,e,_⟩:=x;exact⟨_,e⟩
 |set c n=>obtain⟨o,_,_,_,e,_⟩:=x;exact⟨_,e⟩
 |ins C g fs=>obtain⟨_,_,_,e,_⟩:=x;exact⟨_,e⟩
 |own y=>exact x
 |xd fs=>obtain⟨_,⟨_,_,_,e,_⟩,_⟩:=x;exact⟨_,e⟩
 |rng lo hi=>obtain⟨_,_,_,e⟩:=x;exact⟨_,e⟩
 |frz b u=>exact⟨_,x.1⟩
 |tbl ps=>exact⟨_,x⟩
 |met f y=>exact⟨_,x⟩
 |ext d=>exact x.2.1
abbrev Cov(fs:LA)(h₀:Heap)(H:Hp)(h B:Heap):Prop:=∀b o,h.get? b=some o->b∉fs->((∃o',h₀.get? b=some o')\/∃u,H b=some u)->B.get? b=some o
def FlyX(X:Cx)(pins:PN)(H:Hp)(e:Addr)(C:Value)(od:Option Addr)(h:Heap):Prop:=(∃B a0,Heap.FlyingW B X.stack e C a0 h/\Cov (frs X.stack) X.s₀.heap H h B/\∀p∈X.pn++pins,B.get? p.1=some p.2)/\Dc h e od
def CX1(P:Program)(w:World):CXT:=λouter H s E ev s'=>∃e C od H' B a0,ev=.ref e/\s'.os=s.os/\AllBare s'.gens/\Un (frs outer) [] H H' s.heap s'.heap/\HOk P w H' s'.heap /\
 Heap.FlyingW B outer e C a0 s'.heap/\Cov (frs outer) s.heap H' s'.heap B/\Dc s'.heap e od/\E C od H'
abbrev XE:=St->Value->Option Addr->Hp->Prop
def fB(X:Cx)(EX:XE):Prop:=∀(pins:PN)(σ:St)(H:Hp)(s:Shared)(e:Addr)(C:Value)(od:Option Addr),Inv X pins σ H s->FlyX X pins H e C od s.heap->EX σ C od H->X.xe (.ref e) s
def Fb(X:Cx)(EX:XE):Prop:=∀(pins:PN)(σ:St)(H:Hp)(s:Shared)(h':Heap)(e:Addr)(C:Value)(vs:LW),Inv X pins σ H s->Heap.MadeExcOf s.heap h' e C vs->EX σ C none H->X.xe (.ref e) {s with heap:=h'}
theorem cW{X:Cx}{F:PN}{G:St}{H:Hp}{s:Shared}{g B:Heap}(I:Inv X F G H s)(D:X.stack=X.env:: X.outer)(M:X.env.frame=some X.env.locals)(C:X.ex=[])
  (stay:B.StaysIn g)(sm:s.heap.UpToSlots g)(t:Cov (frs X.stack) X.s₀.heap H s.heap B):
  Un X.fs [] X.H₀ H X.s₀.heap g/\HOk X.prog X.w H g/\Cov X.fs X.s₀.heap H g B:=by
 have u:=I.base;rw[C]at u;have L:frs X.stack=X.env.locals:: X.fs:=by
  rw[D];unfold frs;rw[tM,M];rfl
 have m:∀b o,X.s₀.heap.get? b=some o->b∉X.fs->b∉frs X.stack:=λb o e c l=>by
  rw[L]at l;rcases xC.mp l with z|z
  ·exact absurd (zJ (zI e) I.ok.above) (by rw[z];exact yW _)
  ·exact c z
 have trk:∀b v,H b=some v->b∉frs X.stack:=λb v e l=>by
  have:=I.stkFree b l;rw[e]at this;cases this
 have i:∀b o,s.heap.get? b=some o->b∉frs X.stack->((∃f,X.s₀.heap.get? b=some f)\/∃v,H b=some v)->g.get? b=some o:=λb o e c x=>stay b o (t b o e c x);have y:∀b,b∈X.fs->∀o,s.heap.get? b=some o->∃w,g.get? b=some {o with slots:=w}:=λb c o e=>by
  obtain⟨_,f,d,K⟩:=I.funs.mem c;rw[e]at d;cases d;exact sm b o e K
 refine⟨⟨λb o e n c k=>?_,λb o e n c k=>?_,u.free,λb o e k=>?_,u.tups,u.frzs,u.tbls⟩,λa o r=>?_,λb o e c x=>?_⟩
 ·exact i b o (u.keep b o e n c k) (m b o e c) (.inl ⟨o,e⟩)
 ·obtain⟨w,e1⟩:=u.slot b o e n c k;obtain⟨J,p⟩:=y b c _ e1;exact⟨J,p⟩
 ·obtain⟨j,e1⟩:=u.there b o e k
  by_cases c:b∈X.fs
  ·obtain⟨w,p⟩:=y b c _ e1;exact⟨_,p⟩
  ·exact⟨j,i b j e1 (m b o e c) (.inl ⟨o,e⟩)⟩
 ·refine(I.hok a o r).stay (λb v c q=>?_) (λ_ q=>q) λ_ _ q=>q;rcases c with c|c
  ·subst c;exact i b v q (trk b o r) (.inr ⟨o,r⟩)
  ·exact i b v q (trk b _ c) (.inr ⟨_,c⟩)
 ·rcases x with⟨f,d⟩|⟨v,d⟩
  ·obtain⟨j,e1⟩:=u.there b f d (by simp);have q:=i b j e1 (m b f d c) (.inl ⟨f,d⟩);rw[e]at q;cases q;exact t b o e1 (m b f d c) (.inl ⟨f,d⟩)
  ·obtain⟨j,e1⟩:=(I.hok b v d).there;have q:=i b j e1 (trk b v d) (.inr ⟨v,d⟩);rw[e]at q;cases q;exact t b o e1 (trk b v d) (.inr ⟨v,d⟩)
section
variable {P:Program} {w:World} {K:Frag} {mg:MT} {base:Heap} {N:List Str} {qual:Str} {scope:Scope} {f:Addr} {cd:Value} {A:Around} {outer:List Env} {s₀:Shared} {H₀:Hp} {E:XK}
theorem Ag:fB (cxOf (CX1 P w) P w K mg base N qual scope f cd A outer s₀ H₀ E) (λ_ C od H=>E C od H):=by
 intro j l H s e C od I F i;obtain⟨⟨B,a0,fl,g,_⟩,d⟩:=F;refine Oj I.ok.frames rfl fl d λk a b sm=>?_;obtain⟨un,ok,c⟩:=cW I rfl rfl rfl a.1 sm g;exact⟨e,C,od,H,B,a0,rfl,I.os,I.bare,un,ok,a,c,b,i⟩
theorem iD:Fb (cxOf (CX1 P w) P w K mg base N qual scope f cd A outer s₀ H₀ E) (λ_ C od H=>E C od H):=by
 intro p t H s h' e C vs I M l;have j:=I.stack;have k:=PySem.W.funFrames_hide (as:=frs (cxOf (CX1 P w) P w K mg base N qual scope f cd A outer s₀ H₀ E).stack) j (λenv m a g=>oJ.mpr ⟨env,m,g⟩);refine Oi (s:={s with heap:=h'}) (h:=s.heap) I.ok.frames rfl (λb o q=>qC _ q) k M λr u c d sm=>?_;obtain⟨un,ok,i⟩:=cW I rfl rfl rfl c.1 ((Heap.UpToSlots.of_keeps M.keeps).trans sm) λb o q n _=>rJ _ q n;exact⟨e,C,none,H,_,_,rfl,I.os,I.bare,un,ok,c,i,d,l⟩
end
section
variable {X:Cx} {EX:XE} {k:Nat} {f:Addr} {fd:FuncData} {ps:List Str} {sp:Sp} {dvs:List V} {ds:LW} {x:Str} {p pos:Pos} {e:Expr} {es:List Expr} {t:TA}
def Oh(sp:Sp)(dvs:List V)(EX:XE)(t:TA):TE:=λσ H Q=>t σ H λvs H1=>sp (vs++dvs) H1 Q λC od H'=>EX σ C od H'
theorem Og{d:PN}{c:St}{H:Hp}{s:Shared}{Q:VK}{us:LW}{vs:List V}(F:FnOk X.prog X.w X.K X.mg X.base (CX1 X.prog X.w) k f fd ps sp)(hr:Room k X.A)(i:mM X.K fd ps ds)(G:Vals dvs ds)(w:fB X EX)
  (D:X.ex=[])(I:Inv X d c H s)(r:Vals vs us)(h:sp (vs++dvs) H Q λC od H'=>EX c C od H'):wpAny (model X.prog X.w) X.A (call (.ref f) us) (EP X d c Q) X.xe s:=by
 have r2:Vals (vs++dvs) (us++ds):=r.append G;have hl:(us++ds).length=ps.length:=by rw[←r2.length];exact F.len _ _ _ _ h
 refine vJ (wZ (F.run X.A X.stack s H ⟨us,[]⟩ (us++ds) (vs++dvs) Q _ hr I.env0 (i s us I.kIn hl) r2 h) λr j a=>?_);cases r with
 | error S =>
  obtain⟨e,C,od,H',B,a0,rfl,N,P,un,ok,fl,m,K,q⟩:=a;have l:Inv X d c H' j:=I.call' N un ok P λb z=>absurd z (by simp);refine w d c H' j e C od l ⟨⟨B,a0,fl,λb o e1 i g=>m b o e1 i ?_,λp n=>?_⟩,K⟩ q
  ·rcases g with⟨L,O⟩|g
   ·obtain⟨y,v⟩:=I.base.there b L O (by rw[D];simp);exact .inl ⟨y,v⟩
   ·exact .inr g
  ·obtain⟨e1,T,M,R,_⟩:=l.pin p n;refine m p.1 p.2 e1 (λJ=>?_) (.inl ⟨_,(I.pin p n).1⟩);rcases xC.mp (I.stkSub p.1 J) with z|z
   ·exact M z
   ·exact R z
 |ok fl =>
  cases fl with
  |ret u=>exact I.after a
  |next=>exact False.elim a
  |brk=>exact False.elim a
  |cont=>exact False.elim a
theorem Af(F:FnOk X.prog X.w X.K X.mg X.base (CX1 X.prog X.w) k f fd ps sp)(hr:Room k X.A)(j:Gl X x)(l:X.mg x=some (.ref f))(g:PySem.W.keepIn X.K (.ref f)=true)(w:mM X.K fd ps ds)(n:Vals dvs ds)(d:fB X EX)
  (b:PA X (e:: es) t)(i:X.ex=[]:=by rfl)(m:(x == ("__debug__" :Str))=false:=by decide)(v:starEach (e:: es) X.env=(false,eval e X.env):: starEach es X.env:=by rfl)(u:(backTo pos (starEach es X.env)).any (·.1)=false:=by rfl):
  PE X (.Call (.Name x p) (e:: es) [] pos) (Oh sp dvs EX t):=by
 intro c s o H Q I h;refine xS (kZ I j l ?_ m);refine uN (h₀:=X.base) I.ok.mod.kin g (thn (b pos c s o H _ I h) λus y⟨vs,H1,a,r,q⟩=>⟨a.kIn,?_⟩) v u;exact Og F hr w n d i a r q
theorem eI{P:Program}{w:World}{Y:Cx}:iC (CX1 P w) Y E0:=λ_ _ _ _ _ _ _ h=>by
 obtain⟨_,_,_,_,_,_,_,_,_,_,_,_,_,_,q⟩:=h;exact q.elim
end
theorem Of{K:Frag}{h:Heap}{C:Addr}{f:LW}{newId:String}(KX:K.In h)(a:PySem.W.excIn K C f newId=true):
  ∃bm N nm c bs b sn sub ab col dd k0 k1 k2 k3 k5 mN,h.get? C=some (excClassObj nm c C N bs bm b sn sub ab col dd k0 k1 k2 k3 k5 newId)/\h.Ns N mN/\mN "__init__"=none/\OwnTail h f bm:=by
 revert a
 unfold PySem.W.excIn;split
 ·next dd j e t =>
  split
  ·next m bm k0 k1 k2 k3 w k5 q es =>
   intro a;simp only[Bool.and_eq_true,beq_iff_eq,Bool.not_eq_true']at a;obtain⟨⟨⟨⟨⟨e1,g⟩,o⟩,v⟩,d⟩,u⟩:=a;subst e1 g;cases j with
   | mk nm bs i ns c b sn sub ab col r =>
    have n:i=Value.ref m:: bm:=q;have k:r=false:=o;subst n k;have p:e=#[k0,k1,k2,k3,some (Value.builtin w),k5]:=by
     cases e with
     |mk l=>exact wD Array.mk es
    subst p;exact⟨bm,ns,nm,c,bs,b,sn,sub,ab,col,dd,k0,k1,k2,k3,k5,_,KX _ _ t,qX (rV KX d),PySem.W.nsMap_none_of_in KX d u,PySem.W.tail_of_in KX v⟩
  ·intro z;cases z
 ·intro z;cases z
theorem OwnTail.up{h h':Heap}{a bm:LW}(T:OwnTail h a bm)(k:∀b o,h.get? b=some o->h'.get? b=some o):OwnTail h' a bm:=T.keeps k
section
variable {X:Cx} {EX:XE} {C:Addr} {x:Str} {np cpos pos:Pos} {e₀:Expr} {rest:List Expr} {t:TA} {bmB:LW} {B newId initId:String}
def iE(C:Addr)(EX:XE)(t:TA):TS:=λ_ σ H=>t σ H λvs H1=>vs.length<=sizeLine/\EX σ (.ref C) none H1
theorem iF(F:X.calm=true)(i:Fb X EX)(m:Gl X x)(n:X.mg x=some (.ref C))(k:PySem.W.excIn X.K C bmB newId=true)(g:ExcBaseFacts B newId initId bmB)(w:PA X (e₀:: rest) t)
  (p:(x == ("__debug__" :Str))=false:=by decide)(f:starEach (e₀:: rest) X.env=(false,eval e₀ X.env):: starEach rest X.env:=by rfl)(y:(backTo cpos (starEach rest X.env)).any (·.1)=false:=by rfl):
  PS X (.Raise (some (.Call (.Name x np) (e₀:: rest) [] cpos)) none pos) (iE C EX t):=by
 intro c s d H D I h;obtain⟨bm,N,nm,q,bs,j,sn,sub,ab,col,dd,k0,k1,k2,k3,k5,mN,v,u,G,T⟩:=Of I.mod.kin k;have l:(backTo cpos (starEach (e₀:: rest) X.env)).any (·.1)=false:=by
  rw[f];show(false || (backTo cpos (starEach rest X.env)).any (·.1))=false;rw[y];rfl
 refine wpAny_Raise_call_subT (C:=C) (nm:=nm) (q:=q) (N:=N) (bs:=bs) (bm:=bm) (hdct:=j) (sn:=sn) (sub:=sub) (ab:=ab) (col:=col) (dd:=dd) (k0:=k0) (k1:=k1) (k2:=k2) (k3:=k3) (k5:=k5) g (mN:=mN) (T.hasType g.hasBase) (I.ok.hd F) l G
  (kZ I m n ⟨rfl,?_⟩ p)
 have b:=w cpos c s d H _ I h;rw[f]at b ⊢;refine tE (thn b λus J⟨vs,H2,a,r,z,o⟩=>⟨rfl,?_,a.bk _ _ v,u.keeps a.bk,T.keeps a.bk,λh' e M=>i c d H2 J h' e _ us a M o⟩);show us.length<=sizeLine;rw[←r.length];exact z
end
section
variable {X:Cx} {pins:PN} {σ:St} {H:Hp} {s:Shared}
theorem Inv.flown{h' B:Heap}(I:Inv X pins σ H s)(n:X.stack=X.env:: X.outer)(C:X.env.frame=some X.env.locals)(a:X.ex=[])(stay:B.StaysIn h')(sm:s.heap.UpToSlots h')(j:Cov (frs X.stack) X.s₀.heap H s.heap B)
  (w:∀p∈X.pn++pins,B.get? p.1=some p.2):Inv X pins σ H {s with heap:=h'}:=by
 obtain⟨un,ok,_⟩:=cW I n C a stay sm j;have f:∀c v,s.heap.IsCell c v->h'.IsCell c v:=λc v⟨o,e,d⟩=>by
  obtain⟨D,t⟩:=sm c o e λvs z=>by rw[d]at z;cases z
  exact⟨_,t,d⟩
 refine⟨I.ok,I.os,I.bare,by rw[a];exact un,?_,λx c e=>?_,I.free,I.freeC,λp b=>?_,ok,I.len⟩
 ·obtain⟨m,q,hl⟩:=I.loc;refine⟨m,sm.ns q,λi x v e1 g y=>?_⟩;obtain⟨u,r,l⟩:=hl i x v e1 g y;refine⟨u,r,?_⟩;rcases l with l|⟨k,c,e,z⟩
  ·exact .inl l
  ·exact .inr ⟨k,c,e,f c _ z⟩
 ·obtain⟨v,z⟩:=I.cell x c e;exact⟨v,f c v z⟩
 ·obtain⟨_,r⟩:=I.pin p b;exact⟨stay _ _ (w p b),r⟩
def kE(e:Addr)(C:Value)(od:Option Addr):HO:=.ext λh=>∃o,h.get? e=some o/\o.cls=C/\PySem.W.notCls o=true/\∀dx,od=some dx->o.dict=some dx
theorem Inv.trackE{e:Addr}{C:Value}{od:Option Addr}{d:Obj}{vs:Array Value}(I:Inv X pins σ H s)(j:s.heap.get? e=some d)(O:d.cls=C)(l:d.data=.fields vs)(w:∀t,od=some t->d.dict=some t)(L:H e=none)(K:X.s₀.heap.get? e=none)(N:∀p∈X.pn++pins,p.1≠e):
  Inv X pins σ (upd H e (kE e C od)) s:=by
 have i:∀b u,H b=some u->b≠e:=λb u q z=>by rw[z,L]at q;cases q
 have G:X.env.locals≠e:=λz=>by
  obtain⟨m,⟨o,es,ep,g,f,_⟩,_⟩:=I.loc;rw[z,j]at g;cases g;rw[l]at f;cases f
 have M:∀x c,X.env.cells.lookup x=some c->c≠e:=λx c q z=>by
  obtain⟨v,o,g,f⟩:=I.cell x c q;rw[z,j]at g;cases g;rw[l]at f;cases f
 have u:=I.base;refine⟨I.ok,I.os,I.bare,⟨u.keep,u.slot,λb o q n F=>?_,u.there,λb xs q=>?_,λb o v q=>?_,λb ps q=>?_⟩,I.loc,I.cell,?_,λx c q=>?_,λp D=>?_,λa o q=>?_,I.len⟩
 ·rw[oV (λz=>by rw[z,K]at q;cases q)];exact u.free b o q n F
 ·have:=u.tups b xs q;rw[oV (i _ _ this)];exact this
 ·have:=u.frzs b o v q;rw[oV (i _ _ this)];exact this
 ·obtain⟨m,e1⟩:=u.tbls b ps q;exact⟨m,by rw[oV (i _ _ e1)];exact e1⟩
 ·rw[oV G];exact I.free
 ·rw[oV (M x c q)];exact I.freeC x c q
 ·obtain⟨e1,J,r⟩:=I.pin p D;exact⟨e1,by rw[oV (N p D)];exact J,r⟩
 ·by_cases y:a=e
  ·subst y;rw[oS]at q;cases q;exact⟨⟨d,j,O,by unfold PySem.W.notCls;rw[l],w⟩,⟨d,j⟩,λP w⟨o,e1,r⟩k=>⟨o,k o e1,r⟩⟩
  ·rw[oV y]at q;exact(I.hok a o q).stay (λ_ _ _ z=>z) (λb z=>by rw[oV (i _ _ z)];exact z) λb xs z=>by rw[oV (i _ _ z)];exact z
theorem Inv.unbind{h':Heap}{m:MT}{u:Option Value}{i:Nat}{n:Str}(I:Inv X pins σ H s)(P:X.N.Nodup)(hi:X.N[i]?=some n)(hl:X.env.scope.names.lookup n=some .local)
  (S:s.heap.Ns X.env.locals m)(L:h'.Ns X.env.locals (λx=>if x=n then u else m x))(D:Heap.SameBut X.env.locals s.heap h')(N:∀(j:Nat) x v,X.N[j]?=some x->σ[j]?=some (some v)->Vis X.env.scope x->∃u,RelV v u/\Look X.env s.heap m x u):
  Inv X pins (σ.set i none) H {s with heap:=h'}:=by
 obtain⟨Y,V,W,Z,_⟩:=id S;have C:∀b o,X.s₀.heap.get? b=some o->b≠X.env.locals:=λb o e=>zX (zJ (zI e) I.ok.above);have t:∀b o,b≠X.env.locals->s.heap.get? b=some o->h'.get? b=some o:=λb o d e=>(D.2 b d).trans e;have K:∀b v,H b=some v->b≠X.env.locals:=λb v e z=>by rw[z,I.free]at e;cases e
 have g:=I.base;refine⟨I.ok,I.os,I.bare,⟨λb o e n d f=>t b o (C b o e) (g.keep b o e n d f),λb o e n d f=>?_,g.free,λb o e f=>?_,g.tups,g.frzs,g.tbls⟩,⟨_,L,λj x v e1 y O=>?_⟩,λx c e=>?_,I.free,I.freeC,λp U=>?_,λa o e=>?_,by simpa using I.len⟩
 ·obtain⟨T,e1⟩:=g.slot b o e n d f;exact⟨T,t b _ (C b o e) e1⟩
 ·obtain⟨F,e1⟩:=g.there b o e f;exact⟨F,t b F (C b o e) e1⟩
 ·have G:j≠i:=λz=>by
   subst z;have M:j<σ.length:=by rw[I.len];exact(oK.mp hi).1
   rw[xV M]at y;cases y
  rw[vX (zZ G)]at y;have f:x≠n:=λz=>G (Ax P e1 (z ▸ hi));obtain⟨w,r,l⟩:=N j x v e1 y O;refine⟨w,r,?_⟩;rcases l with⟨k,e⟩|⟨k,c,e,z⟩
  ·exact .inl ⟨k,by simp[f,e]⟩
  ·exact .inr ⟨k,c,e,z.sameBut D (I.cne x c e)⟩
 ·obtain⟨v,z⟩:=I.cell x c e;exact⟨v,z.sameBut D (I.cne x c e)⟩
 ·obtain⟨e1,R,J,r⟩:=I.pin p U;exact⟨t _ _ J e1,R,J,r⟩
 ·refine(I.hok a o e).stay (λb v d q=>t b v ?_ q) (λ_ q=>q) λ_ _ q=>q;rcases d with d|d
  ·rw[d];exact K a o e
  ·exact K b _ d
end
abbrev Cx.body(X:Cx)(pn:PN)(E:VP):Cx:={X with pn:=pn,xe:=E}
abbrev Cx.suite(X:Cx)(e:Addr):Cx:={X with A:=X.A.mark (some (.ref e)),calm:=false,xe:=λ_ _=>False}
section
variable {X:Cx} {pins pins':PN} {σ:St} {H:Hp} {s:Shared} {E:VP} {e:Addr}
theorem Inv.intry(I:Inv X pins σ H s):Inv (X.body (X.pn++pins) E) [] σ H s:=
 ⟨⟨I.ok.mod,I.ok.kind,I.ok.glob,I.ok.blt,I.ok.above,I.ok.inj,I.ok.has,I.ok.cab,I.ok.hd,I.ok.frames,I.ok.stk,I.ok.exf,I.ok.bs,I.ok.bsz,I.ok.noex,I.ok.exfs,I.ok.funs,I.ok.frf⟩,
  I.os,I.bare,I.base,I.loc,I.cell,I.free,I.freeC,λp a=>I.pin p (by simpa using a),I.hok,I.len⟩
theorem Inv.offtry(I:Inv (X.body (X.pn++pins) E) pins' σ H s):Inv X pins σ H s:=
 ⟨⟨I.ok.mod,I.ok.kind,I.ok.glob,I.ok.blt,I.ok.above,I.ok.inj,I.ok.has,I.ok.cab,I.ok.hd,I.ok.frames,I.ok.stk,I.ok.exf,I.ok.bs,I.ok.bsz,I.ok.noex,I.ok.exfs,I.ok.funs,I.ok.frf⟩,
  I.os,I.bare,I.base,I.loc,I.cell,I.free,I.freeC,λp a=>I.pin p (wJ _ a),I.hok,I.len⟩
theorem Inv.insuite(I:Inv X pins σ H s):Inv (X.suite e) pins σ H s:=
 ⟨⟨I.ok.mod,I.ok.kind,I.ok.glob,I.ok.blt,I.ok.above,I.ok.inj,I.ok.has,I.ok.cab,(λz=>by cases z),I.ok.frames,I.ok.stk,I.ok.exf,I.ok.bs,I.ok.bsz,I.ok.noex,I.ok.exfs,I.ok.funs,I.ok.frf⟩,
  I.os,I.bare,I.base,I.loc,I.cell,I.free,I.freeC,I.pin,I.hok,I.len⟩
theorem Inv.offsuite(I:Inv (X.suite e) pins σ H s)(ok:X.Ok):Inv X pins σ H s:=
 ⟨ok,I.os,I.bare,I.base,I.loc,I.cell,I.free,I.freeC,I.pin,I.hok,I.len⟩
theorem SP.offtry{D:Ends}{f:Flow}(h:SP (X.body (X.pn++pins) E) [] D f s):SP X pins D f s:=by
 cases f with
 |next=>obtain⟨a,H',b,q⟩:=h;exact⟨a,H',b.offtry,q⟩
 |brk=>obtain⟨a,H',b,q⟩:=h;exact⟨a,H',b.offtry,q⟩
 |cont=>obtain⟨a,H',b,q⟩:=h;exact⟨a,H',b.offtry,q⟩
 |ret u=>obtain⟨v,a,H',b,r,q⟩:=h;exact⟨v,a,H',b.offtry,r,q⟩
end
def Ends.gone(D:Ends)(i:Nat):Ends:={nx:=λσ H=>D.nx (σ.set i none) H,rt:=D.rt,bk:=λσ H=>D.bk (σ.set i none) H,ct:=λσ H=>D.ct (σ.set i none) H}
def tTry(K:Frag)(C0:Addr)(i:Nat)(tb:XE->TS)(ts:TS):TS:=λD σ H =>
 tb (λσ' C od H'=>PySem.W.exmOne K C (.ref C0)=some true/\∀e,H' e=none->ts (D.gone i) (σ'.set i (some (.ref e))) (upd H' e (kE e C od))) D σ H
section
variable {X:Cx} {C0:Addr} {x n:Str} {np hpos pos:Pos} {i:Nat} {body suite:List Stmt} {b₀:Stmt} {tb:XE->TS} {ts:TS}
theorem Oe{g:PN}{D:Ends}{f:Flow}{s:Shared}{e:Addr}(ok:X.Ok)(p:X.N.Nodup)(hi:X.N[i]?=some n)(hl:X.env.scope.names.lookup n=some .local)(h:SP (X.suite e) g (D.gone i) f s):
  wpAny (model X.prog X.w) X.A (do bindName X.env n .none;unbindBehindTheSuite X.env n hpos) (λ_ b=>SP X g D f b) X.xe s:=by
 have I:(X.env.scope.kind == .class || (X.env.scope.kind == .module && X.env.locals != X.env.globals))=false:=by rw[ok.kind];rfl
 have j:∀(a:St)(H':Hp),Inv (X.suite e) g a H' s->∀(R:Shared->Prop),(∀b,Inv X g (a.set i none) H' b->R b) ->
   wpAny (model X.prog X.w) X.A (do bindName X.env n .none;unbindBehindTheSuite X.env n hpos) (λ_ b=>R b) X.xe s:=by
  intro a H' c R G;have k:=c.offsuite ok;refine zA (pN (gE (v:=.non) k p hi (.inl hl) rfl (λM l=>?_) (.inr hl)));obtain⟨m,t,o⟩:=l.loc;have F:i<a.length:=by rw[k.len];exact(oK.mp hi).1
  obtain⟨u,N,J⟩:=o i n .non hi (xV F) (.inl hl);have K:m n=some u:=by
   rcases J with⟨_,z⟩|⟨z,_⟩
   ·exact z
   ·rcases z with z|z <;> (have y:X.env.scope.names.lookup n=_:=z;rw[hl]at y;cases y)
  unfold unbindBehindTheSuite;refine sK (yI (wpAny_unbindName_local hl t K I λh' v C L=>?_) (λ_ _ q=>q) λ_ _ q=>wA q);refine G _ ?_;have w:=l.unbind p hi hl t C L o;rw[List.set_set]at w;exact w
 cases f with
 |next=>obtain⟨a,H',c,q⟩:=h;exact j a H' c _ λb d=>⟨_,H',d,q⟩
 |brk=>obtain⟨a,H',c,q⟩:=h;exact j a H' c _ λb d=>⟨_,H',d,q⟩
 |cont=>obtain⟨a,H',c,q⟩:=h;exact j a H' c _ λb d=>⟨_,H',d,q⟩
 |ret u=>obtain⟨v,a,H',c,r,q⟩:=h;exact j a H' c _ λb d=>⟨v,_,H',d,r,q⟩
theorem Ae(d:X.stack=X.env:: X.outer)(L:X.env.frame=some X.env.locals)(N:X.ex=[])(W:X.N.Nodup)(hi:X.N[i]?=some n)(hl:X.env.scope.names.lookup n=some .local)
  (b0:Gl X x)(r:X.mg x=some (.ref C0))(d6:∀V E Z,fB (X.body V E) Z->PSs (X.body V E) body (tb Z))(d7:∀e,PSs (X.suite e) (b₀:: suite) ts)
  (b3:(x == ("__debug__" :Str))=false:=by decide):PS X (.Try body [.ExceptHandler (some (.Name x np)) (some n) (b₀:: suite) hpos] [] [] pos) (tTry X.K C0 i tb ts):=by
 intro c s b4 H D I h;refine wpAny_Try_except (yI (d6 (X.pn++c) (λG c6=>wpAny (model X.prog X.w) X.A (noteFrame G X.env) (λ_ b5=>wpAny (model X.prog X.w) X.A (setFlight G none) (λ_ b8 =>
  wpAny (model X.prog X.w) X.A (handleBy G X.env [.ExceptHandler (some (.Name x np)) (some n) (b₀:: suite) hpos]) (SP X c D) X.xe b8) X.xe b5) X.xe c6) _ ?_ [] s b4 H D I.intry h) (λf a q=>?_) λ_ _ q=>q)
 ·-- an exception arrives
  intro e3 g H' a e C od b6 F d1;obtain⟨d8,c5⟩:=d1;have m:Inv X c g H' a:=b6.offtry;obtain⟨⟨B,a0,fl,j,d2⟩,c2⟩:=F;have w:Heap.FlyingW B (X.env:: X.outer) e C a0 a.heap:=d ▸ fl;have b9:X.A.frames=some (X.env:: X.outer):=I.ok.frames.trans (by rw[d]);have J:∀p∈X.pn++c,B.get? p.1=some p.2:=λp K=>d2 p (wJ _ K)
  -- where e lies
  have l:∀b o,B.get? b=some o->b≠e:=λb o q z=>by have:=w.2.1;rw[←z,q]at this;cases this
  obtain⟨e0,a5,y,e5,c0,_⟩:=w.first;have P:e∉frs X.stack:=λr=>by
   obtain⟨_,o,R,d4⟩:=m.stack.mem r;rw[y]at R;cases R;exact d4 a5 c0
  have S:H' e=none:=by
   cases q:H' e with
   |none=>rfl
   |some v=>exact absurd rfl (l e _ (j e _ y P (.inr ⟨v,q⟩)))
  have d3:X.s₀.heap.get? e=none:=by
   cases q:X.s₀.heap.get? e with
   |none=>rfl
   |some o=>exact absurd rfl (l e _ (j e _ y P (.inl ⟨o,q⟩)))
  refine Fc b9 L w c2 λb2 c7 a8 O=>?_;refine cV (s:={a with heap:=b2}) c7 a8 λk t c8 U=>?_;have T:Inv X c g H' {a with heap:=k}:=m.flown d L N t.1 (O.trans U) j J;have b1:Inv (X.suite e) c g H' {a with heap:=k}:=T.insuite;obtain⟨d9,c4,a3⟩:=t.there;refine wpAny_handleBy_cons (codeAny_handlers_test (kZ (X:=X.suite e) b1 b0 r ?_ b3)) (by intro q;cases q);have a9:PySem.W.Looks (model X.prog X.w) k (typeOf (.ref e)) C:=by
   rw[←a3];exact(qW c4).andThen .now
  refine(PySem.W.exm_one T.kIn a9 d8).here ?_;show codeAny _ _ _ _ _;refine codeAny_handlers_suite_as ?_;refine Ol (s:={a with heap:=k}) t c8 λa7 Y d0 a2=>?_;have a6:Inv X c g H' {a with heap:=a7}:=m.flown d L N Y.1 ((O.trans U).trans a2) j J;obtain⟨e6,vs,a1,d5,a4,_⟩:=Y.first;obtain⟨e2,M,c3⟩:=d0;rw[a1]at M;cases M;have c9:=a6.trackE a1 d5 a4 c3 S d3 λp K=>l _ _ (J p K);refine gE (X:=X.suite e) c9.insuite W hi (.inl hl) (show RelV (.ref e) (.ref e) from rfl) (λb7 c1=>?_) (.inr hl);refine yI (d7 e c b7 _ _ _ c1 (c5 e S)) (λf e4 q=>?_) λ_ _ q=>q.elim;exact Oe I.ok W hi hl q
 ·cases f with
  |next=>exact tQ (SP.offtry q)
  |brk=>exact SP.offtry q
  |cont=>exact SP.offtry q
  |ret u=>exact SP.offtry q
end
section
variable {X:Cx}
theorem mG:OpR X (binaryOp .Mult) (rI (λi j=>IntMulOk i j) λi j=>.int (i*j)):=opI λ_ _ _ _ _ _ _ a q=>mul_int q a
def jJ(_ j:Int):Prop:=j≠0/\j.natAbs.log2<9000
theorem mB:OpR X (binaryOp .FloorDiv) (rI jJ λi j=>.int (i.fdiv j)):=opI λ_ _ _ _ _ _ _ a q=>floordiv_int a.1 q (.inl (PyProof.noPylong_of_log2 a.2))
end
mutual
inductive Dt(K:Frag)(H:Hp):V->PyData->Prop
 |non:Dt K H .non .none
 |bl (b):Dt K H (.bl b) (.bool b)
 |int (i):Dt K H (.int i) (.int i)
 |str (x):Dt K H (.str x) (.str x)
 |lst {a xs ds}:SqL K H a xs->Dts K H xs ds->Dt K H (.ref a) (.list ds)
 |tup {a xs ds}:SqT K H a xs->Dts K H xs ds->Dt K H (.ref a) (.tuple ds)
inductive Dts(K:Frag)(H:Hp):List V->List PyData->Prop
 |nil:Dts K H [] []
 |cons {x xs d ds}:Dt K H x d->Dts K H xs ds->Dts K H (x:: xs) (d:: ds)
end
theorem Dts.ints{K:Frag}{H:Hp}:∀(ns:LI'),Dts K H (ns.map V.int) (ns.map PyData.int)
 |[]=>.nil
 |n:: r=>.cons (.int n) (Dts.ints r)
section
variable {X:Cx} {pins:PN} {σ:St} {H:Hp} {s:Shared}
mutual
theorem Dt.reads(I:Inv X pins σ H s):∀{x:V}{d:PyData}{u:Value},Dt X.K H x d->RelV x u->∃as,Reads s.heap u d as
 |_,_,_,.non,r=>by cases(show _=Value.none from r);exact⟨_,.none⟩
 |_,_,_,.bl b,r=>by cases(show _=Value.bool b from r);exact⟨_,.bool b⟩
 |_,_,_,.int i,r=>by obtain⟨f,e⟩:=(show∃f,_=Value.int i f from r);cases e;exact⟨_,.int i f⟩
 |_,_,_,.str x,r=>by obtain⟨f,e⟩:=(show∃f,_=Value.str x f from r);cases e;exact⟨_,.str x f⟩
 |_,_,_,.lst (a:=a) h g,r=>by
  cases(show _=Value.ref a from r);obtain⟨its,j,⟨o,n,e,c,_,dd⟩,_⟩:=I.list h;obtain⟨as,q⟩:=Dts.reads I g j;exact⟨_,.list e c dd (by simpa using q)⟩
 |_,_,_,.tup (a:=a) h g,r=>by
  cases(show _=Value.ref a from r);obtain⟨its,j,⟨o,e,c,n,dd⟩,_⟩:=I.tuple h;obtain⟨as,q⟩:=Dts.reads I g j;exact⟨_,.tuple e c dd (by simpa using q)⟩
theorem Dts.reads(I:Inv X pins σ H s):∀{xs:List V}{ds:List PyData}{us:LW},Dts X.K H xs ds->Vals xs us->∃as,ReadsAll s.heap us ds as
 |_,_,_,.nil,r=>by cases r;exact⟨_,.nil⟩
 | _,_,_,.cons h a,r=>by
  cases r with
  |cons r1 r2 =>
   obtain⟨as,b⟩:=Dt.reads I h r1;obtain⟨bs,c⟩:=Dts.reads I a r2;exact⟨_,.cons b c⟩
end
end
section
variable {X:Cx}
def rEqD(K:Frag):R2:=λx y H Q=>∃d d',Dt K H x d/\Dt K H y d'/\SeqAt.shaped d=true/\SeqAt.shaped d'=true/\SeqAt.noMix d d'=true/\Q (.bl (same d d')) H
def rNeD(K:Frag):R2:=λx y H Q=>∃d d',Dt K H x d/\Dt K H y d'/\SeqAt.shaped d=true/\SeqAt.shaped d'=true/\SeqAt.noMix d d'=true/\Q (.bl (!same d d')) H
theorem Ad(f:X.A.units+64<cLine):OpR X (compareOp .NotEq) (rNeD X.K):=by
 intro k s l H x y v u Q I a b h;obtain⟨d,d',e,c,j,g,i,q⟩:=h;obtain⟨as,r1⟩:=e.reads I a;obtain⟨bs,r2⟩:=c.reads I b;exact ne_dataH_same r1 r2 j g f i ⟨.bl (!same d d'),H,I,rfl,q⟩
end
theorem PI.or{X:Cx}{b l:Expr}{e d:TI}(h:PI X b l e)(h':PI X b l d):PI X b l (λa H R=>e a H R\/d a H R):=by
 intro c s a H R I q;rcases q with q|q
 ·exact h c s a H R I q
 ·exact h' c s a H R I q
structure fC(K:Frag)(C:Addr):Prop where
 ga:PySem.W.findIn K (.ref C) "__getattribute__"=some (some (.builtin "BaseException.__getattribute__"))
 gt:PySem.W.findIn K (.ref C) "__getattr__"=some none
 ca:PySem.W.findIn K (.ref C) "__class__"=some (some (.builtin "object.__class__"))
 cg:PySem.W.specialIn K (.builtin "object.__class__") "__get__"=some (some (.builtin "getset_descriptor.__get__"))
 tk:PySem.W.takesIn K (.builtin "object.__class__")=some true
 ob:PySem.W.mroIn K C (.type "object")=some true
 bx:PySem.W.mroIn K C (.type "BaseException")=some true
 cl:(PySem.W.clsIn K C).isSome=true
theorem Od{prog:Program}{w:World}{A:Around}{E:VP}{s:Shared}{K:Frag}{x C:Addr}{Q:Option Value->Shared->Prop}(F:fC K C)(KX:K.In s.heap)(c:∃o,s.heap.get? x=some o/\o.cls=.ref C)
  (h:Q (some (.ref C)) {s with toks:=s.toks+1}):wpAny (model prog w) A (getAttr? (.ref x) "__class__") Q E s:=by
 obtain⟨hh,g,d,e,v⟩:=s;obtain⟨o,c,b⟩:=c;have a:PySem.W.Looks (model prog w) hh (typeOf (.ref x)) (.ref C):=b ▸ (qW c).andThen .now;have l:=wK (M:=model prog w) KX F.ga;have p:=wK (M:=model prog w) KX F.gt;have f:=wK (M:=model prog w) KX F.ca;have i:=PySem.W.looks_specialIn (M:=model prog w) KX F.cg;have u:=PySem.W.looks_takesIn (M:=model prog w) KX F.tk;have k:=tL (M:=model prog w) KX F.ob;have n:=tL (M:=model prog w) KX F.bx;unfold getAttr? getAttrBy? getAttrBy;refine zA (pS (zA (vB (yU (zA (a.at (zA (l.at ?_))))))));show wpAny _ _ (getAttrByItsOwn _ _ _ _ _ _) _ _ _;unfold getAttrByItsOwn;refine zA (show wpAny _ _ (hookBefore (.ref C)) _ _ _ from p.at ?_);refine zA (vB (yU ?_));show wpAny _ _ (boundAndCalled _ _ _) _ _ _;unfold boundAndCalled;rw[PySem.F.attr_ValueError.ga.bind (.ref x)];refine zA (zB (vJ ?_));refine vW PySem.F.attr_ValueError.ga.plain PySem.F.entry_bexc_ga ?_;have j:builtinKind "BaseException.__getattribute__"=some .slot:=nofun
 have q:splitId "BaseException.__getattribute__"=some ("BaseException","__getattribute__"):=nofun
 have y:=PySem.F.args_bexc_ga (.ref x) (.str "__class__" e);have t:PySem.W.Looks (model prog w) hh (isInstance (.ref x) (.type "BaseException")) true:=a.andThen n;show wpAny _ _ (checkBuiltinCall "BaseException.__getattribute__" ⟨[.ref x,.str "__class__" e],[]⟩) _ _ _;simp only[checkBuiltinCall,j,q];refine zA (t.at ?_)
 repeat wp_step
 rw[b];refine f.at ?_;refine zA (show wpAny _ _ (Builtin.ObjectAttr.getOf (some (.builtin "object.__class__"))) _ _ _ from i.at ?_);have m:PySem.W.Looks (model prog w) hh (Builtin.ObjectAttr.dataDescriptor? (some (.builtin "object.__class__")) (some (.builtin "getset_descriptor.__get__"))) (some (.builtin "getset_descriptor.__get__",.builtin "object.__class__")):=u.andThen .now;refine zA (m.at ?_)
 repeat wp_step
 have r:PySem.W.Looks (model prog w) hh (isInstance (.ref x) (.type "object")) true:=a.andThen k;refine vW PySem.W.KF.slot_gs.plain PySem.W.KF.entry_gs (PySem.W.KF.slot_gs.check _ _ _ _ _ _ _ _ PySem.W.KF.type_class (PySem.W.KF.args_gs _ _ _) ?_)
 (unfold Builtin.«getset_descriptor.__get__» Builtin.Getset_descriptor.descrGet;rw[PySem.W.dga_obj];refine zA (zB ?_))
 (unfold Builtin.Getset_descriptor.descrGetter Builtin.Getset_descriptor.descrCheckInstance Builtin.Getset_descriptor.descrNameAndClass;simp only[PySem.W.KF.owner_class])
 refine zA (zA (zB (zA (r.at (zB ?_)))))
 repeat wp_step
 refine⟨rS _ (nofun),tR PySem.W.KF.entry_class ?_⟩
 (unfold Builtin.«object.__class__» shownTypeOf;repeat wp_step)
 rw[b];exact zB (zB h)
theorem Oc{K:Frag}{x C:Addr}(F:fC K C):PySem.W.KitX K (.ref x) (.ref C) (λh=>∃o,h.get? x=some o/\o.cls=.ref C) where
 ty:=λM h _⟨o,g,f⟩=>f ▸ (qW g).andThen .now
 it:=λM h KX _=>by
  have q:=F.cl;unfold PySem.W.clsIn at q;split at q
  ·next a =>
   intro j r m l k z
   (unfold isType loadHead;exact zA (rP (k _ _ (KX _ _ a)) (zB z)))
  ·cases q
 ne:=λh c dd its n i KX b=>by
  have q:=F.cl;refine Bool.eq_false_iff.mpr λz=>?_;have e:C=c:=Value.ref.inj (pW.mp z);subst e;unfold PySem.W.clsIn at q;split at q
  ·next a=>exact absurd ((KX _ _ a).symm.trans b) (by intro d;cases d)
  ·cases q
 ca:=λKX p k=>Od F KX p k
inductive TyX(K:Frag)(H:Hp):V->Value->Prop where
 |ty {x:V} {t:Value} (h:TyOf K H x t):TyX K H x t
 |exc {e C:Addr} {od:Option Addr} (h:H e=some (kE e (.ref C) od)) (F:fC K C):TyX K H (.ref e) (.ref C)
 |tupS {a:Addr} {xs:List V} (h:SqT K H a xs):TyX K H (.ref a) (.type "tuple")
def clsV:V->Value
 |.ty n=>.type n
 |.ref a=>.ref a
 |_=>.none
def Fa:V->Bool
 |.ty _=>true
 |.ref _=>true
 |_=>false
def rIsi(K:Frag):List V->Hp->VK->Prop:=λvs H Q=>∃x c t b,vs=[x,c]/\TyX K H x t/\Fa c=true/\PySem.W.kitOne K t (clsV c)=some b/\Q (.bl b) H
theorem mY{X:Cx}:mU X (.builtin "isinstance") (rIsi X.K):=by
 intro d s k H xs us Q I m h;obtain⟨x,c,n,b,rfl,ty,l,e,q⟩:=h;obtain⟨u,w,rfl,r1,r2⟩:=m.two;have i:w=clsV c:=by
  cases c <;> first|exact r2|cases l
 subst i;have a:∀tk,EP X d k Q (.bool b) {s with toks:=tk}:=λtk=>⟨.bl b,H,I.tok tk,rfl,q⟩;cases ty with
 |ty h=>exact Nu I r1 h e a
 |exc h F =>
  obtain rfl:u=_:=r1;obtain⟨⟨g,k1,k2,_⟩,_,_⟩:=(show nM X.prog X.w H s.heap _ (kE _ _ _) from I.hok _ _ h);exact xL (Oc F) I.kIn ⟨g,k1,k2⟩ e (λz=>nomatch z) a
 |tupS h =>
  obtain rfl:u=_:=r1;obtain⟨its,_,⟨o,j,f,_⟩,_⟩:=I.tuple h;exact xL PySem.W.kitx_tuple I.kIn ⟨o,j,f⟩ e (λz=>nomatch z) a
structure lW(k:Nat)(A:Around):Prop where
 dp:A.depth+3*k+5<recursionLimit
 un:A.units+16*k+200<cLine
theorem Room.a{k:Nat}{A:Around}(r:Room k A):lW k A:=⟨r.dp,r.un⟩
theorem lW.mono{j k:Nat}{A:Around}(r:lW k A)(h:j<=k):lW j A:=⟨by have:=r.dp;omega,by have:=r.un;omega⟩
theorem lW.deeper{k:Nat}{A:Around}(r:lW (k+1) A)(env:Env):lW k (A.deeper env):=
 ⟨by have:=r.dp;show A.depth+1+3*k+5<_;omega,by have:=r.un;show A.units+3+16*k+200<_;omega⟩
theorem lW.mark{k:Nat}{A:Around}(r:lW k A)(v:Option Value):lW k (A.mark v):=⟨r.dp,r.un⟩
theorem lW.calm{k:Nat}{A:Around}(r:lW k A):Room k {A with handled:=none}:=⟨rfl,r.dp,r.un⟩
structure iV(P:Program)(w:World)(K:Frag)(mg:MT)(base:Heap)(k:Nat)(f:Addr)(fd:FuncData)(ps:List Str)(sp:Sp):Prop where
 len:∀vs H Q E,sp vs H Q E->vs.length=ps.length
 run:∀(A:Around)(outer:List Env)(s:Shared)(H:Hp)(args:Args)(us:LW)(vs:List V)(Q:VK)(E:XK),lW k A->Env0 P w K mg base A outer s H->BindsTo s fd args (ps.zip us)->Vals vs us->sp vs H Q E ->
  codeAny (model P w) A (.call (.ref f) args) (CR CX0 outer P w H s Q E) s
theorem iV.ok{P:Program}{w:World}{K:Frag}{b:MT}{base:Heap}{k:Nat}{f:Addr}{c:FuncData}{ps:List Str}{a:Sp}(F:iV P w K b base k f c ps a):FnOk P w K b base CX0 k f c ps a:=
 ⟨F.len,λA outer s H d us vs Q E hr=>F.run A outer s H d us vs Q E hr.a⟩
abbrev cxA(P:Program)(w:World)(K:Frag)(mg:MT)(base:Heap)(N:List Str)(qual:Str)(scope:Scope)(f:Addr)(cd:Value)(A:Around)(outer:List Env)(s:Shared)(H:Hp)(E:XK):Cx:=
 {cxOf CX0 P w K mg base N qual scope f cd A outer s H E with calm:=false,xe:=λ_ _=>False}
section
variable {P:Program} {w:World} {K:Frag} {mg:MT} {base:Heap}
theorem Fun.okA{x i:Str}{st:Stmt}{f:Addr}{D:FuncData}{N ps:List Str}{k:Nat}{l:Sp}(F:Fun K x i st f D)(g:nF N ps (oU st))(len:∀vs H Q E,l vs H Q E->vs.length=ps.length)
  (G:∀(cdv:Value)(A:Around)(outer:List Env)(s:Shared)(H:Hp)(vs:List V)(Q:VK)(E:XK),lW k (A.deeper (envOfC i (oU st) s.heap.objs.size f cdv))->l vs H Q E ->
   ∃m,PSs (cxA P w K mg base N i (oU st) f cdv A outer s H E) (lR st) m/\m {nx:=λ_ H'=>Q .non H',rt:=Q} (start N vs) H):iV P w K mg base (k+1) f D ps l:=by
 obtain⟨a0,od,kV,a5,a3,a2,cdv,a4,a1,rfl,T,J⟩:=F.ex;refine⟨len,λA outer s H Z us vs Q E hr c W r C=>?_⟩;have hl:=len _ _ _ _ C;have t:∀b o,base.get? b=some o->s.heap.get? b=some o:=λb o e=>(c.bs b o e).1;have O:∀y∈ps.zip us,(oU st).names.lookup y.1=some .local\/((oU st).names.lookup y.1=some .cell/\((cellsFrom (s.heap.objs.size+1) (oU st).names []).lookup y.1).isSome=true):=λ⟨n,v⟩S=>by
  rcases g.par n (tN S).1 with q|q
  ·exact .inl q
  ·exact .inr ⟨q,sI _ _ _ (.inl q)⟩
 refine codeAny_call_function (by have:=hr.dp;omega) (c.mod.kin.keeps t _ _ T) rfl g.co g.gen rfl (PySem.W.codeRec_of (c.mod.kin.keeps t) J) (W _ _ _ _ ?_);refine wpAny_newFunctionEnv_cells g.kind O λenv U p x=>?_;subst U;refine⟨(c.mod.nolimit.keeps t).keeps x.toInCall.keep,codeAny_func ?_⟩;obtain⟨m,X,M⟩:=G cdv A outer s H vs Q E (hr.deeper _) C;have a:Inv (cxOf CX0 P w K mg base N i (oU st) f cdv {A with handled:=none} outer s H E) [] (start N vs) H p:=
  Fw g rfl (⟨c.frames,c.mod,c.bs,c.bsz,c.funs,c.frf,c.hok,c.bare⟩:Env0 P w K mg base {A with handled:=none} outer s H) hl r x
 have I:Inv (cxA P w K mg base N i (oU st) f cdv A outer s H E) [] (start N vs) H p:=
  ⟨⟨a.ok.mod,a.ok.kind,a.ok.glob,a.ok.blt,a.ok.above,a.ok.inj,a.ok.has,a.ok.cab,(λz=>by cases z),Around.frames_deeper c.frames,a.ok.stk,a.ok.exf,a.ok.bs,a.ok.bsz,a.ok.noex,a.ok.exfs,a.ok.funs,a.ok.frf⟩,
   a.os,a.bare,a.base,a.loc,a.cell,a.free,a.freeC,a.pin,a.hok,a.len⟩
 refine yI (X [] p (start N vs) H _ I M) (λfl Y j=>?_) λ_ _ z=>z.elim;cases fl with
 |ret u=>obtain⟨v,R,H',d,L,q⟩:=j;exact⟨v,H',d.os,d.bare,d.base,d.hok,L,q⟩
 |next=>obtain⟨R,H',d,q⟩:=j;exact⟨.non,H',d.os,d.bare,d.base,d.hok,rfl,q⟩
 |brk=>obtain⟨_,_,_,q⟩:=j;exact q.elim
 |cont=>obtain⟨_,_,_,q⟩:=j;exact q.elim
end
section
variable {X:Cx} {k:Nat} {f:Addr} {fd:FuncData} {ps:List Str} {sp:Sp} {dvs:List V} {ds:LW} {x:Str} {p pos:Pos} {e:Expr} {es:List Expr} {t:TA}
theorem Gz(F:iV X.prog X.w X.K X.mg X.base k f fd ps sp)(hr:lW k X.A)(j:Gl X x)(l:X.mg x=some (.ref f))(i:PySem.W.keepIn X.K (.ref f)=true)(y:mM X.K fd ps ds)(n:Vals dvs ds)
  (d:PA X (e:: es) t)(m:(x == ("__debug__" :Str))=false:=by decide)(w:starEach (e:: es) X.env=(false,eval e X.env):: starEach es X.env:=by rfl)(v:(backTo pos (starEach es X.env)).any (·.1)=false:=by rfl):
  PE X (.Call (.Name x p) (e:: es) [] pos) (kL sp dvs E0 t):=by
 intro g s o H Q I h;refine xS (kZ I j l ?_ m);refine uN (h₀:=X.base) I.ok.mod.kin i (thn (d pos g s o H _ I h) λus c⟨vs,H1,b,r,q⟩=>⟨b.kIn,?_⟩) w v;have r2:Vals (vs++dvs) (us++ds):=r.append n;have hl:(us++ds).length=ps.length:=by rw[←r2.length];exact F.len _ _ _ _ q
 refine vJ (wZ (F.run X.A X.stack c H1 ⟨us,[]⟩ (us++ds) (vs++dvs) Q E0 hr b.env0 (y c us b.kIn hl) r2 q) λr z a=>?_);cases r with
 |error e=>exact False.elim a
 |ok fl =>
  cases fl with
  |ret u=>exact b.after a
  |next=>exact False.elim a
  |brk=>exact False.elim a
  |cont=>exact False.elim a
end
section
variable {X:Cx}
theorem mZ:OpR X (compareOp .Eq) (rI0 λi j=>.bl (decide (i=j))):=opB0 λi j _ _ _ _ _ q=>eq_int (by rw[Bool.beq_eq_decide_eq];exact q)
theorem gI:OpR X (compareOp .NotEq) (rI0 λi j=>.bl (!decide (i=j))):=opB0 λi j _ _ _ _ _ q=>ne_int (by rw[bne,Bool.beq_eq_decide_eq];exact q)
theorem PS.nox{st:Stmt}{a:TS}(h:PS X.nox st a):PS X st a:=λc s d H D I b =>
 yI (h c s d H D (I.wish _) b) (λ_ _ q=>q.unwish) λ_ _ z=>z.elim
end
section
variable {P:Program} {w:World} {K:Frag} {mg:MT} {base:Heap}
theorem Fun.okX{x b:Str}{st:Stmt}{f:Addr}{d:FuncData}{N ps:List Str}{k:Nat}{a:Sp}(F:Fun K x b st f d)(e:nF N ps (oU st))(len:∀vs H Q E,a vs H Q E->vs.length=ps.length)
  (i:∀(cdv:Value)(A:Around)(outer:List Env)(s:Shared)(H:Hp)(vs:List V)(Q:VK)(E:XK),Room k (A.deeper (envOfC b (oU st) s.heap.objs.size f cdv))->a vs H Q E ->
   ∃c,PSs (cxOf (CX1 P w) P w K mg base N b (oU st) f cdv A outer s H E) (lR st) c/\c {nx:=λ_ H'=>Q .non H',rt:=Q} (start N vs) H):FnOk P w K mg base (CX1 P w) (k+1) f d ps a:=by
 obtain⟨q,od,kV,o,r,p,cdv,n,m,rfl,g,j⟩:=F.ex;exact cO g j e len λA outer s H vs Q E hr l=>i cdv A outer s H vs Q E hr l
end
end L2
namespace Att
open PySem PySem.W PySem.Calls PyProof.Rows
theorem Gy:∀ns:LI',ofPys (ns.map PyData.int)=ns.map WData.int
 |[]=>rfl
 |n:: r=>by
  show ofPy (.int n):: ofPys (r.map PyData.int)=_;rw[Gy r];rfl
theorem Ob{ns:LI'}(h:(WData.list (ns.map WData.int)).layable=true):∀n∈ns,Builtin.Int.intBits n<=1048576:=λn a=>by
 have e:ofPy (.list (ns.map PyData.int))=WData.list (ns.map WData.int):=by
  show WData.list (ofPys (ns.map PyData.int))=_;rw[Gy]
 have b:PySem.Spec.Shape.has (.list .int) (.list (ns.map PyData.int))=true:=by
  simp[PySem.Spec.Shape.has]
 exact intBits_le_of_item a (layable0_of_all (lay0_ofPy (s:=.list .int) rfl b (by rw[e];exact h)))
theorem attach_callB{l:OpenLaw}{n:Nat}{q:Program}{k:List Str}{t:(MT)->Heap->Prop}{u:World->Heap->Prop}{d:DefRec}(R:l.most=some n)(N:d.params.defaults=[])
  (call:∀(w:World)(j b:Shared)(c i:MT)(g:Addr)(a:Addr)(vs:LW)(ns:LI'),Ground q k [] t w j c i b.heap->u w b.heap->c d.name=some (.ref g) ->
   b.heap.get? a=some {cls:=.type "list",data:=.seq vs.toArray}->IntsAre vs ns->ns.length<=n->(∀m∈ns,Builtin.Int.intBits m<=1048576)->b.gens=#[] ->
   codeAny (model l.prog w) callerA (.call (.ref g) ⟨[.ref a],[]⟩) (λr e=>r=.ok (.ret (.bool true))/\OldK b.heap e.heap/\e.os=b.os/\AllBare e.gens) b):
  WalkO q k t u l.row.toRowW d [] (λf vs=>PySem.call f vs):=by
 intro w j b c i M O g o Z U a0 I kV X V W p C z Y vals as D K a1 y a2;obtain rfl:I=.none:=Dflts.none p N;obtain rfl:kV=.none:=Dflts.noKw p;obtain⟨a,vs,ns,rfl,rfl,v,S,x⟩:=Fk R D y;have T:=Ob (layableW_arg K _ yD);refine enter_call (wZ (call w j b c i g a vs ns M O C v S x T z) λr e J=>?_);obtain⟨rfl,P,L,F⟩:=J;exact⟨.inl ⟨.bool true,.bool true,[],rfl,λ_=>rfl,.bool true,Fj l _,λ_=>⟨List.Pairwise.nil,λ_ G=>(nomatch G)⟩⟩,P,L,F⟩
end Att
namespace L2
open PySem PySem.Spec PyProof.Rows
open PySem.W (Frag)
def Gx(K:Frag):Sp:=λvs H Q _=>∃(a:Addr)(ns:LI'),vs=[.ref a]/\SqL K H a (ns.map V.int)/\ns.length<=63/\(∀m∈ns,Builtin.Int.intBits m<=1048576)/\∀H',Q (.bl true) H'
theorem walkB{l:PySem.W.OpenLaw}{k:Nat}{q:Program}{r:List Str}{y:(MT)->Heap->Prop}{m:World->Heap->Prop}{d:DefRec}{K:Params->Frag}{x:Str}
  (J:l.most=some 63)(C:d.params.defaults=[])(hr:Room k callerA)(D:∀(w:World)(h:Heap),m w h->(K w.params).In h)
  (F:∀(w:World)(b:MT)(g:Addr)(h:Heap),(K w.params).In h->h.Ns mainGlobals b->b d.name=some (.ref g) ->
   ∃i:FuncData,(∀(s:Shared)(u:Value),BindsTo s i ⟨[u],[]⟩ [(x,u)])/\∀base:Heap,(K w.params).In base->base.Ns mainGlobals b->FnOk l.prog w (K w.params) b base CX0 k g i [x] (Gx (K w.params))):
  PySem.W.WalkO q r y m l.row.toRowW d [] (λf vs=>PySem.call f vs):=by
 refine Att.attach_callB J C λw P R b N g a vs ns c G v n L j M t=>?_;have KX:=D w _ G;obtain⟨i,p,o⟩:=F w b g _ KX c.T.g v;exact Fh KX c.T.g c.T.b c.T.builtins c.T.nolimit t n L (yC j ∅) hr o p (λH _ I=>⟨a,ns,rfl,I,j,M,λ_=>rfl⟩) λH e O z=>z
theorem lG{d:TI}{g:TG}{tb:TS}{D:Ends}{a:St}{H:Hp}(h:∀B:TS,B=tb->d a H λc H1=>∃b:Nat->Nat->St->Hp->Prop,(∃m,b 0 m a H1)/\∀i m a H,b i m a H ->
  (c.stop i H/\D.nx a H)\/(c.go i H/\∃N:St->Hp->Prop,(∀e H',N e H'->∃f,f<m/\b (i+1) f e H')/\∀x H',c.yld i H x H'->g x a H' λj H2=>B {D with nx:=N,ct:=N,bk:=D.nx} j H2)):tFor d g tb D a H:=h _ rfl
theorem Oa{c:TT}{tb:TS}{D:Ends}{a:St}{H:Hp}(h:∀B:TS,B=tb->∃d:Nat->St->Hp->Prop,(∃m,d m a H)/\∀m a H,d m a H ->
  c a H λb H1=>if b=true then∃N:St->Hp->Prop,(∀f H',N f H'->∃e,e<m/\d e f H')/\B {D with nx:=N,ct:=N,bk:=D.nx} a H1 else D.nx a H1):Ep c tb D a H:=h _ rfl
theorem st{b u:TS}{D:Ends}{a:St}{H:Hp}(h:∀c:St->Hp->Prop,c=u D->b {D with nx:=c} a H):tSeq b u D a H:=h _ rfl
section
variable {g:Int->Int->V} {C:Int->Int->Prop} {f:Int->V} {i j:Int} {H:Hp} {Q:VK}
theorem s_V:rI0 g (.int i) (.int j) H Q=Q (g i j) H:=propext ⟨λ⟨_,_,e1,a,q⟩=>by cases e1;cases a;exact q,λq=>⟨_,_,rfl,rfl,q⟩⟩
theorem t_A:rI C g (.int i) (.int j) H Q=(C i j/\Q (g i j) H):=propext ⟨λ⟨_,_,e1,a,q⟩=>by cases e1;cases a;exact q,λq=>⟨_,_,rfl,rfl,q⟩⟩
theorem t_B:rU f (.int i) H Q=Q (f i) H:=propext ⟨λ⟨_,e1,q⟩=>by cases e1;exact q,λq=>⟨_,rfl,q⟩⟩
end
theorem Same.new{H:Hp}{a:Addr}{o:HO}(h:H a=none):Same H (upd H a o):=λb u e=>by rw[oV (nY e h)];exact e
theorem Same.over{H H1:Hp}{a:Addr}{o:HO}(h:H a=none)(s:Same H H1):Same H (upd H1 a o):=λb u e=>by rw[oV (nY e h)];exact s b u e
theorem Same.tup{K:Frag}{H H':Hp}{a:Addr}{xs:List V}(e:Same H H')(h:SqT K H a xs):SqT K H' a xs:=by
 rcases h with(h|⟨o,h⟩)|h
 ·exact .inl (.inl (e _ _ h))
 ·exact .inl (.inr ⟨o,e _ _ h⟩)
 ·exact .inr h
section
variable {K:Frag} {a b:Addr} {xs:List V} {te:TE} {fr:List (Str×Nat)} {σ:St} {H:Hp} {Q:VK}
def Ac(H:Hp)(a:Addr)(R:Nat->V->Prop)(i:Nat)(H1:Hp):Prop:=Same H H1/\∃ys:List V,H1 a=some (.lst ys)/\ys.length=i/\∀j y,ys[j]?=some y->R j y
theorem Ac.next{R:Nat->V->Prop}{i:Nat}{H1 H2:Hp}{y:V}(c:H a=none)(h:Ac H a R i H1)(s:Same H1 H2)(r:R i y)(g:i<sizeLine):
  ∃zs,H2 a=some (.lst zs)/\zs.length<sizeLine/\Ac H a R (i+1) (upd H2 a (.lst (zs++[y]))):=by
 obtain⟨f,ys,e,hl,hr⟩:=h;refine⟨ys,s _ _ e,⋯,Same.over c (f.trans s),_,oS,by simp[hl],λj z q=>?_⟩
 by_cases d:j<ys.length
 ·rw[yB d]at q;exact hr j z q
 ·rw[zW ⋯]at q;have:j=i:=by
   by_cases k:j-ys.length=0
   ·omega
   ·rw[vN (by simp;omega)]at q;cases q
  subst this;rw[show j-ys.length=0 by omega]at q;cases zU q;exact r
end
theorem lH{b a:Type}{ys:List a}{xs:List b}{f:b->a}(hl:ys.length=xs.length)(h:∀(j:Nat)(y:a),ys[j]?=some y->∃x,xs[j]?=some x/\y=f x):ys=xs.map f:=by
 refine tF (by simpa using hl) λi d k=>?_;obtain⟨x,e1,c⟩:=h i ys[i] (by simp[d]);obtain⟨g,e⟩:=oK.mp e1;rw[tD,c,e]
def kS(sc scope:Scope):Scope:={scope with names:=scope.names.map λ(n,k)=>if(k == .free && sc.kind == .function && sc.names.lookup n == some .cell) then(n,.cell) else(n,k)}
theorem Pz{a sc:Scope}{env:Env}(h:env.scope=sc):relabel a env=kS sc a:=by subst h;rfl
theorem eJ:∀(a:List (Str×NameKind))(n:Nat)(acc:List (Str×Addr)),cellsFrom n a acc=cellsFrom n a []++acc
 |[],_,_=>rfl
 |(x,k):: r,n,acc=>by
  unfold cellsFrom;split
  ·rw[eJ r (n+1) ((x,n):: acc),eJ r (n+1) [(x,n)],yG];rfl
  ·exact eJ r n acc
theorem Ab{y:Str}{b:Addr}:∀{a:List (Str×NameKind)}{n:Nat}{acc:List (Str×Addr)},(y,b)∈cellsFrom n a acc->(y,b)∈acc\/(y,NameKind.cell)∈a
 |[],_,_,h=>.inl h
 | (x,k):: r,n,acc,h=>by
  unfold cellsFrom at h;split at h
  ·rename_i c;rcases Ab h with q|q
   ·rcases xC.mp q with e|e
    ·have d:k=.cell:=by simpa using c
     cases e;exact .inr (by rw[d];exact yD)
    ·exact .inl e
   ·exact .inr (zT _ q)
  ·rcases Ab h with q|q
   ·exact .inl q
   ·exact .inr (zT _ q)
theorem eK{y:Str}:∀{c:List (Str×NameKind)}{n:Nat}{acc:List (Str×Addr)},((y,NameKind.cell)∈c\/∃b,acc.lookup y=some b)->∃b,(cellsFrom n c acc).lookup y=some b
 |[],_,_,h=>by
  rcases h with h|h
  ·simp at h
  ·exact h
 | (x,k):: r,n,acc,h=>by
  unfold cellsFrom;split
  ·rename_i a;refine eK ?_;rcases h with h|⟨b,h⟩
   ·rcases xC.mp h with e|e
    ·cases e;exact .inr ⟨n,by rw[xH];simp⟩
    ·exact .inl e
   ·rw[xH];cases hx:y == x with
    |true=>exact .inr ⟨n,rfl⟩
    |false=>exact .inr ⟨b,h⟩
  ·rename_i a;refine eK ?_;rcases h with h|h
   ·rcases xC.mp h with e|e
    ·cases e;simp at a
    ·exact .inl e
   ·exact .inr h
theorem Aa{env:Env}{q:NameKind}:∀{f:List (Str×NameKind)}{x:Str},
  (f.map λ(n,k)=>if(k == NameKind.free && env.scope.kind == .function && env.kindOf n == some .cell) then(n,NameKind.cell) else(n,k)).lookup x=some q ->
  (q=.cell\/q=.free)->(x,NameKind.free)∈f\/(x,NameKind.cell)∈f
 |[],_,h,_=>by simp at h
 | (n,k):: r,x,h,c=>by
  have g:=@Aa env q r x;rw[zN]at h;dsimp only at h
  by_cases d:(k == NameKind.free && env.scope.kind == .function && env.kindOf n == some .cell)=true
  ·rw[zF d,xH]at h;cases hx:x == n with
   | true =>
    have a:x=n:=by simpa using hx
    have b:k=.free:=by
     have:=(zP _ _ ▸ ((zP _ _ ▸ d).1)).1;simpa using this
    rw[a,b];exact .inl yD
   |false =>
    rw[hx]at h;exact(g h c).imp (zT _) (zT _)
  ·rw[zD d,xH]at h;cases hx:x == n with
   |true =>
    rw[hx]at h;have a:x=n:=by simpa using hx
    have b:k=q:=zU h;rcases c with e|e
    ·rw[a,b,e];exact .inr yD
    ·rw[a,b,e];exact .inl yD
   |false =>
    rw[hx]at h;exact(g h c).imp (zT _) (zT _)
theorem Gw{b:Type}{x:Str}{k k':b}:∀{l:List (Str×b)},(l.map (·.1)).Nodup->(x,k)∈l->(x,k')∈l->k=k'
 |(n,q):: r,nd,h,h'=>by
  obtain⟨c,d⟩:=tO.mp nd;rcases xC.mp h with e|e <;> rcases xC.mp h' with a|a
  ·cases e;cases a;rfl
  ·cases e;exact absurd (oA.mpr ⟨_,a,rfl⟩) c
  ·cases a;exact absurd (oA.mpr ⟨_,e,rfl⟩) c
  ·exact Gw d e a
theorem Py{M:Model}{A:Around}{E:VP}{s:Shared}{a:Scope}{b:Addr}{e:List (Str×Addr)}{f:Str}{d:Option Addr}{c:Value}{env:Env}{bl:Addr}{Q:Env->Shared->Prop}
  (h:Q (newEnv a s.heap.objs.size b (cellsFrom (s.heap.objs.size+1) a.names e) f d c (some env) bl) {s with heap:=pushCells (s.heap.push {cls:=.type "dict",data:=.dict #[]}) a.names}):
  wpAny M A (newFunctionEnv a b e [] f d c (some env) bl) Q E s:=by
 simp only[newFunctionEnv,Option.isSome_some,if_true];refine zA (wpAny_alloc ?_);refine zA (wpAny_layCells _ (λname g cells=>by cases hkc:g == NameKind.cell <;> simp[hkc]) _ _ _ _ ?_);rw[show({s with heap:=s.heap.push {cls:=.type "dict",data:=.dict #[]}}:Shared).heap.objs.size=s.heap.objs.size+1 from xO ..];exact zB h
def mH(X:Cx)(scope:Scope)(N:List Str)(s:Shared)(H:Hp)(fp:LA):Cx:=
 {X with N:=N,s₀:=s,H₀:=H,env:=compEnvC scope (cellsFrom (s.heap.objs.size+1) scope.names (clOf X.env scope.names [])) s.heap.objs.size X.env,outer:=X.stack,ex:=fp,fn:=λy=>scope.names.lookup y == some .cell,pn:=[],xe:=λ_ _=>False}
structure jC(X:Cx)(sc scope:Scope)(xs:List Str)(fr:List (Str×Nat)):Prop where
 hsc:X.env.scope=sc
 kind:scope.kind=.function
 nn:(scope.names.map (·.1)).Nodup
 free:∀y∈scope.names,y.2=.free->sc.names.lookup y.1=some .cell\/sc.names.lookup y.1=some .free
 loc:∀y∈scope.names,y.2=.local->scope.names.lookup y.1=some .local
 fr:∀p∈fr,X.N[p.2]?=some p.1/\scope.names.lookup p.1=some .free
section
variable {X:Cx} {sc scope:Scope} {xs:List Str} {fr:List (Str×Nat)}
theorem jC.free'(c:jC X sc scope xs fr):∀y∈scope.names,y.2=.free->X.env.kindOf y.1=some .cell\/X.env.kindOf y.1=some .free:=λy a b=>by
 unfold Env.kindOf;rw[c.hsc];exact c.free y a b
theorem jC.cells{b:PN}{a:St}{H:Hp}{s:Shared}(c:jC X sc scope xs fr)(I:Inv X b a H s):∀y∈scope.names,y.2=.free->∃c,X.env.cells.lookup y.1=some c:=
 λy d e=>I.ok.has y.1 (c.free' y d e)
theorem jC.was{d:PN}{a:St}{H:Hp}{s:Shared}(c:jC X sc scope xs fr)(I:Inv X d a H s){y:Str}{b:Addr}(h:(clOf X.env scope.names []).lookup y=some b):X.env.cells.lookup y=some b:=by
 rcases Aj (c.cells I) h with q|q
 ·simp at q
 ·exact q
theorem fD{a:List (Str×NameKind)}{n:Nat}{d:List (Str×Addr)}{y:Str}{b:Addr}(h:(cellsFrom n a d).lookup y=some b):(cellsFrom n a []).lookup y=some b\/((cellsFrom n a []).lookup y=none/\d.lookup y=some b):=by
 rw[eJ,List.lookup_append]at h;cases q:(cellsFrom n a []).lookup y with
 |none=>rw[q]at h;exact .inr ⟨rfl,h⟩
 |some c=>rw[q]at h;exact .inl h
theorem Px{x:PN}{g:St}{H:Hp}{s:Shared}{F:LA}(c:jC X sc scope xs fr)(I:Inv X x g H s)
  (C:∀b∈F,FpOk X x H b/\∃o,s.heap.get? b=some o):
  Inv (mH X scope (xs++fr.map (·.1)) s H F) [] (xs.map (λ_=>none)++mX fr g) H {s with heap:=pushCells (s.heap.push {cls:=.type "dict",data:=.dict #[]}) scope.names}:=by
 have k:∀b o,s.heap.get? b=some o->(pushCells (s.heap.push {cls:=.type "dict",data:=.dict #[]}) scope.names).get? b=some o:=λb o e=>pE _ _ b o (zC _ e);have J:(pushCells (s.heap.push {cls:=.type "dict",data:=.dict #[]}) scope.names).Ns s.heap.objs.size (λ_=>none):=(Heap.Ns.new s.heap (.type "dict")).keeps (pE _ _);have ok:=cellsFrom_ok scope.names (s.heap.push {cls:=.type "dict",data:=.dict #[]}) (s.heap.objs.size+1) [] ⟨λ_ _ f=>(nomatch f),List.Pairwise.nil⟩ (by rw[xO];exact zE _);rw[xO]at ok;have t:Inv X x g H {s with heap:=pushCells (s.heap.push {cls:=.type "dict",data:=.dict #[]}) scope.names}:=I.kept (t':=s.toks) k;generalize hh:pushCells (s.heap.push {cls:=.type "dict",data:=.dict #[]}) scope.names=S at k J ok t;have K:∀{y:Str}{b:Nat},(clOf X.env scope.names []).lookup y=some b->b<s.heap.objs.size:=λ{y b}e=>by
  obtain⟨v,z⟩:=I.cell y b (c.was I e);exact z.lt
 have own:∀{y:Str}{b:Nat},(cellsFrom (s.heap.objs.size+1) scope.names []).lookup y=some b->S.IsCell b none/\s.heap.objs.size+1<=b:=λ{y b}e=>ok.empty y b (mem_of_lookup e);refine⟨⟨I.ok.mod,c.kind,I.ok.glob,I.ok.blt,zE _,λy z b r a=>?_,λy l=>?_,λy b Z r=>?_,I.ok.hd,I.ok.frames,.inl rfl,λb m=>?_,λb o e=>?_,?_,λb o e m=>?_,λb m a0=>?_,?_,λb m=>?_⟩,
  rfl,I.bare,Un.kept k,⟨_,J,λi y v r a a3=>?_⟩,λy b h=>?_,?_,λy b h=>?_,λp a2=>absurd (show p∈([]:PN) from a2) (by simp),t.hok,?_⟩
 ·rcases fD r with e1|⟨_,e1⟩ <;> rcases fD a with d|⟨_,d⟩
  ·exact name_of_addr ok.apart (mem_of_lookup e1) (mem_of_lookup d)
  ·exact absurd (zJ (K d) (qM (own e1).2)) (yW _)
  ·exact absurd (zJ (K e1) (qM (own d).2)) (yW _)
  ·exact I.ok.inj y z b (c.was I e1) (c.was I d)
 ·show∃b,(cellsFrom (s.heap.objs.size+1) scope.names (clOf X.env scope.names [])).lookup y=some b;have f:(y,NameKind.free)∈scope.names\/(y,NameKind.cell)∈scope.names:=by
   rcases l with l|l
   ·exact Aa l (.inl rfl)
   ·exact Aa l (.inr rfl)
  rcases f with f|f
  ·exact eK (.inr (Ai (.inl f)))
  ·exact eK (.inl f)
 ·have l:scope.names.lookup y=some .cell:=by
   have R:(scope.names.lookup y == some NameKind.cell)=true:=Z;simpa using R
  rcases fD r with e1|⟨e1,_⟩
  ·have:=(own e1).2;show s.heap.objs.size<=b;omega
  ·obtain⟨D,e⟩:=eK (n:=s.heap.objs.size+1) (acc:=[]) (.inl (mem_of_lookup l));rw[e1]at e;cases e
 ·obtain⟨⟨_,_,_,_,W,_⟩,o,e⟩:=C b m;refine⟨zX (zI e),λy D h=>?_⟩;rcases fD h with e1|⟨_,e1⟩
  ·exactλz=>absurd (zJ (zI e) (qM (z ▸ (own e1).2))) (yW _)
  ·exact W y D (c.was I e1)
 ·exact I.bs b o e
 ·exact yC I.ok.bsz I.sz
 ·obtain⟨⟨_,_,_,P,_,_⟩,_⟩:=C b m;rcases P with z|z
  ·exact I.ok.noex b o e z
  ·exact absurd (zJ (zI e) (yC I.ok.bsz z)) (yW _)
 ·obtain⟨⟨_,U,O,_,_,_⟩,_⟩:=C b m;rcases xC.mp (I.stkSub b a0) with z|z
  ·exact U z
  ·exact O z
 ·exact I.stack
 ·exact I.stkFree b m
 ·have n:(xs++fr.map (·.1))[i]?=some y:=r
  by_cases hi:i<xs.length
  ·rw[yB (by simpa using hi),zO]at a;cases q:xs[i]? with
   |none=>rw[q]at a;cases a
   |some z=>rw[q]at a;cases zU a
  ·rw [zW ⋯]at n;rw[zW (by simpa using hi),yP]at a;generalize i-xs.length=j at n a;rw[zO]at n;unfold mX at a;rw[zO]at a;cases e:fr[j]? with
   |none=>rw[e]at n;cases n
   | some p =>
    rw[e]at n a;have e1:p.1=y:=zU n;have d:g.getD p.2 none=some v:=zU a;obtain⟨V,G⟩:=c.fr p (yF e);have T:g[p.2]?=some (some v):=by
     rw[tJ]at d;cases q:g[p.2]? with
     |none=>rw[q]at d;cases d
     |some o=>rw[q]at d;have N:o=some v:=d;rw[N]
    subst e1;have f:(p.1,NameKind.free)∈scope.names:=vF G;have kd:=c.free' _ f rfl;obtain⟨a4,_,hl⟩:=t.loc;obtain⟨u,a1,Y⟩:=hl p.2 p.1 v V T (.inr kd);refine⟨u,a1,.inr ⟨Ff G,?_⟩⟩;rcases Y with⟨k1,_⟩|⟨_,b,q,z⟩
    ·rcases kd with kd|kd <;> (rw[kd]at k1;cases k1)
    ·obtain⟨D,L⟩:=Ai (env:=X.env) (l:=scope.names) (cs:=[]) (.inl f);have M:=c.was I L;rw[q]at M;cases M;refine⟨b,?_,z⟩;show(cellsFrom (s.heap.objs.size+1) scope.names (clOf X.env scope.names [])).lookup p.1=some b;rw[eJ,List.lookup_append];cases w:(cellsFrom (s.heap.objs.size+1) scope.names []).lookup p.1 with
     |none=>exact L
     |some b2 =>
      rcases Ab (mem_of_lookup w) with w|w
      ·simp at w
      ·cases Gw c.nn f w
 ·rcases fD h with e1|⟨_,e1⟩
  ·exact⟨none,(own e1).1⟩
  ·exact t.cell y b (c.was I e1)
 ·exact I.hok.fresh (zE _)
 ·rcases fD h with e1|⟨_,e1⟩
  ·exact I.hok.fresh (by have:=(own e1).2;omega)
  ·exact t.freeC y b (c.was I e1)
 ·show(xs.map (λ_=>none)++mX fr g).length=(xs++fr.map (·.1)).length;simp[mX]
end
abbrev TOx:=St->Hp->(Option V->Hp->Prop)->Prop
def tEl(te:TE):TOx:=λσ H Q=>te σ H λy H'=>Q (some y) H'
def fE(tc:TT)(te:TE):TOx:=λσ H Q=>tc σ H λb H1=>if b=true then te σ H1 (λy H'=>Q (some y) H') else Q none H1
def eL(elt:Expr)(ifs:List Expr)(env:Env)(M:Model)(A:Around)(Q:Option Value->Shared->Prop)(E:VP)(s:Shared):Prop:=
 match ifs with
 |[]=>wpAny M A (eval elt env) (λx s1=>Q (some x) s1) E s
 |[c]=>wpAny M A (isTrue c env (eval c env)) (λb s1=>if b=true then wpAny M A (eval elt env) (λx s2=>Q (some x) s2) E s1 else Q none s1) E s
 |_=>False
def POx(X:Cx)(elt:Expr)(ifs:List Expr)(t:TOx):Prop:=∀(pins:PN)(s:Shared)(σ:St)(H:Hp)(Q:Option V->Hp->Prop),Inv X pins σ H s->t σ H Q ->
 eL elt ifs X.env (model X.prog X.w) X.A (λo s'=>∃v H',Inv X pins σ H' s'/\(match o,v with|some u,some y=>RelV y u|none,none=>True|_,_=>False)/\Q v H') X.xe s
theorem jK{X:Cx}{a:Expr}{te:TE}(h:PE X a te):POx X a [] (tEl te):=λc s e H Q I b =>
 thn (h c s e H _ I b) λu g⟨y,H1,f,r1,d⟩=>⟨some y,H1,f,r1,d⟩
theorem Pw{X:Cx}{d c:Expr}{f:TT}{te:TE}(l:PT X c f)(h:PE X d te):POx X d [c] (fE f te):=λe s g H Q I j=>by
 refine thn (l e s g H _ I j) λb m⟨H1,i,a⟩=>?_;cases b with
 |true =>
  rw[zF rfl]at a ⊢;exact thn (h e m g H1 _ i a) λu o⟨y,H2,n,r2,k⟩=>⟨some y,H2,n,r2,k⟩
 |false =>
  rw[zD zQ]at a ⊢;exact⟨none,H1,i,trivial,a⟩
theorem Pu{prog:Program}{w:World}{A:Around}{R:Result->Shared->Prop}{s:Shared}{e a f:Expr}{k:List Expr}{i:Scope}{pos:Pos}{d acc:Value}{env:Env}(I:Nat->Shared->Prop)
  (J:∀n s,I n s->wpAny (model prog w) A (pyNext d) (λr p=>match r with
   |none=>R (.ok .next) p
   | some v=>wpAny (model prog w) A (letOwnedTupleGo a d v) (λ_ C=>wpAny (model prog w) A (assign a env v) (λ_ D=>eL e k env (model prog w) A (λo l=>match o with
     |some x=>wpAny (model prog w) A (call (.builtin "list.append") [acc,x]) (λ_ z=>∃m,m<n/\I m z) (λ_ _=>False) l
     |none=>∃m,m<n/\I m l)
     (λ_ _=>False) D) (λ_ _=>False) C) (λ_ _=>False) p) (λ_ _=>False) s)
  (n:Nat)(h:I n s)(u:k.length<=1):
  codeAny (model prog w) A (.compLoop (.ListComp e [⟨a,f,k,0⟩] i pos) 0 d acc env) R s:=by
 refine codeAny_loop rfl I (λn s G=>?_) n h;show wpAny _ _ ((compTurn (.ListComp e [⟨a,f,k,0⟩] i pos) 0 d acc env).onRaise (λx=>do noteFrame x env;theTreesLotGoes x)) _ _ s;refine wpAny_noted ?_;have T:=J n s G
 match k,u,T with
 | [],_,T =>
  rw[compTurn_list1];refine zA (wA (zA (yI T (λr p j=>?_) λ_ _ h'=>h'.elim)));cases r with
  |none=>exact zB j
  | some v =>
   refine zA (yI j (λ_ C q=>?_) λ_ _ h'=>h'.elim);exact zA (yI q (λ_ D y=>zA (zA (yI (show wpAny _ _ _ _ _ _ from y) (λx l g=>zA (yI g
    (λ_ z t=>zB (zB ⟨rfl,t⟩)) λ_ _ h'=>h'.elim)) λ_ _ h'=>h'.elim))) λ_ _ h'=>h'.elim)
 | [c],_,T =>
  have e1:compTurn (.ListComp e [⟨a,f,[c],0⟩] i pos) 0 d acc env=(standAt f.pos >>= λ_=>pyNext d >>= λr=>match r with
   |none=>pure (.done .next)
   | some v=>letOwnedTupleGo a d v >>= λ_=>assign a env v >>= λ_=>isTrue c env (eval c env) >>= λok =>
    (if ok=true then(eval e env >>= λx=>call (.builtin "list.append") [acc,x] >>= λ_=>pure ()) >>= λ_=>again (.compLoop (.ListComp e [⟨a,f,[c],0⟩] i pos) 0 d acc env)
     else again (.compLoop (.ListComp e [⟨a,f,[c],0⟩] i pos) 0 d acc env))):=by
   unfold compTurn;simp only[List.forIn_cons,List.forIn_nil,if_true,bind_assoc,pure_bind,List.getElem?_cons_zero];rfl
  rw[e1];refine zA (wA (zA (yI T (λr p j=>?_) λ_ _ h'=>h'.elim)));cases r with
  |none=>exact zB j
  | some v =>
   refine zA (yI j (λ_ C q=>?_) λ_ _ h'=>h'.elim);refine zA (yI q (λ_ D y=>zA (yI (show wpAny _ _ _ _ _ _ from y) (λb l g=>?_) λ_ _ h'=>h'.elim)) λ_ _ h'=>h'.elim);cases b with
   |true =>
    rw[zF rfl]at g ⊢;exact zA (zA (yI g (λx z t=>zA (yI t (λ_ K F=>zB (zB ⟨rfl,F⟩)) λ_ _ h'=>h'.elim)) λ_ _ h'=>h'.elim))
   |false =>
    rw[zD zQ]at g ⊢;exact zB ⟨rfl,g⟩
 |_:: _:: _,u,T =>
  exact absurd u (by simp)
def Pt(a:Addr)(N:Hp->Prop):Option V->Hp->Prop
 |some y,H=>∃zs,H a=some (.lst zs)/\zs.length<sizeLine/\N (upd H a (.lst (zs++[y])))
 |none,H=>N H
abbrev kF(J:It)(g:TG)(tt:TOx)(n:Nat)(fr:List (Str×Nat))(σ:St)(a:Addr)(H:Hp)(Q:VK):Prop:=
 ∃ W:Nat->Nat->Hp->Prop,(∃m,W 0 m (upd H a (.lst [])))/\∀i m H2,W i m H2->(J.stop i H2/\Q (.ref a) H2) \/
  (J.go i H2/\∃N:Hp->Prop,(∀H',N H'->∃m',m'<m/\W (i+1) m' H')/\∀(ys:St) x H3,ys.length=n->J.yld i H2 x H3 ->
   g x (ys++mX fr σ) H3 λσ4 H4=>(∃ys':St,ys'.length=n/\σ4=ys'++mX fr σ)/\tt σ4 H4 (Pt a N))
def lY(wi:TI)(g:TG)(tt:TOx)(n:Nat)(fr:List (Str×Nat)):TE:=λσ H Q=>wi σ H λJ H1=>∀a,H1 a=none->kF J g tt n fr σ a H1 Q
section
variable {X:Cx} {sc scope:Scope} {xs:List Str} {fr:List (Str×Nat)} {elt tg iter:Expr} {ifs:List Expr} {g:TG} {tt:TOx}
theorem Gv{G:PN}{D:St}{H:Hp}{s:Shared}{pos:Pos}{c2:It}{k:LA}{a6:Addr}{O:Nat->Heap->Prop}{Q:VK}{RR:Value->Addr->Result->Shared->Prop}{E:VP}
  (c:jC X sc scope xs fr)(c9:X.calm=true)(R:ifs.length<=1)(I:Inv X G D H s)(T:Turn X.prog X.w X.K tg c2 k a6 O)(b4:O 0 s.heap)(a2:∀b∈k,FpOk X G H b)
  (g2:∀(w:Shared)(F:Hp)(k:LA),(mH X scope (xs++fr.map (·.1)) w F k).env.scope=kS sc scope->PG (mH X scope (xs++fr.map (·.1)) w F k) tg g)
  (f9:∀(w:Shared)(F:Hp)(k:LA),(mH X scope (xs++fr.map (·.1)) w F k).env.scope=kS sc scope->POx (mH X scope (xs++fr.map (·.1)) w F k) elt ifs tt)
  (e3:∀a,H a=none->kF c2 g tt xs.length fr D a H Q)
  (f1:∀a C H' t m,t.heap.Ns C m->Inv X G D H' t->FpOk X G H' C->Q (.ref a) H'->RR (.ref a) C (.ok .next) t):
  wpAny (model X.prog X.w) X.A (newList []) (λacc w=>wpAny (model X.prog X.w) X.A (newFunctionEnv scope X.env.globals (clOf X.env scope.names []) [] X.env.qual none .none (some X.env)) (λb7 f7 =>
   codeAny (model X.prog X.w) X.A (.compStart (.ListComp elt [⟨tg,iter,ifs,0⟩] scope pos) 0 (.ref a6) acc {b7 with scope:=relabel scope X.env}) (RR acc b7.locals) f7) E w) E s:=by
 obtain⟨c6,⟨d5,d4⟩,d9⟩:=e3 s.heap.objs.size I.fresh;refine xD (Py ?_);have a7:Inv X G D (upd H s.heap.objs.size (.lst [])) {s with heap:=s.heap.push {cls:=.type "list",dict:=none,data:=.seq ([]:LW).toArray}}:=I.lnew (ys:=[]) (its:=[]) (t':=s.toks) .nil (yA _);have U:∀b o,s.heap.get? b=some o->(s.heap.push {cls:=.type "list",dict:=none,data:=.seq ([]:LW).toArray}).get? b=some o:=λb o e=>zC _ e;have a9:Un (frs X.stack) k H (upd H s.heap.objs.size (.lst [])) s.heap (s.heap.push {cls:=.type "list",dict:=none,data:=.seq ([]:LW).toArray}):=Un.laid U (zE _) I.fresh;dsimp only;generalize hH2:s.heap.push {cls:=.type "list",dict:=none,data:=.seq ([]:LW).toArray}=l at a7 U a9 ⊢;have hsz:s.heap.objs.size<=l.objs.size:=by rw[←hH2,xO];exact vZ _
 have b3:∀b∈k,∃o,s.heap.get? b=some o:=λb j=>let ⟨o,e,_⟩:=T.obj _ _ b4 b j;⟨o,e⟩
 have d1:∀b∈k,b≠s.heap.objs.size:=λb j=>let ⟨_,e⟩:=b3 b j;zX (zI e)
 have c0:∀b∈k,FpOk X G (upd H s.heap.objs.size (.lst [])) b/\∃o,l.get? b=some o:=λb j=>by
  obtain⟨o,e⟩:=b3 b j;exact⟨⟨by rw[oV (d1 b j)];exact(a2 b j).1,(a2 b j).2⟩,o,U b o e⟩
 have a3:=Px c a7 c0;have f5:∀b o,l.get? b=some o->(pushCells (l.push {cls:=.type "dict",data:=.dict #[]}) scope.names).get? b=some o:=λb o e=>pE _ _ b o (zC _ e);have b2:O 0 (pushCells (l.push {cls:=.type "dict",data:=.dict #[]}) scope.names):=T.keep 0 _ _ b4 λb j o e=>f5 b o (U b o e);have c7:∀(w:Shared)(F:Hp)(k:LA),(mH X scope (xs++fr.map (·.1)) w F k).env.scope=kS sc scope:=λ_ _ _=>Pz c.hsc;have a5:∀{H':Hp},(∀b∈k,H' b=none)->∀b∈k,FpOk (mH X scope (xs++fr.map (·.1)) {s with heap:=l} (upd H s.heap.objs.size (.lst [])) k) [] H' b:=λg4 b j=>by
  obtain⟨e1,e4⟩:=a3.ok.exf b j;exact⟨g4 b j,e1,a3.ok.exfs b j,.inl j,e4,λp g8=>absurd (show p∈([]:PN) from g8) (by simp)⟩
 have b0:codeAny (model X.prog X.w) X.A (.compLoop (.ListComp elt [⟨tg,iter,ifs,0⟩] scope pos) 0 (.ref a6) (.ref s.heap.objs.size) (compEnvC scope (cellsFrom (l.objs.size+1) scope.names (clOf X.env scope.names [])) l.objs.size X.env))
   (RR (.ref s.heap.objs.size) l.objs.size) {s with heap:=pushCells (l.push {cls:=.type "dict",data:=.dict #[]}) scope.names}:=by
  refine Pu (λn t=>∃i,∃ys:St,∃H',ys.length=xs.length/\Inv (mH X scope (xs++fr.map (·.1)) {s with heap:=l} (upd H s.heap.objs.size (.lst [])) k) [] (ys++mX fr D) H' t/\O i t.heap/\(∀b∈k,H' b=none)/\c6 i n H')
   ?_ d5 ⟨0,xs.map λ_=>none,_,by simp,a3,b2,λb j=>(c0 b j).1.1,d4⟩ R
  rintro n c4 ⟨i,ys,H3,f2,c5,b1,a8,g6⟩;rcases d9 i n H3 g6 with⟨stop,e9⟩|⟨go,N,d7,step⟩
  ·refine thn (T.done (mH X scope (xs++fr.map (·.1)) {s with heap:=l} (upd H s.heap.objs.size (.lst [])) k) rfl rfl rfl c9 i [] c4 _ H3 (λ_ _=>False) c5 (a5 a8) b1 stop) λr a0⟨hr,K⟩=>?_;subst hr;obtain⟨g5,f8,_⟩:=K.loc;have a4:Inv X G D H3 a0:=I.call' K.os (a9.trans K.base) K.hok K.bare λb j=>let f:=a2 b j;⟨f.2.2.2.1,f.2.1,f.2.2.2.2.1,f.2.2.2.2.2⟩
   exact f1 _ _ H3 a0 g5 f8 a4 (I.fpOk hsz K.free) e9
  ·refine thn (T.item (mH X scope (xs++fr.map (·.1)) {s with heap:=l} (upd H s.heap.objs.size (.lst [])) k) rfl rfl rfl c9 i [] c4 _ H3 (λ_ _=>False) c5 (a5 a8) b1 go) λr a0⟨u,hr,e8⟩=>?_;subst hr;refine thn e8 λ_ b9⟨y,b5,a4,f0,e7,W,g3⟩=>?_;have e5:=a4.pinned (a5 g3) (T.obj _ _ W);refine thn (g2 _ _ _ (c7 _ _ _) _ b9 _ b5 y u _ e5 f0 (step ys y b5 f2 e7)) λ_ e0⟨g9,f3,e2,⟨b6,f6,g7⟩,d8⟩=>?_;subst g7;have b8:∀(J:Shared)(v:Hp),Inv (mH X scope (xs++fr.map (·.1)) {s with heap:=l} (upd H s.heap.objs.size (.lst [])) k) ([]++eF k b9.heap) (b6++mX fr D) v J->N v ->
     ∃m,m<n/\∃i,∃ys:St,∃H',ys.length=xs.length/\Inv (mH X scope (xs++fr.map (·.1)) {s with heap:=l} (upd H s.heap.objs.size (.lst [])) k) [] (ys++mX fr D) H' J/\O i J.heap/\(∀b∈k,H' b=none)/\c6 i m H':=by
    intro J v P Y;obtain⟨g1,d3,d2⟩:=d7 v Y;refine⟨g1,d3,i+1,b6,v,f6,P.unpinned,T.keep _ _ _ W λb j o e=>(P.pin (b,o) (yQ _ (yQ _ (cF j e)))).1,λb j=>?_,d2⟩;obtain⟨o,e,d⟩:=T.obj _ _ W b j;exact(P.pin (b,o) (yQ _ (yQ _ (cF j e)))).2.1
   have e6:=f9 _ _ _ (c7 _ _ _) _ e0 _ f3 _ e2 d8;have mono:∀{Q Z:Option Value->Shared->Prop}{E:VP}{t:Shared}{env:Env},(∀o S,Q o S->Z o S)->eL elt ifs env (model X.prog X.w) X.A Q E t->eL elt ifs env (model X.prog X.w) X.A Z E t:=by
    intro Q Z E t env a1 L;unfold eL at L ⊢
    match ifs,R,L with
    |[],_,L=>exact yI L (λx S q=>a1 _ _ q) λ_ _ e=>e
    |[c],_,L =>
     refine yI L (λb S q=>?_) λ_ _ e=>e;split at q
     ·rename_i j;rw[zF j];exact yI q (λx h0 q=>a1 _ _ q) λ_ _ e=>e
     ·rename_i j;rw[zD j];exact a1 _ _ q
    |_:: _:: _,R,_=>exact absurd R (by simp)
   refine mono (λo c3⟨M,c8,c1,V,d0⟩=>?_) e6;cases o with
   |none =>
    cases M with
    |none=>exact b8 c3 c8 c1 d0
    |some z=>exact V.elim
   | some f4 =>
    cases M with
    |none=>exact V.elim
    |some M =>
     obtain⟨zs,d6,hl,g0⟩:=d0;exact thn (jI _ c3 _ c8 (.ref s.heap.objs.size) [M] (.ref s.heap.objs.size) [f4] (λ_ v=>N v) c1 rfl (.cons V .nil) ⟨_,zs,M,rfl,rfl,d6,hl,g0⟩) λ_ J⟨_,v,P,_,Y⟩=>b8 J v P Y
 exact codeAny_compStart_list b0 (T.self _ 0 _ _ _ b2 b0)
variable {wi:TI}
theorem iW{pos:Pos}(c:jC X sc scope xs fr)(G:X.calm=true)(hi:PI X tg iter wi)
  (u:∀(j:Shared)(i:Hp)(d:LA),(mH X scope (xs++fr.map (·.1)) j i d).env.scope=kS sc scope->PG (mH X scope (xs++fr.map (·.1)) j i d) tg g)
  (J:∀(j:Shared)(i:Hp)(d:LA),(mH X scope (xs++fr.map (·.1)) j i d).env.scope=kS sc scope->POx (mH X scope (xs++fr.map (·.1)) j i d) elt ifs tt)
  (w:ifs.length<=1:=by exact Nat.le_of_ble_eq_true rfl)(M:∀x,foldedSetIterable iter X.env x=pure x:=by intro _;rfl):PE X (.ListComp elt [⟨tg,iter,ifs,0⟩] scope pos) (lY wi g tt xs.length fr):=by
 intro k s l H Q I h;rw[eval_ListComp];refine wpAny_comprehension_free (use:=none) rfl M (Fg (c.cells I)) c.kind c.loc (thn (hi k s l H _ I h) λv O p=>thn p λU V z=>?_);obtain⟨S,d,P,R,H2,e,N,T,t,y,n⟩:=z;subst e;refine Gv (RR:=λacc C=>compPost (model X.prog X.w) X.A X.xe none (EP X k l Q) acc C) c G w N T t y u J n ?_;intro a C H' r m F K f q;exact⟨m,F,λh' D=>⟨.ref a,H',K.turned (t':=r.toks) (λb o L e=>(D.2 b L).trans e) f.1 f.2.1 f.2.2.2.1 f.2.2.2.2.1 f.2.2.2.2.2,rfl,q⟩⟩
theorem Bz{pos u j:Pos}{y:Str}{i:Nat}(c:jC X sc scope xs fr)(a1:X.calm=true)(S:X.N.Nodup)(Y:X.N[i]?=some y)(hl:X.env.scope.names.lookup y=some .local)(hi:PI X tg iter wi)
  (J:∀(n:Shared)(k:Hp)(d:LA),(mH X scope (xs++fr.map (·.1)) n k d).env.scope=kS sc scope->PG (mH X scope (xs++fr.map (·.1)) n k d) tg g)
  (a0:∀(n:Shared)(k:Hp)(d:LA),(mH X scope (xs++fr.map (·.1)) n k d).env.scope=kS sc scope->POx (mH X scope (xs++fr.map (·.1)) n k d) elt ifs tt)
  (z:swapsWith (.ListComp elt [⟨tg,iter,ifs,0⟩] scope pos) (some (.Name y j)) u.line X.env=pure true:=by rfl)
  (O:ifs.length<=1:=by exact Nat.le_of_ble_eq_true rfl)(a2:∀x,foldedSetIterable iter X.env x=pure x:=by intro _;rfl):PS X (.Assign [.Name y j] (.ListComp elt [⟨tg,iter,ifs,0⟩] scope pos) u) (Fe i (lY wi g tt xs.length fr)):=by
 intro p s t H D I h;rw[exec_Assign_Name_used _ _ _ _ z];refine zA (wA (zA ?_));show wpAny _ _ (do let _ ←comprehension (.ListComp elt [⟨tg,iter,ifs,0⟩] scope pos) scope X.env _ (newList []) false (eval iter X.env) (some (assign (.Name y j) X.env))) _ _ s;refine zA (yI (wpAny_comprehension_free (use:=some (assign (.Name y j) X.env)) (Q:=λ_ l=>SP X p D .next l) rfl a2 (Fg (c.cells I)) c.kind c.loc
  (thn (hi p s t H _ I h) λv a4 F=>thn F λa8 a9 R=>?_)) (λ_ l L=>zB (zB L)) λ_ _ e=>e)
 obtain⟨a7,d,a5,a6,H2,e,a3,T,G,P,w⟩:=R;subst e;refine Gv (RR:=λacc C=>compPost (model X.prog X.w) X.A X.xe (some (assign (.Name y j) X.env)) (λ_ l=>SP X p D .next l) acc C) (Q:=λv H1=>D.nx (t.set i (some v)) H1) c a1 O a3 T G P J a0 w ?_;intro a C H' l m Z K f q;show wpAny _ _ (assign (.Name y j) X.env (.ref a)) _ _ _;refine wpAny_assign_Name (Eu K S Y (.inl hl) (show RelV (.ref a) (.ref a) from rfl) (λN U⟨b,W,r⟩=>?_) (.inr hl));have M:C≠b:=by
  rcases r with e|e
  ·rw[e];exact f.2.1
  ·exact zZ (f.2.2.2.2.1 y b e)
 refine⟨m,Z.sameBut W M,λh' V=>?_⟩;exact⟨_,H',U.turned (t':=N.toks) (λb o r e=>(V.2 b r).trans e) f.1 f.2.1 f.2.2.2.1 f.2.2.2.2.1 f.2.2.2.2.2,q⟩
end
def cX(sc:Scope)(N:List Str)(scope:Scope)(fr:List (Str×Nat)):Bool:=
 decide (scope.kind=.function) && decide ((scope.names.map (·.1)).Nodup) && decide (∀y∈scope.names,y.2=.free->sc.names.lookup y.1=some .cell\/sc.names.lookup y.1=some .free) &&
 decide (∀y∈scope.names,y.2=.local->scope.names.lookup y.1=some .local) && decide (∀p∈fr,N[p.2]?=some p.1/\scope.names.lookup p.1=some .free)
theorem jD{X:Cx}{sc a:Scope}{N xs:List Str}{fr:List (Str×Nat)}(e:X.env.scope=sc)(d:X.N=N)(h:cX sc N a fr=true):jC X sc a xs fr:=by
 unfold cX at h;simp only[Bool.and_eq_true,decide_eq_true_eq]at h;obtain⟨⟨⟨⟨e1,b⟩,g⟩,f⟩,c⟩:=h;subst d;exact⟨e,e1,b,g,f,c⟩
def cY(sc:Scope)(N:List Str)(i:Nat)(x:Str):Bool:=decide (N.Nodup) && decide (N[i]?=some x) && (decide (sc.names.lookup x=some .local))
theorem jL{X:Cx}{sc:Scope}{N:List Str}{i:Nat}{x:Str}{pos:Pos}(b:X.env.scope=sc)(a:X.N=N)(h:cY sc N i x=true):PG X (.Name x pos) (nB i):=by
 unfold cY at h;simp only[Bool.and_eq_true,decide_eq_true_eq]at h;subst b a;exact mD h.1.1 h.1.2 (.inl h.2) (.inr h.2)
theorem eO{X:Cx}{sc:Scope}{N:List Str}{i:Nat}{x:Str}{pos:Pos}(b:X.env.scope=sc)(a:X.N=N)(h:(decide (N.Nodup) && decide (N[i]?=some x) && (decide (sc.names.lookup x=some .cell)))=true)(c:X.fn x=true):PG X (.Name x pos) (nB i):=by
 simp only[Bool.and_eq_true,decide_eq_true_eq]at h;subst b a;exact mD h.1.1 h.1.2 (.inr h.2) (.inl c)
def SqB(b:Bool)(K:Frag)(H:Hp)(a:Addr)(xs:List V):Prop:=match b with|false=>SqL K H a xs|true=>SqT K H a xs
def ItB(b:Bool)(h:Heap)(it a:Addr)(i:Nat):Prop:=match b with|false=>h.IsListIter it a i|true=>h.IsTupleIter it a i
def seqB(b:Bool)(h:Heap)(a:Addr)(its:Array Value):Prop:=match b with|false=>h.IsList a its|true=>h.IsTuple a its
def nmB(b:Bool):String:=match b with|false => "list_iterator" |true => "tuple_iterator"
theorem ItB.at{b:Bool}{h h':Heap}{c a:Addr}{i:Nat}(x:ItB b h c a i)(e:∀o,h.get? c=some o->h'.get? c=some o):ItB b h' c a i:=by
 cases b
 ·exact Heap.IsListIter.at x e
 ·exact Heap.IsTupleIter.at x e
theorem seqB.at{b:Bool}{h h':Heap}{a:Addr}{its:Array Value}(x:seqB b h a its)(e:∀o,h.get? a=some o->h'.get? a=some o):seqB b h' a its:=by
 cases b
 ·exact Heap.IsList.at x e
 ·obtain⟨o,c,r⟩:=x;exact⟨o,e o c,r⟩
theorem ItB.lt{b:Bool}{h:Heap}{f a:Addr}{i:Nat}(x:ItB b h f a i):∃o,h.get? f=some o/\∀v,o.data≠.cell v:=by
 cases b
 ·obtain⟨o,e,c,d⟩:=x;exact⟨o,e,λv z=>by rw[d]at z;cases z⟩
 ·obtain⟨o,e,c,d⟩:=x;exact⟨o,e,λv z=>by rw[d]at z;cases z⟩
section
variable {prog:Program} {w:World} {A:Around} {E:VP} {s:Shared}
theorem Ps{b a:Addr}{i:Nat}{items}{x:Value}{Q:VP}(e:s.heap.IsTupleIter b a i)(l:s.heap.IsTuple a items)(f:items[i]?=some x)
  (k:∀h',h'.IsTupleIter b a (i+1)->Heap.SameBut b s.heap h'->Q x {s with heap:=h'}):wpAny (model prog w) A (Builtin.SmallTypes.nextOf (.ref b)) Q E s:=by
 obtain⟨o,d,m,c⟩:=id e;obtain⟨n,g,_,p,j⟩:=l;unfold Builtin.SmallTypes.nextOf;refine zA (xZ (name:=Str.ofString "__next__") e.typeIs vR
  (xT vR e.typeIs F.entry_tuple_iterator_next ?_ (F.args_tuple_iterator_next_1 _)))
 show wpAny _ _ (field (.ref b) 0 >>= _) _ _ s;refine zA (yY d c (x:=.ref a) rfl ?_);show wpAny _ _ (if(Value.ref a == Value.none)=true then _ else _) _ _ s;rw[zD (show¬ ((Value.ref a == Value.none)=true) from zQ)];show wpAny _ _ (field (.ref b) 1 >>= _) _ _ s;refine zA (yY d c (x:=.int i 0) rfl ?_);show wpAny _ _ (seqItems? (.ref a) >>= _) _ _ s;refine zA (wH g j ?_);simp only[Int.toNat_natCast,f];refine zA (vG d c (by simp) (zB ⟨x,rfl,zB (k _ ?_ (vE ..))⟩));exact⟨_,yX _ d (uW (wW c _)),(qJ ..).trans m,by
  rw[wW c];simp[rawInt]⟩
theorem Pq{b a:Addr}{i:Nat}{items}{Q:VP}(hh:A.handled=none)(c:s.heap.IsTupleIter b a i)(m:s.heap.IsTuple a items)(g:items[i]?=none)
  (l:∀h' e,Heap.ExtBut b s.heap h'->(∃o,h'.get? e=some o/\o.cls=.type "StopIteration")->E (.ref e) {s with heap:=h'}):wpAny (model prog w) A (Builtin.SmallTypes.nextOf (.ref b)) Q E s:=by
 obtain⟨o,f,q,d⟩:=id c;obtain⟨n,j,_,p,k⟩:=m;unfold Builtin.SmallTypes.nextOf;refine zA (xZ (name:=Str.ofString "__next__") c.typeIs vR
  (xT vR c.typeIs F.entry_tuple_iterator_next ?_ (F.args_tuple_iterator_next_1 _)))
 show wpAny _ _ (field (.ref b) 0 >>= _) _ _ s;refine zA (yY f d (x:=.ref a) rfl ?_);show wpAny _ _ (if(Value.ref a == Value.none)=true then _ else _) _ _ s;rw[zD (show¬ ((Value.ref a == Value.none)=true) from zQ)];show wpAny _ _ (field (.ref b) 1 >>= _) _ _ s;refine zA (yY f d (x:=.int i 0) rfl ?_);show wpAny _ _ (seqItems? (.ref a) >>= _) _ _ s;refine zA (wH j k ?_);simp only[Int.toNat_natCast,g];refine zA (wT (zA (vG f d (by simp) ?_)));show wpAny _ _ (newExc (.type "StopIteration") [] >>= _) _ _ _;refine zA ?_;simp only[newExc,newTuple];refine zA (xD ?_ (by size_fits));refine zA (m:=firstArgMember _ _) (wpAny_of_eq (a:=Value.none) (by first|rfl|(simp only[firstArgMember];rfl)) ?_);refine xD ?_ (by size_fits);simp only[raiseNew];refine zA (wpAny_handled ?_)
 first|rw[show A.in1.handled=none from hh]|rw[hh]
 refine zA (zB (wpAny_throw ?_));exact l _ _ (((vE ..).extBut.push _).push _) ⟨_,zR _ rfl,rfl⟩
theorem cZ{b:Bool}{a l:Addr}{i:Nat}{items:Array Value}{x:Value}{Q:VP}(c:ItB b s.heap a l i)(hl:seqB b s.heap l items)(e:items[i]?=some x)
  (d:∀h',ItB b h' a l (i+1)->Heap.SameBut a s.heap h'->Q x {s with heap:=h'}):wpAny (model prog w) A (Builtin.SmallTypes.nextOf (.ref a)) Q E s:=by
 cases b
 ·exact wpAny_nextOf_list_item c hl e d
 ·exact Ps c hl e d
theorem By{b:Bool}{a l:Addr}{i:Nat}{items:Array Value}{Q:VP}(hh:A.handled=none)(d:ItB b s.heap a l i)(hl:seqB b s.heap l items)(f:items[i]?=none)
  (c:∀h' e,Heap.ExtBut a s.heap h'->(∃o,h'.get? e=some o/\o.cls=.type "StopIteration")->E (.ref e) {s with heap:=h'}):wpAny (model prog w) A (Builtin.SmallTypes.nextOf (.ref a)) Q E s:=by
 cases b
 ·exact wpAny_nextOf_list_end hh d hl f c
 ·exact Pq hh d hl f c
theorem Gu{b:Bool}{l:Addr}{items:Array Value}{Q:VP}(hl:seqB b s.heap l items)
  (a:Q (.ref s.heap.objs.size) {s with heap:=s.heap.push {cls:=.type (nmB b),data:=.fields #[.ref l,.int 0 0]}}):wpAny (model prog w) A (pyIter (.ref l)) Q E s:=by
 cases b
 ·exact sD hl a
 ·exact uO hl a
theorem Gs{b:Bool}{h:Heap}{l:Addr}:ItB b (h.push {cls:=.type (nmB b),data:=.fields #[.ref l,.int 0 0]}) h.objs.size l 0:=by
 cases b
 ·exact⟨_,zR _ rfl,rfl,rfl⟩
 ·exact⟨_,zR _ rfl,rfl,rfl⟩
theorem Gr(b:Bool)(hh:A.handled=none)(a l:Addr)(j:l≠a)(items:Array Value):
  Draws prog w A a [a,l] items.size (λi v=>items[i]?=some v) (λi h=>ItB b h a l i/\seqB b h l items) where
 live:=λ_ _ st=>let ⟨o,m,_⟩:=st.1.lt;⟨o,m⟩
 frame:=λ_ _ _ st c=>⟨st.1.at λo e=>c a (by simp) o e,st.2.at λo e=>c l (by simp) o e⟩
 item:=λi s Q E hi st g=>by
  refine cZ st.1 st.2 (x:=items[i]) (by simp[hi]) λh' k d=>?_;exact g _ h' s.toks (by simp[hi]) ⟨k,st.2.at λo e=>(d.2 l j).trans e⟩ d
 done:=λs Q E st f=>By hh st.1 st.2 (by simp) f
theorem Pp{b1 b2:Bool}{z TI TO g f l1 l2:Addr}{k1 k2:Nat}{xs ys:Array Value}{x y a b:Value}{Q:Option Value->Shared->Prop}(D:ZipApart z TI TO g f l1 l2)
  (l:IsZip s.heap z TI TO .none)(Z:IsPair s.heap TI (.ref g) (.ref f))(b3:IsPair s.heap TO a b)
  (X:ItB b1 s.heap g l1 k1)(a6:ItB b2 s.heap f l2 k2)(a2:seqB b1 s.heap l1 xs)(a5:seqB b2 s.heap l2 ys)(V:xs[k1]?=some x)(a8:ys[k2]?=some y)
  (b4:∀h',IsZip h' z TI TO (rawInt s.heap.objs.size)->IsPair h' TO x y->ItB b1 h' g l1 (k1+1)->ItB b2 h' f l2 (k2+1)->IsPair h' s.heap.objs.size x y->h'.objs.size=s.heap.objs.size+1 ->
   (∀c o,c≠z->c≠TO->c≠g->c≠f->s.heap.get? c=some o->h'.get? c=some o)->Q (some (.ref s.heap.objs.size)) {s with heap:=h'}):
  wpAny (model prog w) A (pyNext (.ref z)) Q E s:=by
 have P:s.TypeIs (.ref z) "zip" := ⟨_,l,rfl⟩;unfold pyNext;refine zA (vB (xZ (name:=Str.ofString "__next__") P rH (xT rH P F.entry_zip_next ?_ (F.args_zip_next_1 _))));show wpAny _ _ (field (.ref z) 2 >>= _) _ _ _;refine zA (yY l rfl (x:=.bool false) rfl ?_);show wpAny _ _ (field (.ref z) 3 >>= _) _ _ _;refine zA (yY l rfl (x:=.ref TI) rfl ?_);refine zA (wH Z rfl ?_);show wpAny _ _ (Builtin.SmallTypes.ownedTupleIsFree (.ref z) >>= _) _ _ _;refine zA ?_;unfold Builtin.SmallTypes.ownedTupleIsFree;refine zA (yY l rfl (x:=.none) rfl (zB ?_));simp only[if_true];refine zA (wT ?_);refine zA (yY l rfl (x:=.ref TO) rfl ?_);refine zA (vM l (by simp) λa4 J i=>?_);replace J:IsZip a4 z TI TO .ellipsis:=J;refine zA ?_;simp only[List.zipIdx_cons,List.zipIdx_nil,List.forIn_cons,List.forIn_nil];refine zA (zA (sK ?_));show wpAny _ _ (Builtin.SmallTypes.nextOf (.ref g) >>= _) _ _ _;refine zA (cZ (X.at λo e=>i.extBut _ _ D.i1z e) (a2.at λo e=>i.extBut _ _ D.l1z e) V λa7 Y m=>zB ?_);have R:IsPair a7 TO a b:=m.extBut _ _ D.TOi1 (i.extBut _ _ D.TOz b3);refine zA (wH R rfl ?_);refine zA (rD R λb5 G k=>?_);replace G:IsPair b5 TO x b:=G;refine zA (pG (zB ?_));refine zA (zA (sK ?_));show wpAny _ _ (Builtin.SmallTypes.nextOf (.ref f) >>= _) _ _ _;refine zA (cZ (a6.at λo e=>k.extBut _ _ D.TOi2.symm (m.extBut _ _ D.i12.symm (i.extBut _ _ D.i2z e)))
  (a5.at λo e=>k.extBut _ _ D.l2TO (m.extBut _ _ D.l2i1 (i.extBut _ _ D.l2z e))) a8 λa0 W p=>zB ?_)
 have O:IsPair a0 TO x b:=p.extBut _ _ D.TOi2 G;refine zA (wH O rfl ?_);refine zA (rD O λd u q=>?_);replace u:IsPair d TO x y:=u;refine zA (pG (zB (zB ?_)));refine zA (wH u rfl ?_);refine zA (pI ?_);have hsz:d.objs.size=s.heap.objs.size:=by rw[q.1,p.1,k.1,m.1,i.1]
 have N:IsZip d z TI TO .ellipsis:=q.extBut _ _ D.TOz.symm (p.extBut _ _ D.i2z.symm (k.extBut _ _ D.TOz.symm (m.extBut _ _ D.i1z.symm J)));have U:∀c o,c≠z->c≠TO->c≠g->c≠f->s.heap.get? c=some o->d.get? c=some o:=λc o j r v C e =>
  q.extBut _ _ r (p.extBut _ _ C (k.extBut _ _ r (m.extBut _ _ v (i.extBut _ _ j e))))
 have a1:ItB b1 d g l1 (k1+1):=Y.at λo e=>q.extBut _ _ D.TOi1.symm (p.extBut _ _ D.i12 (k.extBut _ _ D.TOi1.symm e));have b0:ItB b2 d f l2 (k2+1):=W.at λo e=>q.extBut _ _ D.TOi2.symm e;have S:z<d.objs.size:=zI N;show wpAny _ _ (Builtin.SmallTypes.ownedTupleHandOut (.ref z) (.ref d.objs.size) >>= _) _ _ _;refine zA ?_;unfold Builtin.SmallTypes.ownedTupleHandOut;have a9:IsZip (d.push {cls:=.type "tuple",data:=.seq #[x,y]}) z TI TO .ellipsis:=zC _ N;refine zA (vM a9 (by simp) λa3 L I=>?_);replace L:IsZip a3 z TI TO (rawInt d.objs.size):=L;refine vM L (by simp) λn t K=>?_;replace t:IsZip n z TI TO (rawInt d.objs.size):=t;have up:∀c o,c≠z->d.get? c=some o->n.get? c=some o:=λc o j e=>K.extBut _ _ j (I.extBut _ _ j (zC _ e));have M:IsPair n d.objs.size x y:=K.extBut _ _ (tU S) (I.extBut _ _ (tU S) (zR _ rfl));have T:n.objs.size=d.objs.size+1:=by rw[K.1,I.1,xO]
 rw[hsz]at t M T;refine zB ⟨_,rfl,zB ?_⟩;show Q (some (.ref d.objs.size)) _;rw[hsz];exact b4 n t (up _ _ D.TOz u) (a1.at λo e=>up _ o D.i1z e) (b0.at λo e=>up _ o D.i2z e) M T λc o j r v C e=>up c o j (U c o j r v C e)
theorem Po{b1 b2:Bool}{z TI TO m l l1 l2:Addr}{k1 k2:Nat}{xs ys:Array Value}{a b:Value}{Q:Option Value->Shared->Prop}(hh:A.handled=none)(D:ZipApart z TI TO m l l1 l2)
  (j:IsZip s.heap z TI TO .none)(P:IsPair s.heap TI (.ref m) (.ref l))(Z:IsPair s.heap TO a b)
  (y:ItB b1 s.heap m l1 k1)(W:ItB b2 s.heap l l2 k2)(C:seqB b1 s.heap l1 xs)(U:seqB b2 s.heap l2 ys)(a0:xs[k1]?=none\/ys[k2]?=none)
  (M:∀h',(∀c o,c≠z->c≠TO->c≠m->c≠l->s.heap.get? c=some o->h'.get? c=some o)->Q none {s with heap:=h'}):wpAny (model prog w) A (pyNext (.ref z)) Q E s:=by
 have G:s.TypeIs (.ref z) "zip" := ⟨_,j,rfl⟩;unfold pyNext;refine zA (vB (xZ (name:=Str.ofString "__next__") G rH (xT rH G F.entry_zip_next (Q:=_) ?_ (F.args_zip_next_1 _))));show wpAny _ _ (field (.ref z) 2 >>= _) _ _ _;refine zA (yY j rfl (x:=.bool false) rfl ?_);show wpAny _ _ (field (.ref z) 3 >>= _) _ _ _;refine zA (yY j rfl (x:=.ref TI) rfl ?_);refine zA (wH P rfl ?_);show wpAny _ _ (Builtin.SmallTypes.ownedTupleIsFree (.ref z) >>= _) _ _ _;refine zA ?_;unfold Builtin.SmallTypes.ownedTupleIsFree;refine zA (yY j rfl (x:=.none) rfl (zB ?_));simp only[if_true];refine zA (wT ?_);refine zA (yY j rfl (x:=.ref TO) rfl ?_);refine zA (vM j (by simp) λT p d=>?_);replace p:IsZip T z TI TO .ellipsis:=p;refine zA ?_;simp only[List.zipIdx_cons,List.zipIdx_nil,List.forIn_cons,List.forIn_nil];refine zA (zA (sK ?_));show wpAny _ _ (Builtin.SmallTypes.nextOf (.ref m) >>= _) _ _ _;cases hx:xs[k1]? with
 |none =>
  refine zA (By hh (y.at λo e=>d.extBut _ _ D.i1z e) (C.at λo e=>d.extBut _ _ D.l1z e) hx λt e f v=>?_);obtain⟨u,g,k⟩:=v;have L:IsZip t z TI TO .ellipsis:=f _ _ D.i1z.symm p;have r:e≠z:=λx=>by subst x;rw[L]at g;cases g;simp at k
  refine vM L (by simp) λN _ i=>?_;refine zA (uD (T:= "StopIteration") (b:=true) ⟨u,i.extBut _ _ r g,k⟩ pJ ?_);exact zB (M N λc o n _ q _ x=>i.extBut _ _ n (f _ _ q (d.extBut _ _ n x)))
 | some x =>
  have Y:ys[k2]?=none:=by rcases a0 with h|h;rw[hx]at h;cases h;exact h
  refine zA (cZ (y.at λo e=>d.extBut _ _ D.i1z e) (C.at λo e=>d.extBut _ _ D.l1z e) hx λt a1 f=>zB ?_);have K:IsPair t TO a b:=f.extBut _ _ D.TOi1 (d.extBut _ _ D.TOz Z);refine zA (wH K rfl ?_);refine zA (rD K λN a2 i=>?_);refine zA (pG (zB ?_));refine zA (zA (sK ?_));show wpAny _ _ (Builtin.SmallTypes.nextOf (.ref l) >>= _) _ _ _;refine zA (By hh (W.at λo e=>i.extBut _ _ D.TOi2.symm (f.extBut _ _ D.i12.symm (d.extBut _ _ D.i2z e)))
   (U.at λo e=>i.extBut _ _ D.l2TO (f.extBut _ _ D.l2i1 (d.extBut _ _ D.l2z e))) Y λS e J v=>?_)
  obtain⟨u,g,k⟩:=v;have I:IsZip S z TI TO .ellipsis:=J _ _ D.i2z.symm (i.extBut _ _ D.TOz.symm (f.extBut _ _ D.i1z.symm p));have r:e≠z:=λx=>by subst x;rw[I]at g;cases g;simp at k
  refine vM I (by simp) λV _ O=>?_;refine zA (uD (T:= "StopIteration") (b:=true) ⟨u,O.extBut _ _ r g,k⟩ pJ ?_);exact zB (M V λc o n X q R x=>O.extBut _ _ n (J _ _ R (i.extBut _ _ X (f.extBut _ _ q (d.extBut _ _ n x)))))
end
abbrev zB1(b1:Bool)(h:Heap)(l1:Addr):Heap:=h.push {cls:=.type (nmB b1),data:=.fields #[.ref l1,.int 0 0]}
abbrev zB2(b1 b2:Bool)(h:Heap)(l1 l2:Addr):Heap:=(zB1 b1 h l1).push {cls:=.type (nmB b2),data:=.fields #[.ref l2,.int 0 0]}
abbrev zB3(b1 b2:Bool)(h:Heap)(l1 l2:Addr):Heap:=(zB2 b1 b2 h l1 l2).push {cls:=.type "tuple",data:=.seq #[.ref h.objs.size,.ref (zB1 b1 h l1).objs.size]}
abbrev zB4(b1 b2:Bool)(h:Heap)(l1 l2:Addr):Heap:=(zB3 b1 b2 h l1 l2).push {cls:=.type "tuple",data:=.seq #[.none,.none]}
abbrev zB5(b1 b2:Bool)(h:Heap)(l1 l2:Addr):Heap:=(zB4 b1 b2 h l1 l2).push {cls:=.type "zip",data:=.fields #[.none,.bool false,.bool false,.ref (zB2 b1 b2 h l1 l2).objs.size,.ref (zB3 b1 b2 h l1 l2).objs.size]}
theorem Pn(b1 b2:Bool)(l1 l2:Addr)(xs ys:Array Value):
  Meets (Builtin.«zip.__new__» ⟨[.type "zip",.ref l1,.ref l2],[]⟩) (λ_ R s=>seqB b1 s.heap l1 xs/\seqB b2 s.heap l2 ys /\
   R (.ok (.ret (.ref (zB4 b1 b2 s.heap l1 l2).objs.size))) {s with heap:=zB5 b1 b2 s.heap l1 l2}):=
 .of_wp λprog w A R s h=>by
  obtain⟨b,g,d,tk,a⟩:=s;obtain⟨i,j,h⟩:=h;have k:=sub_zip;have c:seqB b1 (Shared.heap ⟨b,g,d,tk,a⟩) l1 xs:=i;have f:seqB b2 (Shared.heap ⟨b.push {cls:=.type (nmB b1),data:=.fields #[.ref l1,.int 0 0]},g,d,tk,a⟩) l2 ys:=j.at λo e=>zC _ e
  wp_walk using Gu c,Gu f
  exact⟨_,rfl,h⟩
theorem Pm{prog:Program}{w:World}{A:Around}{E:VP}{s:Shared}{b1 b2:Bool}{l1 l2:Addr}{xs ys:Array Value}{Q:VP}(m:seqB b1 s.heap l1 xs)(n:seqB b2 s.heap l2 ys)
  (h:∀h',IsZip h' (s.heap.objs.size+4) (s.heap.objs.size+2) (s.heap.objs.size+3) .none->IsPair h' (s.heap.objs.size+2) (.ref s.heap.objs.size) (.ref (s.heap.objs.size+1)) ->
   IsPair h' (s.heap.objs.size+3) .none .none->ItB b1 h' s.heap.objs.size l1 0->ItB b2 h' (s.heap.objs.size+1) l2 0 ->
   (∀c o,s.heap.get? c=some o->h'.get? c=some o)->Q (.ref (s.heap.objs.size+4)) {s with heap:=h'}):
  wpAny (model prog w) A (call (.type "zip") [.ref l1,.ref l2]) Q E s:=by
 refine callType_new F.called_zip ∅ (F.typeCall_zip_2 _ _) (F.newCall_zip_2 _ _) (λq=>F.args_object_init_3 q _ _) F.entry_zip_new
  (Pn b1 b2 l1 l2 xs ys) ⟨m,n,?_⟩
 have d:(zB1 b1 s.heap l1).objs.size=s.heap.objs.size+1:=xO ..;have g:(zB2 b1 b2 s.heap l1 l2).objs.size=s.heap.objs.size+2:=by rw[xO,d]
 have b:(zB3 b1 b2 s.heap l1 l2).objs.size=s.heap.objs.size+3:=by rw[xO,g]
 have l:(zB4 b1 b2 s.heap l1 l2).objs.size=s.heap.objs.size+4:=by rw[xO,b]
 have f:(zB5 b1 b2 s.heap l1 l2).get? (zB4 b1 b2 s.heap l1 l2).objs.size=some _:=zR _ rfl;have i:(zB5 b1 b2 s.heap l1 l2).get? (zB3 b1 b2 s.heap l1 l2).objs.size=some _:=zC _ (zR _ rfl);have j:(zB5 b1 b2 s.heap l1 l2).get? (zB2 b1 b2 s.heap l1 l2).objs.size=some _:=zC _ (zC _ (zR _ rfl));have a:∀c o,(zB2 b1 b2 s.heap l1 l2).get? c=some o->(zB5 b1 b2 s.heap l1 l2).get? c=some o:=λc o e=>zC _ (zC _ (zC _ e));have k:ItB b2 (zB5 b1 b2 s.heap l1 l2) (zB1 b1 s.heap l1).objs.size l2 0:=Gs.at λo e=>a _ o e;have p:ItB b1 (zB5 b1 b2 s.heap l1 l2) s.heap.objs.size l1 0:=Gs.at λo e=>a _ o (zC _ e);show _/\_;rw[g,b,l]at f;rw[d,g]at j;rw[b]at i;rw[d]at k;rw[l];exact⟨⟨_,f,rfl⟩,h _ f j i p k λc o x=>a c o (zC _ (zC _ x))⟩
section
variable {X:Cx} {pins:PN} {σ:St} {H:Hp} {s:Shared} {h':Heap}
theorem Inv.seqB{b:Bool}{a:Addr}{xs:List V}(I:Inv X pins σ H s)(h:SqB b X.K H a xs):∃its:LW,Vals xs its/\L2.seqB b s.heap a its.toArray:=by
 cases b
 ·obtain⟨its,c,p,_⟩:=I.list h;exact⟨its,c,p.isList⟩
 ·obtain⟨its,c,p,_⟩:=I.tuple h;exact⟨its,c,p⟩
theorem Inv.seqB_inj{b:Bool}{a:Addr}{xs ys:List V}(I:Inv X pins σ H s)(h:SqB b X.K H a xs)(c:SqB b X.K H a ys):xs=ys:=by
 cases b
 ·exact I.list_inj h c
 ·exact I.tuple_inj h c
theorem Inv.seq_ne{b:Bool}{a f:Addr}{xs:List V}(I:Inv X pins σ H s)(h:SqB b X.K H a xs)(i:FpOk X pins H f):a≠f:=by
 have g:∀u,Rd H a u->a≠f:=λu r z=>by
  subst z;rcases r with r|⟨o,r⟩ <;> (rw[i.1]at r;cases r)
 have d:∀o,X.K.lookup a=some o->a≠f:=λo e z=>by
  subst z;have q:=I.mod.kin a o e;rcases i.2.2.2.1 with w|w
  ·exact I.ok.noex _ _ q w
  ·exact absurd (zJ (zI q) (yC I.ok.bsz w)) (yW _)
 cases b
 ·rcases h with h|⟨o,its,n,c,_⟩
  ·exact g _ h
  ·exact d _ c
 ·rcases h with h|⟨o,its,n,c,_⟩
  ·exact g _ h
  ·exact d _ c
theorem Inv.turnedNew{d:LA}{n:Addr}{u:HO}{t':Nat}(I:Inv X pins σ H s)(i:∀b∈d,FpOk X pins H b)(k:∀b o,b∉d->s.heap.get? b=some o->h'.get? b=some o)(l:s.heap.objs.size<=n)
  (new:nM X.prog X.w (upd H n u) h' n u):Inv X pins σ (upd H n u) {s with heap:=h',toks:=t'}:=by
 have f:=I.hok.fresh l;have j:∀b v,H b=some v->b∉d:=λb v e z=>by rw[(i b z).1]at e;cases e
 have y:X.env.locals∉d:=λz=>(i _ z).2.1 rfl;refine I.step (g':=s.gens) (d':=s.drawn) (ch:=d) (λb g=>?_) (λb o _ _ a e _=>k b o a e) (λb o _ _ a e _=>⟨o.slots,k b o a e⟩) (λb o _ e z=>?_)
  (λb o a e=>⟨o,k b o a e⟩) (λb xs e=>?_) (λb o v e=>?_) (λb ps e=>⟨#[],?_⟩) (λm t=>?_) (λb v e=>?_) I.bare
 ·obtain⟨G,p,J,w,F,C⟩:=i b g;exact⟨w,p,F,C⟩
 ·rw[oV (zX (zJ (zI e) l))];exact z
 ·rw[oV (nY e f)];exact e
 ·rw[oV (nY e f)];exact e
 ·rw[oV (nY e f),e];simp
 ·obtain⟨o,es,ep,D,r⟩:=t;exact⟨o,es,ep,k _ o y D,r⟩
 ·by_cases g:b=n
  ·subst g;rw[oS]at e;cases e;exact new
  ·rw[oV g]at e;refine(I.hok b v e).stay (λc x a q=>k c x ?_ q) (λc q=>by rw[oV (nY q f)];exact q) λc xs q=>by rw[oV (nY q f)];exact q
   rcases a with z|z
   ·rw[z];exact j b v e
   ·exact j c _ z
theorem Inv.turnedL{d:LA}{t':Nat}(I:Inv X pins σ H s)(f:∀b∈d,FpOk X pins H b)(k:∀b o,b∉d->s.heap.get? b=some o->h'.get? b=some o):Inv X pins σ H {s with heap:=h',toks:=t'}:=by
 have g:∀b v,H b=some v->b∉d:=λb v e z=>by rw[(f b z).1]at e;cases e
 have n:X.env.locals∉d:=λz=>(f _ z).2.1 rfl;refine I.step (g':=s.gens) (d':=s.drawn) (ch:=d) (λb p=>?_) (λb o _ _ a e _=>k b o a e) (λb o _ _ a e _=>⟨o.slots,k b o a e⟩) (λb o _ e z=>z)
  (λb o a e=>⟨o,k b o a e⟩) (λb xs e=>e) (λb o v e=>e) (λb ps e=>⟨#[],by rw[e];simp⟩) (λm j=>?_) (λb v e=>?_) I.bare
 ·obtain⟨y,i,C,l,w,t⟩:=f b p;exact⟨l,i,w,t⟩
 ·obtain⟨o,es,ep,u,r⟩:=j;exact⟨o,es,ep,k _ o n u,r⟩
 ·refine(I.hok b v e).stay (λc x a q=>k c x ?_ q) (λc q=>q) λc xs q=>q;rcases a with z|z
  ·rw[z];exact g b v e
  ·exact g c _ z
end
def Itz(K:Frag)(b1:Bool)(l1:Addr)(b2:Bool)(l2:Addr):It:=
  ⟨λi H=>∃xs ys x y,SqB b1 K H l1 xs/\SqB b2 K H l2 ys/\xs[i]?=some x/\ys[i]?=some y,
   λi H v H'=>∃p x y,v=.ref p/\H p=none/\H'=upd H p (.tup [x,y])/\(∀xs,SqB b1 K H l1 xs->xs[i]?=some x)/\∀ys,SqB b2 K H l2 ys->ys[i]?=some y,
   λi H=>∃xs ys,SqB b1 K H l1 xs/\SqB b2 K H l2 ys/\(xs[i]?=none\/ys[i]?=none)⟩
theorem Gq{xs:List V}{its:LW}{i:Nat}(r:Vals xs its):xs[i]?=none->its.toArray[i]?=none:=λh=>by
 have:=r.none_of h;simpa using this
theorem Pl{P:Program}{w:World}{K:Frag}{es:List Expr}{k:Nat}{pos:Pos}{b1 b2:Bool}{z TI TO g d l1 l2:Addr}(R:[z,TI,TO,g,d].Nodup):
  Turn P w K (.Tuple es k pos) (Itz K b1 l1 b2 l2) [z,TI,TO,g,d] z (λi h=>IsZip h z TI TO .none/\IsPair h TI (.ref g) (.ref d)/\(∃a b,IsPair h TO a b)/\ItB b1 h g l1 i/\ItB b2 h d l2 i) where
 mem:=by simp
 obj:=λi h⟨r,j,⟨a,b,C⟩,p,u⟩c N=>by
  simp only[List.mem_cons,List.not_mem_nil,or_false]at N;rcases N with e|e|e|e|e <;> subst e
  ·exact⟨_,r,λv q=>by have M:Data.fields _=Data.cell v:=q;cases M⟩
  ·exact⟨_,j,λv q=>by have M:Data.seq _ _=Data.cell v:=q;cases M⟩
  ·exact⟨_,C,λv q=>by have M:Data.seq _ _=Data.cell v:=q;cases M⟩
  ·exact p.lt
  ·exact u.lt
 keep:=λi h h'⟨r,j,⟨a,b,C⟩,p,u⟩O=>⟨O z (by simp) _ r,O TI (by simp) _ j,⟨a,b,O TO (by simp) _ C⟩,p.at λo e=>O g (by simp) o e,u.at λo e=>O d (by simp) o e⟩
 item:=by
  intro X U V a9 N i b8 s b9 H E I t st a5;subst U V a9;obtain⟨r,j,⟨a,b,C⟩,p,u⟩:=st;obtain⟨xs,ys,x,y,L,G,e1,b7⟩:=a5;obtain⟨c3,r1,a2⟩:=I.seqB L;obtain⟨d3,r2,b0⟩:=I.seqB G;obtain⟨c2,c5,d5⟩:=r1.get e1;obtain⟨c0,c7,c6⟩:=r2.get b7;have l:∀f∈[z,TI,TO,g,d],l1≠f:=λf F=>I.seq_ne L (t f F);have n:∀f∈[z,TI,TO,g,d],l2≠f:=λf F=>I.seq_ne G (t f F);simp only[List.nodup_cons,List.mem_cons,List.not_mem_nil,or_false,not_or,List.nodup_nil,and_true,not_false_eq_true]at R;obtain⟨⟨a7,b4,b5,a4⟩,⟨b6,W,a8⟩,⟨a0,a6⟩,a1⟩:=R;have D:ZipApart z TI TO g d l1 l2:=⟨zZ a7,zZ b4,zZ b5,zZ a4,b6,W,a8,a0,a6,a1,l z (by simp),l TO (by simp),l g (by simp),l d (by simp),n z (by simp),n TO (by simp),n g (by simp),n d (by simp)⟩;refine Pp D r j C p u a2 b0 (x:=c2) (y:=c0) (by simpa using c5) (by simpa using c7) λh' d0 c4 d4 d1 d6 e0 S=>⟨_,rfl,?_⟩;refine wpAny_letOwnedTupleGo_zip d0 λZ c8 J=>?_;have up:∀c o,c∉[z,TI,TO,g,d]->s.heap.get? c=some o->Z.get? c=some o:=λc o m e=>by
   simp only[List.mem_cons,List.not_mem_nil,or_false,not_or]at m;obtain⟨T,d2,Y,a3,b3⟩:=m;exact J.extBut _ _ T (S c o T Y a3 b3 e)
  have c1:s.heap.objs.size≠z:=tU (zI r);have new:nM X.prog X.w (upd H s.heap.objs.size (.tup [x,y])) Z s.heap.objs.size (.tup [x,y]):=
   ⟨by show 2<=sizeLine;decide,[c2,c0],.cons d5 (.cons c6 .nil),⟨_,J.extBut _ _ c1 d6,rfl,_,rfl⟩⟩
  have d7:Inv X b8 b9 (upd H s.heap.objs.size (.tup [x,y])) {s with heap:=Z}:=I.turnedNew (t':=s.toks) t up (zE _) new;refine⟨.ref s.heap.objs.size,_,d7,rfl,⟨_,x,y,rfl,I.fresh,rfl,λd9 q=>by rw[I.seqB_inj q L];exact e1,λd8 q=>by rw[I.seqB_inj q G];exact b7⟩,⟨c8,J.extBut _ _ D.TIz (S _ _ D.TIz D.TITO D.TIi1 D.TIi2 j),⟨_,_,J.extBut _ _ D.TOz c4⟩,d4.at λo e=>J.extBut _ _ D.i1z e,d1.at λo e=>J.extBut _ _ D.i2z e⟩,λc m=>?_⟩;have c9:=(t c m).1;rw[oV]
  ·exact c9
  ·intro e;subst e;simp only[List.mem_cons,List.not_mem_nil,or_false]at m;rcases m with e|e|e|e|e
   ·exact c1 e
   ·exact absurd (zI j) (by rw[←e];exact yW _)
   ·exact absurd (zI C) (by rw[←e];exact yW _)
   ·obtain⟨o,q,_⟩:=p.lt;exact absurd (zI q) (by rw[←e];exact yW _)
   ·obtain⟨o,q,_⟩:=u.lt;exact absurd (zI q) (by rw[←e];exact yW _)
 done:=by
  intro X U V a9 N i b8 s b9 H E I t st a5;subst U V a9;obtain⟨r,j,⟨a,b,C⟩,p,u⟩:=st;obtain⟨xs,ys,L,G,e1⟩:=a5;obtain⟨c3,r1,a2⟩:=I.seqB L;obtain⟨d3,r2,b0⟩:=I.seqB G;have l:∀f∈[z,TI,TO,g,d],l1≠f:=λf F=>I.seq_ne L (t f F);have n:∀f∈[z,TI,TO,g,d],l2≠f:=λf F=>I.seq_ne G (t f F);simp only[List.nodup_cons,List.mem_cons,List.not_mem_nil,or_false,not_or,List.nodup_nil,and_true,not_false_eq_true]at R;obtain⟨⟨a7,b4,b5,a4⟩,⟨b6,W,a8⟩,⟨a0,a6⟩,a1⟩:=R;have D:ZipApart z TI TO g d l1 l2:=⟨zZ a7,zZ b4,zZ b5,zZ a4,b6,W,a8,a0,a6,a1,l z (by simp),l TO (by simp),l g (by simp),l d (by simp),n z (by simp),n TO (by simp),n g (by simp),n d (by simp)⟩;refine Po (I.ok.hd N) D r j C p u a2 b0 (e1.imp (Gq r1) (Gq r2)) λh' S=>⟨rfl,I.turnedL (t':=s.toks) t λc o m e=>?_⟩;simp only[List.mem_cons,List.not_mem_nil,or_false,not_or]at m;obtain⟨T,d2,Y,a3,b3⟩:=m;exact S c o T Y a3 b3 e
 self:=λ_ _ _ _ _ st h=>wpAny_pyIter_zip st.1 h
section
variable {X:Cx}
def iZip(K:Frag)(ta:TA):TI:=λσ H R=>ta σ H λvs H1=>∃b1 b2 l1 l2,vs=[.ref l1,.ref l2]/\(∃xs,SqB b1 K H1 l1 xs)/\(∃ys,SqB b2 K H1 l2 ys)/\R (Itz K b1 l1 b2 l2) H1
theorem Gp{a b:Expr}{n:TA}{es:List Expr}{k:Nat}{N p pos:Pos}(y:Gl X "zip")(z:X.mg "zip"=none)(L:PA X [a,b] n)(F:bootBuiltins "zip"=some (.type "zip"):=by decide +kernel)
  (M:starEach [a,b] X.env=[(false,eval a X.env),(false,eval b X.env)]:=by rfl)(m:starEach [b] X.env=[(false,eval b X.env)]:=by rfl):
  PI X (.Tuple es k N) (.Call (.Name "zip" p) [a,b] [] pos) (iZip X.K n):=by
 intro w s D H R I h;refine Call_ (iO I y z F (xY (thn (L pos w s D H _ I h) λus d⟨vs,H1,f,r1,i⟩=>?_) (by rw[M,m]) (by rw[m];rfl)));obtain⟨b1,b2,l1,l2,e,⟨xs,i⟩,⟨ys,C⟩,q⟩:=i;subst e;cases r1 with
 | cons r g =>
  cases g with
  | cons x g =>
   cases g;cases r;cases x;obtain⟨S,U,v⟩:=f.seqB i;obtain⟨T,v2,J⟩:=f.seqB C;refine Pm v J λh' l u K G P O=>?_;refine wpAny_pyIter_zip l ?_;have lt:∀j,j<=4->d.heap.objs.size<=d.heap.objs.size+j:=λj _=>qQ _ _;refine⟨d.heap.objs.size+4,[d.heap.objs.size+4,d.heap.objs.size+2,d.heap.objs.size+3,d.heap.objs.size,d.heap.objs.size+1],_,_,H1,rfl,f.kept (t':=d.toks) O,Pl (b1:=b1) (b2:=b2) (l1:=l1) (l2:=l2) ?_,⟨l,u,⟨_,_,K⟩,G,P⟩,λc o=>?_,q⟩
   ·simp
   ·have t:d.heap.objs.size<=c:=by
     simp only[List.mem_cons,List.not_mem_nil,or_false]at o;rcases o with e|e|e|e|e <;> subst e <;> first|exact zE _|exact qQ _ _
    exact f.fpOk t (f.hok.fresh t)
end
open AutoSeq1 (wpAny_loadPart')
set_option maxRecDepth 100000 in
theorem Pk(l:Addr)(items:Array Value)(n:Nat)(f:Option Addr)(e:Array (Option Value)):
  Meets (Builtin.«enumerate.__new__» ⟨[.type "enumerate",.ref l],[]⟩) (λ_ R s=>s.heap.get? l=some {cls:=.type "tuple",dict:=f,data:=.seq items n,slots:=e} /\
   R (.ok (.ret (.ref (s.heap.push {cls:=.type "tuple_iterator",data:=.fields #[.ref l,.int 0 0]}).objs.size)))
    {s with heap:=(s.heap.push {cls:=.type "tuple_iterator",data:=.fields #[.ref l,.int 0 0]}).push {cls:=.type "enumerate",data:=.fields #[.none,.bool false,.ref s.heap.objs.size,rawInt 0,.none,.none]}}):=
 .of_wp λprog w A R s h=>by
  obtain⟨i,g,d,tk,b⟩:=s;obtain⟨hl,h⟩:=h;have j:=sub_enumerate;have a:Heap.IsTuple (Shared.heap ⟨i,g,d,tk,b⟩) l items:=⟨_,hl,rfl,n,rfl⟩
  wp_walk using uM hl
  refine wpAny_stack_any λst=>zB ?_;split
  ·rename_i c _ _ _ _ _;cases(c == Value.type "enumerate")
   ·wp_walk using uM hl,uO a
    exact⟨_,rfl,h⟩
   ·wp_walk using uM hl,uO a
    exact⟨_,rfl,h⟩
  ·wp_walk using uM hl,uO a
   exact⟨_,rfl,h⟩
theorem Pj{prog:Program}{w:World}{A:Around}{E:VP}{s:Shared}{b:Bool}{l:Addr}{items:Array Value}{Q:VP}(e:seqB b s.heap l items)
  (h:∀h',IsEnum h' (s.heap.objs.size+1) s.heap.objs.size 0 .none->ItB b h' s.heap.objs.size l 0 ->
   (∀b o,s.heap.get? b=some o->h'.get? b=some o)->Q (.ref (s.heap.objs.size+1)) {s with heap:=h'}):
  wpAny (model prog w) A (call (.type "enumerate") [.ref l]) Q E s:=by
 cases b
 ·exact call_enumerate_list e λh' i m r j=>h h' i m j
 ·obtain⟨⟨c,q,dt,k⟩,hl,d,n,a⟩:=e;replace d:c=.type "tuple" := d;replace a:dt=.seq items n:=a;subst d a;refine callType_new F.called_enumerate ∅ (F.typeCall_enumerate_1 _) (F.newCall_enumerate_1 _) (λp=>F.args_object_init_2 p _) F.entry_enumerate_new
   (Pk l items n q k) ⟨hl,?_⟩
  have f:(s.heap.push {cls:=.type "tuple_iterator",data:=.fields #[.ref l,.int 0 0]}).objs.size=s.heap.objs.size+1:=xO ..;show _/\_;rw[f];have g:IsEnum ((s.heap.push {cls:=.type "tuple_iterator",data:=.fields #[.ref l,.int 0 0]}).push
    {cls:=.type "enumerate",data:=.fields #[.none,.bool false,.ref s.heap.objs.size,rawInt 0,.none,.none]}) (s.heap.objs.size+1) s.heap.objs.size 0 .none:=by
   have:=zR (s.heap.push {cls:=.type "tuple_iterator",data:=.fields #[.ref l,.int 0 0]})
    (o:={cls:=.type "enumerate",data:=.fields #[.none,.bool false,.ref s.heap.objs.size,rawInt 0,.none,.none]}) rfl
   rw[f]at this;exact this
  refine⟨⟨_,g,rfl⟩,h _ g ⟨_,zC _ (zR _ rfl),rfl,rfl⟩ λb o x=>zC _ (zC _ x)⟩
def Ite(K:Frag)(b:Bool)(l:Addr):It:=
  ⟨λi H=>∃xs x,SqB b K H l xs/\xs[i]?=some x,
   λi H v H'=>∃p x,v=.ref p/\H p=none/\H'=upd H p (.tup [.int i,x])/\∀xs,SqB b K H l xs->xs[i]?=some x,
   λi H=>∃xs,SqB b K H l xs/\xs.length=i⟩
theorem Pi{P:Program}{w:World}{K:Frag}{es:List Expr}{k:Nat}{pos:Pos}{b:Bool}{e a l:Addr}(G:e≠a):
  Turn P w K (.Tuple es k pos) (Ite K b l) [e,a] e (λi h=>(∃r,IsEnum h e a i r)/\ItB b h a l i) where
 mem:=by simp
 obj:=λi h⟨⟨r,j⟩,g⟩c y=>by
  simp only[List.mem_cons,List.not_mem_nil,or_false]at y;rcases y with e|e <;> subst e
  ·exact⟨_,j,λv q=>by have a7:Data.fields _=Data.cell v:=q;cases a7⟩
  ·exact g.lt
 keep:=λi h h'⟨⟨r,j⟩,g⟩W=>⟨⟨r,W e (by simp) _ j⟩,g.at λo q=>W a (by simp) o q⟩
 item:=by
  intro X m D M y i S s T H E I p st L;subst m D M;obtain⟨⟨r,j⟩,g⟩:=st;obtain⟨xs,x,t,e1⟩:=L;obtain⟨n,r1,J⟩:=I.seqB t;obtain⟨V,R,a6⟩:=r1.get e1;have C:∀f∈[e,a],l≠f:=λf O=>I.seq_ne t (p f O);have a1:i<n.toArray.size:=by
   have:=(oK.mp R).1;simpa using this
  refine wpAny_pyNext_enum_itemD (Gr b (show X.A.in1.handled=none from I.ok.hd y) a l (C a (by simp)) n.toArray) j ⟨g,J⟩ a1 G (λq=>?_) λu h' tk m a4 Z a5 b2 a9=>⟨_,rfl,?_⟩
  ·simp only[List.mem_cons,List.not_mem_nil,or_false]at q;rcases q with q|q
   ·exact G q
   ·exact C e (by simp) q.symm
  have a0:u=V:=by
   have:n.toArray[i]?=some V:=by simpa using R
   rw[this]at m;exact(zU m).symm
  subst a0;refine wpAny_letOwnedTupleGo_enum a4 λF a2 N=>?_;have U:s.heap.objs.size≠e:=tU (zI j);have up:∀c o,c∉[e,a]->s.heap.get? c=some o->F.get? c=some o:=λc o d q=>by
   simp only[List.mem_cons,List.not_mem_nil,or_false,not_or]at d;exact N.extBut _ _ d.1 (a9 c o d.1 d.2 q)
  have new:nM X.prog X.w (upd H s.heap.objs.size (.tup [.int i,x])) F s.heap.objs.size (.tup [.int i,x]):=
   ⟨by show 2<=sizeLine;decide,[.int i tk,u],.cons ⟨tk,rfl⟩ (.cons a6 .nil),⟨_,N.extBut _ _ U a5,rfl,_,rfl⟩⟩
  have b0:Inv X S T (upd H s.heap.objs.size (.tup [.int i,x])) {s with heap:=F,toks:=tk+1}:=I.turnedNew (t':=tk+1) p up (zE _) new;refine⟨.ref s.heap.objs.size,_,b0,rfl,⟨_,x,rfl,I.fresh,rfl,λb1 q=>by rw[I.seqB_inj q t];exact e1⟩,⟨⟨u,by simpa using a2⟩,Z.1.at λo q=>N.extBut _ _ (zZ G) q⟩,λc d=>?_⟩;have a3:=(p c d).1;rw[oV]
  ·exact a3
  ·intro z;subst z;simp only[List.mem_cons,List.not_mem_nil,or_false]at d;rcases d with z|z
   ·exact U z
   ·obtain⟨o,q,_⟩:=g.lt;exact absurd (zI q) (by rw[←z];exact yW _)
 done:=by
  intro X m D M y i S s T H E I p st L;subst m D M;obtain⟨⟨r,j⟩,g⟩:=st;obtain⟨xs,t,e1⟩:=L;obtain⟨n,r1,J⟩:=I.seqB t;have C:∀f∈[e,a],l≠f:=λf O=>I.seq_ne t (p f O);have a8:n.toArray.size=i:=by rw[zV,←r1.length,e1]
  refine wpAny_pyNext_enum_endD (Gr b (show X.A.in1.handled=none from I.ok.hd y) a l (C a (by simp)) n.toArray) j ⟨by rw[a8];exact g,J⟩ λh' Y=>⟨rfl,I.turnedL (t':=s.toks) p λc o d q=>?_⟩;simp only[List.mem_cons,List.not_mem_nil,or_false,not_or]at d;exact Y c o d.2 q
 self:=λ_ _ _ _ _ st h=>let ⟨⟨_,q⟩,_⟩:=st;wpAny_pyIter_enum q h
section
variable {X:Cx}
def eP(K:Frag)(ta:TA):TI:=λσ H R=>ta σ H λvs H1=>∃b l,vs=[.ref l]/\(∃xs,SqB b K H1 l xs)/\R (Ite K b l) H1
theorem bA{a:Expr}{j:TA}{es:List Expr}{k:Nat}{D p pos:Pos}(w:Gl X "enumerate")(x:X.mg "enumerate"=none)(C:PA X [a] j)(z:bootBuiltins "enumerate"=some (.type "enumerate"):=by decide +kernel)
  (G:starEach [a] X.env=[(false,eval a X.env)]:=by rfl):
  PI X (.Tuple es k D) (.Call (.Name "enumerate" p) [a] [] pos) (eP X.K j):=by
 intro v s y H R I h;refine Call_ (iO I w x z (xY (thn (C pos v s y H _ I h) λus d⟨vs,H1,f,r1,g⟩=>?_) G rfl));obtain⟨b,l,e,⟨xs,g⟩,q⟩:=g;subst e;cases r1 with
 | cons r o =>
  cases o;cases r;obtain⟨J,K,u⟩:=f.seqB g;refine Pj u λh' i t F=>?_;refine wpAny_pyIter_enum i ?_;refine⟨d.heap.objs.size+1,[d.heap.objs.size+1,d.heap.objs.size],_,_,H1,rfl,f.kept (t':=d.toks) F,Pi (b:=b) (l:=l) (by simp),⟨⟨_,i⟩,t⟩,λc m=>?_,q⟩;have n:d.heap.objs.size<=c:=by
   simp only[List.mem_cons,List.not_mem_nil,or_false]at m;rcases m with e|e <;> subst e <;> first|exact zE _|exact qQ _ _
  exact f.fpOk n (f.hok.fresh n)
theorem Go:∀{ns:LI'}{its:LW},Vals (ns.map V.int) its->∃xs:List (Int×Tok),its=xs.map (λp=>Value.int p.1 p.2)/\xs.map (·.1)=ns
 |[],_,.nil=>⟨[],rfl,rfl⟩
 |n:: r,_,.cons ⟨a,h⟩ q=>by
  obtain⟨xs,e1,b⟩:=Go (ns:=r) q;exact⟨(n,a):: xs,by rw[h,e1];rfl,by rw[zN,b]⟩
theorem bB(e:X.calm=true):mU X (.builtin "sum") (λxs H Q=>∃(p:Addr)(ns:LI'),xs=[.ref p]/\SqL X.K H p (ns.map V.int)/\Q (.int ns.sum) H):=by
 intro g s j H xs us Q I r h;obtain⟨p,ns,rfl,d,q⟩:=h;obtain⟨u,rfl,a⟩:=jA r;cases a;obtain⟨its,f,pl,i⟩:=I.list d;obtain⟨ps,e1,b⟩:=Go f;have hl:s.heap.IsList p (intItems ps.toArray):=by
  have:=pl.isList;rw[e1]at this;simpa [intItems]using this
 refine sum_intListG (I.ok.hd e) hl λh' tk t' c=>⟨.int ns.sum,H,I.kept (t':=tk) c,⟨t',?_⟩,q⟩;rw[preSum_eq,yT (by simp)];simp[b]
end
theorem SqB.or{b:Bool}{K:Frag}{H:Hp}{a:Addr}{xs:List V}(h:SqB b K H a xs):SqL K H a xs\/SqT K H a xs:=by
 cases b
 ·exact .inl h
 ·exact .inr h
theorem SqB.up{b:Bool}{K:Frag}{H H':Hp}{a:Addr}{xs:List V}(h:SqB b K H a xs)(s:Same H H'):SqB b K H' a xs:=by
 cases b
 ·exact s.seq h
 ·exact s.tup h
theorem SqB.lst{K:Frag}{H:Hp}{a:Addr}{xs:List V}(h:H a=some (.lst xs)):SqB false K H a xs:=SqL.of h
theorem SqB.tup{K:Frag}{H:Hp}{a:Addr}{xs:List V}(h:H a=some (.tup xs)):SqB true K H a xs:=SqT.of h
def Its(K:Frag)(b:Bool)(a:Addr):It:=match b with|false=>Itl K a|true=>Itt K a
theorem Its.go{K:Frag}{b:Bool}{a:Addr}{xs:List V}{x:V}{i:Nat}{H:Hp}(h:SqB b K H a xs)(e:xs[i]?=some x):(Its K b a).go i H:=by
 cases b
 ·exact⟨xs,x,h,e⟩
 ·exact⟨xs,x,h,e⟩
theorem Its.stop{K:Frag}{b:Bool}{a:Addr}{xs:List V}{i:Nat}{H:Hp}(h:SqB b K H a xs)(e:xs.length<=i):(Its K b a).stop i H:=by
 cases b
 ·exact⟨xs,h,e⟩
 ·exact⟨xs,h,e⟩
theorem Its.yld{K:Frag}{b:Bool}{a:Addr}{xs:List V}{i:Nat}{H H':Hp}{x:V}(h:SqB b K H a xs)(y:(Its K b a).yld i H x H'):H'=H/\xs[i]?=some x:=by
 cases b
 ·exact⟨y.1,y.2 xs h⟩
 ·exact⟨y.1,y.2 xs h⟩
section
variable {X:Cx}
def iSeq(K:Frag)(tl:TE):TI:=λσ H R=>tl σ H λx H1=>∃b a,x=.ref a/\(∃xs,SqB b K H1 a xs)/\R (Its K b a) H1
theorem mI{k l:Expr}{i:TE}(hl:PE X l i):PI X k l (iSeq X.K i):=by
 intro j s r H R I h;refine thn (hl j s r H _ I h) λv c⟨x,H1,d,r1,n⟩=>?_;obtain⟨b,a,e,⟨xs,g⟩,q⟩:=n;subst e;cases r1;cases b
 ·obtain⟨its,t,p,m⟩:=d.list g;refine sD p.isList ?_;refine⟨c.heap.objs.size,[c.heap.objs.size],_,_,H1,rfl,d.kept (t':=c.toks) λb o e=>zC _ e,Mm a _,⟨_,zR _ rfl,rfl,rfl⟩,λb f=>?_,q⟩;have e:b=c.heap.objs.size:=by simpa using f
  subst e;exact d.fpOk (zE _) (d.hok.fresh (zE _))
 ·obtain⟨its,t,p,m⟩:=d.tuple g;refine uO (show c.heap.IsTuple a its.toArray from p) ?_;refine⟨c.heap.objs.size,[c.heap.objs.size],_,_,H1,rfl,d.kept (t':=c.toks) λb o e=>zC _ e,Ml a _,⟨_,zR _ rfl,rfl,rfl⟩,λb f=>?_,q⟩;have e:b=c.heap.objs.size:=by simpa using f
  subst e;exact d.fpOk (zE _) (d.hok.fresh (zE _))
def rIxB(K:Frag):R2:=λx y H Q=>E5 λ(b:Bool)(p:Addr)(xs:List V)(i:Int)(v:V)=>A5 (x=.ref p) (y=.int i) (SqB b K H p xs) (atI xs i=some v) (Q v H)
theorem ix_B:IxR X (rIxB X.K):=by
 intro l k d s j H x y v u Q I a f h;obtain⟨b,p,xs,i,m,e1,c,g,e,q⟩:=h;cases b
 ·exact Nd l k d s j H x y v u Q I a f ⟨p,xs,i,m,e1,c,g,e,q⟩
 ·exact Nc l k d s j H x y v u Q I a f ⟨p,xs,i,m,e1,c,g,e,q⟩
def eQ(K:Frag):List V->Hp->VK->Prop:=λxs H Q=>E3 λ(b:Bool)(p:Addr)(ys:List V)=>A3 (xs=[.ref p]) (SqB b K H p ys) (Q (.int ys.length) H)
theorem Ph:mU X (.builtin "len") (eQ X.K):=by
 intro c s a H xs us Q I r h;obtain⟨b,p,ys,e,d,q⟩:=h;exact Ow c s a H xs us Q I r ⟨p,ys,e,d.or,q⟩
def Bx(K:Frag):List V->Hp->VK->Prop:=λxs H Q=>∃b p ys,xs=[.ref p]/\SqB b K H p ys/\∀l,H l=none->Q (.ref l) (upd H l (.lst ys))
theorem eT:mU X (.type "list") (Bx X.K):=by
 intro c s a H xs us Q I r h;obtain⟨b,p,ys,e,d,q⟩:=h;exact Ov c s a H xs us Q I r ⟨p,ys,e,d.or,q⟩
def fF(K:Frag):List V->Hp->VK->Prop:=λxs H Q=>∃p ys,xs=[.ref p]/\((SqL K H p ys/\∀l,H l=none->Q (.ref l) (upd H l (.tup ys)))\/(SqT K H p ys/\Q (.ref p) H))
theorem jM:mU X (.type "tuple") (fF X.K):=Ou
end
theorem Pg{K:Frag}{b:Bool}{a:Addr}{xs:List V}{g:TG}{tb:TS}{D:Ends}{c:St}{H:Hp}(d:Nat->St->Hp->Prop)(j:d 0 c H)(hl:∀i c H,i<=xs.length->d i c H->SqB b K H a xs)
  (o:∀i x c H,xs[i]?=some x->d i c H->g x c H λf H2=>tb {D with nx:=d (i+1),ct:=d (i+1),bk:=D.nx} f H2)(l:∀c H,d xs.length c H->D.nx c H):
  ∃e:Nat->Nat->St->Hp->Prop,(∃m,e 0 m c H)/\∀i m c H,e i m c H ->
   ((Its K b a).stop i H/\D.nx c H)\/((Its K b a).go i H/\∃N:St->Hp->Prop,(∀k H',N k H'->∃n,n<m/\e (i+1) n k H')/\∀x H',(Its K b a).yld i H x H'->g x c H' λf H2=>tb {D with nx:=N,ct:=N,bk:=D.nx} f H2):=by
 cases b
 ·exact Mg d j hl o l
 ·exact Mf d j hl o l
theorem Pf{K:Frag}{b:Bool}{a:Addr}{xs:List V}{g:TG}{tb:TS}{D:Ends}{c:St}{H:Hp}(d:Nat->St->Hp->Prop)(u:d 0 c H)(hl:∀i c H,i<=xs.length->d i c H->SqB b K H a xs)
  (w:∀i x p c H,xs[i]?=some x->d i c H->H p=none->g (.ref p) c (upd H p (.tup [.int i,x])) λk H2=>tb {D with nx:=d (i+1),ct:=d (i+1),bk:=D.nx} k H2)(v:∀c H,d xs.length c H->D.nx c H):
  ∃f:Nat->Nat->St->Hp->Prop,(∃m,f 0 m c H)/\∀i m c H,f i m c H ->
   ((Ite K b a).stop i H/\D.nx c H)\/((Ite K b a).go i H/\∃N:St->Hp->Prop,(∀j H',N j H'->∃n,n<m/\f (i+1) n j H')/\∀x H',(Ite K b a).yld i H x H'->g x c H' λk H2=>tb {D with nx:=N,ct:=N,bk:=D.nx} k H2):=by
 refine⟨λi m c H=>m=xs.length-i/\i<=xs.length/\d i c H,⟨xs.length,by simp,yA _,u⟩,?_⟩;rintro i m c H ⟨rfl,hi,p⟩;have q:=hl i c H hi p
 by_cases l:i<xs.length
 ·refine .inr ⟨⟨xs,xs[i],q,by simp[l]⟩,d (i+1),λj H' t=>⟨xs.length-(i+1),⋯,rfl,l,t⟩,λx H' y=>?_⟩;obtain⟨r,x,rfl,hr,rfl,o⟩:=y;exact w i x r c H (o xs q) p hr
 ·have e:i=xs.length:=⋯
  subst e;exact .inl ⟨⟨xs,q,rfl⟩,v c H p⟩
def kU(a:Addr)(H H':Hp):Prop:=∀b o,b≠a->H b=some o->H' b=some o
theorem Same.x{a:Addr}{H H':Hp}(s:Same H H'):kU a H H':=λb o _ e=>s b o e
section
variable {J:It} {g:TG} {tt:TOx} {te:TE} {n:Nat} {fr:List (Str×Nat)} {σ:St} {a:Addr} {H:Hp} {Q:VK} {K:Frag}
theorem Bw(len:Nat)(P:Nat->List V->Hp->Prop)(l:H a=none)(M:len<=1000)(w:P 0 [] (upd H a (.lst [])))
  (hl:∀i zs H1,P i zs H1->zs.length<=i)(mono:∀i zs H1 H2,P i zs H1->kU a H1 H2->P i zs H2)
  (z:∀i H1,i<len->Same H H1->J.go i H1)(u:∀H1,Same H H1->J.stop len H1)
  (G:∀i H1 zs,i<len->Same H H1->H1 a=some (.lst zs)->P i zs H1->∀(ys:St) x H3,ys.length=n->J.yld i H1 x H3->∀C:Option V->Hp->Prop,
   (∀y H2,Same H1 H2->P (i+1) (zs++[y]) H2->C (some y) H2)->(∀H2,Same H1 H2->P (i+1) zs H2->C none H2) ->
   g x (ys++mX fr σ) H3 λt v=>(∃r:St,r.length=n/\t=r++mX fr σ)/\tt t v C)
  (D:∀H1 ys,Same H H1->H1 a=some (.lst ys)->P len ys H1->Q (.ref a) H1):kF J g tt n fr σ a H Q:=by
 refine⟨λi m H1=>m=len-i/\i<=len/\Same H H1/\∃zs,H1 a=some (.lst zs)/\P i zs H1,⟨len,by simp,Nat.zero_le _,Same.new l,[],oS,w⟩,?_⟩;rintro i m H1 ⟨rfl,hi,c,zs,f,p⟩
 by_cases j:i<len
 ·refine .inr ⟨z i H1 j c,λH'=>i+1<=len/\Same H H'/\∃zs,H' a=some (.lst zs)/\P (i+1) zs H',λH' q=>⟨len-(i+1),⋯,rfl,q⟩,λys x H3 F L=>?_⟩;refine G i H1 zs j c f p ys x H3 F L _ (λy H2 d k=>?_) λH2 d k=>?_
  ·refine⟨zs,d _ _ f,iU (by have:=hl i zs H1 p;omega),j,Same.over l (c.trans d),_,oS,mono _ _ _ _ k λb o I e=>?_⟩;rw[oV I];exact e
  ·exact⟨j,c.trans d,zs,d _ _ f,k⟩
 ·have e:i=len:=⋯
  subst e;exact .inl ⟨u H1 c,D H1 zs c f p⟩
theorem bD(len:Nat)(R:Nat->V->Hp->Prop)(F:H a=none)(t:len<=1000)(mono:∀i y H1 H2,R i y H1->kU a H1 H2->R i y H2)
  (u:∀i H1,i<len->Same H H1->J.go i H1)(q:∀H1,Same H H1->J.stop len H1)
  (L:∀i H1 zs,i<len->Same H H1->H1 a=some (.lst zs)->∀(ys:St) x H3,ys.length=n->J.yld i H1 x H3->∀c:VK,(∀y H2,Same H1 H2->R i y H2->c y H2) ->
   g x (ys++mX fr σ) H3 λd l=>(∃b:St,b.length=n/\d=b++mX fr σ)/\te d l c)
  (k:∀H1 ys,Same H H1->H1 a=some (.lst ys)->ys.length=len->(∀j y,ys[j]?=some y->R j y H1)->Q (.ref a) H1):kF J g (tEl te) n fr σ a H Q:=by
 refine Bw len (λi zs H1=>zs.length=i/\∀j y,zs[j]?=some y->R j y H1) F t ⟨rfl,λj y e=>by simp at e⟩ (λi zs H1 p=>qU p.1) (λi zs H1 H2 p s=>⟨p.1,λj y e=>mono _ _ _ _ (p.2 j y e) s⟩) u q ?_ λH1 ys s e p=>k H1 ys s e p.1 p.2;intro i H1 zs hi m w p ys x H3 I D C o _;refine L i H1 zs hi m w ys x H3 I D _ λy H2 f r=>o y H2 f ⟨by simp[p.1],λj z e=>?_⟩
 by_cases v:j<zs.length
 ·rw[yB v]at e;exact mono _ _ _ _ (p.2 j z e) f.x
 ·rw[zW ⋯]at e;have M:j-zs.length=0:=by
   by_cases G:j-zs.length=0
   ·exact G
   ·rw[vN (by simp;omega)]at e;cases e
  rw[M]at e;cases zU e;have:j=i:=by have:=p.1;omega
  rw[this];exact r
theorem kG{b:Bool}{l:Addr}{xs:List V}(R:Nat->V->Hp->Prop)(f:H a=none)(d:SqB b K H l xs)(m:xs.length<=1000)(mono:∀i y H1 H2,R i y H1->kU a H1 H2->R i y H2)
  (t:∀i x H1 zs,xs[i]?=some x->Same H H1->H1 a=some (.lst zs)->∀c:VK,(∀y H2,Same H1 H2->R i y H2->c y H2)->te (some x:: mX fr σ) H1 c)
  (p:∀H1 ys,Same H H1->H1 a=some (.lst ys)->ys.length=xs.length->(∀j y,ys[j]?=some y->R j y H1)->Q (.ref a) H1):kF (Its K b l) (nB 0) (tEl te) 1 fr σ a H Q:=by
 refine bD xs.length R f m mono (λi H1 hi s=>Its.go (d.up s) (x:=xs[i]) (by simp[hi])) (λH1 s=>Its.stop (d.up s) (zE _)) ?_ p;intro i H1 zs hi e u ys x H3 q v c r;obtain⟨e1,k⟩:=Its.yld (d.up e) v;subst e1
 match ys,q with
 |[o],_=>exact⟨⟨[some x],rfl,rfl⟩,t i x H3 zs k e u c r⟩
theorem kM{lo:Int}{len:Nat}(R:Nat->V->Hp->Prop)(c:H a=none)(e:len<=1000)(mono:∀i y H1 H2,R i y H1->kU a H1 H2->R i y H2)
  (m:∀(i:Nat) H1 zs,i<len->Same H H1->H1 a=some (.lst zs)->∀b:VK,(∀y H2,Same H1 H2->R i y H2->b y H2)->te (some (.int (lo+i)):: mX fr σ) H1 b)
  (f:∀H1 ys,Same H H1->H1 a=some (.lst ys)->ys.length=len->(∀j y,ys[j]?=some y->R j y H1)->Q (.ref a) H1):kF (Itr lo len) (nB 0) (tEl te) 1 fr σ a H Q:=by
 refine bD len R c e mono (λi H1 hi s=>hi) (λH1 s=>zE _) ?_ f;intro i H1 zs hi q p ys x H3 k r b l;obtain⟨e1,d⟩:=r;subst e1 d
 match ys,k with
 |[o],_=>exact⟨⟨[_],rfl,rfl⟩,m i H3 zs hi q p b l⟩
theorem Gn{b1 b2:Bool}{l1 l2:Addr}{xs ys:List V}(R:Nat->V->Hp->Prop)(l:H a=none)(c:SqB b1 K H l1 xs)(e:SqB b2 K H l2 ys)(F:xs.length=ys.length)(t:xs.length<=1000)(mono:∀i y H1 H2,R i y H1->kU a H1 H2->R i y H2)
  (z:∀i x y H1 zs,xs[i]?=some x->ys[i]?=some y->Same H H1->H1 a=some (.lst zs)->∀b:VK,(∀y H2,Same H1 H2->R i y H2->b y H2)->te (some x:: some y:: mX fr σ) H1 b)
  (v:∀H1 zs,Same H H1->H1 a=some (.lst zs)->zs.length=xs.length->(∀j y,zs[j]?=some y->R j y H1)->Q (.ref a) H1):
  kF (Itz K b1 l1 b2 l2) (gTup K 2 (mW (nB 0) (mW (nB 1) gNil))) (tEl te) 2 fr σ a H Q:=by
 refine bD xs.length R l t mono (λi H1 hi s=>⟨xs,ys,xs[i],ys[i],c.up s,e.up s,by simp[hi],by simp⟩) (λH1 s=>⟨xs,ys,c.up s,e.up s,.inl (by simp)⟩) ?_ v;intro i H1 zs hi f D u x H3 q k b w;obtain⟨p,x,y,rfl,d,rfl,m,k⟩:=k;refine⟨p,[x,y],rfl,SqT.of oS,rfl,x,[y],rfl,y,[],rfl,rfl,?_⟩
 match u,q with
 |[o,G],_ =>
  refine⟨⟨[some x,some y],rfl,rfl⟩,z i x y _ zs (m xs (c.up f)) (k ys (e.up f)) (f.trans (Same.new d)) (Same.new d _ _ D) b λy H2 C r=>w y H2 ((Same.new d).trans C) r⟩
theorem Pe{b:Bool}{l:Addr}{xs:List V}(R:Nat->V->Hp->Prop)(k:H a=none)(e:SqB b K H l xs)(t:xs.length<=1000)(mono:∀i y H1 H2,R i y H1->kU a H1 H2->R i y H2)
  (z:∀i x H1 zs,xs[i]?=some x->Same H H1->H1 a=some (.lst zs)->∀c:VK,(∀y H2,Same H1 H2->R i y H2->c y H2)->te (some (.int i):: some x:: mX fr σ) H1 c)
  (v:∀H1 zs,Same H H1->H1 a=some (.lst zs)->zs.length=xs.length->(∀j y,zs[j]?=some y->R j y H1)->Q (.ref a) H1):
  kF (Ite K b l) (gTup K 2 (mW (nB 0) (mW (nB 1) gNil))) (tEl te) 2 fr σ a H Q:=by
 refine bD xs.length R k t mono (λi H1 hi s=>⟨xs,xs[i],e.up s,by simp[hi]⟩) (λH1 s=>⟨xs,e.up s,rfl⟩) ?_ v;intro i H1 zs hi f D u x H3 q F c w;obtain⟨p,x,rfl,d,rfl,m⟩:=F;refine⟨p,[.int i,x],rfl,SqT.of oS,rfl,_,[x],rfl,x,[],rfl,rfl,?_⟩
 match u,q with
 |[o,G],_ =>
  refine⟨⟨[some (.int i),some x],rfl,rfl⟩,z i x _ zs (m xs (e.up f)) (f.trans (Same.new d)) (Same.new d _ _ D) c λy H2 C r=>w y H2 ((Same.new d).trans C) r⟩
end
def MatB(b1 b2:Bool)(K:Frag)(H:Hp)(a:Addr)(rows:List (LI')):Prop:=∃ps:LA,SqB b1 K H a (ps.map V.ref)/\ps.length=rows.length/\∀(i:Nat)(p:Addr)(r:LI'),ps[i]?=some p->rows[i]?=some r->SqB b2 K H p (r.map V.int)
theorem MatB.up{b1 b2:Bool}{K:Frag}{H H':Hp}{a:Addr}{b:List (LI')}(h:MatB b1 b2 K H a b)(s:Same H H'):MatB b1 b2 K H' a b:=let ⟨ps,e,d,f⟩:=h;⟨ps,e.up s,d,λi p r e1 c=>(f i p r e1 c).up s⟩
def RowR(a:Addr)(f:Nat->LI')(j:Nat)(y:V)(H:Hp):Prop:=∃p,y=.ref p/\p≠a/\H p=some (.lst ((f j).map V.int))
theorem RowR.mono{a:Addr}{f:Nat->LI'}(i:Nat)(y:V)(H1 H2:Hp)(h:RowR a f i y H1)(s:kU a H1 H2):RowR a f i y H2:=let ⟨p,e,n,q⟩:=h;⟨p,e,n,s _ _ n q⟩
def iT:Nat->PyData->Bool
 |_,.int _=>true
 |n+1,.list xs=>xs.all (iT n)
 |n+1,.tuple xs=>xs.all (iT n)
 |_,_=>false
theorem iG:∀(n:Nat)(d:PyData),iT n d=true->d.canLay0=true/\d.depth<=n
 |0,.int _,_=>by simp[PyData.canLay0,PyData.depth]
 |n+1,.int _,_=>by simp[PyData.canLay0,PyData.depth]
 | n+1,.list xs,h=>by
  have all:∀ys:List PyData,ys.all (iT n)=true->PyData.canLayAll0 ys=true/\PyData.depthAll ys<=n:=by
   intro ys
   induction ys with
   |nil=>intro _;simp[PyData.canLayAll0,PyData.depthAll]
   |cons y r c =>
    intro a;rw[xG,zP]at a;have e:=iG n y a.1;have b:=c a.2;simp only[PyData.canLayAll0,PyData.depthAll,Bool.and_eq_true];exact⟨⟨e.1,b.1⟩,⋯⟩
  have:=all xs (by simpa [iT]using h);simp only[PyData.canLay0,PyData.depth];exact⟨this.1,⋯⟩
 | n+1,.tuple xs,h=>by
  have all:∀ys:List PyData,ys.all (iT n)=true->PyData.canLayAll0 ys=true/\PyData.depthAll ys<=n:=by
   intro ys
   induction ys with
   |nil=>intro _;simp[PyData.canLayAll0,PyData.depthAll]
   |cons y r c =>
    intro a;rw[xG,zP]at a;have e:=iG n y a.1;have b:=c a.2;simp only[PyData.canLayAll0,PyData.depthAll,Bool.and_eq_true];exact⟨⟨e.1,b.1⟩,⋯⟩
  have:=all xs (by simpa [iT]using h);simp only[PyData.canLay0,PyData.depth];exact⟨this.1,⋯⟩
theorem bE:∀(n:Nat)(d d':PyData),iT n d=true->iT n d'=true->SeqAt.noMix d d'=true:=by
 intro n
 induction n with
 |zero=>intro d d' h h';cases d <;> simp[iT]at h <;> cases d' <;> simp[iT]at h' <;> simp[SeqAt.noMix]
 | succ n c =>
  have all:∀ys zs:List PyData,ys.all (iT n)=true->zs.all (iT n)=true->SeqAt.noMixAll ys zs=true:=by
   intro ys
   induction ys with
   |nil=>intro zs _ _;cases zs <;> simp[SeqAt.noMixAll]
   | cons y r e =>
    intro zs b a;cases zs with
    |nil=>simp[SeqAt.noMixAll]
    |cons z f =>
     rw[xG,zP]at b a;simp only[SeqAt.noMixAll,Bool.and_eq_true];exact⟨c y z b.1 a.1,e f b.2 a.2⟩
  intro d d' h h';cases d <;> simp only[iT,Bool.false_eq_true]at h <;> cases d' <;> simp only[iT,Bool.false_eq_true]at h' <;> simp only[SeqAt.noMix]
  ·exact all _ _ h h'
  ·exact all _ _ h h'
theorem bF:∀(n:Nat)(d d':PyData),iT n d=true->iT n d'=true->(same d d'=true↔d=d'):=by
 intro n
 induction n with
 |zero=>intro d d' h h';cases d <;> simp[iT]at h <;> cases d' <;> simp[iT]at h' <;> simp[same]
 | succ n c =>
  have all:∀ys zs:List PyData,ys.all (iT n)=true->zs.all (iT n)=true->(sameAll ys zs=true↔ys=zs):=by
   intro ys
   induction ys with
   |nil=>intro zs _ _;cases zs <;> simp[sameAll]
   | cons y r e =>
    intro zs b a;cases zs with
    |nil=>simp[sameAll]
    |cons z f =>
     rw[xG,zP]at b a;simp only[sameAll,Bool.and_eq_true,List.cons.injEq];rw[c y z b.1 a.1,e f b.2 a.2]
  intro d d' h h';cases d <;> simp only[iT,Bool.false_eq_true]at h <;> cases d' <;> simp only[iT,Bool.false_eq_true]at h' <;> simp only[same,beq_iff_eq,PyData.int.injEq,PyData.list.injEq,PyData.tuple.injEq,reduceCtorEq,Bool.false_eq_true]
  ·exact all _ _ h h'
  ·exact all _ _ h h'
theorem bG{n:Nat}{d:PyData}(a:n<=64)(h:iT n d=true):SeqAt.shaped d=true:=by
 have:=iG n d h;unfold SeqAt.shaped;rw[zP];exact⟨this.1,zL ⋯⟩
section
variable {K:Frag} {H:Hp} {x y:V} {d d':PyData} {Q:VK}
theorem t_R(n:Nat)(f:n<=64)(i:Dt K H x d)(g:Dt K H y d')(c:iT n d=true)(a:iT n d'=true){b:Bool}(j:b=true↔d=d')(q:Q (.bl b) H):rEqD K x y H Q:=by
 refine⟨d,d',i,g,bG f c,bG f a,bE n d d' c a,?_⟩;have:=bF n d d' c a;have e:same d d'=b:=by
  cases hs:same d d' <;> cases b <;> simp_all
 rw[e];exact q
theorem Pd(n:Nat)(f:n<=64)(i:Dt K H x d)(g:Dt K H y d')(c:iT n d=true)(a:iT n d'=true){b:Bool}(j:b=true↔d=d')(q:Q (.bl (!b)) H):rNeD K x y H Q:=by
 refine⟨d,d',i,g,bG f c,bG f a,bE n d d' c a,?_⟩;have:=bF n d d' c a;have e:same d d'=b:=by
  cases hs:same d d' <;> cases b <;> simp_all
 rw[e];exact q
end
def seqD(b:Bool)(ds:List PyData):PyData:=match b with|false=>.list ds|true=>.tuple ds
def iH(b:Bool)(ns:LI'):PyData:=seqD b (ns.map PyData.int)
def matD(b1 b2:Bool)(rows:List (LI')):PyData:=seqD b1 (rows.map (iH b2))
theorem Gm{b:Bool}{xs ys:List PyData}:seqD b xs=seqD b ys↔xs=ys:=by cases b <;> simp[seqD]
theorem Bv{a c:Type}{f:a->c}(b:∀x y,f x=f y->x=y):∀{xs ys:List a},xs.map f=ys.map f↔xs=ys
 |[],[]=>by simp
 |[],_:: _=>by simp
 |_:: _,[]=>by simp
 |x:: r,y:: d=>by
  rw[zN,zN,yJ,yJ,Bv b];exact⟨λh=>⟨b _ _ h.1,h.2⟩,λh=>⟨by rw[h.1],h.2⟩⟩
theorem Gk{b:Bool}{ns ms:LI'}:iH b ns=iH b ms↔ns=ms:=by
 unfold iH;rw[Gm,Bv λx y h=>by injection h]
theorem Pc{b1 b2:Bool}{A B:List (LI')}:matD b1 b2 A=matD b1 b2 B↔A=B:=by
 unfold matD;rw[Gm,Bv λx y h=>Gk.mp h]
theorem Pb(b:Bool)(n:Nat)(ns:LI'):iT (n+1) (iH b ns)=true:=by
 have:(ns.map PyData.int).all (iT n)=true:=by
  rw[vI];intro d a;obtain⟨i,_,rfl⟩:=oA.mp a;cases n <;> rfl
 cases b <;> simpa [iH,seqD,iT]using this
theorem t_S(b1 b2:Bool)(n:Nat)(a:List (LI')):iT (n+2) (matD b1 b2 a)=true:=by
 have:(a.map (iH b2)).all (iT (n+1))=true:=by
  rw[vI];intro d b;obtain⟨i,_,rfl⟩:=oA.mp b;exact Pb b2 n i
 cases b1 <;> simpa [matD,seqD,iT]using this
theorem Dt.seqB{b:Bool}{K:Frag}{H:Hp}{a:Addr}{xs:List V}{ds:List PyData}(h:SqB b K H a xs)(c:Dts K H xs ds):Dt K H (.ref a) (seqD b ds):=by
 cases b
 ·exact .lst h c
 ·exact .tup h c
theorem Dt.intsB{b:Bool}{K:Frag}{H:Hp}{a:Addr}{ns:LI'}(h:SqB b K H a (ns.map V.int)):Dt K H (.ref a) (iH b ns):=Dt.seqB h (Dts.ints ns)
theorem Dt.matB{b1 b2:Bool}{K:Frag}{H:Hp}{a:Addr}{b:List (LI')}(h:MatB b1 b2 K H a b):Dt K H (.ref a) (matD b1 b2 b):=by
 obtain⟨ps,d,c,e⟩:=h;refine Dt.seqB d ?_;clear d
 induction ps generalizing b with
 |nil =>
  cases b with
  |nil=>exact .nil
  |cons r j=>simp at c
 | cons p ps g =>
  cases b with
  |nil=>simp at c
  |cons r j =>
   refine .cons (Dt.intsB (e 0 p r rfl rfl)) (g (by simpa using c) λi q z e1 f=>e (i+1) q z (by simpa using e1) (by simpa using f))
section
variable {wi:TI} {g:TG} {tt:TOx} {te:TE} {tc:TT} {n:Nat} {fr:List (Str×Nat)} {σ:St} {H:Hp} {Q:VK}
theorem nW(h:∀B:TE,B=te->wi σ H λJ H1=>∀a,H1 a=none->kF J g (tEl B) n fr σ a H1 Q):lY wi g (tEl te) n fr σ H Q:=h _ rfl
theorem Pa(h:∀(C:TT)(B:TE),C=tc->B=te->wi σ H λJ H1=>∀a,H1 a=none->kF J g (fE C B) n fr σ a H1 Q):lY wi g (fE tc te) n fr σ H Q:=h _ _ rfl rfl
end
def seqO(b:Bool)(xs:List V):HO:=match b with|false=>.lst xs|true=>.tup xs
def rSlB(K:Frag):V->Option Int->Option Int->Hp->VK->Prop:=λx lo hi H Q=>∃b a xs,x=.ref a/\SqB b K H a xs /\
 (b=true->¬ (HT.sIx xs.length 0 lo=0/\HT.sIx xs.length xs.length hi=xs.length))/\∀p,H p=none->Q (.ref p) (upd H p (seqO b (cutV xs lo hi)))
theorem sl_B{X:Cx}:SlR X (rSlB X.K):=by
 intro d s k H x v l i lo hi g Q I c m pl f h;obtain⟨b,a,xs,e,j,n,q⟩:=h;cases b
 ·exact Oy d s k H x v l i lo hi g Q I c m pl f ⟨a,xs,e,j,q⟩
 ·exact Nh d s k H x v l i lo hi g Q I c m pl f ⟨a,xs,e,j,n rfl,q⟩
def MatL(H:Hp)(a:Addr)(rows:List (LI')):Prop:=∃ps:LA,H a=some (.lst (ps.map V.ref))/\ps.length=rows.length/\∀(i:Nat)(p:Addr)(r:LI'),ps[i]?=some p->rows[i]?=some r->p≠a/\H p=some (.lst (r.map V.int))
theorem MatL.b{K:Frag}{H:Hp}{a:Addr}{b:List (LI')}(h:MatL H a b):MatB false false K H a b:=let ⟨ps,e,d,f⟩:=h;⟨ps,SqB.lst e,d,λi p r e1 c=>SqB.lst (f i p r e1 c).2⟩
theorem MatL.up{H H':Hp}{a:Addr}{d:List (LI')}(h:MatL H a d)(s:Same H H'):MatL H' a d:=let ⟨ps,f,e,c⟩:=h;⟨ps,s _ _ f,e,λi p r e1 b=>⟨(c i p r e1 b).1,s _ _ (c i p r e1 b).2⟩⟩
theorem MatL.of{H:Hp}{a:Addr}{f:Nat->LI'}{ys:List V}(h:H a=some (.lst ys))(hr:∀(j:Nat) y,ys[j]?=some y->RowR a f j y H):MatL H a ((List.range ys.length).map f):=by
 have g:∃ps:LA,ys=ps.map V.ref:=by
  clear h;have:∀(zs:List V)(k:Nat),(∀(j:Nat) y,zs[j]?=some y->RowR a f (j+k) y H)->∃ps:LA,zs=ps.map V.ref:=by
   intro zs
   induction zs with
   |nil=>intro k _;exact⟨[],rfl⟩
   | cons z r d =>
    intro k c;obtain⟨p,e,_⟩:=c 0 z rfl;obtain⟨ps,b⟩:=d (k+1) λj y q=>by
     have:=c (j+1) y (by simpa using q)
     rwa[sL,Nat.add_comm 1 k]at this
    exact⟨p:: ps,by rw[e,b];rfl⟩
  exact this ys 0 hr
 obtain⟨ps,rfl⟩:=g;refine⟨ps,h,by simp,λi p r e1 b=>?_⟩;obtain⟨l,e,n,q⟩:=hr i (.ref p) (by simp[e1]);cases e;have hi:i<ps.length:=(oK.mp e1).1;have:r=f i:=by
  rw[zO,yP,xA hi]at b;exact(zU b).symm
 rw[this];exact⟨n,q⟩
theorem MatB.row{b1 b2:Bool}{K:Frag}{H:Hp}{a:Addr}{b:List (LI')}(h:MatB b1 b2 K H a b){i:Nat}{r:LI'}(e:b[i]?=some r):∃ps:LA,∃p,SqB b1 K H a (ps.map V.ref)/\(ps.map V.ref)[i]?=some (.ref p)/\(ps.map V.ref).length=b.length/\SqB b2 K H p (r.map V.int):=by
 obtain⟨ps,d,c,f⟩:=h;have hi:i<ps.length:=by have:=(oK.mp e).1;omega
 exact⟨ps,ps[i],d,by simp[hi],by simp[c],f i _ r (by simp[hi]) e⟩
theorem MatB.walk{b1 b2:Bool}{K:Frag}{H:Hp}{a:Addr}{b:List (LI')}(h:MatB b1 b2 K H a b):∃xs:List V,SqB b1 K H a xs/\xs.length=b.length/\∀(i:Nat) x,xs[i]?=some x->∃p r,x=.ref p/\b[i]?=some r/\SqB b2 K H p (r.map V.int):=by
 obtain⟨ps,d,c,f⟩:=h;refine⟨_,d,by simp[c],λi x e=>?_⟩;rw[zO]at e;cases q:ps[i]? with
 |none=>rw[q]at e;cases e
 |some p =>
  rw[q]at e;have hi:i<b.length:=by have:=(oK.mp q).1;omega
  exact⟨p,b[i],(zU e).symm,by simp[hi],f i p _ q (by simp[hi])⟩
theorem lZ{a:Type}{xs:List a}{k:Nat}{x:a}{i:Int}(h:xs[k]?=some x)(hi:i=k):atI xs i=some x:=by
 subst hi;exact Ng h
theorem jE{ns:LI'}{i:Nat}{x:V}(h:(ns.map V.int)[i]?=some x):∃n,ns[i]?=some n/\x=.int n:=by
 rw[zO]at h;cases e:ns[i]? with
 |none=>rw[e]at h;cases h
 |some n=>rw[e]at h;exact⟨n,rfl,(zU h).symm⟩
theorem iI{ns:LI'}{i:Nat}{n:Int}(h:ns[i]?=some n):(ns.map V.int)[i]?=some (.int n):=by rw[zO,h];rfl
theorem Qz{ns:LI'}{k:Nat}{n:Int}(h:ns[k]?=some n):ns.getD k 0=n:=by rw[tJ,h];rfl
theorem getD_at{ns:LI'}{k:Nat}(h:k<ns.length):ns[k]?=some (ns.getD k 0):=by simp[h]
theorem getD_mem{ns:LI'}{k:Nat}(h:k<ns.length):ns.getD k 0∈ns:=by
 rw[show ns.getD k 0=ns[k] by simp[h]];exact uF h
def colI(k:Nat)(rows:List (LI')):LI':=rows.map λr=>r.getD k 0
def dotI(ms ns:LI'):Int:=(List.zipWith (·*·) ms ns).sum
def bH(w:Nat)(rows:List (LI')):List (LI'):=(List.range w).map λk=>colI k rows
def mulM(w:Nat)(A B:List (LI')):List (LI'):=A.map λr=>(List.range w).map λk=>dotI r (colI k B)
theorem Qy{w:Nat}{A B:List (LI')}{i:Nat}{r:LI'}(h:A[i]?=some r):(mulM w A B)[i]?=some ((List.range w).map λk=>dotI r (colI k B)):=by
 unfold mulM;rw[zO,h];rfl
section
variable {K:Frag} {g:TG} {tb:TS} {σ:St} {H:Hp} {nx:St->Hp->Prop} {rt:VK}
abbrev bI(J:It)(g:TG)(tb:TS)(nx:St->Hp->Prop)(rt:VK)(σ:St)(H:Hp):Prop:=∃W:Nat->Nat->St->Hp->Prop,(∃m,W 0 m σ H)/\∀i m σ H,W i m σ H ->
 (J.stop i H/\nx σ H)\/(J.go i H/\∃N:St->Hp->Prop,(∀σ' H',N σ' H'->∃m',m'<m/\W (i+1) m' σ' H')/\∀x H',J.yld i H x H'->g x σ H' λσ2 H2=>tb {nx:=N,rt:=rt,bk:=nx,ct:=N} σ2 H2)
theorem gJ{lo:Int}{n:Nat}(a:Nat->St->Hp->Prop)(b:a 0 σ H)
  (e:∀i σ H,i<n->a i σ H->g (.int (lo+i)) σ H λc H2=>tb {nx:=a (i+1),rt:=rt,bk:=nx,ct:=a (i+1)} c H2)(d:∀σ H,a n σ H->nx σ H):bI (Itr lo n) g tb nx rt σ H:=
 Me (D:={nx:=nx,rt:=rt,bk:=nx,ct:=nx}) a b e d
theorem iJ{b:Bool}{a:Addr}{xs:List V}(c:Nat->St->Hp->Prop)(d:c 0 σ H)(hl:∀i σ H,i<=xs.length->c i σ H->SqB b K H a xs)
  (j:∀i x σ H,xs[i]?=some x->c i σ H->g x σ H λe H2=>tb {nx:=c (i+1),rt:=rt,bk:=nx,ct:=c (i+1)} e H2)(f:∀σ H,c xs.length σ H->nx σ H):bI (Its K b a) g tb nx rt σ H:=
 Pg (D:={nx:=nx,rt:=rt,bk:=nx,ct:=nx}) c d hl j f
theorem Gj{b:Bool}{a:Addr}{xs:List V}(c:Nat->St->Hp->Prop)(d:c 0 σ H)(hl:∀i σ H,i<=xs.length->c i σ H->SqB b K H a xs)
  (j:∀i x p σ H,xs[i]?=some x->c i σ H->H p=none->g (.ref p) σ (upd H p (.tup [.int i,x])) λe H2=>tb {nx:=c (i+1),rt:=rt,bk:=nx,ct:=c (i+1)} e H2)(f:∀σ H,c xs.length σ H->nx σ H):bI (Ite K b a) g tb nx rt σ H:=
 Pf (D:={nx:=nx,rt:=rt,bk:=nx,ct:=nx}) c d hl j f
end
theorem iK{b1 b2:Bool}{K:Frag}{H:Hp}{a:Addr}{c:List (LI')}{i k:Nat}{r:LI'}{x:Int}{I b:Int}{Q:VK}(h:MatB b1 b2 K H a c)(e:c[i]?=some r)(d:r[k]?=some x)(hi:I=i)(f:b=k)(q:Q (.int x) H):
  rIxB K (.ref a) (.int I) H λv H1=>rIxB K v (.int b) H1 Q:=by
 obtain⟨ps,p,k1,k2,k3,g⟩:=h.row e;exact⟨b1,a,_,_,_,rfl,rfl,k1,lZ k2 hi,b2,p,_,_,_,rfl,rfl,g,lZ (iI d) f,q⟩
theorem Qx{b1 b2:Bool}{K:Frag}{H:Hp}{a:Addr}{b:List (LI')}{i:Nat}{r:LI'}{I:Int}{Q:VK}(h:MatB b1 b2 K H a b)(e:b[i]?=some r)(hi:I=i)(q:∀p,SqB b2 K H p (r.map V.int)->Q (.ref p) H):
  rIxB K (.ref a) (.int I) H Q:=by
 obtain⟨ps,p,k1,k2,k3,c⟩:=h.row e;exact⟨b1,a,_,_,_,rfl,rfl,k1,lZ k2 hi,q p c⟩
theorem gK{b1 b2:Bool}{K:Frag}{H:Hp}{a:Addr}{b:List (LI')}{Q:VK}(h:MatB b1 b2 K H a b)(q:Q (.int b.length) H):eQ K [.ref a] H Q:=by
 obtain⟨ps,d,c,e⟩:=h;refine⟨b1,a,_,rfl,d,?_⟩;rw[yP,c];exact q
theorem bJ{b:Bool}{K:Frag}{H:Hp}{a:Addr}{ns:LI'}{Q:VK}(h:SqB b K H a (ns.map V.int))(q:Q (.int ns.length) H):eQ K [.ref a] H Q:=by
 refine⟨b,a,_,rfl,h,?_⟩;rw[yP];exact q
def Itq(lo st:Int)(n:Nat):It:=⟨λi _=>i<n,λi H x H'=>H'=H/\x=.int (lo+i*st),λi _=>n<=i⟩
section
variable {g:TG} {tb:TS} {σ:St} {H:Hp} {nx:St->Hp->Prop} {rt:VK}
theorem fr_step{lo st:Int}{n:Nat}(a:Nat->St->Hp->Prop)(d:a 0 σ H)
  (k:∀i σ H,i<n->a i σ H->g (.int (lo+i*st)) σ H λf H2=>tb {nx:=a (i+1),rt:=rt,bk:=nx,ct:=a (i+1)} f H2)(j:∀σ H,a n σ H->nx σ H):bI (Itq lo st n) g tb nx rt σ H:=by
 refine⟨λi m σ H=>m=n-i/\i<=n/\a i σ H,⟨n,by simp,yA _,d⟩,?_⟩;rintro i m σ H ⟨rfl,hi,p⟩
 by_cases b:i<n
 ·refine .inr ⟨b,a (i+1),λl H' c=>⟨n-(i+1),⋯,rfl,b,c⟩,λx H' y=>?_⟩;obtain⟨e,y⟩:=y;subst e y;exact k i σ _ b p
 ·have e:i=n:=⋯
  subst e;exact .inl ⟨zE _,j σ H p⟩
end
def kA(a:Addr)(H:Hp)(zs:List V)(M:List (LI')):Prop:=∃ps:LA,zs=ps.map V.ref/\ps.length=M.length/\∀(j:Nat)(p:Addr)(r:LI'),ps[j]?=some p->M[j]?=some r->p≠a/\H p=some (.lst (r.map V.int))
theorem kA.nil{a:Addr}{H:Hp}:kA a H [] []:=⟨[],rfl,rfl,λj p r e=>by simp at e⟩
theorem kA.len{a:Addr}{H:Hp}{zs:List V}{M:List (LI')}(h:kA a H zs M):zs.length=M.length:=let ⟨ps,e,l,_⟩:=h;by rw[e,yP,l]
theorem kA.mono{a:Addr}{H H':Hp}{zs:List V}{M:List (LI')}(h:kA a H zs M)(s:kU a H H'):kA a H' zs M:=let ⟨ps,e,l,q⟩:=h;⟨ps,e,l,λj p r e1 b=>⟨(q j p r e1 b).1,s _ _ (q j p r e1 b).1 (q j p r e1 b).2⟩⟩
theorem kA.snoc{a p:Addr}{H:Hp}{zs:List V}{M:List (LI')}{r:LI'}(h:kA a H zs M)(f:p≠a)(g:H p=some (.lst (r.map V.int))):kA a H (zs++[.ref p]) (M++[r]):=by
 obtain⟨ps,rfl,c,e⟩:=h;refine⟨ps++[p],by simp,by simp[c],λi q z e1 b=>?_⟩
 by_cases hi:i<ps.length
 ·rw[yB hi]at e1;rw[yB ⋯]at b;exact e i q z e1 b
 ·have d:i=ps.length:=by
   have:=(oK.mp e1).1;simp at this;omega
  subst d;rw[zW (zE _)]at e1;rw[c,zW (zE _)]at b;simp at e1 b;subst e1 b;exact⟨f,g⟩
theorem kA.mat{a:Addr}{H:Hp}{zs:List V}{M:List (LI')}(h:H a=some (.lst zs))(r:kA a H zs M):MatL H a M:=by
 obtain⟨ps,rfl,b,c⟩:=r;exact⟨ps,h,b,c⟩
theorem Gi(ns:LI')(lo hi:Option Int):cutV (ns.map V.int) lo hi=((ns.drop (HT.sIx ns.length 0 lo)).take (HT.sIx ns.length ns.length hi-HT.sIx ns.length 0 lo)).map V.int:=by
 unfold cutV;rw[yP,List.map_take,List.map_drop]
theorem Qw{ns:LI'}{k:Nat}(h:k<=ns.length):cutV (ns.map V.int) none (some (k:Int))=(ns.take k).map V.int:=by
 rw[Gi,HT.sIx_none,HT.sIx_nat,rG h];simp
theorem Qv{ns:LI'}{k:Nat}(h:k<=ns.length):cutV (ns.map V.int) (some (k:Int)) none=(ns.drop k).map V.int:=by
 rw[Gi,HT.sIx_none,HT.sIx_nat,rG h,yT (by simp)]
section
variable {K:Frag} {H:Hp} {a a1:Addr} {M:List (LI')} {σ:St} {Q:VK} {b1 b2:Bool}
def MatT(H:Hp)(a:Addr)(rows:List (LI')):Prop:=∃ps:LA,H a=some (.lst (ps.map V.ref))/\ps.length=rows.length/\∀(i:Nat)(p:Addr)(r:LI'),ps[i]?=some p->rows[i]?=some r->H p=some (.tup (r.map V.int))
theorem Qu(w:MatB b1 false K H a M)(hl:M.length<=1000)(C:H a1=none)(J:∀H1,Same H H1->MatT H1 a1 M->Q (.ref a1) H1):kF (Its K b1 a) (nB 0) (tEl (tCB (fF K) (nO (tVar 0) tNil))) 1 [] σ a1 H Q:=by
 obtain⟨xs,D,S,F⟩:=w.walk;refine kG (λj y H1=>∃p r,y=.ref p/\M[j]?=some r/\p≠a1/\H1 p=some (.tup (r.map V.int))) C D ⋯ (λi y H1 H2⟨p,r,e1,b,c,f⟩s=>⟨p,r,e1,b,c,s _ _ c f⟩) ?_ ?_
 ·intro i x H1 zs v d I T N;obtain⟨p,r,rfl,t,O⟩:=F i x v;exact⟨_,rfl,p,_,rfl,.inl ⟨O.up d,λl g=>N _ _ (Same.new g) ⟨l,r,rfl,t,zZ (nY I g),oS⟩⟩⟩
 ·intro H1 ys d e1 k m;have G:∃ps:LA,ys=ps.map V.ref:=by
   clear e1 k;have:∀(zs:List V),(∀(j:Nat) y,zs[j]?=some y->∃p:Addr,y=.ref p)->∃ps:LA,zs=ps.map V.ref:=by
    intro zs
    induction zs with
    |nil=>intro _;exact⟨[],rfl⟩
    |cons z r u =>
     intro n;obtain⟨p,e⟩:=n 0 z rfl;obtain⟨ps,b⟩:=u λj y q=>n (j+1) y (by simpa using q);exact⟨p:: ps,by rw[e,b];rfl⟩
   exact this ys λj y e=>let ⟨p,r,e1,_⟩:=m j y e;⟨p,e1⟩
  obtain⟨ps,rfl⟩:=G;refine J H1 d ⟨ps,e1,by simp at k;omega,λi p r b c=>?_⟩;obtain⟨R,P,f,o,_,L⟩:=m i (.ref p) (by simp[b]);cases f;rw[c]at o;cases o;exact L
theorem MatT.tuple{l:Addr}(h:MatT H a M)(hl:H l=none):∃zs,H a=some (.lst zs)/\MatB true true K (upd H l (.tup zs)) l M:=by
 obtain⟨ps,d,b,e⟩:=h;exact⟨_,d,ps,SqB.tup oS,b,λi p r e1 c=>SqB.tup (Same.new hl _ _ (e i p r e1 c))⟩
end
theorem Qt{X:Cx}{x:Str}{v:V}{pos:Pos}(b:Gl X x)(h:∃u,X.mg x=some u/\RelV v u)(a:(x == ("__debug__" :Str))=false:=by decide):PE X (.Name x pos) (tC v):=by
 obtain⟨u,e,r⟩:=h;exact lP b e r a
def MkI(te:TE)(n:Int):Prop:=∀σ H Q,Q (.int n) H->te σ H Q
theorem MkI.pos(n:Int):MkI (tC (.int n)) n:=λ_ _ _ q=>q
def MkIs(ta:TA)(ns:LI'):Prop:=∀σ H Q,Q (ns.map V.int) H->ta σ H Q
theorem MkIs.nil:MkIs tNil []:=λ_ _ _ q=>q
theorem MkIs.cons{te:TE}{b:TA}{n:Int}{ns:LI'}(h:MkI te n)(c:MkIs b ns):MkIs (nO te b) (n:: ns):=λa H Q q=>h a H _ (c a H _ q)
def MkR(te:TE)(ns:LI'):Prop:=∀σ H Q,(∀p H',Same H H'->H p=none->H' p=some (.lst (ns.map V.int))->Q (.ref p) H')->te σ H Q
def MkRs(ta:TA)(M:List (LI')):Prop:=∀σ H Q,(∀ps H',Same H H'->RefRowsN H H' ps M->Q (ps.map V.ref) H')->ta σ H Q
where RefRowsN (H H':Hp) (ps:LA) (M:List (LI')):Prop:=ps.length=M.length/\∀(j:Nat)(p:Addr)(r:LI'),ps[j]?=some p->M[j]?=some r->H' p=some (.lst (r.map V.int))
theorem MkRs.nil:MkRs tNil []:=λ_ H Q q=>q [] H (Same.refl _) ⟨rfl,λj p r e=>by simp at e⟩
theorem MkRs.cons{te:TE}{b:TA}{ns:LI'}{M:List (LI')}(h:MkR te ns)(i:MkRs b M):MkRs (nO te b) (ns:: M):=λc H Q q=>h c H _ λp H1 k l e1=>i c H1 _ λps H2 d r=>q (p:: ps) H2 (k.trans d) ⟨by simp[r.1],λj g f e a=>by
 cases j with
 |zero=>simp at e a;subst e a;exact d _ _ e1
 |succ j=>exact r.2 j g f (by simpa using e) (by simpa using a)⟩
def MkM(te:TE)(M:List (LI')):Prop:=∀σ H Q,(∀p H',Same H H'->H p=none->MatL H' p M->Q (.ref p) H')->te σ H Q
def Mats(H:Hp)(p:Addr)(Ms:List (List (LI'))):Prop:=∃ps:LA,H p=some (.lst (ps.map V.ref))/\ps.length=Ms.length/\∀(i:Nat)(q:Addr)(M:List (LI')),ps[i]?=some q->Ms[i]?=some M->MatL H q M
theorem Mats.up{H H':Hp}{p:Addr}{a:List (List (LI'))}(h:Mats H p a)(s:Same H H'):Mats H' p a:=let ⟨ps,d,c,e⟩:=h;⟨ps,s _ _ d,c,λi q M e1 b=>(e i q M e1 b).up s⟩
def MkMs(ta:TA)(Ms:List (List (LI'))):Prop:=∀σ H Q,(∀(ps:LA) H',Same H H'->ps.length=Ms.length->(∀(i:Nat)(q:Addr)(M:List (LI')),ps[i]?=some q->Ms[i]?=some M->MatL H' q M)->Q (ps.map V.ref) H')->ta σ H Q
theorem MkMs.nil:MkMs tNil []:=λ_ H Q q=>q [] H (Same.refl _) rfl λj p r e=>by simp at e
theorem MkMs.cons{te:TE}{c:TA}{M:List (LI')}{b:List (List (LI'))}(h:MkM te M)(k:MkMs c b):MkMs (nO te c) (M:: b):=λd H Q q=>h d H _ λp H1 m _ e1=>k d H1 _ λps H2 f l r=>q (p:: ps) H2 (m.trans f) (by simp[l]) λj i g e a=>by
 cases j with
 |zero=>simp at e a;subst e a;exact e1.up f
 |succ j=>exact r j i g (by simpa using e) (by simpa using a)
theorem MkMs.lst{d:TA}{b:List (List (LI'))}(h:MkMs d b)(g:b.length<=1000){e:St}{H:Hp}{Q:VK}(q:∀p H',Same H H'->Mats H' p b->Q (.ref p) H'):tLst d e H Q:=h e H _ λps H1 j l r=>⟨by rw[yP,l];exact vL (iU g),λa c =>
 q a _ (j.trans (Same.new c)) ⟨ps,oS,l,λi q M e1 f=>(r i q M e1 f).up (Same.new c)⟩⟩
theorem Mats.at{K:Frag}{H:Hp}{p:Addr}{b:List (List (LI'))}{i:Nat}{M:List (LI')}{I:Int}{Q:VK}(h:Mats H p b)(e:b[i]?=some M)(hi:I=i)(k:∀q,MatL H q M->Q (.ref q) H):rIxB K (.ref p) (.int I) H Q:=by
 obtain⟨ps,c,f,d⟩:=h;have a:i<ps.length:=by have:=(oK.mp e).1;omega
 exact⟨false,p,_,_,_,rfl,rfl,SqB.lst c,lZ (show(ps.map V.ref)[i]?=some (.ref ps[i]) by simp[a]) hi,k _ (d i _ M (by simp[a]) e)⟩
def MatD(H0 H:Hp)(a:Addr)(rows:List (LI')):Prop:=∃ps:LA,H a=some (.lst (ps.map V.ref))/\ps.length=rows.length/\ps.Nodup/\∀(i:Nat)(p:Addr)(r:LI'),ps[i]?=some p->rows[i]?=some r->p≠a/\H0 p=none/\H p=some (.lst (r.map V.int))
theorem MatD.l{g H:Hp}{a:Addr}{d:List (LI')}(h:MatD g H a d):MatL H a d:=let ⟨ps,f,e,_,c⟩:=h;⟨ps,f,e,λi p r e1 b=>⟨(c i p r e1 b).1,(c i p r e1 b).2.2⟩⟩
theorem MatD.up{e H H':Hp}{a:Addr}{d:List (LI')}(h:MatD e H a d)(s:Same H H'):MatD e H' a d:=let ⟨ps,g,f,n,c⟩:=h;⟨ps,s _ _ g,f,n,λi p r e1 b=>⟨(c i p r e1 b).1,(c i p r e1 b).2.1,s _ _ (c i p r e1 b).2.2⟩⟩
theorem MatD.row{g H:Hp}{a:Addr}{d:List (LI')}{i:Nat}{r:LI'}(h:MatD g H a d)(e:d[i]?=some r):∃zs p,H a=some (.lst zs)/\zs[i]?=some (.ref p)/\zs.length=d.length/\p≠a/\g p=none/\H p=some (.lst (r.map V.int))/\∀f,MatD g (upd H p (.lst (f.map V.int))) a (d.set i f):=by
 obtain⟨ps,m,l,t,n⟩:=h;have hi:i<ps.length:=by have:=(oK.mp e).1;omega
 have b:=n i ps[i] r (by simp[hi]) e;refine⟨_,ps[i],m,by simp[hi],by simp[l],b.1,b.2.1,b.2.2,λf=>⟨ps,by rw[oV (zZ b.1)];exact m,by simp[l],t,λj q z e1 c=>?_⟩⟩
 by_cases k:j=i
 ·subst k;have v:q=ps[j]:=by simp[hi]at e1;exact e1.symm
  subst v;rw[xV ⋯]at c;cases c;exact⟨b.1,b.2.1,oS⟩
 ·rw[vX (zZ k)]at c;obtain⟨u,x,y⟩:=n j q z e1 c;have:q≠ps[i]:=λw=>by
   have o:=(oK.mp e1);obtain⟨o,C⟩:=o;exact k ((List.getElem_inj t).mp (C.trans w))
  exact⟨u,x,by rw[oV this];exact y⟩
def isList:Expr->Bool
 |.List _ _=>true
 |_=>false
section
variable {X:Cx}
theorem Gh:∀{bs:List Bool}{its:LW},Vals (bs.map V.bl) its->∀(i:Nat)(v:Value),its[i]?=some v->∃b,bs[i]?=some b/\v=.bool b
 |[],_,.nil,i,v,e=>by simp at e
 |b:: r,_,.cons h q,i,v,e=>by
  cases i with
  |zero=>simp at e;subst e;exact⟨b,rfl,h⟩
  |succ i=>simpa using Gh (bs:=r) q i v (by simpa using e)
theorem Gg:∀bs:List Bool,((List.range bs.length).any λi=>(bs[i]?).getD false)=bs.any id
 |[]=>rfl
 |b:: bs=>by
  have a:=Gg bs;rw[zY,List.range_succ_eq_map,qE,qE,List.any_map];show(b || _)=(b || _);congr 1
theorem Qs(n:X.calm=true):mU X (.builtin "any") (λxs H Q=>∃(p:Addr)(bs:List Bool),xs=[.ref p]/\SqL X.K H p (bs.map V.bl)/\Q (.bl (bs.any id)) H):=by
 intro o s y H xs us Q I r h;obtain⟨p,bs,rfl,m,q⟩:=h;obtain⟨u,rfl,d⟩:=jA r;cases d;obtain⟨its,c,pl,w⟩:=I.list m;have hl:s.heap.IsList p its.toArray:=pl.isList;have j:p<s.heap.objs.size:=by obtain⟨_,e,_⟩:=hl;exact zI e
 have g:its.toArray.size=bs.length:=by
  have:=c.length;simpa using this.symm
 refine call_any_walk (sD hl ?_);refine⟨s.heap.objs.size,[s.heap.objs.size,p],[s.heap.objs.size],its.toArray.size,_,_,λi=>(bs[i]?).getD false,rfl,Walks.list (A:=X.A.in1) (I.ok.hd n) _ p (zX j) its.toArray,
  ⟨⟨_,zR _ rfl,rfl,rfl⟩,hl.push _⟩,λi v z t C f a=>?_,λh' tk k=>?_⟩
 ·obtain⟨b,e,rfl⟩:=Gh c i v (by simpa using f);simp only[e,Option.getD_some]at a;exact uS a
 ·rw[g,Gg bs];refine⟨.bl (bs.any id),H,I.kept (t':=tk) λb x e=>k b x (λl=>by rw[rW.mp l]at e;exact yW _ (zI e)) (zC _ e),rfl,q⟩
end
section
variable {prog:Program} {w:World} {A:Around} {E:VP} {s:Shared}
theorem Qr{env:Env}{a:List Expr}{e}{pos:Pos}{b:Addr}{items:Array Value}{Q:Unit->Shared->Prop}(hh:A.handled=none)(d:s.heap.IsList b items)
  (c:(assignEach a env).length=items.size)(f:(assignEach a env).findIdx? (·.1)=none)
  (h:∀h',Heap.ExtBut s.heap.objs.size s.heap h'->wpAny (model prog w) A (assignInOrder ((assignEach a env).map (·.2)) items.toList) Q E {s with heap:=h'}):
  wpAny (model prog w) A (assign (.Tuple a e pos) env (.ref b)) Q E s:=by
 rw[assign_Tuple];refine zA (wA ?_);unfold unpack;rw[c,f];exact zA (yU (PySem.W.kun_itemsOf hh d h))
end
section
variable {X:Cx} {pos:Pos}
def Gf(K:Frag)(n:Nat)(t:TGs):TG:=λv σ H Q=>∃b a xs,v=.ref a/\SqB b K H a xs/\xs.length=n/\t xs σ H Q
theorem Ge{es:List Expr}{k:Nat}{l:TGs}{n:Nat}(j:X.calm=true)(h:PGs X es l)
  (m:(assignEach es X.env).length=n:=by rfl)(g:(assignEach es X.env).findIdx? (·.1)=none:=by rfl):PG X (.Tuple es k pos) (Gf X.K n l):=by
 intro d s f H v u Q I r c;obtain⟨b,a,xs,e1,i,hl,c⟩:=c;cases b with
 |true=>exact gF j h m g d s f H v u Q I r ⟨a,xs,e1,i,hl,c⟩
 |false =>
  subst e1;cases r;obtain⟨its,p,pl,w⟩:=I.list i;refine Qr (I.ok.hd j) pl.isList (by simp[m,←hl,p.length]) g λh' q=>?_;have t:Inv X d f H {s with heap:=h'}:=I.kept (t':=s.toks) λb o e=>q b o (zX (zI e)) e;exact h d _ f H xs _ Q t (by simpa using p) c
end
section
variable {prog:Program} {w:World} {A:Around} {E:VP} {s:Shared}
set_option maxRecDepth 100000 in
end
section
variable {X:Cx} {C0:Addr} {x:Str} {np hpos pos:Pos} {body suite:List Stmt} {b₀:Stmt} {tb:XE->TS} {ts:TS}
theorem SP.offsuite{c:PN}{D:Ends}{f:Flow}{s:Shared}{e:Addr}(ok:X.Ok)(h:SP (X.suite e) c D f s):SP X c D f s:=by
 cases f with
 |next=>obtain⟨a,H',b,q⟩:=h;exact⟨a,H',b.offsuite ok,q⟩
 |brk=>obtain⟨a,H',b,q⟩:=h;exact⟨a,H',b.offsuite ok,q⟩
 |cont=>obtain⟨a,H',b,q⟩:=h;exact⟨a,H',b.offsuite ok,q⟩
 |ret u=>obtain⟨v,a,H',b,r,q⟩:=h;exact⟨v,a,H',b.offsuite ok,r,q⟩
end
open Builtin Builtin.Str
section
variable {X:Cx}
def Qq:List V->Hp->VK->Prop:=λxs H Q=>∃n:Nat,xs=[.int n]/\n<=1000/\∀l,H l=none->Q (.ref l) (upd H l (.lst ((List.range n).map λ(i:Nat)=>V.int (i:Int))))
theorem Qp{a:Expr}{m:TA}{z k y f:Pos}(Z:X.calm=true)(L:Gl X "list")(N:X.mg "list"=none)(M:Gl X "range")(T:X.mg "range"=none)(R:PA X [a] m)
  (P:bootBuiltins "list"=some (.type "list"):=by decide +kernel)(a0:starEach [a] X.env=[(false,eval a X.env)]:=by rfl)
  (t:starEach [.Call (.Name "range" k) [a] [] f] X.env=[(false,eval (.Call (.Name "range" k) [a] [] f) X.env)]:=by rfl):
  PE X (.Call (.Name "list" z) [.Call (.Name "range" k) [a] [] f] [] y) (tCB Qq m):=by
 intro G s J H Q I h;refine xS (iO I L N P ?_);refine xY ?_ (by rw[t];rfl) (by rfl);rw[t];show wpAny _ _ (spliced ((false,eval (.Call (.Name "range" k) [a] [] f) X.env):: [])) _ _ s;refine Calls.spliced_cons ?_;refine xS (iO I M T boot_range ?_);refine xY (thn (R f G s J H _ I h) λus c⟨vs,H1,l,r1,U⟩=>?_) (by rw[a0];rfl) (by rfl);obtain⟨n,e,r,q⟩:=U;subst e;obtain⟨u,rfl,D⟩:=jA r1;obtain⟨j,rfl⟩:=D;refine call_range_1 ?_;refine Calls.spliced_nil ?_;have k1:∀b o,c.heap.get? b=some o->(c.heap.push {cls:=.type "range",data:=.fields #[.int 0 c.toks,.int n j,.int 1 (c.toks+1)]}).get? b=some o:=λb o e=>zC _ e;refine call_list_range (n:=n) (l.ok.hd Z) (IsRange.new ..) (small_one ∅ ∅ ⋯ ⋯) (by rw[rangeSize_one];split <;> omega) (yC r ∅) λh' tk v W S O Y=>?_;have k2:∀b o,c.heap.get? b=some o->h'.get? b=some o:=λb o e=>S b o (k1 b o e);have w:c.heap.objs.size<=(c.heap.push {cls:=.type "range",data:=.fields #[.int 0 c.toks,.int n j,.int 1 (c.toks+1)]}).objs.size:=by simp[Heap.push]
 have C:Vals ((List.range n).map λ(i:Nat)=>V.int (i:Int)) v.toList:=by
  obtain⟨p,K⟩:=Y;have g:∀(xs:List V)(us:LW),xs.length=us.length->(∀(i:Nat)(x:V)(u:Value),xs[i]?=some x->us[i]?=some u->RelV x u)->Vals xs us:=by
   intro xs
   induction xs with
   |nil=>intro us hl _;cases us with
    |nil=>exact .nil
    |cons _ _=>cases hl
   |cons x xs F=>intro us hl hr;cases us with
    |nil=>cases hl
    |cons u us=>exact .cons (hr 0 x u rfl rfl) (F us (rE hl) λi x u e1 d=>hr (i+1) x u e1 d)
  refine g _ _ (by rw[yP,uP,zM,p]) λi x u e1 d=>?_;rw[yM]at d;obtain⟨j,rfl⟩:=K i u d;rw[zO]at e1;have hi:i<n:=by rw[←p];exact(oB.mp d).1
  rw[xA hi]at e1;cases e1;exact⟨j,by rw[pU,rQ]⟩
 exact⟨.ref _,_,l.laid (t':=tk) k2 w (show nM X.prog X.w _ h' _ (.lst _) from⟨by rw[yP,uP];exact yC r ∅,v.toList,W,C,by rw[Array.toArray_toList];exact O⟩),rfl,q _ (l.hok.fresh w)⟩
end
def qVar(i:Nat):TE:=λσ H Q=>match σ[i]? with
 |some (some v)=>Q v H
 |_=>False
theorem Qo{i:Nat}{a:St}{H:Hp}{Q:VK}(h:qVar i a H Q):tVar i a H Q:=by
 unfold qVar at h;split at h
 ·next v e=>exact⟨v,e,h⟩
 ·exact h.elim
theorem pq{X:Cx}(i:Nat){x:Str}{pos:Pos}(c:X.N[i]?=some x:=by rfl)(a:Vis X.env.scope x:=by first|exact Or.inl rfl|exact Or.inr (Or.inl rfl)|exact Or.inr (Or.inr rfl))(d:(x == ("__debug__" :Str))=false:=by decide)
  (f:(x == ("__classdict__" :Str))=false:=by decide):PE X (.Name x pos) (qVar i):=λb s e H Q I q=>pv i c a d f b s e H Q I (Qo q)
section
variable {X:Cx} {e:Expr} {ta:TE} {pos p p':Pos} {i:Int} {j:Nat}
theorem nN(a:PE X e ta):PE X (e.Subscript (.Constant (.int i) j p') pos) (tOp (rIxB X.K) ta (tC (.int i))):=nV ix_B a oO (λ_ _=>rfl)
theorem mO(m:X.mg "len"=none)(a:PE X e ta)(g:Gl X "len" := by rfl)(b:starEach [e] X.env=(false,eval e X.env):: starEach [] X.env:=by rfl):PE X (.Call (.Name "len" p) [e] [] pos) (tCB (eQ X.K) (nO ta tNil)):=nQ Ph g m (nofun) (oM a oN b) ∅ ∅ b rfl
end
section
variable {X:Cx} {sc scope:Scope} {fr:List (Str×Nat)} {x:Str} {px:Pos} {iter elt:Expr} {wi:TI} {te:TE} {N:List Str}
theorem mK{pos:Pos}(j:X.env.scope=sc)(i:X.N=N)(g:cX sc N scope fr=true)(k:X.calm=true)(m:cY (kS sc scope) ([x]++fr.map (·.1)) 0 x=true)(hi:PI X (.Name x px) iter wi)
  (l:∀(f:Shared)(e:Hp)(c:LA),(mH X scope ([x]++fr.map (·.1)) f e c).env.scope=kS sc scope->PE (mH X scope ([x]++fr.map (·.1)) f e c) elt te)(n:∀x,foldedSetIterable iter X.env x=pure x:=by intro _;rfl):PE X (.ListComp elt [⟨.Name x px,iter,[],0⟩] scope pos) (lY wi (nB 0) (tEl te) 1 fr):=
 iW (xs:=[x]) (jD j i g) k hi (λ_ _ _ h=>jL (i:=0) h rfl m) (λa b d h=>jK (l a b d h)) (yA _) n
theorem Qn{pos c f:Pos}{y:Str}{i:Nat}(o:X.env.scope=sc)(m:X.N=N)(k:cX sc N scope fr=true)(p:X.calm=true)(n:X.N.Nodup)(u:X.N[i]?=some y)(hl:X.env.scope.names.lookup y=some .local)(r:cY (kS sc scope) ([x]++fr.map (·.1)) 0 x=true)(hi:PI X (.Name x px) iter wi)
  (q:∀(j:Shared)(g:Hp)(e:LA),(mH X scope ([x]++fr.map (·.1)) j g e).env.scope=kS sc scope->PE (mH X scope ([x]++fr.map (·.1)) j g e) elt te)
  (l:swapsWith (.ListComp elt [⟨.Name x px,iter,[],0⟩] scope pos) (some (.Name y f)) c.line X.env=pure true:=by rfl)(t:∀x,foldedSetIterable iter X.env x=pure x:=by intro _;rfl):PS X (.Assign [.Name y f] (.ListComp elt [⟨.Name x px,iter,[],0⟩] scope pos) c) (Fe i (lY wi (nB 0) (tEl te) 1 fr)):=
 Bz (xs:=[x]) (jD o m k) p n u hl hi (λ_ _ _ h=>jL (i:=0) h rfl r) (λa b d h=>jK (q a b d h)) l (yA _) t
end
structure FunT(K:Frag)(mg:MT)(x:Str)(st:Stmt)(f:Addr)(fd:FuncData)(ps:List Str):Prop extends Fun K x x st f fd where
 m:mg x=some (.ref f)
 b:mM K fd ps []
section
variable {X:Cx} {k:Nat} {f:Addr} {fd:FuncData} {ps:List Str} {sp:Sp} {x:Str} {st:Stmt} {p pos:Pos} {e:Expr} {es:List Expr} {t:TA}
theorem nD(F:FnOk X.prog X.w X.K X.mg X.base CX0 k f fd ps sp)(hr:Room k X.A)(c:FunT X.K X.mg x st f fd ps)(a:PA X (e:: es) t)(b:Gl X x:=by rfl)(d:(x == ("__debug__" :Str))=false:=by decide)
  (i:starEach (e:: es) X.env=(false,eval e X.env):: starEach es X.env:=by rfl)(g:(backTo pos (starEach es X.env)).any (·.1)=false:=by rfl):PE X (.Call (.Name x p) (e:: es) [] pos) (kL sp [] E0 t):=cM F hr b c.m c.kp c.b .nil fA a d i g
end
instance decPD:DecidableEq PyData:=λ_ _=>Classical.propDecidable _
def tT:Nat->PyData->Bool
 |_,.int _=>true
 |n+1,.tuple xs=>xs.all (tT n)
 |_,_=>false
theorem gM:∀(n:Nat)(d:PyData),tT n d=true->iT n d=true:=by
 intro n
 induction n with
 |zero=>intro d h;cases d <;> simp[tT]at h <;> simp[iT]
 |succ n a =>
  intro d h;cases d <;> simp[tT]at h
  ·simp[iT]
  ·simp only[iT,List.all_eq_true];exactλx b=>a x (h x b)
mutual
def jN:PyData->Int
 |.int i=>hashInt i
 |.tuple xs=>reduceHash (Builtin.Tuple.tupleHashOf (eV xs))
 |_=>0
def eV:List PyData->LI'
 |[]=>[]
 |d:: ds=>jN d:: eV ds
end
mutual
def jO:PyData->Nat
 |.tuple xs=>gN xs+1
 |_=>1
def gN:List PyData->Nat
 |[]=>0
 |d:: ds=>jO d+gN ds
end
section
variable {prog:Program} {w:World} {E:VP}
theorem Qm(n:Nat)(f:∀{A:Around}{s:Shared}{v:Value}{d:PyData}{as:LA}{Q:Int->Shared->Prop},tT n d=true->Reads s.heap v d as->A.units+n<cLine->Q (jN d) {s with toks:=s.toks+jO d}->wpAny (model prog w) A (pyHash v) Q E s):
  ∀(xs:List PyData)(vs:LW)(as:LA)(A:Around)(s:Shared)(b:Array Int)(Q:Array Int->Shared->Prop),xs.all (tT n)=true->ReadsAll s.heap vs xs as->A.units+n<cLine ->
  (∀a:Array Int,a.toList=b.toList++eV xs->Q a {s with toks:=s.toks+gN xs}) ->
  wpAny (model prog w) A (forIn vs b λx r=>do let h ←pyHash x;pure PUnit.unit;pure (ForInStep.yield (r.push h))) Q E s:=by
 intro xs
 induction xs with
 |nil =>
  intro vs as A s b Q _ r _ h;cases r;exact zB (h b (by simp[eV]))
 | cons d ds g =>
  intro vs as A s b Q c r e h;cases r with
  |cons r1 r2 =>
   rw[xG,zP]at c;rw[uK];refine zA (zA (f c.1 r1 e ?_));refine zA (zB (zB ?_));refine g _ _ A {s with toks:=s.toks+jO d} (b.push (jN d)) Q c.2 r2 e λa i=>?_;have:=h a (by rw[i];simp[eV]);rw[show s.toks+gN (d:: ds)=s.toks+jO d+gN ds by simp[gN,Nat.add_assoc]]at this;exact this
theorem Ql:∀(n:Nat){A:Around}{s:Shared}{v:Value}{d:PyData}{as:LA}{Q:Int->Shared->Prop},tT n d=true->Reads s.heap v d as->A.units+n<cLine->Q (jN d) {s with toks:=s.toks+jO d}->wpAny (model prog w) A (pyHash v) Q E s:=by
 intro n
 induction n with
 |zero =>
  intro A s v d as Q c r g h;cases r <;> simp[tT]at c;exact qV (by simpa [jN,jO]using h)
 | succ n f =>
  intro A s v d as Q c r g h;cases r <;> simp only[tT,Bool.false_eq_true]at c
  case int=>exact qV (by simpa [jN,jO]using h)
  case tuple a o vs m xs hg hc hd hr =>
   unfold pyHash;refine PySem.W.pyHash_slot (T:= "tuple") ⟨_,hg,hc⟩ PySem.F.slot_tuple_hash PySem.F.entry_tuple_hash (PySem.F.args_tuple_hash_1 _) (beq_builtin_none _) (.inr ⋯) ?_;show wpAny _ _ (Builtin.Tuple.tupleItemsOf (.ref a) >>= _) _ _ s;refine zA (rT hg hd ?_);refine zA ?_;rw[←Array.forIn_toList];refine Qm n f xs vs.toList _ A.in1 s #[] _ c hr (by show A.units+1+n<cLine;omega) λb i=>?_;show wpAny _ _ (retInt (Builtin.Tuple.tupleHashOf b.toList)) _ _ _;rw[i];refine zA (wpAny_mkInt (zB ⟨_,_,rfl,?_⟩));have e:s.toks+gN xs+1=s.toks+jO (.tuple xs):=by simp[jO,Nat.add_assoc]
   simp only[jN]at h;rw[←e]at h;exact h
theorem Qk:∀(n m:Nat),n<m->∀{A:Around}{s:Shared}{v:Value}{d:PyData}{as:LA}{Q:Bool->Shared->Prop},tT n d=true->Reads s.heap v d as->Q true s->wpAny (model prog w) A (eqIsQuiet m v) Q E s:=by
 intro n
 induction n with
 |zero =>
  intro m _ A s v d as Q b r h;cases r <;> simp[tT]at b;rw[eqIsQuiet_byValue _ rfl];exact zB h
 | succ n i =>
  intro m p A s v d as Q b r h;cases r <;> simp only[tT,Bool.false_eq_true]at b
  case int=>rw[eqIsQuiet_byValue _ rfl];exact zB h
  case tuple a o vs k xs hg hc hd hr =>
   obtain⟨m,rfl⟩:∃j,m=j+1:=⟨m-1,⋯⟩;have g:s.TypeIs (.ref a) "tuple" := ⟨o,hg,hc⟩;unfold eqIsQuiet;refine zA (wpAny_specialOf g PySem.F.slot_tuple_eq.lookup ?_);show wpAny _ _ (isInstance (.ref a) (.type "tuple") >>= _) _ _ s;refine zA (uD g isSubtype_tuple_tuple ?_);simp only[Bool.not_true,Bool.false_eq_true,if_false];refine zA (wH hg hd ?_);refine zA ?_;show wpAny _ _ (forIn vs _ _) _ _ s;rw[←Array.forIn_toList];refine wpAny_forIn_list _ (λrest q e=>q.1=none/\e=s/\∃ys bs,ys.all (tT n)=true/\ReadsAll s.heap rest ys bs) _ ?_ ?_ _ _ ⟨rfl,rfl,xs,_,b,hr⟩
   ·rintro u rest q e ⟨c,rfl,ys,bs,f,l⟩;cases l with
    |cons r1 r2 =>
     rw[xG,zP]at f;refine zA (i m ⋯ f.1 r1 ?_);simp only[Bool.not_true,Bool.false_eq_true,if_false];exact zB ⟨rfl,rfl,_,_,f.2,r2⟩
   ·rintro⟨r1,r2⟩ e ⟨c,rfl,_⟩;simp only at c;subst c;exact zB h
end
theorem Qj{h h':Heap}{x:Addr}{c:Obj}{es:Array DictEntry}{ep:Nat}(f:h.get? x=some c)(g:c.data=.dict es ep)(l:Heap.SameBut x h h'):∀(n:Nat){v:Value}{d:PyData}{as:LA},tT n d=true->Reads h v d as->Reads h' v d as:=by
 intro n
 induction n with
 |zero =>
  intro v d as b r;cases r <;> simp[tT]at b;exact .int _ _
 | succ n e =>
  have all:∀(xs:List PyData)(vs:LW)(as:LA),xs.all (tT n)=true->ReadsAll h vs xs as->ReadsAll h' vs xs as:=by
   intro xs
   induction xs with
   |nil=>intro vs as _ r;cases r;exact .nil
   | cons d ds i =>
    intro vs as b r;cases r with
    |cons r1 r2 =>
     rw[xG,zP]at b;exact .cons (e b.1 r1) (i _ _ b.2 r2)
  intro v d as b r;cases r <;> simp only[tT,Bool.false_eq_true]at b
  case int=>exact .int _ _
  case tuple a o vs k xs hg hc hdd hr =>
   have j:a≠x:=by
    rintro rfl;rw[f]at hg;cases hg;rw[g]at hdd;cases hdd
   exact .tuple ((l.2 a j).trans hg) hc hdd (all _ _ _ b hr)
def isT(h:Heap)(d:PyData)(a:Addr):Prop:=tT 4 d=true/\∃as,Reads h (.ref a) d as
def kN(prog:Program)(w:World):HeapKind prog w PyData where
 is:=isT
 hash:=jN
 draws:=jO
 room:=λA=>A.units+8<cLine
 inj:=λ{h a x y}hx hy=>by
  obtain⟨t1,as,r1⟩:=hx;obtain⟨t2,bs,r2⟩:=hy;exact PySem.SeqAt.Reads.unique _ _ _ _ _ (iG 4 _ (gM 4 _ t1)).1 r1 r2
 keeps:=λ{h h' k a x o es ep}hk hx hd hs=>⟨hk.1,let ⟨as,r⟩:=hk.2;⟨as,Qj hx hd hs 4 hk.1 r⟩⟩
 pyHash:=λ{A E s k a Q}hu hk h=>let ⟨as,r⟩:=hk.2;Ql 4 hk.1 r ⋯ h
 eqBool:=λ{A E s x y a b Q}hu hx hy h=>by
  obtain⟨t1,as,r1⟩:=hx;obtain⟨t2,bs,r2⟩:=hy;have i1:=gM 4 _ t1;have i2:=gM 4 _ t2;have l1:=iG 4 _ i1;have l2:=iG 4 _ i2;refine PySem.SeqAt.eqBoolOverData _ _ _ _ _ _ _ _ _ _ _ _ r1 r2 l1.1 l2.1 ⋯ ?_;rw[←SeqAt.same_eq_eqv _ _ (bE 4 _ _ i1 i2)];have e:=bF 4 _ _ i1 i2
  by_cases z:x=y
  ·rw[zL z]at h;rw[e.mpr z];exact h
  ·rw[zK z]at h;have:same x y=false:=by
    cases q:same x y with
    |false=>rfl
    |true=>exact absurd (e.mp q) z
   rw[this];exact h
 quiet:=λ{A E s k a Q}hk h=>let ⟨as,r⟩:=hk.2;Qk 4 8 ∅ hk.1 r h
def mP(a:Addr)(xs:List (PyData×Addr×Value)):HO:=.ext λh=>∃o es ep,h.get? a=some o/\o.ExactDict/\o.data=.dict es ep/\es.toList=xs.map λx=>⟨jN x.1,.ref x.2.1,x.2.2⟩
theorem Gc{o:Option V}{u:Option Value}(h:RelO o u):o.isSome=u.isSome:=by
 cases o <;> cases u <;> first|rfl|exact h.elim
def vT(kvs:List (PyData×V))(k:PyData):Option V:=(kvs.find? λkv=>decide (kv.1=k)).map (·.2)
def pT(kvs:List (PyData×V))(k:PyData)(v:V):List (PyData×V):=if(vT kvs k).isSome=true then kvs.map (λkv=>if kv.1=k then(kv.1,v) else kv) else kvs++[(k,v)]
theorem jP{p:PyData×V}{r:List (PyData×V)}{k:PyData}(e:p.1=k):vT (p:: r) k=some p.2:=by simp[vT,List.find?_cons,e]
theorem jQ{p:PyData×V}{r:List (PyData×V)}{k:PyData}(e:¬ p.1=k):vT (p:: r) k=vT r k:=by simp[vT,List.find?_cons,e]
abbrev KP(K:Frag)(H:Hp):List (PyData×V)->List (PyData×Addr×Value)->Prop:=Paired λp q=>p.1=q.1/\(tT 4 p.1=true/\Dt K H (.ref q.2.1) p.1)/\RelV p.2 q.2.2
structure DTr(K:Frag)(H:Hp)(a:Addr)(kvs:List (PyData×V)):Prop where
 len:kvs.length<=sizeLine
 sys:(a == sysModules)=false
 ex:∃xs,H a=some (mP a xs)/\(xs.map (·.1)).Nodup/\KP K H kvs xs
theorem KP.val{K:Frag}{H:Hp}{kvs:List (PyData×V)}{xs:List (PyData×Addr×Value)}(r:KP K H kvs xs)(k:PyData):RelO (vT kvs k) ((atKey xs k).map (·.2)):=by
 induction r with
 |nil=>exact True.intro
 | @cons p q ps a h i d =>
  obtain⟨c,_,f⟩:=h
  by_cases e:p.1=k
  ·have b:atKey (q:: a) k=some q.2:=by simp[atKey,List.find?_cons,c.symm.trans e]
   rw[jP e,b];exact f
  ·have g:¬ q.1=k:=λz=>e (c.trans z);have b:atKey (q:: a) k=atKey a k:=by simp[atKey,List.find?_cons,g]
   rw[jQ e,b];exact d
theorem KP.put{K:Frag}{H:Hp}{kvs:List (PyData×V)}{xs:List (PyData×Addr×Value)}(r:KP K H kvs xs)(k:PyData){b:Addr}{y:V}{u:Value}(tk:tT 4 k=true)(g:Dt K H (.ref b) k)(c:RelV y u):KP K H (pT kvs k y) (storedH xs k b u):=by
 have e:(vT kvs k).isSome=(atKey xs k).isSome:=by rw[Gc (r.val k),Option.isSome_map]
 unfold pT storedH;rw[e]
 by_cases q:(atKey xs k).isSome=true
 ·rw[zF q,zF q];clear e q
  induction r with
  |nil=>exact .nil
  |@cons p q ps j h l f =>
   rw[zN,zN];refine .cons ?_ f;obtain⟨a,d,i⟩:=h;unfold putAt
   by_cases e:p.1=k
   ·rw[zF e,zF (a.symm.trans e)];exact⟨a,d,c⟩
   ·rw[zD e,zD (λz=>e (a.trans z))];exact⟨a,d,i⟩
 ·rw[zD q,zD q];exact Paired.snoc r ⟨rfl,⟨tk,g⟩,c⟩
theorem kO{K:Frag}{H H':Hp}(e:∀b xs,SqT K H b xs->SqT K H' b xs):∀(n:Nat){x:V}{d:PyData},tT n d=true->Dt K H x d->Dt K H' x d:=by
 intro n
 induction n with
 |zero =>
  intro x d h r;cases r <;> simp[tT]at h;exact .int _
 | succ n c =>
  have all:∀(ds:List PyData)(xs:List V),ds.all (tT n)=true->Dts K H xs ds->Dts K H' xs ds:=by
   intro ds
   induction ds with
   |nil=>intro xs _ r;cases r;exact .nil
   | cons d ds f =>
    intro xs h r;cases r with
    |cons r1 r2 =>
     rw[xG,zP]at h;exact .cons (c h.1 r1) (f _ h.2 r2)
  intro x d h r;cases r <;> simp only[tT,Bool.false_eq_true]at h
  case int=>exact .int _
  case tup a xs ds hq hr=>exact .tup (e _ _ hq) (all _ _ h hr)
theorem Gb{K:Frag}{H:Hp}{a:Addr}{o:HO}(d:∀xs,¬ Rd H a (.tup xs)):∀b xs,SqT K H b xs->SqT K (upd H a o) b xs:=λb xs h=>by
 rcases h with h|h
 ·have c:b≠a:=λe=>d xs (e ▸ h);rcases h with h|⟨f,h⟩
  ·exact .inl (.inl (by rw[oV c];exact h))
  ·exact .inl (.inr ⟨f,by rw[oV c];exact h⟩)
 ·exact .inr h
theorem KP.keeps{K:Frag}{H H':Hp}{kvs:List (PyData×V)}{xs:List (PyData×Addr×Value)}(r:KP K H kvs xs)(a:∀b ys,SqT K H b ys->SqT K H' b ys):KP K H' kvs xs:=
 Paired.mapP r λ_ _ z=>⟨z.1,⟨z.2.1.1,kO a 4 z.2.1.1 z.2.1.2⟩,z.2.2⟩
theorem lK{K:Frag}{H H':Hp}(s:Same H H'):∀b xs,SqT K H b xs->SqT K H' b xs:=λb xs h=>by
 rcases h with(h|⟨o,h⟩)|h
 ·exact .inl (.inl (s _ _ h))
 ·exact .inl (.inr ⟨o,s _ _ h⟩)
 ·exact .inr h
theorem DTr.up{K:Frag}{H H':Hp}{a:Addr}{kvs:List (PyData×V)}(h:DTr K H a kvs)(s:Same H H'):DTr K H' a kvs:=by
 obtain⟨l,y,xs,e,n,r⟩:=h;exact⟨l,y,xs,s _ _ e,n,r.keeps (lK s)⟩
section
variable {X:Cx} {pins:PN} {σ:St} {H:Hp} {s:Shared} {a:Addr}
theorem fG{k:PyData}{b:Addr}(I:Inv X pins σ H s)(tk:tT 4 k=true)(c:Dt X.K H (.ref b) k):(kN X.prog X.w).is s.heap k b:=⟨tk,c.reads I rfl⟩
theorem eW{kvs:List (PyData×V)}(I:Inv X pins σ H s)(g:DTr X.K H a kvs):∃xs,H a=some (mP a xs)/\KP X.K H kvs xs/\s.heap.DictOfH (kN X.prog X.w) a xs:=by
 obtain⟨_,_,xs,e,n,r⟩:=g;obtain⟨⟨o,es,ep,j,f,k,i⟩,_⟩:=(show nM X.prog X.w H s.heap a (mP a xs) from I.hok a _ e);refine⟨xs,e,r,o,es,ep,j,f,k,i,λx b=>?_,n⟩;have all:∀{l:List (PyData×V)}{m:List (PyData×Addr×Value)},KP X.K H l m->∀x∈m,(kN X.prog X.w).is s.heap x.1 x.2.1:=by
  intro l m q
  induction q with
  |nil=>intro x b;exact nomatch b
  |@cons p q ps t c u d =>
   intro x b;rcases xC.mp b with e|b
   ·subst e;rw[←c.1];exact fG I c.2.1.1 c.2.1.2
   ·exact d x b
 exact all r x b
end
def bK(K:Frag):R2:=λx y H Q=>∃a kvs b k v,x=.ref a/\y=.ref b/\DTr K H a kvs/\tT 4 k=true/\Dt K H (.ref b) k/\vT kvs k=some v/\Q v H
def rInT(K:Frag)(neg:Bool):R2:=λy x H Q=>∃a kvs b k,x=.ref a/\y=.ref b/\DTr K H a kvs/\tT 4 k=true/\Dt K H (.ref b) k/\Q (.bl (if neg=true then !(vT kvs k).isSome else(vT kvs k).isSome)) H
def Qi(K:Frag):TSet:=λx y v H Q=>∃a kvs b k,x=.ref a/\y=.ref b/\DTr K H a kvs/\tT 4 k=true/\Dt K H (.ref b) k/\kvs.length<sizeLine/\∀H',(∀c o,c≠a->H c=some o->H' c=some o)->(∀c,c≠a->H' c=H c)->DTr K H' a (pT kvs k v)->Q H'
section
variable {X:Cx}
theorem ix_T(D:X.A.units+64<cLine):IxR X (bK X.K):=by
 intro G F w s C H x y v u Q I f j h o;obtain⟨a,kvs,b,k,z,rfl,rfl,g,tk,n,i,q⟩:=h;cases f;cases j;obtain⟨xs,e,r,dd⟩:=eW I g;obtain⟨m,d,l⟩:=RelO.some_of (v:=z) (o:=(atKey xs k).map (·.2)) (by rw[←i];exact r.val k);obtain⟨p,t,c⟩:=Option.map_eq_some_iff.mp d;refine sF (x:=m) dd.typeIs PySem.F.slot_dict_getitem.lookup ?_ o;refine wpAny_getItem_heap (knd:=kN X.prog X.w) (show X.A.units+1+8<cLine by omega) (fG I tk n) dd t ⟨c,z,H,I.tok _,?_,q⟩;rw[c];exact l
theorem Ga(l:X.A.units+64<cLine):OpR X (compareOp .NotIn) (rInT X.K true):=by
 intro i s j H x y v u Q I c d h;obtain⟨a,kvs,b,k,rfl,rfl,g,tk,f,q⟩:=h;cases c;cases d;obtain⟨xs,e,r,dd⟩:=eW I g;refine wpAny_notIn_heap (knd:=kN X.prog X.w) (show X.A.units+1+8<cLine by omega) (fG I tk f) g.sys dd ?_;have e:=Gc (r.val k);rw[Option.isSome_map]at e;rw[←e];exact⟨.bl _,H,I.tok _,rfl,q⟩
theorem Hz(kvs:List (PyData×V))(k:PyData)(v:V):(pT kvs k v).length<=kvs.length+1:=by
 unfold pT;split
 ·rw[yP];omega
 ·rw[yE];exact zE _
theorem bL{P:Program}{w:World}{H:Hp}{h:Heap}{a:Addr}{xs:List (PyData×Addr×Value)}{o:Obj}{es:Array DictEntry}{ep:Nat}(c:h.get? a=some o)(d:o.ExactDict)(j:o.data=.dict es ep)(f:es.toList=xs.map λx=>⟨jN x.1,.ref x.2.1,x.2.2⟩):nM P w H h a (mP a xs):=
 ⟨⟨o,es,ep,c,d,j,f⟩,⟨o,c⟩,λm n⟨b,e,l,g,i⟩k=>⟨b,e,l,k b g,i⟩⟩
theorem Hy(J:X.A.units+64<cLine):PSet X (Qi X.K):=by
 intro K s L H o i v N M u Q I C w m h;obtain⟨a,kvs,b,k,rfl,rfl,g,tk,l,hl,q⟩:=h;cases C;cases w;obtain⟨xs,e,r,dd⟩:=eW I g;have x:xs.length<=sizeLine:=by rw[←Paired.length r];exact g.len
 have G:∀ys,¬ Rd H a (.tup ys):=λys z=>by
  rcases z with z|⟨j,z⟩
  ·rw[e]at z;cases z
  ·rw[e]at z;cases z
 refine wpAny_setItem_heap (knd:=kN X.prog X.w) (hsz:=x) (show X.A.units+1+8<cLine by omega) (fG I tk l) dd λh' p F=>?_;obtain⟨j,es,ep,f,y,t,n,_,D⟩:=p;refine⟨upd H a (mP a (storedH xs k b u)),I.write (x:=a) (e:=a) (by rw[e];exact True.intro) (.inl rfl) (λc o d z=>(F.2 c d).trans z) ⟨j,f⟩ (bL f y t n),?_⟩;refine q _ (λc o d z=>by rw[oV d];exact z) (λc d=>oV d) ⟨by have:=Hz kvs k v;omega,g.sys,_,oS,D,(r.put k tk l m).keeps (Gb G)⟩
end
section
variable {X:Cx} {pos:Pos}
theorem Bu{b:PN}{a:St}{H:Hp}{s:Shared}(I:Inv X b a H s):sysModules<s.heap.objs.size:=
 Nat.lt_trans ∅ (show mainGlobals<s.heap.objs.size from(I.mod.glob.keeps I.bk).lt)
theorem Hx{P:Program}{w:World}{H:Hp}(h:Heap):nM P w H (h.push {cls:=.type "dict",data:=.dict #[]}) h.objs.size (mP h.objs.size []):=
 bL (es:=#[]) (ep:=0) (zR _ rfl) ⟨rfl,rfl,rfl⟩ rfl rfl
theorem Hw{K:Frag}{H:Hp}{p:Addr}(a:(p == sysModules)=false)(e:H p=some (mP p [])):DTr K H p []:=⟨yA _,a,[],e,uA,.nil⟩
def Hv(K:Frag):TE:=λ_ H Q=>∀p,H p=none->DTr K (upd H p (mP p [])) p []->Q (.ref p) (upd H p (mP p []))
theorem Qh:PE X (.Dict [] [] pos) (Hv X.K):=λb s a H Q I h =>
 wpAny_Dict_empty ⟨.ref s.heap.objs.size,_,I.laid (a:=s.heap.objs.size) (o:=mP s.heap.objs.size []) (t':=s.toks) (λ_ _ q=>zC _ q) (zE _) (Hx s.heap),rfl,
  h _ (I.hok.fresh (zE _)) (Hw (pY.mpr (zZ (zX (Bu I)))) oS)⟩
def Hu(K:Frag)(tk tv:TE):TE:=λσ H Q=>∀p,H p=none->tk σ (upd H p (mP p [])) λx H1=>tv σ H1 λy H2=>∃b d,x=.ref b/\tT 4 d=true/\Dt K H2 (.ref b) d/\H2 p=some (mP p [])/\∀H3,(∀c,c≠p->H3 c=H2 c)->DTr K H3 p [(d,y)]->Q (.ref p) H3
theorem Qg{k v:Expr}{tk n:TE}(Z:X.A.units+64<cLine)(S:PE X k tk)(M:PE X v n):PE X (.Dict [some k] [v] pos) (Hu X.K tk n):=by
 intro j s l H Q I q;have R:=I.hok.fresh (zE s.heap.objs.size);have t:(s.heap.objs.size == sysModules)=false:=pY.mpr (zZ (zX (Bu I)));have P:=I.laid (a:=s.heap.objs.size) (o:=mP s.heap.objs.size []) (h':=s.heap.push {cls:=.type "dict",data:=.dict #[]}) (t':=s.toks) (λ_ _ q=>zC _ q) (zE _) (Hx s.heap);rw[arm_eval_Dict,zip_pairTrees [some k] [v] X.env pos rfl rfl,dictDisplay_pairs (pairTrees [some k] [v] X.env pos) (by intro e;cases e) (show 1<17 by decide)];refine zA (wA (zA ?_));unfold subDict;refine zA (wpAny_alloc ?_);refine zA (yU ?_);rw[zF (show(pairTrees [some k] [v] X.env pos).length<=15 from(show 1<=15 by decide))];refine zA (pairTrees_cons_walk (thn (S j _ l _ _ P (q _ R)) λu C⟨x,H1,W,D,T⟩=>thn (M j C l H1 _ W T) λw a1⟨y,H2,a,N,b,d,F,g,p,e,J⟩=>pairTrees_nil_walk ?_));subst F;cases D;refine yU ?_;obtain⟨xs,a0,r,dd⟩:=eW a (Hw t e);cases r;refine zA ?_;rw[uK];refine zA (zA (wpAny_dictSet_heap (knd:=kN X.prog X.w) (hsz:=yA _) (show X.A.units+8<cLine by omega) (fG a g p) dd λh' K V=>zB ?_));refine zB (zB (zB (zB ?_)));obtain⟨m,es,ep,i,O,L,G,_,U⟩:=K;have Y:∀ys,¬ Rd H2 s.heap.objs.size (.tup ys):=λys z=>by
  rcases z with z|⟨m,z⟩
  ·rw[e]at z;cases z
  ·rw[e]at z;cases z
 refine⟨.ref s.heap.objs.size,upd H2 s.heap.objs.size (mP s.heap.objs.size (storedH [] d b w)),a.write (x:=s.heap.objs.size) (e:=s.heap.objs.size) (by rw[e];exact True.intro) (.inl rfl) (λc o f z=>(V.2 c f).trans z) ⟨m,i⟩ (bL i O L G),rfl,?_⟩;exact J _ (λc f=>oV f) ⟨by show 1<=sizeLine;decide,t,_,oS,U,.cons ⟨rfl,⟨g,kO (Gb Y) 4 g p⟩,N⟩ .nil⟩
end
def kP:Bool->Keyed->Array Keyed->Nat->Nat->Nat->StateT SortSt Sem (Option Nat):=sortPriv%PySem.Builtin.gallop
def gO(left:Bool)(key:Keyed)(arr:Array Keyed)(base i:Nat):StateT SortSt Sem (Option Bool):=do
 let x ←elem' arr (base+i)
 if left then lt' x key else return (←lt' key x).map (!·)
theorem Qf(left:Bool)(b:Keyed)(arr:Array Keyed)(base n a:Nat):kP left b arr base n a=(do
 let mut lastofs:=0
 let mut ofs:=1
 let mut lo:=0
 let mut hi:=0
 let some right ←gO left b arr base a|return none
 if right then
  let c:=n-a
  for _ in[0:n] do
   if ofs≥c then break
   let some more ←gO left b arr base (a+ofs)|return none
   if !more then break
   lastofs:=ofs
   ofs:=2*ofs+1
  lo:=a+lastofs+1
  hi:=a+min ofs c
 else
  let c:=a+1
  for _ in[0:n] do
   if ofs≥c then break
   let some found ←gO left b arr base (a-ofs)|return none
   if found then break
   lastofs:=ofs
   ofs:=2*ofs+1
  lo:=a+1-min ofs c
  hi:=a-lastofs
 for _ in[0:n] do
  if lo≥hi then break
  let m:=lo+(hi-lo)/2
  let some more ←gO left b arr base m|return none
  if more then lo:=m+1 else hi:=m
 return some hi):=rfl
section
variable {prog:Program} {w:World} {A:Around} {E:VP} {s:Shared} {κ:PyProof.Rows.KeyKind} {kd:SortKind}
def Cmp(prog:Program)(w:World)(A:Around)(s:Shared)(κ:PyProof.Rows.KeyKind)(kd:SortKind):Prop:=
 ∀(E:VP)(x y:Value)(a b:κ.α)(Q:Bool->Shared->Prop),κ.keyOf x=some a->κ.keyOf y=some b->Q (κ.blt a b) s->wpAny (model prog w) A (keyLt' kd x y) Q E s
def ky(κ:PyProof.Rows.KeyKind)(p:Keyed):κ.α:=(κ.keyOf p.1).getD κ.dflt
def Gd(κ:PyProof.Rows.KeyKind)(p:Keyed):Prop:=∃a,κ.keyOf p.1=some a
def lq(κ:PyProof.Rows.KeyKind)(p q:Keyed):Bool:=κ.blt (ky κ p) (ky κ q)
theorem Ht{p:Keyed}(h:Gd κ p):κ.keyOf p.1=some (ky κ p):=by
 obtain⟨a,e⟩:=h;unfold ky;rw[e];rfl
theorem eX(b:Cmp prog w A s κ kd){st:SortSt}{x y:Keyed}{Q:Option Bool->SortSt->Prop}(a:kindOf st=kd)(d:Gd κ x)(c:Gd κ y)(h:Q (some (lq κ x y)) st):wpS (model prog w) A E s (lt' x y) Q st:=by
 rw[lt'_eq];refine zG (uX ?_);rw[a];refine zG (rN (vB (b _ x.1 y.1 _ _ _ (Ht d) (Ht c) ⟨rfl,?_⟩)));exact zH h
theorem lI{st:SortSt}{arr:Array Keyed}{i:Nat}{p:Keyed}{Q:Keyed->SortSt->Prop}(hi:arr[i]?=some p)(h:Q p st):wpS (model prog w) A E s (elem' arr i) Q st:=by
 rw[elem'_eq,hi];exact zH h
def bey(κ:PyProof.Rows.KeyKind)(left:Bool)(key p:Keyed):Bool:=if left=true then lq κ p key else !lq κ key p
theorem Qe(e:Cmp prog w A s κ kd){st:SortSt}{left:Bool}{a p:Keyed}{arr:Array Keyed}{base i:Nat}{Q:Option Bool->SortSt->Prop}(b:kindOf st=kd)(c:Gd κ a)(f:arr[base+i]?=some p)(d:Gd κ p)(h:Q (some (bey κ left a p)) st):
  wpS (model prog w) A E s (gO left a arr base i) Q st:=by
 unfold gO;refine zG (lI f ?_);unfold bey at h;cases left with
 |true =>
  rw[zF rfl]at h ⊢;exact eX e b d c h
 |false =>
  rw[zD (by simp)]at h ⊢;exact zG (eX e b c d (zH h))
theorem Hs{st:SortSt}{n lo hi:Nat}{B:Nat->Bool}{f:Nat->StateT SortSt Sem (Option Bool)}{Q:Option Nat->SortSt->Prop}
  (r:∀(i:Nat)(R:Option Bool->SortSt->Prop),i<n->R (some (B i)) st->wpS (model prog w) A E s (f i) R st)(g:lo<=hi)(u:hi<=n)(mono:∀i j,i<=j->j<n->B j=true->B i=true)(q:∀i,i<lo->B i=true)(o:∀i,hi<=i->i<n->B i=false)
  (h:∀k,k<=n->(∀i,i<k->B i=true)->(∀i,k<=i->i<n->B i=false)->Q (some k) st):
  wpS (model prog w) A E s (do
   let mut lo:=lo
   let mut hi:=hi
   for _ in[0:n] do
    if lo≥hi then break
    let m:=lo+(hi-lo)/2
    let some more ←f m|return none
    if more then lo:=m+1 else hi:=m
   return some hi) Q st:=by
 refine zG (wL (xI (I:=λx c e=>e=st/\∃lo hi,c=(none,lo,hi)/\lo<=hi/\hi<=n/\hi-lo+x<=n/\(∀i,i<lo->B i=true)/\∀i,hi<=i->i<n->B i=false)
  (Q:=λc e=>e=st/\∃k,c=(none,k,k)/\k<=n/\(∀i,i<k->B i=true)/\∀i,k<=i->i<n->B i=false) ?_ ?_ ⟨rfl,lo,hi,rfl,g,u,⋯,q,o⟩) ?_)
 ·rintro x c e _ v ⟨rfl,lo,hi,rfl,l,b,p,a,d⟩;dsimp only
  by_cases hl:lo≥hi
  ·rw[zF hl];exact zH ⟨rfl,hi,by rw[show lo=hi by omega],b,λi hi'=>a i ⋯,d⟩
  ·rw[zD hl];refine zG (r _ _ ⋯ ?_);dsimp only;cases hb:B (lo+(hi-lo)/2) with
   |true =>
    rw[zF rfl];refine zH ⟨rfl,_,_,rfl,⋯,b,⋯,λi hi'=>?_,d⟩;exact mono i _ ⋯ ⋯ hb
   |false =>
    rw[zD (by simp)];refine zH ⟨rfl,_,_,rfl,⋯,⋯,⋯,a,λi hi' t=>?_⟩;cases hbi:B i with
    |false=>rfl
    |true=>rw[mono _ i hi' t hbi]at hb;cases hb
 ·rintro c e ⟨rfl,lo,hi,rfl,l,b,p,a,d⟩;have:lo=hi:=⋯
  subst this;exact⟨rfl,lo,rfl,b,a,d⟩
 ·rintro c e ⟨rfl,k,rfl,b,a,d⟩;exact zH (h k b a d)
theorem eY(C:Cmp prog w A s κ kd){st:SortSt}{left:Bool}{o:Keyed}{arr:Array Keyed}{base n b:Nat}{B:Nat->Bool}{Q:Option Nat->SortSt->Prop}(I:kindOf st=kd)(D:Gd κ o)(v:b<n)
  (G:∀i,i<n->∃p,arr[base+i]?=some p/\Gd κ p/\bey κ left o p=B i)(mono:∀i j,i<=j->j<n->B j=true->B i=true)
  (h:∀k,k<=n->(∀i,i<k->B i=true)->(∀i,k<=i->i<n->B i=false)->Q (some k) st):wpS (model prog w) A E s (kP left o arr base n b) Q st:=by
 have m:∀(i:Nat)(R:Option Bool->SortSt->Prop),i<n->R (some (B i)) st->wpS (model prog w) A E s (gO left o arr base i) R st:=λi R hi r=>by
  obtain⟨p,e1,y,F⟩:=G i hi;exact Qe C I D e1 y (by rw[F];exact r)
 rw[Qf];refine zG (m b _ v ?_);dsimp only;cases hh:B b with
 | true =>
  rw[zF rfl];refine zG (wL (xI (I:=λx c e=>e=st/\∃lo a,c=(none,lo,a)/\x+1<=a/\lo<a/\b+lo<n/\B (b+lo)=true)
   (Q:=λc e=>e=st/\∃lo a,c=(none,lo,a)/\lo<a/\b+lo<n/\B (b+lo)=true/\(n-b<=a\/(b+a<n/\B (b+a)=false))) ?_ ?_ ⟨rfl,0,1,rfl,zE _,⋯,v,hh⟩) ?_)
  ·rintro x c e _ z ⟨rfl,lo,a,rfl,u,g,f,d⟩;dsimp only
   by_cases hl:a≥n-b
   ·rw[zF hl];exact zH ⟨rfl,lo,a,rfl,g,f,d,.inl hl⟩
   ·rw[zD hl];refine zG (m _ _ ⋯ ?_);dsimp only;cases hb:B (b+a) with
    |true =>
     rw[zD (by simp)];exact zH ⟨rfl,_,_,rfl,⋯,⋯,⋯,hb⟩
    |false =>
     rw[zF ∅];exact zH ⟨rfl,lo,a,rfl,g,f,d,.inr ⟨⋯,hb⟩⟩
  ·rintro c e ⟨rfl,lo,a,rfl,u,g,f,d⟩;exact⟨rfl,lo,a,rfl,g,f,d,.inl ⋯⟩
  ·rintro c e ⟨rfl,lo,a,rfl,g,f,d,l⟩;dsimp only;refine Hs (lo:=b+lo+1) (hi:=b+min a (n-b)) m ⋯ ⋯ mono (λi hi=>mono i _ ⋯ f d) (λi hi t=>?_) h;rcases l with l|⟨l,q⟩
   ·omega
   ·cases hbi:B i with
    |false=>rfl
    |true=>rw[mono _ i ⋯ t hbi]at q;cases q
 | false =>
  rw[zD (by simp)];refine zG (wL (xI (I:=λx c e=>e=st/\∃lo a,c=(none,lo,a)/\x+1<=a/\lo<a/\lo<=b/\B (b-lo)=false)
   (Q:=λc e=>e=st/\∃lo a,c=(none,lo,a)/\lo<a/\lo<=b/\B (b-lo)=false/\(b+1<=a\/(a<=b/\B (b-a)=true))) ?_ ?_ ⟨rfl,0,1,rfl,zE _,⋯,yA _,hh⟩) ?_)
  ·rintro x c e _ z ⟨rfl,lo,a,rfl,u,g,f,d⟩;dsimp only
   by_cases hl:a≥b+1
   ·rw[zF hl];exact zH ⟨rfl,lo,a,rfl,g,f,d,.inl hl⟩
   ·rw[zD hl];refine zG (m _ _ ⋯ ?_);dsimp only;cases hb:B (b-a) with
    |true =>
     rw[zF rfl];exact zH ⟨rfl,lo,a,rfl,g,f,d,.inr ⟨⋯,hb⟩⟩
    |false =>
     rw[zD (by simp)];exact zH ⟨rfl,_,_,rfl,⋯,⋯,⋯,hb⟩
  ·rintro c e ⟨rfl,lo,a,rfl,u,g,f,d⟩;exact⟨rfl,lo,a,rfl,g,f,d,.inl ⋯⟩
  ·rintro c e ⟨rfl,lo,a,rfl,g,f,d,l⟩;dsimp only;refine Hs (lo:=b+1-min a (b+1)) (hi:=b-lo) m ⋯ ⋯ mono (λi hi=>?_) (λi hi t=>?_) h
   ·rcases l with l|⟨l,q⟩
    ·omega
    ·exact mono i _ ⋯ ⋯ q
   ·cases hbi:B i with
    |false=>rfl
    |true=>rw[mono _ i ⋯ t hbi]at d;cases d
end
section
variable {κ:PyProof.Rows.KeyKind}
def le'(κ:PyProof.Rows.KeyKind)(x y:Keyed):Prop:=lq κ y x=false
theorem mV{x y z:Keyed}(a:le' κ x y)(b:le' κ y z):le' κ x z:=KeyOrd.kle_trans (O:=κ.toKeyOrd) a b
theorem lJ{x y:Keyed}(h:lq κ x y=true):le' κ x y:=KeyOrd.klt_asymm (O:=κ.toKeyOrd) h
theorem iL(x:Keyed):le' κ x x:=κ.irrefl _
abbrev Srt(κ:PyProof.Rows.KeyKind)(l:List Keyed):Prop:=l.Pairwise (le' κ)
structure MI(κ:PyProof.Rows.KeyKind)(A B out:List Keyed)(ia ib:Nat):Prop where
 pm:out.Perm (A.take ia++B.take ib)
 so:Srt κ out
 oa:∀x∈out,∀y∈A.drop ia,le' κ x y
 ob:∀x∈out,∀y∈B.drop ib,le' κ x y
theorem MI.symm{A B out:List Keyed}{ia ib:Nat}(h:MI κ A B out ia ib):MI κ B A out ib ia:=⟨h.pm.trans vP,h.so,h.ob,h.oa⟩
theorem Qd{A:List Keyed}{i k:Nat}:A.take (i+k)=A.take i++(A.drop i).take k:=by rw[qG]
theorem MI.ext{A B out:List Keyed}{ia ib k:Nat}(h:MI κ A B out ia ib)(f:Srt κ A)(d:∀x∈(A.drop ia).take k,∀y∈B.drop ib,le' κ x y):MI κ A B (out++(A.drop ia).take k) (ia+k) ib:=by
 have e:Srt κ (A.drop ia):=uY (sE _ _) f;have cut:(A.drop ia).take k++A.drop (ia+k)=A.drop ia:=by rw[←pK];exact xX _ _
 have c:=oC.mp (show Srt κ ((A.drop ia).take k++A.drop (ia+k)) by rw[cut];exact e);refine⟨?_,oC.mpr ⟨h.so,c.1,λx b y a=>h.oa x b y (List.mem_of_mem_take a)⟩,λx b y a=>?_,λx b y a=>?_⟩
 ·rw[Qd,yG];refine(h.pm.append_right _).trans ?_;rw[yG];exact sT _ vP
 ·rcases oF.mp b with q|q
  ·exact h.oa x q y (by rw[←cut];exact yQ _ a)
  ·exact c.2.2 x q y a
 ·rcases oF.mp b with q|q
  ·exact h.ob x q y a
  ·exact d x q y a
theorem bN{A:List Keyed}{i:Nat}{p:Keyed}(e:A[i]?=some p):A.drop i=p:: A.drop (i+1):=by
 obtain⟨h,rfl⟩:=oK.mp e;exact vV h
theorem MI.push{A B out:List Keyed}{ia ib:Nat}{p:Keyed}(h:MI κ A B out ia ib)(d:Srt κ A)(e:A[ia]?=some p)(b:∀y∈B.drop ib,le' κ p y):MI κ A B (out++[p]) (ia+1) ib:=by
 have:=MI.ext (k:=1) h d (λx a y c=>by
  rw[bN e]at a;have f:x=p:=by simpa using a
  rw[f];exact b y c)
 rw[bN e]at this;simpa using this
theorem fH{A:List Keyed}{i:Nat}{p q:Keyed}(d:Srt κ A)(e:A[i]?=some q)(h:le' κ p q):∀y∈A.drop i,le' κ p y:=λy a=>by
 have b:Srt κ (A.drop i):=uY (sE _ _) d;rw[bN e]at a b;rcases xC.mp a with c|a
 ·rw[c];exact h
 ·exact mV h ((pZ.mp b).1 y a)
def Res(κ:PyProof.Rows.KeyKind)(A B r:List Keyed):Prop:=r.Perm (A++B)/\Srt κ r
theorem MI.all{A B out:List Keyed}{ia ib:Nat}(h:MI κ A B out ia ib)(a:Srt κ A)(b:B.length<=ib):Res κ A B (out++A.drop ia):=by
 refine⟨?_,oC.mpr ⟨h.so,uY (sE _ _) a,h.oa⟩⟩;have:=h.pm;rw[yT b]at this;refine(this.append_right _).trans ?_;rw[yG];refine(sT _ vP).trans ?_;rw[←yG,xX]
theorem Res.symm{A B r:List Keyed}(h:Res κ A B r):Res κ B A r:=⟨h.1.trans vP,h.2⟩
theorem MI.last{A B out:List Keyed}{ia ib:Nat}{p:Keyed}(h:MI κ A B out ia ib)(c:Srt κ B)(e:A[ia]?=some p)(hl:ia+1=A.length)(b:∀y∈B,le' κ y p):Res κ A B (out++B.drop ib++A.drop ia):=by
 have a:A.drop ia=[p]:=by rw[bN e,sJ ⋯]
 rw[a];refine⟨?_,oC.mpr ⟨oC.mpr ⟨h.so,uY (sE _ _) c,h.ob⟩,List.pairwise_singleton _ _,λx d y g=>?_⟩⟩
 ·have f:A=A.take ia++[p]:=by rw[←a,xX]
  have:=(h.pm.append_right (B.drop ib)).append_right [p];refine this.trans ?_;rw[yG (A.take ia),xX,yG]
  conv=>rhs;rw[f]
  rw[yG];exact sT _ vP
 ·rw[rW.mp g];rcases oF.mp d with q|q
  ·exact h.oa x q p (by rw[a];exact List.mem_singleton_self _)
  ·exact b x (List.mem_of_mem_drop q)
theorem Bt(a:Array Keyed)(i j:Nat):(a.extract i (i+j)).toList=(a.toList.drop i).take j:=by simp[Array.toList_extract,List.extract_eq_take_drop]
theorem fJ(a:Array Keyed)(i:Nat):(a.extract i a.size).toList=a.toList.drop i:=by
 simp only[Array.toList_extract,List.extract_eq_take_drop];exact yT (by rw[uI,zM];exact zE _)
end
section
variable {prog:Program} {w:World} {A:Around} {E:VP} {s:Shared} {κ:PyProof.Rows.KeyKind} {kd:SortKind}
structure MG(κ:PyProof.Rows.KeyKind)(a b:Array Keyed):Prop where
 sa:Srt κ a.toList
 sb:Srt κ b.toList
 ga:∀p∈a.toList,Gd κ p
 gb:∀p∈b.toList,Gd κ p
 na:1<=a.size
 nb:1<=b.size
 top:∀p,a[a.size-1]?=some p->∀y∈b.toList,le' κ y p
 fst:∀p q,b[0]?=some p->a[0]?=some q->le' κ p q
structure Sm(st st':SortSt):Prop where
 k:kindOf st'=kindOf st
 a:arrOf st'=arrOf st
 p:pendingOf st'=pendingOf st
 f:failedOf st'=failedOf st
theorem Sm.refl(st:SortSt):Sm st st:=⟨rfl,rfl,rfl,rfl⟩
theorem Sm.set{st a:SortSt}(h:Sm st a)(g:Nat):Sm st (SortSt.mk' (kindOf a) (arrOf a) (pendingOf a) g (failedOf a)):=⟨h.k,h.a,h.p,h.f⟩
theorem oX{a:Array Keyed}{i:Nat}{p:Keyed}:a[i]?=some p↔a.toList[i]?=some p:=by rw[yM]
theorem mL{a:Array Keyed}{i:Nat}(h:i<a.size):∃p,a[i]?=some p:=⟨a[i],Array.getElem?_eq_getElem h⟩
theorem lU{st:SortSt}{arr:Array Keyed}{i:Nat}{Q:Keyed->SortSt->Prop}(hi:i<arr.size)(h:∀p,arr[i]?=some p->Q p st):wpS (model prog w) A E s (elem' arr i) Q st:=by
 obtain⟨p,e⟩:=mL hi;exact lI e (h p e)
theorem iX{l:List Keyed}(c:Srt κ l){i j:Nat}{p q:Keyed}(h:i<=j)(e1:l[i]?=some p)(a:l[j]?=some q):le' κ p q:=by
 rcases uZ i j with h'|h'
 ·obtain⟨d,rfl⟩:=oK.mp e1;obtain⟨b,rfl⟩:=oK.mp a;exact List.pairwise_iff_getElem.mp c i j d b h'
 ·have:i=j:=⋯
  subst this;rw[e1]at a;cases a;exact iL _
theorem Bs{l:List Keyed}{i:Nat}{x:Keyed}(h:x∈l.drop i):∃j,i<=j/\l[j]?=some x:=by
 obtain⟨j,a,rfl⟩:=wP h;exact⟨i+j,⋯,by rw[←uL];exact xM a⟩
theorem fK{l:List Keyed}{i k:Nat}{x:Keyed}(h:x∈(l.drop i).take k):∃j,j<k/\l[i+j]?=some x:=by
 obtain⟨j,a,rfl⟩:=wP h;rw[yN]at a;refine⟨j,⋯,?_⟩;rw[←uL,List.getElem_take];exact xM ⋯
theorem Qb(v:Cmp prog w A s κ kd){st:SortSt}{a:Array Keyed}{ia:Nat}{p:Keyed}{Q:Option Nat->SortSt->Prop}(g:kindOf st=kd)(n:Srt κ a.toList)(t:∀x∈a.toList,Gd κ x)(m:Gd κ p)(F:ia<a.size)
  (h:∀k,ia+k<=a.size->(∀x∈(a.toList.drop ia).take k,le' κ x p)->(∀y∈a.toList.drop (ia+k),lq κ p y=true)->Q (some k) st):wpS (model prog w) A E s (kP false p a ia (a.size-ia) 0) Q st:=by
 refine eY v (B:=λi=>!lq κ p (a.getD (ia+i) p)) g m ⋯ (λi hi=>?_) (λi j C b d=>?_) λk D o l=>h k ⋯ (λx f=>?_) λy z=>?_
 ·obtain⟨q,e⟩:=mL (a:=a) (i:=ia+i) ⋯;refine⟨q,e,t q (yF (oX.mp e)),?_⟩;rw[show a.getD (ia+i) p=q by simp[Array.getD_eq_getD_getElem?,e]];rfl
 ·obtain⟨q,e⟩:=mL (a:=a) (i:=ia+i) ⋯;obtain⟨r,c⟩:=mL (a:=a) (i:=ia+j) ⋯;rw[show a.getD (ia+j) p=r by simp[Array.getD_eq_getD_getElem?,c]]at d;rw[show a.getD (ia+i) p=q by simp[Array.getD_eq_getD_getElem?,e]];have l1:le' κ r p:=by unfold le';simpa using d
  have:=mV (iX n (show ia+i<=ia+j by omega) (oX.mp e) (oX.mp c)) l1;unfold le' at this;rw[this];rfl
 ·obtain⟨j,b,e⟩:=fK f;have:=o j b;rw[show a.getD (ia+j) p=x by simp[Array.getD_eq_getD_getElem?,oX.mpr e]]at this;unfold le';simpa using this
 ·obtain⟨j,b,e⟩:=Bs z;have u:=(oK.mp e).1;rw[zM]at u;have:=l (j-ia) ⋯ ⋯;rw[show ia+(j-ia)=j by omega,show a.getD j p=y by simp[Array.getD_eq_getD_getElem?,oX.mpr e]]at this;simpa using this
theorem bO(y:Cmp prog w A s κ kd){st:SortSt}{b:Array Keyed}{ib a:Nat}{q:Keyed}{n:Nat}{Q:Option Nat->SortSt->Prop}(g:kindOf st=kd)(l:Srt κ b.toList)(o:∀x∈b.toList,Gd κ x)(f:Gd κ q)(D:ib+n<=b.size)(hh:a<n)
  (h:∀k,k<=n->(∀i x,i<k->b[ib+i]?=some x->lq κ x q=true)->(∀i x,k<=i->i<n->b[ib+i]?=some x->le' κ q x)->Q (some k) st):wpS (model prog w) A E s (kP true q b ib n a) Q st:=by
 refine eY y (B:=λi=>lq κ (b.getD (ib+i) q) q) g f hh (λi hi=>?_) (λi j z C d=>?_) λk u t m=>h k u (λi x hi e=>?_) λi x hi v e=>?_
 ·obtain⟨p,e⟩:=mL (a:=b) (i:=ib+i) ⋯;refine⟨p,e,o p (yF (oX.mp e)),?_⟩;rw[show b.getD (ib+i) q=p by simp[Array.getD_eq_getD_getElem?,e]];rfl
 ·obtain⟨p,e⟩:=mL (a:=b) (i:=ib+i) ⋯;obtain⟨r,c⟩:=mL (a:=b) (i:=ib+j) ⋯;rw[show b.getD (ib+j) q=r by simp[Array.getD_eq_getD_getElem?,c]]at d;rw[show b.getD (ib+i) q=p by simp[Array.getD_eq_getD_getElem?,e]];exact KeyOrd.klt_of_kle_of_klt (O:=κ.toKeyOrd) (iX l (show ib+i<=ib+j by omega) (oX.mp e) (oX.mp c)) d
 ·have:=t i hi;rw[show b.getD (ib+i) q=x by simp[Array.getD_eq_getD_getElem?,e]]at this;exact this
 ·have:=m i hi v;rw[show b.getD (ib+i) q=x by simp[Array.getD_eq_getD_getElem?,e]]at this;exact this
end
def Br:Array Keyed->Array Keyed->StateT SortSt Sem (Array Keyed):=sortPriv%PySem.Builtin.mergeLo
def eZ:Nat->StateT SortSt Sem Unit:=sortPriv%PySem.Builtin.setMinGallop
theorem Qa(a b:Array Keyed):Br a b=(do
 rule "list.sort.merge-lo"
 let d:=a.size+b.size
 let done (out:Array Keyed) (ia ib:Nat):=out++a.extract ia a.size++b.extract ib b.size
 let c (out:Array Keyed) (ia ib:Nat):=out++b.extract ib b.size++a.extract ia a.size
 let mut out:Array Keyed:=#[←elem' b 0]
 let mut ia:=0
 let mut ib:=1
 if ib == b.size then return done out ia ib
 if ia+1 == a.size then return c out ia ib
 let mut minGallop:=gallopOf (←get)
 for _ in[0:d] do
  let mut acount:=0
  let mut bcount:=0
  for _ in[0:d] do
   let some bWins ←lt' (←elem' b ib) (←elem' a ia)|return done out ia ib
   if bWins then
    out:=out.push (←elem' b ib);ib:=ib+1;bcount:=bcount+1;acount:=0
    if ib == b.size then return done out ia ib
    if bcount≥minGallop then break
   else
    out:=out.push (←elem' a ia);ia:=ia+1;acount:=acount+1;bcount:=0
    if ia+1 == a.size then return c out ia ib
    if acount≥minGallop then break
  rule "list.sort.gallop"
  minGallop:=minGallop+1
  for _ in[0:d] do
   if minGallop > 1 then minGallop:=minGallop-1
   eZ minGallop
   let some k ←kP false (←elem' b ib) a ia (a.size-ia) 0|return done out ia ib
   acount:=k
   if k > 0 then
    out:=out++a.extract ia (ia+k);ia:=ia+k
    if ia+1 == a.size then return c out ia ib
    if ia == a.size then return done out ia ib
   out:=out.push (←elem' b ib);ib:=ib+1
   if ib == b.size then return done out ia ib
   let some k ←kP true (←elem' a ia) b ib (b.size-ib) 0|return done out ia ib
   bcount:=k
   if k > 0 then
    out:=out++b.extract ib (ib+k);ib:=ib+k
    if ib == b.size then return done out ia ib
   out:=out.push (←elem' a ia);ia:=ia+1
   if ia+1 == a.size then return c out ia ib
   if acount<7 && bcount<7 then break
  minGallop:=minGallop+1
  eZ minGallop
 unsupported "internal:list.sort.merge-bound"):=rfl
theorem bP(g:Nat):eZ g=modify λs=>SortSt.mk' (kindOf s) (arrOf s) (pendingOf s) g (failedOf s):=rfl
section
variable {prog:Program} {w:World} {A:Around} {E:VP} {s:Shared} {κ:PyProof.Rows.KeyKind} {kd:SortKind}
theorem fL{a b out:Array Keyed}{ia ib:Nat}(d:MG κ a b)(h:MI κ a.toList b.toList out.toList ia ib)(c:b.size<=ib):Res κ a.toList b.toList (out++a.extract ia a.size++b.extract ib b.size).toList:=by
 rw[yH,yH,fJ,fJ,sJ (as:=b.toList) (by rw[zM];exact c),wO];exact h.all d.sa (by rw[zM];exact c)
theorem Rz{a b out:Array Keyed}{ia ib:Nat}(d:MG κ a b)(h:MI κ a.toList b.toList out.toList ia ib)(c:a.size<=ia):Res κ a.toList b.toList (out++a.extract ia a.size++b.extract ib b.size).toList:=by
 rw[yH,yH,fJ,fJ,sJ (as:=a.toList) (by rw[zM];exact c),wO];exact(h.symm.all d.sb (by rw[zM];exact c)).symm
theorem gP{a b out:Array Keyed}{ia ib:Nat}(c:MG κ a b)(h:MI κ a.toList b.toList out.toList ia ib)(d:ia+1=a.size):Res κ a.toList b.toList (out++b.extract ib b.size++a.extract ia a.size).toList:=by
 rw[yH,yH,fJ,fJ];obtain⟨p,e⟩:=mL (a:=a) (i:=ia) ⋯;exact h.last c.sb (oX.mp e) (by rw[zM];exact d) (c.top p (by rw[show a.size-1=ia by omega];exact e))
theorem bQ{a b out:Array Keyed}{ia ib:Nat}{p:Keyed}(c:MG κ a b)(h:MI κ a.toList b.toList out.toList ia ib)(e:b[ib]?=some p)(d:∀y∈a.toList.drop ia,le' κ p y):MI κ a.toList b.toList (out.push p).toList ia (ib+1):=by
 rw[uT];exact(h.symm.push c.sb (oX.mp e) d).symm
theorem dA{a b out:Array Keyed}{ia ib:Nat}{p:Keyed}(c:MG κ a b)(h:MI κ a.toList b.toList out.toList ia ib)(e:a[ia]?=some p)(d:∀y∈b.toList.drop ib,le' κ p y):MI κ a.toList b.toList (out.push p).toList (ia+1) ib:=by
 rw[uT];exact h.push c.sa (oX.mp e) d
theorem Ry{a b out:Array Keyed}{ia ib k:Nat}{p:Keyed}(c:MG κ a b)(h:MI κ a.toList b.toList out.toList ia ib)(e:b[ib]?=some p)(d:∀x∈(a.toList.drop ia).take k,le' κ x p):MI κ a.toList b.toList (out++a.extract ia (ia+k)).toList (ia+k) ib:=by
 rw[yH,Bt];exact h.ext c.sa λx f y g=>mV (d x f) (fH c.sb (oX.mp e) (iL p) y g)
theorem Hr{a b out:Array Keyed}{ia ib k:Nat}{p:Keyed}(c:MG κ a b)(h:MI κ a.toList b.toList out.toList ia ib)(e:a[ia]?=some p)(d:∀x∈(b.toList.drop ib).take k,le' κ x p):MI κ a.toList b.toList (out++b.extract ib (ib+k)).toList ia (ib+k):=by
 rw[yH,Bt];exact(h.symm.ext c.sb λx f y g=>mV (d x f) (fH c.sa (oX.mp e) (iL p) y g)).symm
theorem Bq{a out:Array Keyed}{i:Nat}:out++a.extract i (i+0)=out:=by simp;omega
theorem nE{b:Type}{c:Prop}[Decidable c]{a e:StateT SortSt Sem b}{Q:b->SortSt->Prop}{st:SortSt}(f:c->wpS (model prog w) A E s a Q st)(d:¬ c->wpS (model prog w) A E s e Q st):wpS (model prog w) A E s (if c then a else e) Q st:=by
 by_cases h:c
 ·rw[zF h];exact f h
 ·rw[zD h];exact d h
theorem Hq{b:Type}{c:Nat->Prop}[∀m,Decidable (c m)]{a F:Nat->StateT SortSt Sem b}{Q:b->SortSt->Prop}{st:SortSt}(h:∀m,wpS (model prog w) A E s (F m) Q st)(e:∀m,F (m-1)=a m)(m:Nat):wpS (model prog w) A E s (if c m then a m else F m) Q st:=nE (λ_=>by rw[←e];exact h _) λ_=>h m
theorem Rx(N:Cmp prog w A s κ kd){st:SortSt}{a b:Array Keyed}{Q:Array Keyed->SortSt->Prop}(R:kindOf st=kd)(d:MG κ a b)
  (h:∀r n,Sm st n->Res κ a.toList b.toList r.toList->Q r n):wpS (model prog w) A E s (Br a b) Q st:=by
 have b8:=d.na;have b7:=d.nb;have Z:∀i p,a[i]?=some p->Gd κ p:=λi p e=>d.ga p (yF (oX.mp e));have a4:∀i p,b[i]?=some p->Gd κ p:=λi p e=>d.gb p (yF (oX.mp e));rw[Qa];refine zG (rN (wT ⟨rfl,?_⟩));refine zG (lU ⋯ λa5 a7=>?_);dsimp only;obtain⟨a8,a3⟩:=mL (a:=a) (i:=0) ⋯;have X:MI κ a.toList b.toList (#[a5]:Array Keyed).toList 0 1:=by
  have:=bQ (out:=#[]) (ia:=0) (ib:=0) d ⟨by simp,List.Pairwise.nil,λx G=>by simp at G,λx G=>by simp at G⟩ a7 (fH d.sa (oX.mp a3) (d.fst a5 a8 a7 a3));simpa using this
 by_cases P:(1 == b.size)=true
 ·rw[zF P];exact zH (h _ _ (Sm.refl _) (fL d X (by have:=yK P;omega)))
 rw[zD P];have b6:1≠b.size:=λe=>P (pW.mpr e)
 by_cases O:(0+1 == a.size)=true
 ·rw[zF O];exact zH (h _ _ (Sm.refl _) (gP d X (by have:=yK O;omega)))
 rw[zD O];have b9:0+1≠a.size:=λe=>O (pW.mpr e);refine zG (uX ?_);refine zG (wL (xI (I:=λx c n=>Sm st n/\E4 λ(out:Array Keyed)(ia ib u:Nat)=>A5 (c=(none,out,ia,ib,u)) (MI κ a.toList b.toList out.toList ia ib) (ia+1<a.size) (ib<b.size) (x+1<=ia+ib))
  (Q:=λc n=>Sm st n/\∃r I,c=(some r,I)/\Res κ a.toList b.toList r.toList) ?_ ?_ ⟨Sm.refl _,_,_,_,_,rfl,X,⋯,⋯,⋯⟩) ?_)
 ·rintro x c T _ G ⟨sm,out,ia,ib,u,rfl,l,lia,g,pr⟩;dsimp only;refine zG (wL (xI (I:=λy c n=>Sm st n/\E5 λ(out:Array Keyed)(ia ib o t:Nat)=>A6 (c=(none,out,ia,ib,o,t)) (MI κ a.toList b.toList out.toList ia ib) (ia+1<a.size) (ib<b.size) (x+1<=ia+ib) (1<=y->x+2<=ia+ib))
   (Q:=λc n=>Sm st n/\((∃r I,c=(some r,I)/\Res κ a.toList b.toList r.toList)\/E5 λ(out:Array Keyed)(ia ib o t:Nat)=>A5 (c=(none,out,ia,ib,o,t)) (MI κ a.toList b.toList out.toList ia ib) (ia+1<a.size) (ib<b.size) (x+2<=ia+ib))) ?_ ?_ ⟨sm,out,ia,ib,0,0,rfl,l,lia,g,pr,⋯⟩) ?_)
  ·rintro y c a6 _ F ⟨sm,out,ia,ib,o,t,rfl,l,lia,g,pr,_⟩;dsimp only;refine zG (lU g λp e=>?_);refine zG (lU (show ia<a.size by omega) λq f=>?_);refine zG (eX N (by rw[sm.k];exact R) (a4 _ _ e) (Z _ _ f) ?_);dsimp only;cases hl:lq κ p q with
   |true =>
    rw[zF rfl];have J:=bQ d l e (fH d.sa (oX.mp f) (lJ hl));refine zG (lI e ?_)
    by_cases D:(ib+1 == b.size)=true
    ·rw[zF D];exact zH ⟨sm,.inl ⟨_,_,rfl,fL d J (by have:=yK D;omega)⟩⟩
    rw[zD D];have a9:ib+1≠b.size:=λe=>D (pW.mpr e);split
    ·exact zH ⟨sm,.inr ⟨_,_,_,_,_,rfl,J,lia,⋯,⋯⟩⟩
    ·exact zH ⟨sm,_,_,_,_,_,rfl,J,lia,⋯,⋯,⋯⟩
   |false =>
    rw[zD (by simp)];have J:=dA d l f (fH d.sb (oX.mp e) hl);refine zG (lI f ?_)
    by_cases D:(ia+1+1 == a.size)=true
    ·rw[zF D];exact zH ⟨sm,.inl ⟨_,_,rfl,gP d J (by have:=yK D;omega)⟩⟩
    rw[zD D];have a9:ia+1+1≠a.size:=λe=>D (pW.mpr e);split
    ·exact zH ⟨sm,.inr ⟨_,_,_,_,_,rfl,J,⋯,g,⋯⟩⟩
    ·exact zH ⟨sm,_,_,_,_,_,rfl,J,⋯,g,⋯,⋯⟩
  ·rintro c a6 ⟨sm,out,ia,ib,o,t,rfl,l,lia,g,pr,b1⟩;exact⟨sm,.inr ⟨_,_,_,_,_,rfl,l,lia,g,b1 ⋯⟩⟩
  ·rintro c a6 ⟨sm,⟨r,I,rfl,K⟩|⟨out,ia,ib,o,t,rfl,l,lia,g,pr⟩⟩
   ·exact zH ⟨sm,_,_,rfl,K⟩
   dsimp only;refine zG (rN (wT ⟨rfl,?_⟩));refine zG (wL (xI (I:=λy c n=>Sm st n/\E6 λ(out:Array Keyed)(ia ib u o t:Nat)=>A5 (c=(none,out,ia,ib,u,o,t)) (MI κ a.toList b.toList out.toList ia ib) (ia+1<a.size) (ib<b.size) (x+2<=ia+ib))
    (Q:=λc n=>Sm st n/\((∃r I,c=(some r,I)/\Res κ a.toList b.toList r.toList)\/E6 λ(out:Array Keyed)(ia ib u o t:Nat)=>A5 (c=(none,out,ia,ib,u,o,t)) (MI κ a.toList b.toList out.toList ia ib) (ia+1<a.size) (ib<b.size) (x+2<=ia+ib))) ?_ ?_ ⟨sm,_,_,_,_,_,_,rfl,l,lia,g,pr⟩) ?_)
   ·rintro y c a2 _ F ⟨sm,out,ia,ib,u,o,t,rfl,l,lia,g,pr⟩;dsimp only
    revert u
    refine Hq (λu=>?_) λ_=>rfl;rw[bP];refine zG (wU ?_);refine zG (lU (arr:=b) g λp e=>?_);refine zG (Qb N (show kindOf _=kd from sm.k.trans R) d.sa d.ga (a4 _ _ e) (show ia<a.size by omega) λk c2 b4 V=>?_);have mk:=Ry d l e b4;dsimp only;refine nE (λb3=>?_) λb3=>?_
    ·refine nE (λz=>?_) λz=>?_
     ·exact zH ⟨sm.set _,.inl ⟨_,_,rfl,gP d mk (yK z)⟩⟩
     have c1:ia+k+1≠a.size:=λe=>z (pW.mpr e);refine nE (λy=>?_) λy=>?_
     ·exact zH ⟨sm.set _,.inl ⟨_,_,rfl,Rz d mk (by have:=yK y;omega)⟩⟩
     have c0:ia+k≠a.size:=λe=>y (pW.mpr e);have M:=bQ d mk e λy F=>lJ (V y F);refine zG (lI e ?_);refine nE (λz=>?_) λz=>?_
     ·exact zH ⟨sm.set _,.inl ⟨_,_,rfl,fL d M (by have:=yK z;omega)⟩⟩
     have b5:ib+1≠b.size:=λe=>z (pW.mpr e);refine zG (lU (arr:=a) (i:=(ia+k)) ⋯ λq f=>?_);refine zG (bO N (show kindOf _=kd from sm.k.trans R) d.sb d.gb (Z _ _ f) (show ib+1+(b.size-(ib+1))<=b.size by omega) ⋯ λk2 b2 a1 Y=>?_);have v:=Hr (k:=k2) d M f λx G=>by
      obtain⟨j,L,C⟩:=fK G;exact lJ (a1 j x L (oX.mpr C))
     have nx:∀y∈b.toList.drop (ib+1+k2),le' κ q y:=λy F=>by
      obtain⟨j,L,C⟩:=Bs F;have W:=(oK.mp C).1;rw[zM]at W;exact Y (j-(ib+1)) y ⋯ ⋯ (by rw[show ib+1+(j-(ib+1))=j by omega];exact oX.mpr C)
     dsimp only;refine nE (λU=>?_) λU=>?_
     ·refine nE (λz=>?_) λz=>?_
      ·exact zH ⟨sm.set _,.inl ⟨_,_,rfl,fL d v (by have:=yK z;omega)⟩⟩
      have b0:ib+1+k2≠b.size:=λe=>z (pW.mpr e);have m:=dA d v f nx;refine zG (lI f ?_);refine nE (λz=>?_) λz=>?_
      ·exact zH ⟨sm.set _,.inl ⟨_,_,rfl,gP d m (yK z)⟩⟩
      have S:(ia+k)+1+1≠a.size:=λe=>z (pW.mpr e);refine nE (λ_=>?_) λ_=>?_
      ·exact zH ⟨sm.set _,.inr ⟨_,_,_,_,_,_,rfl,m,⋯,⋯,⋯⟩⟩
      ·exact zH ⟨sm.set _,_,_,_,_,_,_,rfl,m,⋯,⋯,⋯⟩
     ·have a0:k2=0:=⋯
      subst a0;rw[Bq]at v;simp only[Nat.add_zero]at v nx;have m:=dA d v f nx;refine zG (lI f ?_);refine nE (λz=>?_) λz=>?_
      ·exact zH ⟨sm.set _,.inl ⟨_,_,rfl,gP d m (yK z)⟩⟩
      have S:(ia+k)+1+1≠a.size:=λe=>z (pW.mpr e);refine nE (λ_=>?_) λ_=>?_
      ·exact zH ⟨sm.set _,.inr ⟨_,_,_,_,_,_,rfl,m,⋯,⋯,⋯⟩⟩
      ·exact zH ⟨sm.set _,_,_,_,_,_,_,rfl,m,⋯,⋯,⋯⟩
    ·have k0:k=0:=⋯
     subst k0;rw[Bq]at mk;simp only[Nat.add_zero]at mk V;have M:=bQ d mk e λy F=>lJ (V y F);refine zG (lI e ?_);refine nE (λz=>?_) λz=>?_
     ·exact zH ⟨sm.set _,.inl ⟨_,_,rfl,fL d M (by have:=yK z;omega)⟩⟩
     have b5:ib+1≠b.size:=λe=>z (pW.mpr e);refine zG (lU (arr:=a) (i:=ia) ⋯ λq f=>?_);refine zG (bO N (show kindOf _=kd from sm.k.trans R) d.sb d.gb (Z _ _ f) (show ib+1+(b.size-(ib+1))<=b.size by omega) ⋯ λk2 b2 a1 Y=>?_);have v:=Hr (k:=k2) d M f λx G=>by
      obtain⟨j,L,C⟩:=fK G;exact lJ (a1 j x L (oX.mpr C))
     have nx:∀y∈b.toList.drop (ib+1+k2),le' κ q y:=λy F=>by
      obtain⟨j,L,C⟩:=Bs F;have W:=(oK.mp C).1;rw[zM]at W;exact Y (j-(ib+1)) y ⋯ ⋯ (by rw[show ib+1+(j-(ib+1))=j by omega];exact oX.mpr C)
     dsimp only;refine nE (λU=>?_) λU=>?_
     ·refine nE (λz=>?_) λz=>?_
      ·exact zH ⟨sm.set _,.inl ⟨_,_,rfl,fL d v (by have:=yK z;omega)⟩⟩
      have b0:ib+1+k2≠b.size:=λe=>z (pW.mpr e);have m:=dA d v f nx;refine zG (lI f ?_);refine nE (λz=>?_) λz=>?_
      ·exact zH ⟨sm.set _,.inl ⟨_,_,rfl,gP d m (yK z)⟩⟩
      have S:ia+1+1≠a.size:=λe=>z (pW.mpr e);refine nE (λ_=>?_) λ_=>?_
      ·exact zH ⟨sm.set _,.inr ⟨_,_,_,_,_,_,rfl,m,⋯,⋯,⋯⟩⟩
      ·exact zH ⟨sm.set _,_,_,_,_,_,_,rfl,m,⋯,⋯,⋯⟩
     ·have a0:k2=0:=⋯
      subst a0;rw[Bq]at v;simp only[Nat.add_zero]at v nx;have m:=dA d v f nx;refine zG (lI f ?_);refine nE (λz=>?_) λz=>?_
      ·exact zH ⟨sm.set _,.inl ⟨_,_,rfl,gP d m (yK z)⟩⟩
      have S:ia+1+1≠a.size:=λe=>z (pW.mpr e);refine nE (λ_=>?_) λ_=>?_
      ·exact zH ⟨sm.set _,.inr ⟨_,_,_,_,_,_,rfl,m,⋯,⋯,⋯⟩⟩
      ·exact zH ⟨sm.set _,_,_,_,_,_,_,rfl,m,⋯,⋯,⋯⟩
   ·rintro c a2 ⟨sm,out,ia,ib,u,o,t,rfl,l,lia,g,pr⟩;exact⟨sm,.inr ⟨_,_,_,_,_,_,rfl,l,lia,g,pr⟩⟩
   ·rintro c a2 ⟨sm,⟨r,I,rfl,K⟩|⟨out,ia,ib,u,o,t,rfl,l,lia,g,pr⟩⟩
    ·exact zH ⟨sm,_,_,rfl,K⟩
    dsimp only;rw[bP];refine zG (wU (zH ⟨sm.set _,_,_,_,_,rfl,l,lia,g,⋯⟩))
 ·rintro c T ⟨sm,out,ia,ib,u,rfl,l,lia,g,pr⟩;omega
 ·rintro c T ⟨sm,r,I,rfl,K⟩;exact zH (h r T sm K)
end
def Bp:Array Keyed->Array Keyed->StateT SortSt Sem (Array Keyed):=sortPriv%PySem.Builtin.mergeHi
theorem Rv(a b:Array Keyed):Bp a b=(do
 rule "list.sort.merge-hi"
 let d:=a.size+b.size
 let done (out:Array Keyed) (na nb:Nat):=a.extract 0 na++b.extract 0 nb++out.reverse
 let c (out:Array Keyed) (na nb:Nat):=b.extract 0 nb++a.extract 0 na++out.reverse
 let mut na:=a.size-1
 let mut nb:=b.size
 let mut out:Array Keyed:=#[←elem' a na]
 if na == 0 then return done out na nb
 if nb == 1 then return c out na nb
 let mut minGallop:=gallopOf (←get)
 for _ in[0:d] do
  let mut acount:=0
  let mut bcount:=0
  for _ in[0:d] do
   let some aWins ←lt' (←elem' b (nb-1)) (←elem' a (na-1))|return done out na nb
   if aWins then
    na:=na-1;out:=out.push (←elem' a na);acount:=acount+1;bcount:=0
    if na == 0 then return done out na nb
    if acount≥minGallop then break
   else
    nb:=nb-1;out:=out.push (←elem' b nb);bcount:=bcount+1;acount:=0
    if nb == 1 then return c out na nb
    if bcount≥minGallop then break
  rule "list.sort.gallop"
  minGallop:=minGallop+1
  for _ in[0:d] do
   if minGallop > 1 then minGallop:=minGallop-1
   eZ minGallop
   let some at_ ←kP false (←elem' b (nb-1)) a 0 na (na-1)|return done out na nb
   let k:=na-at_
   acount:=k
   if k > 0 then
    out:=out++(a.extract at_ na).reverse;na:=at_
    if na == 0 then return done out na nb
   nb:=nb-1;out:=out.push (←elem' b nb)
   if nb == 1 then return c out na nb
   let some at_ ←kP true (←elem' a (na-1)) b 0 nb (nb-1)|return done out na nb
   let k:=nb-at_
   bcount:=k
   if k > 0 then
    out:=out++(b.extract at_ nb).reverse;nb:=at_
    if nb == 1 then return c out na nb
    if nb == 0 then return done out na nb
   na:=na-1;out:=out.push (←elem' a na)
   if na == 0 then return done out na nb
   if acount<7 && bcount<7 then break
  minGallop:=minGallop+1
  eZ minGallop
 unsupported "internal:list.sort.merge-bound"):=rfl
def revK(κ:PyProof.Rows.KeyKind):PyProof.Rows.KeyKind where
 α:=κ.α
 blt:=λa b=>κ.blt b a
 irrefl:=κ.irrefl
 trans:=λa b c h1 h2=>κ.trans c b a h2 h1
 negTrans:=λa b c h=>(κ.negTrans c b a h).symm
 total:=λa b h1 h2=>κ.total a b h2 h1
 keyOf:=κ.keyOf
 dflt:=κ.dflt
section
variable {prog:Program} {w:World} {A:Around} {E:VP} {s:Shared} {κ:PyProof.Rows.KeyKind} {kd:SortKind}
theorem Ho{x y:Keyed}:le' (revK κ) x y↔le' κ y x:=Iff.rfl
theorem gQ{l:List Keyed}(h:Srt κ l):Srt (revK κ) l.reverse:=List.pairwise_reverse.mpr h
theorem Ru{l:List Keyed}(h:Srt (revK κ) l):Srt κ l.reverse:=List.pairwise_reverse.mpr h
def MH(κ:PyProof.Rows.KeyKind)(a b out:Array Keyed)(na nb:Nat):Prop:=MI (revK κ) a.toList.reverse b.toList.reverse out.toList (a.size-na) (b.size-nb)
theorem Bo{a:Array Keyed}{n:Nat}{p:Keyed}(h:n<a.size)(e:a[n]?=some p):a.toList.reverse[a.size-(n+1)]?=some p:=by
 rw[sU (by rw[zM];omega),zM,show a.size-1-(a.size-(n+1))=n by omega];exact oX.mp e
theorem fM{a:Array Keyed}{n:Nat}(h:n<=a.size):a.toList.reverse.drop (a.size-n)=(a.toList.take n).reverse:=by
 rw[List.drop_reverse,zM,show a.size-(a.size-n)=n by omega]
theorem bV{a:Array Keyed}{n:Nat}{y:Keyed}(h:n<=a.size)(b:y∈a.toList.reverse.drop (a.size-n)):∃i,i<n/\a[i]?=some y:=by
 rw[fM h]at b;obtain⟨i,hi,e⟩:=wP (List.mem_reverse.mp b);rw[yN]at hi;refine⟨i,⋯,?_⟩;rw[oX,←e,List.getElem_take];exact xM _
theorem Bn{a b r:Array Keyed}{l:List Keyed}(e:r.toList.reverse=l)(h:Res (revK κ) a.toList.reverse b.toList.reverse l):Res κ a.toList b.toList r.toList:=by
 subst e;refine⟨?_,?_⟩
 ·refine(qP r.toList).symm.trans (h.1.trans ?_);exact((qP _).append (qP _))
 ·have:=Ru h.2
  rwa[List.reverse_reverse]at this
theorem fN{a:Array Keyed}{n:Nat}:(a.extract 0 n).toList=a.toList.take n:=by
 have:=Bt a 0 n;rw[wS,List.drop_zero]at this;exact this
theorem gR{a b out:Array Keyed}{c:Nat}(d:MG κ a b)(h:MH κ a b out 0 c)(e:c<=b.size):Res κ a.toList b.toList (a.extract 0 0++b.extract 0 c++out.reverse).toList:=by
 refine Bn (l:=out.toList++b.toList.reverse.drop (b.size-c)) ?_ ((MI.symm h).all (gQ d.sb) (by simp)).symm;rw[yH,yH,fN,fN,fM e,tH];simp
theorem Hn{a b out:Array Keyed}{c:Nat}(e:MG κ a b)(h:MH κ a b out c 0)(d:c<=a.size):Res κ a.toList b.toList (a.extract 0 c++b.extract 0 0++out.reverse).toList:=by
 refine Bn (l:=out.toList++a.toList.reverse.drop (a.size-c)) ?_ (MI.all h (gQ e.sa) (by simp));rw[yH,yH,fN,fN,fM d,tH];simp
theorem fO{a b out:Array Keyed}{d:Nat}(c:MG κ a b)(h:MH κ a b out d 1)(g:d<=a.size):Res κ a.toList b.toList (b.extract 0 1++a.extract 0 d++out.reverse).toList:=by
 have i:=c.nb;obtain⟨p,e⟩:=mL (a:=b) (i:=0) ⋯;obtain⟨q,f⟩:=mL (a:=a) (i:=0) (by have:=c.na;omega);refine Bn (l:=out.toList++a.toList.reverse.drop (a.size-d)++b.toList.reverse.drop (b.size-1)) ?_ (Res.symm ((MI.symm h).last (gQ c.sa) (Bo ⋯ e) (by rw[List.length_reverse,zM];omega) λy j=>?_))
 ·rw[yH,yH,fN,fN,fM g,fM i,tH];simp
 ·exact fH c.sa (oX.mp f) (c.fst p q e f) y (by simpa using List.mem_reverse.mp j)
theorem fP{a b out:Array Keyed}{c d:Nat}{p:Keyed}(k:MG κ a b)(h:MH κ a b out (c+1) d)(l:c<a.size)(j:d<=b.size)(e:a[c]?=some p)(f:∀i y,i<d->b[i]?=some y->le' κ y p):MH κ a b (out.push p) c d:=by
 unfold MH at h ⊢;rw[uT,show a.size-c=a.size-(c+1)+1 by omega];exact MI.push h (gQ k.sa) (Bo l e) λy g=>by
  obtain⟨i,hi,m⟩:=bV j g;exact f i y hi m
theorem MG.le{a b:Array Keyed}(G:MG κ a b):Srt κ a.toList/\Srt κ b.toList:=⟨G.sa,G.sb⟩
theorem Bm{a b out:Array Keyed}{d c:Nat}{p:Keyed}(k:MG κ a b)(h:MH κ a b out d (c+1))(l:c<b.size)(f:d<=a.size)(e:b[c]?=some p)(g:∀i y,i<d->a[i]?=some y->le' κ y p):MH κ a b (out.push p) d c:=by
 unfold MH at h ⊢;rw[uT,show b.size-c=b.size-(c+1)+1 by omega];exact(MI.push (MI.symm h) (gQ k.sb) (Bo l e) λy j=>by
  obtain⟨i,hi,m⟩:=bV f j;exact g i y hi m).symm
theorem Hm{a:Array Keyed}{n m:Nat}(h:n<=a.size)(b:m<=n):(a.extract m n).reverse.toList=(a.toList.reverse.drop (a.size-n)).take (n-m):=by
 rw[fM h,tH,List.take_reverse,yN,zM,show min n a.size-(n-m)=m by omega];simp only[Array.toList_extract,List.extract_eq_take_drop];rw[List.drop_take]
theorem Rt{a b out:Array Keyed}{c d m:Nat}{p:Keyed}(f:MG κ a b)(h:MH κ a b out c d)(k:c<=a.size)(o:m<=c)(r:d<=b.size)(u:0<d)(e:b[d-1]?=some p)(l:∀i x,m<=i->i<c->a[i]?=some x->le' κ p x):MH κ a b (out++(a.extract m c).reverse) m d:=by
 unfold MH at h ⊢;rw[yH,Hm k o,show a.size-m=a.size-c+(c-m) by omega];refine MI.ext h (gQ f.sa) λx t y n=>?_;obtain⟨i,hi,q⟩:=bV r n;obtain⟨j,v,g⟩:=fK t;rw[sU (by rw[zM];omega),zM]at g;have l1:le' κ y p:=iX f.sb (show i<=d-1 by omega) (oX.mp q) (oX.mp e);exact Ho.mpr (mV l1 (l _ x ⋯ ⋯ (oX.mpr g)))
theorem Hl{a b out:Array Keyed}{d c m:Nat}{p:Keyed}(f:MG κ a b)(h:MH κ a b out d c)(k:c<=b.size)(o:m<=c)(r:d<=a.size)(u:0<d)(e:a[d-1]?=some p)(l:∀i x,m<=i->i<c->b[i]?=some x->le' κ p x):MH κ a b (out++(b.extract m c).reverse) d m:=by
 unfold MH at h ⊢;rw[yH,Hm k o,show b.size-m=b.size-c+(c-m) by omega];refine(MI.ext (MI.symm h) (gQ f.sb) λx t y n=>?_).symm;obtain⟨i,hi,q⟩:=bV r n;obtain⟨j,v,g⟩:=fK t;rw[sU (by rw[zM];omega),zM]at g;have l1:le' κ y p:=iX f.sa (show i<=d-1 by omega) (oX.mp q) (oX.mp e);exact Ho.mpr (mV l1 (l _ x ⋯ ⋯ (oX.mpr g)))
theorem Rr(y:Cmp prog w A s κ kd){st:SortSt}{b:Array Keyed}{ib a:Nat}{q:Keyed}{n:Nat}{Q:Option Nat->SortSt->Prop}(g:kindOf st=kd)(l:Srt κ b.toList)(o:∀x∈b.toList,Gd κ x)(f:Gd κ q)(D:ib+n<=b.size)(hh:a<n)
  (h:∀k,k<=n->(∀i x,i<k->b[ib+i]?=some x->le' κ x q)->(∀i x,k<=i->i<n->b[ib+i]?=some x->lq κ q x=true)->Q (some k) st):wpS (model prog w) A E s (kP false q b ib n a) Q st:=by
 refine eY y (B:=λi=>!lq κ q (b.getD (ib+i) q)) g f hh (λi hi=>?_) (λi j z C d=>?_) λk u t m=>h k u (λi x hi e=>?_) λi x hi v e=>?_
 ·obtain⟨p,e⟩:=mL (a:=b) (i:=ib+i) ⋯;refine⟨p,e,o p (yF (oX.mp e)),?_⟩;rw[show b.getD (ib+i) q=p by simp[Array.getD_eq_getD_getElem?,e]];rfl
 ·obtain⟨p,e⟩:=mL (a:=b) (i:=ib+i) ⋯;obtain⟨r,c⟩:=mL (a:=b) (i:=ib+j) ⋯;rw[show b.getD (ib+j) q=r by simp[Array.getD_eq_getD_getElem?,c]]at d;rw[show b.getD (ib+i) q=p by simp[Array.getD_eq_getD_getElem?,e]];have l1:le' κ r q:=by unfold le';simpa using d
  have:=mV (iX l (show ib+i<=ib+j by omega) (oX.mp e) (oX.mp c)) l1;unfold le' at this;rw[this];rfl
 ·have:=t i hi;rw[show b.getD (ib+i) q=x by simp[Array.getD_eq_getD_getElem?,e]]at this;unfold le';simpa using this
 ·have:=m i hi v;rw[show b.getD (ib+i) q=x by simp[Array.getD_eq_getD_getElem?,e]]at this;simpa using this
theorem Bl{a out:Array Keyed}{n:Nat}:out++(a.extract n n).reverse=out:=by simp;omega
theorem Rq(X:Cmp prog w A s κ kd){st:SortSt}{a b:Array Keyed}{Q:Array Keyed->SortSt->Prop}(Y:kindOf st=kd)(j:MG κ a b)
  (h:∀r D,Sm st D->Res κ a.toList b.toList r.toList->Q r D):wpS (model prog w) A E s (Bp a b) Q st:=by
 have c3:=j.na;have c5:=j.nb;have a2:∀i p,a[i]?=some p->Gd κ p:=λi p e=>j.ga p (yF (oX.mp e));have a5:∀i p,b[i]?=some p->Gd κ p:=λi p e=>j.gb p (yF (oX.mp e));rw[Rv];refine zG (rN (wT ⟨rfl,?_⟩));refine zG (lU ⋯ λa6 b0=>?_);dsimp only;have S:MH κ a b #[a6] (a.size-1) b.size:=by
  have c0:MH κ a b #[] (a.size-1+1) b.size:=by
   unfold MH;rw[show a.size-(a.size-1+1)=0 by omega,vK];exact⟨by simp,List.Pairwise.nil,λx W=>by simp at W,λx W=>by simp at W⟩
  exact fP j c0 ⋯ (zE _) b0 λi y _ o=>j.top a6 b0 y (yF (oX.mp o))
 refine nE (λz=>?_) λz=>?_
 ·have l:=yK z;rw[l]at S ⊢;exact zH (h _ _ (Sm.refl _) (gR j S (zE _)))
 have b8:a.size-1≠0:=λe=>z (pW.mpr e);refine nE (λy=>?_) λy=>?_
 ·have b5:=yK y;refine zH (h _ _ (Sm.refl _) ?_);rw[b5]at S ⊢;exact fO j S ⋯
 have c4:b.size≠1:=λe=>y (pW.mpr e);refine zG (uX ?_);refine zG (wL (xI (I:=λx c D=>Sm st D/\E4 λ(g d:Nat)(out:Array Keyed)(I:Nat)=>A7 (c=(none,g,d,out,I)) (MH κ a b out g d) (0<g) (g<a.size) (1<d) (d<=b.size) (x+g+d<a.size+b.size))
  (Q:=λc D=>Sm st D/\∃r K,c=(some r,K)/\Res κ a.toList b.toList r.toList) ?_ ?_ ⟨Sm.refl _,_,_,_,_,rfl,S,⋯,⋯,⋯,⋯,⋯⟩) ?_)
 ·rintro x c Z _ W ⟨sm,g,d,out,I,rfl,t,l1,l2,J,C,pr⟩;dsimp only;refine zG (wL (xI (I:=λy c D=>Sm st D/\E5 λ(g d:Nat)(out:Array Keyed)(F G:Nat)=>A8 (c=(none,g,d,out,F,G)) (MH κ a b out g d) (0<g) (g<a.size) (1<d) (d<=b.size) (x+g+d<a.size+b.size) (1<=y->x+1+g+d<a.size+b.size))
   (Q:=λc D=>Sm st D/\((∃r K,c=(some r,K)/\Res κ a.toList b.toList r.toList)\/E5 λ(g d:Nat)(out:Array Keyed)(F G:Nat)=>A7 (c=(none,g,d,out,F,G)) (MH κ a b out g d) (0<g) (g<a.size) (1<d) (d<=b.size) (x+1+g+d<a.size+b.size))) ?_ ?_ ⟨sm,g,d,out,0,0,rfl,t,l1,l2,J,C,pr,⋯⟩) ?_)
  ·rintro y c a9 _ b7 ⟨sm,g,d,out,F,G,rfl,t,l1,l2,J,C,pr,_⟩;obtain⟨n,rfl⟩:∃n,g=n+1:=⟨g-1,⋯⟩;obtain⟨m,rfl⟩:∃m,d=m+1:=⟨d-1,⋯⟩;dsimp only;refine zG (lU (arr:=b) (i:=m+1-1) ⋯ λp e=>?_);refine zG (lU (arr:=a) (i:=n+1-1) ⋯ λq f=>?_);refine zG (eX X (by rw[sm.k];exact Y) (a5 _ _ e) (a2 _ _ f) ?_);dsimp only;cases hl:lq κ p q with
   |true =>
    rw[zF rfl];have M:=fP j t (show n<a.size by omega) ⋯ f λi y hi o=>mV (iX j.sb (show i<=m by omega) (oX.mp o) (oX.mp e)) (lJ hl);refine zG (lI f ?_);refine nE (λz=>?_) λz=>?_
    ·have l:n=0:=yK z;subst l;exact zH ⟨sm,.inl ⟨_,_,rfl,gR j M ⋯⟩⟩
    have b2:n≠0:=λe=>z (pW.mpr e);refine nE (λ_=>?_) λ_=>?_
    ·exact zH ⟨sm,.inr ⟨n,m+1,_,_,_,rfl,M,⋯,⋯,⋯,⋯,⋯⟩⟩
    ·exact zH ⟨sm,n,m+1,_,_,_,rfl,M,⋯,⋯,⋯,⋯,⋯,⋯⟩
   |false =>
    rw[zD (by simp)];have M:=Bm j t (show m<b.size by omega) ⋯ e λi y hi o=>mV (iX j.sa (show i<=n by omega) (oX.mp o) (oX.mp f)) hl;refine zG (lI e ?_);refine nE (λz=>?_) λz=>?_
    ·have l:m=1:=yK z;subst l;exact zH ⟨sm,.inl ⟨_,_,rfl,fO j M ⋯⟩⟩
    have b2:m≠1:=λe=>z (pW.mpr e);refine nE (λ_=>?_) λ_=>?_
    ·exact zH ⟨sm,.inr ⟨n+1,m,_,_,_,rfl,M,⋯,⋯,⋯,⋯,⋯⟩⟩
    ·exact zH ⟨sm,n+1,m,_,_,_,rfl,M,⋯,⋯,⋯,⋯,⋯,⋯⟩
  ·rintro c a9 ⟨sm,g,d,out,F,G,rfl,t,l1,l2,J,C,pr,b6⟩;exact⟨sm,.inr ⟨_,_,_,_,_,rfl,t,l1,l2,J,C,b6 ⋯⟩⟩
  ·rintro c a9 ⟨sm,⟨r,K,rfl,P⟩|⟨g,d,out,F,G,rfl,t,l1,l2,J,C,pr⟩⟩
   ·exact zH ⟨sm,_,_,rfl,P⟩
   dsimp only;refine zG (rN (wT ⟨rfl,?_⟩));refine zG (wL (xI (I:=λy c D=>Sm st D/\E6 λ(g d:Nat)(out:Array Keyed)(I F G:Nat)=>A7 (c=(none,g,d,out,I,F,G)) (MH κ a b out g d) (0<g) (g<a.size) (1<d) (d<=b.size) (x+1+g+d<a.size+b.size))
    (Q:=λc D=>Sm st D/\((∃r K,c=(some r,K)/\Res κ a.toList b.toList r.toList)\/E6 λ(g d:Nat)(out:Array Keyed)(I F G:Nat)=>A7 (c=(none,g,d,out,I,F,G)) (MH κ a b out g d) (0<g) (g<a.size) (1<d) (d<=b.size) (x+1+g+d<a.size+b.size))) ?_ ?_ ⟨sm,_,_,_,_,_,_,rfl,t,l1,l2,J,C,pr⟩) ?_)
   ·rintro y c a4 _ b7 ⟨sm,g,d,out,I,F,G,rfl,t,l1,l2,J,C,pr⟩;dsimp only
    revert I
    refine Hq (λI=>?_) λ_=>rfl;rw[bP];refine zG (wU ?_);refine zG (lU (arr:=b) (i:=d-1) ⋯ λp e=>?_);refine zG (Rr X (show kindOf _=kd from sm.k.trans Y) j.sa j.ga (a5 _ _ e) (show 0+g<=a.size by omega) ⋯ λk c2 a8 b3=>?_);have mk:=Rt (m:=k) j t ⋯ c2 C ⋯ e λi x hi R N=>lJ (b3 i x hi R (by rw[wS];exact N));dsimp only;refine nE (λa7=>?_) λa7=>?_
    ·refine nE (λz=>?_) λz=>?_
     ·have l:k=0:=yK z;subst l;exact zH ⟨sm.set _,.inl ⟨_,_,rfl,gR j mk C⟩⟩
     have b8:k≠0:=λe=>z (pW.mpr e)
     -- the other's last comes out
     obtain⟨m,rfl⟩:∃m,d=m+1:=⟨d-1,⋯⟩;have V:=Bm j mk (show m<b.size by omega) ⋯ e λi y hi o=>a8 i y hi (by rw[wS];exact o);refine zG (lI (show b[m+1-1]?=some p from e) ?_);refine nE (λz=>?_) λz=>?_
     ·have l:m=1:=yK z;subst l;exact zH ⟨sm.set _,.inl ⟨_,_,rfl,fO j V ⋯⟩⟩
     have b9:m≠1:=λe=>z (pW.mpr e);have c1:0<m:=⋯
     refine zG (lU (arr:=a) (i:=k-1) ⋯ λq f=>?_);refine zG (bO X (show kindOf _=kd from sm.k.trans Y) j.sb j.gb (a2 _ _ f) (show 0+(m+1-1)<=b.size by omega) ⋯ λk2 L T a1=>?_);replace L:k2<=m:=L;have u:=Hl (m:=k2) j V ⋯ L ⋯ ⋯ f λi x hi R N=>a1 i x hi R (by rw[wS];exact N);obtain⟨n,U⟩:∃n,k=n+1:=⟨k-1,⋯⟩;dsimp only;refine nE (λO=>?_) λO=>?_
     ·refine nE (λz=>?_) λz=>?_
      ·have l:k2=1:=yK z;subst l;exact zH ⟨sm.set _,.inl ⟨_,_,rfl,fO j u ⋯⟩⟩
      have b4:k2≠1:=λe=>z (pW.mpr e);refine nE (λz=>?_) λz=>?_
      ·have l:k2=0:=yK z;subst l;exact zH ⟨sm.set _,.inl ⟨_,_,rfl,Hn j u ⋯⟩⟩
      have b1:k2≠0:=λe=>z (pW.mpr e);rw[U]at u f ⊢;have v:=fP j u (show n<a.size by omega) ⋯ f λi y hi o=>lJ (T i y hi (by rw[wS];exact o));refine zG (lI (show a[n+1-1]?=some q from f) ?_);refine nE (λz=>?_) λz=>?_
      ·have l:n=0:=yK z;subst l;exact zH ⟨sm.set _,.inl ⟨_,_,rfl,gR j v ⋯⟩⟩
      have a0:n≠0:=λe=>z (pW.mpr e);refine nE (λ_=>?_) λ_=>?_
      ·exact zH ⟨sm.set _,.inr ⟨n,_,_,_,_,_,rfl,v,⋯,⋯,⋯,⋯,⋯⟩⟩
      ·exact zH ⟨sm.set _,n,_,_,_,_,_,rfl,v,⋯,⋯,⋯,⋯,⋯⟩
     ·have a3:k2=m:=by
       have:¬ m-k2 > 0:=O;omega
      subst a3;rw[Bl]at u;rw[U]at u f ⊢;have v:=fP j u (show n<a.size by omega) ⋯ f λi y hi o=>lJ (T i y hi (by rw[wS];exact o));refine zG (lI (show a[n+1-1]?=some q from f) ?_);refine nE (λz=>?_) λz=>?_
      ·have l:n=0:=yK z;subst l;exact zH ⟨sm.set _,.inl ⟨_,_,rfl,gR j v ⋯⟩⟩
      have a0:n≠0:=λe=>z (pW.mpr e);refine nE (λ_=>?_) λ_=>?_
      ·exact zH ⟨sm.set _,.inr ⟨n,_,_,_,_,_,rfl,v,⋯,⋯,⋯,⋯,⋯⟩⟩
      ·exact zH ⟨sm.set _,n,_,_,_,_,_,rfl,v,⋯,⋯,⋯,⋯,⋯⟩
    ·have k0:k=g:=by
      have:¬ g-k > 0:=a7;omega
     subst k0;rw[Bl]at mk
     -- the other's last comes out
     obtain⟨m,rfl⟩:∃m,d=m+1:=⟨d-1,⋯⟩;have V:=Bm j mk (show m<b.size by omega) ⋯ e λi y hi o=>a8 i y hi (by rw[wS];exact o);refine zG (lI (show b[m+1-1]?=some p from e) ?_);refine nE (λz=>?_) λz=>?_
     ·have l:m=1:=yK z;subst l;exact zH ⟨sm.set _,.inl ⟨_,_,rfl,fO j V ⋯⟩⟩
     have b9:m≠1:=λe=>z (pW.mpr e);have c1:0<m:=⋯
     refine zG (lU (arr:=a) (i:=k-1) ⋯ λq f=>?_);refine zG (bO X (show kindOf _=kd from sm.k.trans Y) j.sb j.gb (a2 _ _ f) (show 0+(m+1-1)<=b.size by omega) ⋯ λk2 L T a1=>?_);replace L:k2<=m:=L;have u:=Hl (m:=k2) j V ⋯ L ⋯ ⋯ f λi x hi R N=>a1 i x hi R (by rw[wS];exact N);obtain⟨n,U⟩:∃n,k=n+1:=⟨k-1,⋯⟩;dsimp only;refine nE (λO=>?_) λO=>?_
     ·refine nE (λz=>?_) λz=>?_
      ·have l:k2=1:=yK z;subst l;exact zH ⟨sm.set _,.inl ⟨_,_,rfl,fO j u ⋯⟩⟩
      have b4:k2≠1:=λe=>z (pW.mpr e);refine nE (λz=>?_) λz=>?_
      ·have l:k2=0:=yK z;subst l;exact zH ⟨sm.set _,.inl ⟨_,_,rfl,Hn j u ⋯⟩⟩
      have b1:k2≠0:=λe=>z (pW.mpr e);rw[U]at u f ⊢;have v:=fP j u (show n<a.size by omega) ⋯ f λi y hi o=>lJ (T i y hi (by rw[wS];exact o));refine zG (lI (show a[n+1-1]?=some q from f) ?_);refine nE (λz=>?_) λz=>?_
      ·have l:n=0:=yK z;subst l;exact zH ⟨sm.set _,.inl ⟨_,_,rfl,gR j v ⋯⟩⟩
      have a0:n≠0:=λe=>z (pW.mpr e);refine nE (λ_=>?_) λ_=>?_
      ·exact zH ⟨sm.set _,.inr ⟨n,_,_,_,_,_,rfl,v,⋯,⋯,⋯,⋯,⋯⟩⟩
      ·exact zH ⟨sm.set _,n,_,_,_,_,_,rfl,v,⋯,⋯,⋯,⋯,⋯⟩
     ·have a3:k2=m:=by
       have:¬ m-k2 > 0:=O;omega
      subst a3;rw[Bl]at u;rw[U]at u f ⊢;have v:=fP j u (show n<a.size by omega) ⋯ f λi y hi o=>lJ (T i y hi (by rw[wS];exact o));refine zG (lI (show a[n+1-1]?=some q from f) ?_);refine nE (λz=>?_) λz=>?_
      ·have l:n=0:=yK z;subst l;exact zH ⟨sm.set _,.inl ⟨_,_,rfl,gR j v ⋯⟩⟩
      have a0:n≠0:=λe=>z (pW.mpr e);refine nE (λ_=>?_) λ_=>?_
      ·exact zH ⟨sm.set _,.inr ⟨n,_,_,_,_,_,rfl,v,⋯,⋯,⋯,⋯,⋯⟩⟩
      ·exact zH ⟨sm.set _,n,_,_,_,_,_,rfl,v,⋯,⋯,⋯,⋯,⋯⟩
   ·rintro c a4 ⟨sm,g,d,out,I,F,G,rfl,t,l1,l2,J,C,pr⟩;exact⟨sm,.inr ⟨_,_,_,_,_,_,rfl,t,l1,l2,J,C,pr⟩⟩
   ·rintro c a4 ⟨sm,⟨r,K,rfl,P⟩|⟨g,d,out,I,F,G,rfl,t,l1,l2,J,C,pr⟩⟩
    ·exact zH ⟨sm,_,_,rfl,P⟩
    dsimp only;rw[bP];refine zG (wU (zH ⟨sm.set _,_,_,_,_,rfl,t,l1,l2,J,C,pr⟩))
 ·rintro c Z ⟨sm,g,d,out,I,rfl,t,l1,l2,J,C,pr⟩;omega
 ·rintro c Z ⟨sm,r,K,rfl,P⟩;exact zH (h r Z sm P)
end
theorem Rp(i:Nat):mergeAt' i=(do
 let s ←get
 let (some (sa,na,power),some (sb,nb,_)):=((pendingOf s)[i]?,(pendingOf s)[i+1]?)|unsupported "internal:list.sort.pending"
 set (SortSt.mk' (kindOf s) (arrOf s) (((pendingOf s).setIfInBounds i (sa,na+nb,power)).eraseIdxIfInBounds (i+1)) (gallopOf s) (failedOf s))
 let some k ←kP false (←elem' (arrOf s) sb) (arrOf s) sa na 0|return false
 let (sa,na):=(sa+k,na-k)
 if na == 0 then return true
 let some nb ←kP true (←elem' (arrOf s) (sa+na-1)) (arrOf s) sb nb (nb-1)|return false
 if nb == 0 then return true
 let x:=(arrOf s).extract sa sb
 let y:=(arrOf s).extract sb (sb+nb)
 let b ←if na<=nb then Br x y else Bp x y
 modify λs=>setArr s (b.toList.zipIdx.foldl (λa(p,j)=>a.setIfInBounds (sa+j) p) (arrOf s))
 return (failedOf (←get)).isNone):=rfl
section
variable {prog:Program} {w:World} {A:Around} {E:VP} {s:Shared} {κ:PyProof.Rows.KeyKind} {kd:SortKind}
def seg(l:List Keyed)(i j:Nat):List Keyed:=(l.drop i).take (j-i)
theorem Ro{st a:SortSt}{Q:PUnit->SortSt->Prop}(h:Q ⟨⟩ a):wpS (model prog w) A E s (set a:StateT SortSt Sem PUnit) Q st:=by
 unfold wpS;rw[StateT.run_set];exact zB ⟨rfl,h⟩
theorem Bk{l:List Keyed}{i j k:Nat}(a:i<=j)(b:j<=k):seg l i k=seg l i j++seg l j k:=by
 unfold seg;rw[show k-i=(j-i)+(k-j) by omega,qG,pK,show i+(j-i)=j by omega]
theorem Hk{l:List Keyed}{i j:Nat}(h:i<=j):l.take i++seg l i j++l.drop j=l:=by
 unfold seg;have:l.take j=l.take i++(l.drop i).take (j-i):=by
  conv=>lhs;rw[show j=i+(j-i) by omega]
  exact qG
 rw[←this,xX]
theorem dB{l:List Keyed}{i j t:Nat}:(seg l i j)[t]?=if t<j-i then l[i+t]? else none:=by
 unfold seg;rw[List.getElem?_take];split
 ·rw[uL]
 ·rfl
theorem jR{l:List Keyed}{i j:Nat}{x:Keyed}(h:x∈seg l i j):∃t,t<j-i/\l[i+t]?=some x:=fK h
theorem Bj{l:List Keyed}{i j:Nat}(h:j<=l.length):(seg l i j).length=j-i:=by
 unfold seg;rw[yN,uI];omega
theorem bW{l:List Keyed}{i j:Nat}(f:Srt κ (seg l i j)){a u:Nat}{x y:Keyed}(c:a<=u)(e:u<j-i)(b:l[i+a]?=some x)(d:l[i+u]?=some y):le' κ x y:=
 iX f c (by rw[dB,zF ⋯];exact b) (by rw[dB,zF e];exact d)
theorem jS(a:Array Keyed)(i j:Nat):(a.extract i j).toList=seg a.toList i j:=by
 unfold seg;simp only[Array.toList_extract,List.extract_eq_take_drop]
theorem Hj:∀(m:List Keyed)(b c:Nat)(a:Array Keyed),c+b+m.length<=a.size->((m.zipIdx b).foldl (λa(x:Keyed×Nat)=>a.setIfInBounds (c+x.2) x.1) a).toList=a.toList.take (c+b)++m++a.toList.drop (c+b+m.length)
 |[],b,c,a,_=>by simp
 | p:: m,b,c,a,h=>by
  rw[zY]at h;have hl:c+b<a.toList.length:=by rw[zM];omega
  rw[uH,vQ,Hj m (b+1) c _ (by rw[Array.size_setIfInBounds];omega),Array.toList_setIfInBounds,zY];show List.take (c+(b+1)) (a.toList.set (c+b) p)++m++List.drop (c+(b+1)+m.length) (a.toList.set (c+b) p)=_;have e1:List.take (c+(b+1)) (a.toList.set (c+b) p)=a.toList.take (c+b)++[p]:=by
   rw[show c+(b+1)=c+b+1 by omega,xN,List.take_set_of_le (zE _),xV hl];rfl
  have d:List.drop (c+(b+1)+m.length) (a.toList.set (c+b) p)=a.toList.drop (c+b+(m.length+1)):=by
   rw[List.drop_set_of_lt ⋯,show c+(b+1)+m.length=c+b+(m.length+1) by omega]
  rw[e1,d];simp
theorem Rn(D:Cmp prog w A s κ kd){st:SortSt}{b:Array Keyed}{ib a:Nat}{q:Keyed}{n:Nat}{Q:Option Nat->SortSt->Prop}(g:kindOf st=kd)(C:∀i j x y,i<=j->j<n->b[ib+i]?=some x->b[ib+j]?=some y->le' κ x y)(o:∀x∈b.toList,Gd κ x)(f:Gd κ q)(F:ib+n<=b.size)(hh:a<n)
  (h:∀k,k<=n->(∀i x,i<k->b[ib+i]?=some x->le' κ x q)->(∀i x,k<=i->i<n->b[ib+i]?=some x->lq κ q x=true)->Q (some k) st):wpS (model prog w) A E s (kP false q b ib n a) Q st:=by
 refine eY D (B:=λi=>!lq κ q (b.getD (ib+i) q)) g f hh (λi hi=>?_) (λi j l v d=>?_) λk u t m=>h k u (λi x hi e=>?_) λi x hi z e=>?_
 ·obtain⟨p,e⟩:=mL (a:=b) (i:=ib+i) ⋯;refine⟨p,e,o p (yF (oX.mp e)),?_⟩;rw[show b.getD (ib+i) q=p by simp[Array.getD_eq_getD_getElem?,e]];rfl
 ·obtain⟨p,e⟩:=mL (a:=b) (i:=ib+i) ⋯;obtain⟨r,c⟩:=mL (a:=b) (i:=ib+j) ⋯;rw[show b.getD (ib+j) q=r by simp[Array.getD_eq_getD_getElem?,c]]at d;rw[show b.getD (ib+i) q=p by simp[Array.getD_eq_getD_getElem?,e]];have l1:le' κ r q:=by unfold le';simpa using d
  have:=mV (C i j p r l v e c) l1;unfold le' at this;rw[this];rfl
 ·have:=t i hi;rw[show b.getD (ib+i) q=x by simp[Array.getD_eq_getD_getElem?,e]]at this;unfold le';simpa using this
 ·have:=m i hi z;rw[show b.getD (ib+i) q=x by simp[Array.getD_eq_getD_getElem?,e]]at this;simpa using this
theorem Rm(D:Cmp prog w A s κ kd){st:SortSt}{b:Array Keyed}{ib a:Nat}{q:Keyed}{n:Nat}{Q:Option Nat->SortSt->Prop}(g:kindOf st=kd)(C:∀i j x y,i<=j->j<n->b[ib+i]?=some x->b[ib+j]?=some y->le' κ x y)(o:∀x∈b.toList,Gd κ x)(f:Gd κ q)(F:ib+n<=b.size)(hh:a<n)
  (h:∀k,k<=n->(∀i x,i<k->b[ib+i]?=some x->lq κ x q=true)->(∀i x,k<=i->i<n->b[ib+i]?=some x->le' κ q x)->Q (some k) st):wpS (model prog w) A E s (kP true q b ib n a) Q st:=by
 refine eY D (B:=λi=>lq κ (b.getD (ib+i) q) q) g f hh (λi hi=>?_) (λi j l v d=>?_) λk u t m=>h k u (λi x hi e=>?_) λi x hi z e=>?_
 ·obtain⟨p,e⟩:=mL (a:=b) (i:=ib+i) ⋯;refine⟨p,e,o p (yF (oX.mp e)),?_⟩;rw[show b.getD (ib+i) q=p by simp[Array.getD_eq_getD_getElem?,e]];rfl
 ·obtain⟨p,e⟩:=mL (a:=b) (i:=ib+i) ⋯;obtain⟨r,c⟩:=mL (a:=b) (i:=ib+j) ⋯;rw[show b.getD (ib+j) q=r by simp[Array.getD_eq_getD_getElem?,c]]at d;rw[show b.getD (ib+i) q=p by simp[Array.getD_eq_getD_getElem?,e]];exact KeyOrd.klt_of_kle_of_klt (O:=κ.toKeyOrd) (C i j p r l v e c) d
 ·have:=t i hi;rw[show b.getD (ib+i) q=x by simp[Array.getD_eq_getD_getElem?,e]]at this;exact this
 ·have:=m i hi z;rw[show b.getD (ib+i) q=x by simp[Array.getD_eq_getD_getElem?,e]]at this;exact this
theorem Rl(K:Cmp prog w A s κ kd){st:SortSt}{i b c J f c7:Nat}{Q:Bool->SortSt->Prop}(c4:kindOf st=kd)(P:∀x∈(arrOf st).toList,Gd κ x)(c1:failedOf st=none)(e1:(pendingOf st)[i]?=some (b,c,J))(V:(pendingOf st)[i+1]?=some (b+c,f,c7))
  (d8:1<=c)(c8:1<=f)(d1:b+c+f<=(arrOf st).size)(G:Srt κ (seg (arrOf st).toList b (b+c)))(I:Srt κ (seg (arrOf st).toList (b+c) (b+c+f)))
  (h:∀n X,kindOf n=kd->failedOf n=none->pendingOf n=((pendingOf st).setIfInBounds i (b,c+f,J)).eraseIdxIfInBounds (i+1)->(arrOf n).toList=(arrOf st).toList.take b++X++(arrOf st).toList.drop (b+c+f)->X.Perm (seg (arrOf st).toList b (b+c+f))->Srt κ X->Q true n):
  wpS (model prog w) A E s (mergeAt' i) Q st:=by
 rw[Rp];refine zG (uX ?_);rw[e1,V];dsimp only;refine zG (Ro ?_);generalize hst:SortSt.mk' (kindOf st) (arrOf st) (((pendingOf st).setIfInBounds i (b,c+f,J)).eraseIdxIfInBounds (i+1)) (gallopOf st) (failedOf st)=C;have k1:kindOf C=kd:=by rw[←hst];exact c4
 have a4:arrOf C=arrOf st:=by rw[←hst]
 have Z:pendingOf C=((pendingOf st).setIfInBounds i (b,c+f,J)).eraseIdxIfInBounds (i+1):=by rw[←hst]
 have W:failedOf C=none:=by rw[←hst];exact c1
 clear hst e1 V;generalize harr:arrOf st=arr at*
 generalize pendingOf st=d3 at*;have c9:arr.toList.length=arr.size:=zM;have M:∀d x,arr[d]?=some x->Gd κ x:=λd x e=>P x (yF (oX.mp e))
 -- already in order
 have stay:Srt κ (seg arr.toList b (b+c+f))->Q true C:=λb4=>h C _ k1 W Z (by rw[a4,Hk ⋯]) (List.Perm.refl _) b4;have O:seg arr.toList b (b+c+f)=seg arr.toList b (b+c)++seg arr.toList (b+c) (b+c+f):=Bk ⋯ ⋯;refine zG (lU (arr:=arr) (i:=b+c) ⋯ λp ep=>?_);refine zG (Rn K k1 (λd u x y R b2 o F=>bW G R ⋯ (oX.mp o) (oX.mp F)) P (M _ _ ep) ⋯ ⋯ λk d7 a6 b8=>?_);dsimp only;have S:∀y∈seg arr.toList (b+c) (b+c+f),le' κ p y:=λy m=>by
  obtain⟨d,v,l⟩:=jR m;exact bW I (yA d) v (oX.mp ep) l
 refine nE (λz=>?_) λz=>?_
 ·have d4:c-k=0:=yK z;refine zH (stay ?_);rw[O];refine oC.mpr ⟨G,I,λx g y m=>?_⟩;obtain⟨d,v,l⟩:=jR g;exact mV (a6 d x ⋯ (oX.mpr l)) (S y m)
 have d6:c-k≠0:=λe=>z (pW.mpr e);refine zG (lU (arr:=arr) (i:=b+k+(c-k)-1) ⋯ λq N=>?_);rw[show b+k+(c-k)-1=b+(c-1) by omega]at N;refine zG (Rm K k1 (λd u x y R b2 o F=>bW I R ⋯ (oX.mp o) (oX.mp F)) P (M _ _ N) ⋯ ⋯ λk2 d2 c3 a7=>?_);dsimp only;have a0:∀x∈seg arr.toList b (b+c),le' κ x q:=λx g=>by
  obtain⟨d,v,l⟩:=jR g;exact bW G (show d<=c-1 by omega) ⋯ l (oX.mp N)
 refine nE (λy=>?_) λy=>?_
 ·have d0:k2=0:=yK y;refine zH (stay ?_);rw[O];refine oC.mpr ⟨G,I,λx g y m=>?_⟩;obtain⟨d,v,l⟩:=jR m;exact mV (a0 x g) (a7 d y ⋯ ⋯ (oX.mpr l))
 have d5:k2≠0:=λe=>y (pW.mpr e)
 -- the parts
 have U:seg arr.toList b (b+c)=seg arr.toList b (b+k)++seg arr.toList (b+k) (b+c):=Bk ⋯ ⋯;have L:seg arr.toList (b+c) (b+c+f)=seg arr.toList (b+c) (b+c+k2)++seg arr.toList (b+c+k2) (b+c+f):=Bk ⋯ ⋯;have a1:=G;have Y:=I;rw[U]at a1;rw[L]at Y;obtain⟨c6,b5,b1⟩:=oC.mp a1;obtain⟨b9,b6,b0⟩:=oC.mp Y;have a3:∀x∈seg arr.toList b (b+k),le' κ x p:=λx g=>by
  obtain⟨d,v,l⟩:=jR g;exact a6 d x ⋯ (oX.mpr l)
 have c5:∀x∈seg arr.toList (b+k) (b+c),le' κ p x:=λx g=>by
  obtain⟨d,v,l⟩:=jR g;exact lJ (b8 (k+d) x ⋯ ⋯ (by rw[show b+(k+d)=b+k+d by omega];exact oX.mpr l))
 have b7:∀y∈seg arr.toList (b+c) (b+c+k2),le' κ y q:=λy m=>by
  obtain⟨d,v,l⟩:=jR m;exact lJ (c3 d y ⋯ (oX.mpr l))
 have a9:∀y∈seg arr.toList (b+c+k2) (b+c+f),le' κ q y:=λy m=>by
  obtain⟨d,v,l⟩:=jR m;exact a7 (k2+d) y ⋯ ⋯ (by rw[show b+c+(k2+d)=b+c+k2+d by omega];exact oX.mpr l)
 have a2:MG κ (arr.extract (b+k) (b+c)) (arr.extract (b+c) (b+c+k2)):=by
  refine⟨by rw[jS];exact b5,by rw[jS];exact b9,λx g=>?_,λx g=>?_,by rw[rY];omega,by rw[rY];omega,λx o y m=>?_,λx y o F=>?_⟩
  ·rw[jS]at g;obtain⟨d,_,l⟩:=jR g;exact M _ x (oX.mpr l)
  ·rw[jS]at g;obtain⟨d,_,l⟩:=jR g;exact M _ x (oX.mpr l)
  ·rw[jS]at m;rw[oX,jS,dB,rY]at o;split at o
   ·rw[show b+k+(min (b+c) arr.size-(b+k)-1)=b+(c-1) by omega,oX.mp N]at o;cases o;exact b7 y m
   ·cases o
  ·rw[oX,jS,dB,zF ⋯,tV,oX.mp ep]at o;cases o;rw[oX,jS]at F;exact c5 y (yF F)
 have a5:∀(r:Array Keyed)(n:SortSt),Sm C n->Res κ (arr.extract (b+k) (b+c)).toList (arr.extract (b+c) (b+c+k2)).toList r.toList->wpS (model prog w) A E s (do
   modify λs=>setArr s (r.toList.zipIdx.foldl (λa(p,j)=>a.setIfInBounds (b+k+j) p) (arrOf s))
   return (failedOf (←get)).isNone) Q n:=λr n sm t=>by
  rw[jS,jS]at t;refine zG (wU (zG (uX (zH ?_))));have a8:failedOf n=none:=sm.f.trans W;show Q (failedOf n).isNone _;rw[a8];have c2:r.toList.length=(c-k)+k2:=by
   rw[t.1.length_eq,yE,Bj ⋯,Bj ⋯];omega
  refine h _ (seg arr.toList b (b+k)++r.toList++seg arr.toList (b+c+k2) (b+c+f)) (sm.k.trans k1) a8 (sm.p.trans Z) ?_ ?_ ?_
  ·show(List.foldl _ (arrOf n) _).toList=_;rw[sm.a,a4,Hj r.toList 0 (b+k) arr ⋯,c2];have c0:arr.toList.take (b+k+0)=arr.toList.take b++seg arr.toList b (b+k):=by
    unfold seg;rw[tV,qG,show b+k-b=k by omega]
   have b3:arr.toList.drop (b+k+0+(c-k+k2))=seg arr.toList (b+c+k2) (b+c+f)++arr.toList.drop (b+c+f):=by
    unfold seg;rw[show b+k+0+(c-k+k2)=b+c+k2 by omega]
    conv=>lhs;rw[←xX (b+c+f-(b+c+k2)) (arr.toList.drop (b+c+k2))]
    rw[pK,show b+c+k2+(b+c+f-(b+c+k2))=b+c+f by omega]
   rw[c0,b3];simp only[List.append_assoc]
  ·rw[O,U,L];have:=(t.1.append_left (seg arr.toList b (b+k))).append_right (seg arr.toList (b+c+k2) (b+c+f));simp only[List.append_assoc]at this ⊢;exact this
  ·have mem:∀x∈r.toList,x∈seg arr.toList (b+k) (b+c)\/x∈seg arr.toList (b+c) (b+c+k2):=λx g=>oF.mp (t.1.mem_iff.mp g);refine oC.mpr ⟨oC.mpr ⟨c6,t.2,λx g y m=>?_⟩,b6,λx g y m=>?_⟩
   ·rcases mem y m with D|D
    ·exact b1 x g y D
    ·exact mV (a3 x g) (S y (by rw[L];exact wJ _ D))
   ·rcases oF.mp g with D|D
    ·exact mV (a3 x D) (S y (by rw[L];exact yQ _ m))
    ·rcases mem x D with T|T
     ·exact mV (a0 x (by rw[U];exact yQ _ T)) (a9 y m)
     ·exact b0 x T y m
 refine nE (λ_=>?_) λ_=>?_
 ·exact zG (Rx K k1 a2 λr n sm t=>a5 r n sm t)
 ·exact zG (Rq K k1 a2 λr n sm t=>a5 r n sm t)
theorem dC(f:Cmp prog w A s κ kd){st:SortSt}{i j:Nat}{Q:Option Bool->SortSt->Prop}(d:kindOf st=kd)(c:∀x∈(arrOf st).toList,Gd κ x)(hi:i<(arrOf st).size)(e:j<(arrOf st).size)
  (h:∀x y,(arrOf st)[i]?=some x->(arrOf st)[j]?=some y->Q (some (lq κ x y)) st):wpS (model prog w) A E s (ltAt' i j) Q st:=by
 rw[ltAt'_eq];refine zG (uX ?_);refine zG (lU hi λx a=>?_);refine zG (lU e λy b=>?_);exact eX f d (c x (yF (oX.mp a))) (c y (yF (oX.mp b))) (h x y a b)
structure Ch(lo hi:Nat)(st st':SortSt):Prop where
 k:kindOf st'=kindOf st
 p:pendingOf st'=pendingOf st
 f:failedOf st'=failedOf st
 z:(arrOf st').size=(arrOf st).size
 m:(arrOf st').Perm (arrOf st)
 o:∀i,i<lo\/hi<=i->(arrOf st')[i]?=(arrOf st)[i]?
theorem Ch.refl(lo hi:Nat)(st:SortSt):Ch lo hi st st:=⟨rfl,rfl,rfl,rfl,Array.Perm.refl _,λ_ _=>rfl⟩
theorem Ch.trans{lo hi:Nat}{a b c:SortSt}(d:Ch lo hi a b)(e:Ch lo hi b c):Ch lo hi a c:=⟨e.k.trans d.k,e.p.trans d.p,e.f.trans d.f,e.z.trans d.z,e.m.trans d.m,λi hi=>(e.o i hi).trans (d.o i hi)⟩
theorem Ch.wide{lo hi hi':Nat}{a b:SortSt}(h:Ch lo hi a b)(hh:hi<=hi'):Ch lo hi' a b:=⟨h.k,h.p,h.f,h.z,h.m,λi hi=>h.o i ⋯⟩
theorem Ch.good{lo hi:Nat}{a b:SortSt}(h:Ch lo hi a b)(d:∀x∈(arrOf a).toList,Gd κ x):∀x∈(arrOf b).toList,Gd κ x:=λx c=>d x ((h.m.toList.mem_iff).mp c)
def Up(κ:PyProof.Rows.KeyKind)(a:Array Keyed)(lo hi:Nat):Prop:=∀i j x y,lo<=i->i<=j->j<hi->a[i]?=some x->a[j]?=some y->le' κ x y
def Dn(κ:PyProof.Rows.KeyKind)(a:Array Keyed)(lo hi:Nat):Prop:=∀i j x y,lo<=i->i<=j->j<hi->a[i]?=some x->a[j]?=some y->le' κ y x
theorem Up.one{a:Array Keyed}{lo:Nat}:Up κ a lo (lo+1):=λi j x y e d f c b=>by
 have:i=j:=⋯
 subst this;rw[c]at b;cases b;exact iL _
theorem Up.more{a:Array Keyed}{lo hi hi':Nat}(h:Up κ a lo hi)(hl:lo<hi)(n:hi<a.size)(m:∀x y,a[hi-1]?=some x->a[hi]?=some y->le' κ x y)(k:hi'=hi+1:=by omega):Up κ a lo hi':=λi j x y e f o c b=>by
 subst k;rcases uZ j hi with q|q
 ·exact h i j x y e f q c b
 ·have l:j=hi:=⋯
  subst l;rcases uZ i j with g|g
  ·obtain⟨u,d⟩:=mL (a:=a) (i:=j-1) ⋯;exact mV (h i (j-1) x u e ⋯ ⋯ c d) (m u y d b)
  ·have:i=j:=⋯
   subst this;rw[c]at b;cases b;exact iL _
theorem Up.same{a b:Array Keyed}{lo hi:Nat}(h:Up κ a lo hi)(e:∀i,lo<=i->i<hi->b[i]?=a[i]?):Up κ b lo hi:=λi j x y c g d f k=>h i j x y c g d (by rw[←e i c ⋯];exact f) (by rw[←e j ⋯ d];exact k)
theorem Dn.more{a:Array Keyed}{lo hi hi':Nat}(h:Dn κ a lo hi)(hl:lo<hi)(n:hi<a.size)(m:∀x y,a[hi-1]?=some x->a[hi]?=some y->le' κ y x)(k:hi'=hi+1:=by omega):Dn κ a lo hi':=λi j x y e f o c b=>by
 subst k;rcases uZ j hi with q|q
 ·exact h i j x y e f q c b
 ·have l:j=hi:=⋯
  subst l;rcases uZ i j with g|g
  ·obtain⟨u,d⟩:=mL (a:=a) (i:=j-1) ⋯;exact mV (m u y d b) (h i (j-1) x u e ⋯ ⋯ c d)
  ·have:i=j:=⋯
   subst this;rw[c]at b;cases b;exact iL _
abbrev mir(a:Array Keyed)(i j:Nat):Array Keyed:=mirror a i j ((j-i)/2)
theorem iY{a:Array Keyed}{i j k:Nat}(b:j<=a.size):(mir a i j)[k]?=if i<=k/\k<j then a[i+j-1-k]? else a[k]?:=getElem?_mirror_all b k
theorem Dn.turned{a:Array Keyed}{lo hi b c:Nat}(h:Dn κ a lo hi)(u:Up κ a b c)(hl:lo<=b)(o:c<=hi)(n:hi<=a.size):Dn κ (mir a b c) lo hi:=λi j x y k m l e d=>by
 rw[iY ⋯]at e d
 by_cases g:b<=i/\i<c
 ·rw[zF g]at e
  by_cases f:b<=j/\j<c
  ·rw[zF f]at d;exact u _ _ y x ⋯ (show b+c-1-j<=b+c-1-i by omega) ⋯ d e
  ·rw[zD f]at d;exact h _ _ x y ⋯ (show b+c-1-i<=j by omega) l e d
 ·rw[zD g]at e
  by_cases f:b<=j/\j<c
  ·rw[zF f]at d;exact h _ _ x y k (show i<=b+c-1-j by omega) ⋯ e d
  ·rw[zD f]at d;exact h _ _ x y k m l e d
theorem Dn.up{a:Array Keyed}{lo hi:Nat}(h:Dn κ a lo hi)(c:hi<=a.size):Up κ (mir a lo hi) lo hi:=λi j x y e g f b d=>by
 rw[iY c,zF ⟨e,⋯⟩]at b;rw[iY c,zF ⟨⋯,f⟩]at d;exact h _ _ y x ⋯ (show lo+hi-1-j<=lo+hi-1-i by omega) ⋯ d b
theorem bX{st:SortSt}{i j:Nat}{Q:Unit->SortSt->Prop}(b:j<=(arrOf st).size)(h:∀a,Ch i j st a->arrOf a=mir (arrOf st) i j->Q () a):wpS (model prog w) A E s (reverseSlice' i j) Q st:=by
 rw[reverseSlice'_eq];refine wU (h _ ⟨rfl,rfl,rfl,mirror_size _ _ _ _,mirror_perm _ _ _ _,λk c=>?_⟩ rfl);exact(iY b).trans (zD ⋯)
theorem Hi(t:Cmp prog w A s κ kd){st:SortSt}{lo a b:Nat}{f:Nat->Option (Option Nat)×Nat->StateT SortSt Sem (ForInStep (Option (Option Nat)×Nat))}{Q:Option (Option Nat)×Nat->SortSt->Prop}(F:kindOf st=kd)(r:∀x∈(arrOf st).toList,Gd κ x)(K:lo+b<=(arrOf st).size)(L:1<=a)(D:a<=b)(o:Up κ (arrOf st) lo (lo+a))
  (z:∀x c,f x c=(do
   let m ←ltAt' (lo+c.2) (lo+c.2-1)
   match m with
    |some G=>if G=true then pure (ForInStep.done (none,c.2)) else pure (ForInStep.yield (none,c.2+1))
    |_=>pure (ForInStep.done (some none,c.2))))
  (h:∀n,a<=n->n<=b->Up κ (arrOf st) lo (lo+n)->(n=b\/∀x y,(arrOf st)[lo+n]?=some x->(arrOf st)[lo+n-1]?=some y->lq κ x y=true)->Q (none,n) st):
  wpS (model prog w) A E s (forIn [a:b] ((none,a):Option (Option Nat)×Nat) f) Q st:=by
 refine wL (xI (I:=λx c e=>e=st/\c=(none,x)/\a<=x/\x<=b/\Up κ (arrOf st) lo (lo+x))
  (Q:=λc e=>e=st/\∃n,c=(none,n)/\a<=n/\n<=b/\Up κ (arrOf st) lo (lo+n)/\(n=b\/∀x y,(arrOf st)[lo+n]?=some x->(arrOf st)[lo+n-1]?=some y->lq κ x y=true)) ?_ ?_ ⟨rfl,rfl,zE _,D,o⟩) ?_
 ·rintro x c e I J ⟨rfl,rfl,j,g,d⟩;rw[z];dsimp only;refine zG (dC t F r ⋯ ⋯ λp q ep l=>?_);dsimp only;cases hl:lq κ p q with
  |true =>
   rw[zF rfl];refine zH ⟨rfl,x,rfl,j,g,d,.inr λu v i k=>?_⟩;rw[ep]at i;rw[l]at k;cases i;cases k;exact hl
  |false =>
   rw[zD (by simp)];refine zH ⟨rfl,rfl,⋯,⋯,?_⟩;refine Up.more d ⋯ ⋯ λu v i k=>?_;rw[l]at i;rw[ep]at k;cases i;cases k;exact hl
 ·rintro c e ⟨rfl,rfl,j,g,d⟩;exact⟨rfl,_,rfl,j,g,d,.inl ⋯⟩
 ·rintro c e ⟨rfl,n,rfl,j,g,d,C⟩;exact h n j g d C
theorem Hh{b:Type}{c:Prop}[Decidable c]{P T:StateT SortSt Sem b}{R:SortSt->Prop}{st:SortSt}{Q:b->SortSt->Prop}(e:c->(∀a,R a->wpS (model prog w) A E s P Q a)->wpS (model prog w) A E s T Q st)(d:¬ c->R st)(go:∀a,R a->wpS (model prog w) A E s P Q a):wpS (model prog w) A E s (if c then T else P) Q st:=
 nE (λx=>e x go) λx=>go st (d x)
theorem Rk(C:Cmp prog w A s κ kd){st:SortSt}{lo r:Nat}{Q:Option Nat->SortSt->Prop}(N:kindOf st=kd)(I:∀x∈(arrOf st).toList,Gd κ x)(a7:lo+r<=(arrOf st).size)(a3:1<=r)
  (h:∀n b,1<=n->n<=r->Ch lo (lo+n) st b->Up κ (arrOf b) lo (lo+n)->Q (some n) b):wpS (model prog w) A E s (countRun' lo r) Q st:=by
 rw[countRun'_eq];refine zG (Hi C N I a7 (zE _) a3 Up.one (λx c=>rfl) λn Y W up nx=>?_);dsimp only;refine nE (λz=>?_) λz=>?_
 ·exact zH (h n st Y W (Ch.refl _ _ _) up)
 have S:n≠r:=λe=>z (pW.mpr e);have T:=nx.resolve_left S;refine Hh (R:=λG=>Ch lo (lo+n) st G/\Dn κ (arrOf G) lo (lo+n+1)) (λy go=>?_) (λy=>?_) λG a8=>?_
 ·refine zG (dC C N I ⋯ ⋯ λp q ep o=>?_);dsimp only;cases hl:lq κ p q with
  |true =>
   rw[zF rfl];exact zH (h n st Y W (Ch.refl _ _ _) up)
  | false =>
   rw[zD (by simp)];refine zG (bX ⋯ λG D U=>?_);refine go G ⟨D,Dn.more (hi:=lo+n) ?_ ⋯ (by rw[D.z];omega) λu v d f=>?_⟩
   ·-- all alike
    rw[U];intro i j x y b1 b2 a2 J F;rw[iY ⋯,zF ⟨b1,⋯⟩]at J;rw[iY ⋯,zF ⟨⋯,a2⟩]at F;exact up _ _ y x ⋯ (show lo+(lo+n)-1-j<=lo+(lo+n)-1-i by omega) ⋯ F J
   ·rw[D.o _ (.inr (zE _))]at f;rw[U,iY ⋯,zF ⋯,show lo+(lo+n)-1-(lo+n-1)=lo by omega,ep]at d;cases d;exact mV (lJ (T v q f o)) hl
 ·have:n=1:=⋯
  subst this;refine⟨Ch.refl _ _ _,Dn.more (hi:=lo+1) (λi j x y b1 b2 a2 J F=>?_) ⋯ ⋯ λu v d f=>lJ (T v u f d)⟩;have:i=j:=⋯
  subst this;rw[J]at F;cases F;exact iL _
 ·obtain⟨D,k⟩:=a8;refine zG (rN (wT ⟨rfl,?_⟩));refine zG (wL (xI (I:=λx c b=>∃g,c=(none,x,g)/\n+1<=x/\x<=r/\g+1<=x/\Ch lo (lo+x) st b/\Dn κ (arrOf b) lo (lo+x)/\Up κ (arrOf b) (lo+x-(g+1)) (lo+x))
   (Q:=λc b=>∃x g,c=(none,x,g)/\n+1<=x/\x<=r/\g+1<=x/\Ch lo (lo+x) st b/\Dn κ (arrOf b) lo (lo+x)/\Up κ (arrOf b) (lo+x-(g+1)) (lo+x)) ?_ ?_ ⟨0,rfl,zE _,⋯,⋯,D.wide ⋯,k,by rw[show lo+(n+1)=lo+n+1 by omega];exact Up.one⟩) ?_)
  ·rintro x c b b7 b8 ⟨g,rfl,L,t,M,ch,k,up⟩;have a1:kindOf b=kd:=ch.k.trans N;have X:=ch.good I;have S:=ch.z;dsimp only;refine zG (dC C a1 X ⋯ ⋯ λp q ep o=>?_);dsimp only;cases hl:lq κ p q with
   |true =>
    rw[zF rfl];refine nE (λO=>?_) λO=>?_
    ·refine zG (bX ⋯ λl a K=>zH ?_);have R:Ch lo (lo+x) b l:=⟨a.k,a.p,a.f,a.z,a.m,λi hi=>a.o i ⋯⟩;refine⟨0,rfl,⋯,⋯,⋯,(ch.trans R).wide ⋯,?_,by rw[show lo+(x+1)-(0+1)=lo+x by omega];exact Up.one⟩;refine Dn.more (hi:=lo+x) (by rw[K];exact Dn.turned k up ⋯ (zE _) ⋯) ⋯ (by rw[a.z];omega) λu v d f=>?_;rw[a.o _ (.inr (zE _)),ep]at f;cases f;rw[K,iY ⋯,zF ⋯]at d;have l1:le' κ q u:=k _ _ u q ⋯ (show lo+x-(g+1)+(lo+x)-1-(lo+x-1)<=lo+x-1 by omega) ⋯ d o;exact mV (lJ hl) l1
    ·refine zH ⟨0,rfl,⋯,⋯,⋯,ch.wide ⋯,?_,by rw[show lo+(x+1)-(0+1)=lo+x by omega];exact Up.one⟩;refine Dn.more k ⋯ ⋯ λu v d f=>?_;rw[o]at d;rw[ep]at f;cases d;cases f;exact lJ hl
   | false =>
    rw[zD (by simp)];refine zG (dC C a1 X ⋯ ⋯ λc1 b6 a0 Z=>?_);rw[o]at a0;rw[ep]at Z;cases a0;cases Z;dsimp only;cases hl2:lq κ q p with
    |true =>
     rw[zF rfl];exact zH ⟨x,g,rfl,L,t,M,ch,k,up⟩
    | false =>
     rw[zD (by simp)];refine zH ⟨g+1,rfl,⋯,⋯,⋯,ch.wide ⋯,?_,?_⟩
     ·refine Dn.more k ⋯ ⋯ λu v d f=>?_;rw[o]at d;rw[ep]at f;cases d;cases f;exact hl2
     ·have:=Up.more (hi':=lo+(x+1)) up ⋯ ⋯ λu v d f=>by
       rw[o]at d;rw[ep]at f;cases d;cases f;exact hl
      rw[show lo+(x+1)-(g+1+1)=lo+x-(g+1) by omega];exact this
  ·rintro c b ⟨g,rfl,L,t,M,ch,k,up⟩;exact⟨_,g,rfl,L,t,M,ch,k,up⟩
  ·rintro c b ⟨x,g,rfl,L,t,M,ch,k,up⟩;dsimp only;refine Hh (R:=λl=>Ch lo (lo+x) st l/\Dn κ (arrOf l) lo (lo+x)) (λO b0=>?_) (λO=>⟨ch,k⟩) λl a5=>?_
   ·have S:=ch.z;refine zG (bX ⋯ λl a K=>?_);have R:Ch lo (lo+x) b l:=⟨a.k,a.p,a.f,a.z,a.m,λi hi=>a.o i ⋯⟩;exact b0 l ⟨ch.trans R,by rw[K];exact Dn.turned k up ⋯ (zE _) ⋯⟩
   ·obtain⟨a,a4⟩:=a5;have c0:=a.z;refine zG (bX ⋯ λa6 V b4=>?_);have P:=a.trans V;have b9:=V.z;refine zG (Hi C (P.k.trans N) (P.good I) ⋯ ⋯ t (by rw[b4];exact Dn.up a4 ⋯) (λ_ _=>rfl) λm b5 b3 a9 _=>?_);dsimp only;exact zH (h m a6 ⋯ b3 (P.wide ⋯) a9)
theorem Rj{x y z:Keyed}(a:lq κ x y=true)(b:le' κ y z):lq κ x z=true:=KeyOrd.klt_of_klt_of_kle (O:=κ.toKeyOrd) a b
theorem Up.put{a:Array Keyed}{lo k l:Nat}{p:Keyed}(d:Up κ a lo (lo+k))(m:lo+k<a.size)(ep:a[lo+k]?=some p)(hl:l<=k)(o:∀i u,lo<=i->i<lo+l->a[i]?=some u->le' κ u p)(n:∀i u,lo+l<=i->i<lo+k->a[i]?=some u->lq κ p u=true):
  Up κ (bubble a (lo+k) (lo+k-(lo+l))) lo (lo+(k+1)):=λi j x y e q r c b=>by
 rw[getElem?_bubble m _ ⋯,show lo+k-(lo+k-(lo+l))=lo+l by omega]at c b
 by_cases f:i=lo+l
 ·rw[zF f,ep]at c;cases c
  by_cases b1:j=lo+l
  ·rw[zF b1,ep]at b;cases b;exact iL _
  ·rw[zD b1,zF ⋯]at b;exact lJ (n _ _ ⋯ ⋯ b)
 ·rw[zD f]at c
  by_cases g:lo+l<i/\i<=lo+k
  ·rw[zF g]at c;rw[zD ⋯,zF ⋯]at b;exact d _ _ _ _ ⋯ (show i-1<=j-1 by omega) ⋯ c b
  ·rw[zD g]at c
   by_cases b1:j=lo+l
   ·rw[zF b1,ep]at b;cases b;exact o _ _ e ⋯ c
   ·rw[zD b1]at b
    by_cases b2:lo+l<j/\j<=lo+k
    ·rw[zF b2]at b;exact d _ _ _ _ e (show i<=j-1 by omega) ⋯ c b
    ·rw[zD b2]at b;exact d _ _ _ _ e q ⋯ c b
theorem Ri(J:Cmp prog w A s κ kd){st:SortSt}{lo n ok:Nat}{Q:Bool->SortSt->Prop}(P:kindOf st=kd)(G:∀x∈(arrOf st).toList,Gd κ x)(Y:lo+n<=(arrOf st).size)(D:1<=ok)(z:ok<=n)(F:Up κ (arrOf st) lo (lo+ok))
  (h:∀a,Ch lo (lo+n) st a->Up κ (arrOf a) lo (lo+n)->Q true a):wpS (model prog w) A E s (binarySort' lo n ok) Q st:=by
 rw[binarySort'_eq];refine zG (wL (xI (I:=λk c a=>c=(none,())/\ok<=k/\k<=n/\Ch lo (lo+n) st a/\Up κ (arrOf a) lo (lo+k))
  (Q:=λc a=>c=(none,())/\Ch lo (lo+n) st a/\Up κ (arrOf a) lo (lo+n)) ?step ?fin ?init) ?post)
 case post =>
  rintro c a ⟨rfl,b,d⟩;exact zH (h a b d)
 case init=>rw[show max ok 1=ok by omega];exact⟨rfl,zE _,z,Ch.refl _ _ _,F⟩
 case fin =>
  rintro c a ⟨S,N,C,b,d⟩;rw[show max (max ok 1) n=n by omega]at d;exact⟨S,b,d⟩
 case step =>
  rintro k c a X W ⟨rfl,N,C,b,d⟩;have V:=b.z;have R:kindOf a=kd:=b.k.trans P;have M:=b.good G;obtain⟨p,ep⟩:=mL (a:=arrOf a) (i:=lo+k) ⋯;refine zG (wL (xI (I:=λx c f=>f=a/\∃l r,c=(none,l,r)/\l<=r/\r<=k/\r-l<=k-x /\
    (∀i u,lo<=i->i<lo+l->(arrOf a)[i]?=some u->le' κ u p)/\(∀i u,lo+r<=i->i<lo+k->(arrOf a)[i]?=some u->lq κ p u=true))
   (Q:=λc f=>f=a/\∃l r,c=(none,l,r)/\l<=k /\
    (∀i u,lo<=i->i<lo+l->(arrOf a)[i]?=some u->le' κ u p)/\(∀i u,lo+l<=i->i<lo+k->(arrOf a)[i]?=some u->lq κ p u=true)) ?istep ?ifin ?iinit) ?ipost)
  case iinit=>exact⟨rfl,0,k,rfl,⋯,⋯,⋯,λi u _ hi=>⋯,λi u D Z=>⋯⟩
  case ifin =>
   rintro c f ⟨rfl,l,r,rfl,K,o,L,g,e⟩;have:l=r:=⋯
   subst this;exact⟨rfl,l,l,rfl,o,g,e⟩
  case istep =>
   rintro x c f _ T ⟨rfl,l,r,rfl,K,o,L,g,e⟩;dsimp only;refine nE (λO=>?_) λO=>?_
   ·have:l=r:=⋯
    subst this;exact zH ⟨rfl,l,l,rfl,o,g,e⟩
   ·refine zG (dC J R M ⋯ ⋯ λU q v y=>?_);rw[ep]at v;cases v;dsimp only;cases hless:lq κ p q with
    |true =>
     rw[zF rfl];refine zH ⟨rfl,l,(l+r)/2,rfl,⋯,⋯,⋯,g,λi u j t m=>?_⟩;exact Rj hless (d _ _ _ _ ⋯ j t y m)
    |false =>
     rw[zD (by simp)];refine zH ⟨rfl,(l+r)/2+1,r,rfl,⋯,⋯,⋯,λi u j t m=>?_,e⟩;exact mV (d _ _ _ _ j (show i<=lo+(l+r)/2 by omega) ⋯ m y) hless
  case ipost =>
   rintro c f ⟨rfl,l,r,rfl,I,g,e⟩;show wpS _ _ _ _ (do moveDown' (lo+k) (lo+l);pure (ForInStep.yield (none,()))) _ _;rw[moveDown'_eq];refine zG (wU (zH ⟨rfl,⋯,⋯,b.trans ⟨rfl,rfl,rfl,bubble_size _ _ _,bubble_perm _ _ _,λi hi=>?_⟩,d.put ⋯ ep I g e⟩));exact(getElem?_bubble ⋯ _ ⋯ i).trans (by rw[zD ⋯,zD ⋯])
def Run(κ:PyProof.Rows.KeyKind)(a:Array Keyed):Nat->List (Nat×Nat×Nat)->Nat->Prop
 |s,[],e=>s=e
 |s,x:: xs,e=>x.1=s/\1<=x.2.1/\Up κ a s (s+x.2.1)/\Run κ a (s+x.2.1) xs e
theorem Run.le{a:Array Keyed}:∀{xs:List (Nat×Nat×Nat)}{s e:Nat},Run κ a s xs e->s+xs.length<=e
 |[],s,e,h=>by have:s=e:=h;simp[this]
 |x:: xs,s,e,h=>by have:=Run.le h.2.2.2;have:=h.2.1;simp only[List.length_cons];omega
theorem Run.app{a:Array Keyed}:∀{xs ys:List (Nat×Nat×Nat)}{s e:Nat},Run κ a s (xs++ys) e ↔ ∃m,Run κ a s xs m/\Run κ a m ys e
 |[],ys,s,e=>⟨λh=>⟨s,rfl,h⟩,λ⟨m,c,b⟩=>by cases(show s=m from c);exact b⟩
 |x:: xs,ys,s,e=>⟨λ⟨c,b,f,d⟩=>let ⟨m,i,j⟩:=Run.app.mp d;⟨m,⟨c,b,f,i⟩,j⟩,λ⟨m,⟨c,b,f,d⟩,g⟩=>⟨c,b,f,Run.app.mpr ⟨m,d,g⟩⟩⟩
theorem Run.same{a b:Array Keyed}:∀{xs:List (Nat×Nat×Nat)}{s e:Nat},(∀i,s<=i->i<e->b[i]?=a[i]?)->Run κ a s xs e->Run κ b s xs e
 |[],_,_,_,h=>h
 |x:: xs,s,e,q,h=>by
  have:=Run.le h.2.2.2;exact⟨h.1,h.2.1,h.2.2.1.same λi c d=>q i c ⋯,Run.same (λi c d=>q i ⋯ d) h.2.2.2⟩
theorem Bi{a:Array Keyed}{i j:Nat}(h:Up κ a i j):Srt κ (seg a.toList i j):=by
 rw[Srt,List.pairwise_iff_getElem];intro e u c d f;have e1:=xM c;have b:=xM d;rw[dB]at e1 b;split at e1
 ·split at b
  ·exact h _ _ _ _ ⋯ (show i+e<=i+u by omega) ⋯ (oX.mpr e1) (oX.mpr b)
  ·cases b
 ·cases e1
theorem Rh{a:Array Keyed}{l X r:List Keyed}{i j:Nat}(e:a.toList=l++X++r)(hl:l.length=i)(k:X.length=j-i)(h:Srt κ X):Up κ a i j:=λp q x y n m o d b=>by
 have d:=oX.mp d;have b:=oX.mp b;rw[e,yG,zW ⋯,yB ⋯]at d b;rcases uZ p q with c|c
 ·have g:p-l.length<X.length:=⋯
  have f:q-l.length<X.length:=⋯
  rw[xM g]at d;rw[xM f]at b;cases d;cases b;exact(List.pairwise_iff_getElem.mp h) _ _ g f ⋯
 ·have:p=q:=⋯
  subst this;rw[d]at b;cases b;exact iL _
structure Wt(κ:PyProof.Rows.KeyKind)(kd:SortKind)(a₀:Array Keyed)(hi:Nat)(st:SortSt):Prop where
 k:kindOf st=kd
 f:failedOf st=none
 m:(arrOf st).Perm a₀
 r:Run κ (arrOf st) 0 (pendingOf st).toList hi
theorem Wt.z{a₀:Array Keyed}{hi:Nat}{st:SortSt}(h:Wt κ kd a₀ hi st):(arrOf st).size=a₀.size:=h.m.size_eq
theorem Wt.good{a₀:Array Keyed}{hi:Nat}{st:SortSt}(h:Wt κ kd a₀ hi st)(b:∀x∈a₀.toList,Gd κ x):∀x∈(arrOf st).toList,Gd κ x:=λx a=>b x ((h.m.toList.mem_iff).mp a)
theorem Rg{p:Array (Nat×Nat×Nat)}{xs ys:List (Nat×Nat×Nat)}{e f g:Nat×Nat×Nat}(h:p.toList=xs++e:: f:: ys):((p.setIfInBounds xs.length g).eraseIdxIfInBounds (xs.length+1)).toList=xs++g:: ys:=by
 have a:xs.length+1<(p.setIfInBounds xs.length g).size:=by
  rw[Array.size_setIfInBounds,←zM,h];simp
 rw[Array.eraseIdxIfInBounds,dif_pos a,Array.toList_eraseIdx,Array.toList_setIfInBounds,h,List.set_append_right _ _ (zE _),vK];rw[vY ⋯];simp
theorem Bh(t:Cmp prog w A s κ kd){a₀:Array Keyed}(r:∀x∈a₀.toList,Gd κ x){st:SortSt}{i hi:Nat}{xs ys:List (Nat×Nat×Nat)}{e f:Nat×Nat×Nat}{Q:Bool->SortSt->Prop}(c:Wt κ kd a₀ hi st)(hh:hi<=a₀.size)(g:(pendingOf st).toList=xs++e:: f:: ys)(p:i=xs.length)
  (h:∀a,Wt κ kd a₀ hi a->(pendingOf a).toList=xs++(e.1,e.2.1+f.2.1,e.2.2):: ys->(∀j,hi<=j->(arrOf a)[j]?=(arrOf st)[j]?)->Q true a):wpS (model prog w) A E s (mergeAt' i) Q st:=by
 subst p;have hr:=c.r;rw[g]at hr;obtain⟨m,r1,k,D,C,z,F,u,r2⟩:=Run.app.mp hr;have l1:=r1.le;have l2:=r2.le;have I:=c.z;have e1:(pendingOf st)[xs.length]?=some (m,e.2.1,e.2.2):=by
  rw[←yM,g,zW (zE _),vK,←k];rfl
 have o:(pendingOf st)[xs.length+1]?=some (m+e.2.1,f.2.1,f.2.2):=by
  rw[←yM,g,zW ⋯,Nat.add_sub_cancel_left,←z];rfl
 refine Rl t c.k (c.good r) c.f e1 o D F ⋯ (Bi C) (Bi u) λa X k' G y d n v=>?_;have J:X.length=e.2.1+f.2.1:=by rw[n.length_eq,Bj (by rw[zM];omega)];omega
 have lt:((arrOf st).toList.take m).length=m:=by rw[yN,zM];omega
 have ps:(pendingOf a).toList=xs++(e.1,e.2.1+f.2.1,e.2.2):: ys:=by
  rw[y,←k];exact Rg g
 have up:Up κ (arrOf a) m (m+e.2.1+f.2.1):=Rh d lt ⋯ v;have lo:∀j,j<m->(arrOf a)[j]?=(arrOf st)[j]?:=λj b=>by
  rw[←yM,←yM,d,yG,yB ⋯,tW b]
 have l:∀j,m+e.2.1+f.2.1<=j->(arrOf a)[j]?=(arrOf st)[j]?:=λj b=>by
  rw[←yM,←yM,d,zW (by rw[yE];omega),uL];congr 1;rw[yE];omega
 refine h a ⟨k',G,?_,?_⟩ ps λj b=>l j ⋯
 ·refine Array.Perm.trans (Array.perm_iff_toList_perm.mpr ?_) c.m;have q:=(n.append_left ((arrOf st).toList.take m)).append_right ((arrOf st).toList.drop (m+e.2.1+f.2.1));rw[Hk ⋯]at q;rw[d];exact q
 ·rw[ps];refine Run.app.mpr ⟨m,r1.same λj _ b=>lo j b,k,(show 1<=e.2.1+f.2.1 by omega),?_,?_⟩
  ·show Up κ _ m (m+(e.2.1+f.2.1));rw[←sL];exact up
  ·show Run κ _ (m+(e.2.1+f.2.1)) _ _;rw[←sL];exact r2.same λj b _=>l j b
theorem Run.modify{a:Array Keyed}{f:Nat×Nat×Nat->Nat×Nat×Nat}(b:∀e,(f e).1=e.1/\(f e).2.1=e.2.1):∀{xs:List (Nat×Nat×Nat)}{i s e:Nat},Run κ a s xs e->Run κ a s (xs.modify i f) e
 |[],i,s,e,h=>by cases i <;> exact h
 |x:: xs,0,s,e,h=>by
  show(f x).1=s/\1<=(f x).2.1/\Up κ a s (s+(f x).2.1)/\Run κ a (s+(f x).2.1) xs e;rw[(b x).1,(b x).2];exact h
 |x:: xs,i+1,s,e,h=>⟨h.1,h.2.1,h.2.2.1,Run.modify b h.2.2.2⟩
theorem Rf{b:Prop}[Decidable b]{z:Nat}(h:¬ z<=1):(if b then z-2-1 else z-2)+1<z:=by split <;> omega
theorem Bg{p:Array (Nat×Nat×Nat)}{i:Nat}(h:i+1<p.size):∃xs e f ys,p.toList=xs++e:: f:: ys/\xs.length=i:=by
 have h':i+1<p.toList.length:=by rw[zM];exact h
 refine⟨p.toList.take i,p.toList[i],p.toList[i+1],p.toList.drop (i+2),?_,by rw[yN];omega⟩;rw[←vV,←vV,xX]
theorem Wt.push{a₀:Array Keyed}{lo n:Nat}{st:SortSt}(h:Wt κ kd a₀ lo st)(a:1<=n)(b:Up κ (arrOf st) lo (lo+n)):Wt κ kd a₀ (lo+n) (setPending st ((pendingOf st).push (lo,n,0))):=
 ⟨h.k,h.f,h.m,by
  show Run κ (arrOf st) 0 ((pendingOf st).push (lo,n,0)).toList (lo+n);rw[uT];exact Run.app.mpr ⟨lo,h.r,rfl,a,b,rfl⟩⟩
theorem Re(F:Cmp prog w A s κ kd){a₀:Array Keyed}(v:∀x∈a₀.toList,Gd κ x){st:SortSt}{Q:Unit->SortSt->Prop}(a8:kindOf st=kd)(a3:failedOf st=none)(a7:pendingOf st=#[])(V:arrOf st=a₀)
  (h:∀a,kindOf a=kd->failedOf a=none->(arrOf a).Perm a₀->Up κ (arrOf a) 0 a₀.size->Q () a):wpS (model prog w) A E s sortRuns' Q st:=by
 rw[sortRuns'_eq];refine zG (uX ?_);rw[V];dsimp only;have a2:Wt κ kd a₀ 0 st:=⟨a8,a3,by rw[V],by rw[a7];rfl⟩;refine zG (wL (xI (I:=λx c a=>∃lo,c=(none,lo)/\x<=lo/\lo<=a₀.size/\Wt κ kd a₀ lo a)
  (Q:=λc a=>c=(none,a₀.size)/\Wt κ kd a₀ a₀.size a) ?step ?fin ⟨0,rfl,zE _,yA _,a2⟩) ?post)
 case fin =>
  rintro c a ⟨lo,rfl,Y,N,g⟩;have:lo=a₀.size:=⋯
  subst this;exact⟨rfl,g⟩
 case step =>
  rintro x c a b2 b3 ⟨lo,rfl,Y,N,g⟩;dsimp only;refine nE (λz=>?_) λz=>?_
  ·have:lo=a₀.size:=⋯
   subst this;exact zH ⟨rfl,g⟩
  have b5:=g.z;refine zG (Rk F g.k (g.good v) ⋯ ⋯ λn T P b4 k R=>?_);dsimp only;have W:∀l,kindOf l=kindOf a->pendingOf l=pendingOf a->failedOf l=failedOf a->(arrOf l).Perm (arrOf a)->(∀i,i<lo->(arrOf l)[i]?=(arrOf a)[i]?)->Wt κ kd a₀ lo l:=λl e1 X a1 a9 a4=>⟨e1.trans g.k,a1.trans g.f,a9.trans g.m,by rw[X];exact g.r.same λi _ hi=>a4 i hi⟩;refine nE (λy=>?_) λy=>?_
  ·refine zG (rN (wT ⟨rfl,?_⟩));have b1:=k.z;refine zG (Ri F (k.k.trans g.k) (k.good (g.good v)) ⋯ P ⋯ R λl G t=>?_);rw[zD (by simp)];obtain⟨J,K,p,t⟩:Wt κ kd a₀ lo l/\1<=min (a₀.size-lo) (minRun' a₀.size a₀.size 0)/\lo+min (a₀.size-lo) (minRun' a₀.size a₀.size 0)<=a₀.size/\Up κ (arrOf l) lo (lo+min (a₀.size-lo) (minRun' a₀.size a₀.size 0)):=⟨W l (G.k.trans k.k) (G.p.trans k.p) (G.f.trans k.f) (G.m.trans k.m) λi hi=>(G.o i (.inl hi)).trans (k.o i (.inl hi)),⋯,⋯,t⟩
   revert K p t
   generalize min (a₀.size-lo) (minRun' a₀.size a₀.size 0)=n;intro K p t;refine zG (uX ?_);cases hb:(pendingOf l).back? with
   |none =>
    dsimp only;exact zG (wU (zH ⟨lo+n,rfl,⋯,p,J.push K t⟩))
   | some C =>
    obtain⟨D,k1,Z⟩:=C;dsimp only;generalize power' a₀.size (2*D+k1) (2*D+k1+k1+n) a₀.size=u;refine zG (wL (xI (I:=λx c a=>c=(none,())/\Wt κ kd a₀ lo a/\Up κ (arrOf a) lo (lo+n))
     (Q:=λc a=>c=(none,())/\Wt κ kd a₀ lo a/\Up κ (arrOf a) lo (lo+n)) ?istep1 (λc a hh=>hh) ⟨rfl,J,t⟩) ?ipost1)
    case istep1 =>
     rintro x c b _ _ ⟨rfl,d,m⟩;refine zG (uX ?_)
     by_cases I:(pendingOf b).size > 1
     ·rw[zF I];obtain⟨xs,e,f,ys,ep,r⟩:=Bg (p:=pendingOf b) (i:=(pendingOf b).size-2) ⋯;have S:(pendingOf b)[(pendingOf b).size-2]?=some e:=by
       rw[←yM,ep,zW ⋯,r,vK];rfl
      rw[S];dsimp only;refine nE (λ_=>zH ⟨rfl,d,m⟩) λ_=>?_;refine zG (Bh F v d N ep r.symm λU o M O=>?_);rw[zD (by simp)];exact zH ⟨rfl,o,m.same λi hi _=>O i hi⟩
     ·rw[zD I];exact zH ⟨rfl,d,m⟩
    case ipost1 =>
     rintro c b ⟨rfl,d,m⟩;dsimp only;refine zG (wU ?_);have o:Wt κ kd a₀ lo (setPending b ((pendingOf b).modify ((pendingOf b).size-1) λx=>(x.1,x.2.1,u))):=⟨d.k,d.f,d.m,by
      show Run κ (arrOf b) 0 ((pendingOf b).modify _ _).toList lo;rw[Array.toList_modify];exact Run.modify (f:=λx=>(x.1,x.2.1,u)) (λe=>⟨rfl,rfl⟩) d.r⟩
     exact zG (wU (zH ⟨lo+n,rfl,⋯,p,o.push K m⟩))
  ·have J:=W T k.k k.p k.f k.m λi hi=>k.o i (.inl hi);have p:lo+n<=a₀.size:=⋯
   refine zG (uX ?_);cases hb:(pendingOf T).back? with
   |none =>
    dsimp only;exact zG (wU (zH ⟨lo+n,rfl,⋯,p,J.push P R⟩))
   | some C =>
    obtain⟨D,k1,Z⟩:=C;dsimp only;generalize power' a₀.size (2*D+k1) (2*D+k1+k1+n) a₀.size=u;refine zG (wL (xI (I:=λx c a=>c=(none,())/\Wt κ kd a₀ lo a/\Up κ (arrOf a) lo (lo+n))
     (Q:=λc a=>c=(none,())/\Wt κ kd a₀ lo a/\Up κ (arrOf a) lo (lo+n)) ?istep (λc a hh=>hh) ⟨rfl,J,R⟩) ?ipost)
    case istep =>
     rintro x c b _ _ ⟨rfl,d,m⟩;refine zG (uX ?_)
     by_cases I:(pendingOf b).size > 1
     ·rw[zF I];obtain⟨xs,e,f,ys,ep,r⟩:=Bg (p:=pendingOf b) (i:=(pendingOf b).size-2) ⋯;have S:(pendingOf b)[(pendingOf b).size-2]?=some e:=by
       rw[←yM,ep,zW ⋯,r,vK];rfl
      rw[S];dsimp only;refine nE (λ_=>zH ⟨rfl,d,m⟩) λ_=>?_;refine zG (Bh F v d N ep r.symm λU o M O=>?_);rw[zD (by simp)];exact zH ⟨rfl,o,m.same λi hi _=>O i hi⟩
     ·rw[zD I];exact zH ⟨rfl,d,m⟩
    case ipost =>
     rintro c b ⟨rfl,d,m⟩;dsimp only;refine zG (wU ?_);have o:Wt κ kd a₀ lo (setPending b ((pendingOf b).modify ((pendingOf b).size-1) λx=>(x.1,x.2.1,u))):=⟨d.k,d.f,d.m,by
      show Run κ (arrOf b) 0 ((pendingOf b).modify _ _).toList lo;rw[Array.toList_modify];exact Run.modify (f:=λx=>(x.1,x.2.1,u)) (λe=>⟨rfl,rfl⟩) d.r⟩
     exact zG (wU (zH ⟨lo+n,rfl,⋯,p,o.push P m⟩))
 case post =>
  rintro c a ⟨rfl,g⟩;dsimp only;have b0:=g.r.le;rw[zM]at b0;refine zG (wL (xI (I:=λx c a=>c=(none,())/\Wt κ kd a₀ a₀.size a/\((pendingOf a).size<=1\/(pendingOf a).size+x<=a₀.size))
   (Q:=λc a=>c=(none,())/\Wt κ kd a₀ a₀.size a/\(pendingOf a).size<=1) ?fstep ?ffin ⟨rfl,g,.inr ⋯⟩) ?fpost)
  case ffin =>
   rintro c b ⟨rfl,d,L⟩;exact⟨rfl,d,⋯⟩
  case fstep =>
   rintro x c b _ _ ⟨rfl,d,L⟩;refine zG (uX ?_);refine nE (λq=>zH ⟨rfl,d,q⟩) λq=>?_;generalize hi:(if Option.any (λx=>decide (x<(pendingOf b)[(pendingOf b).size-2+1]?.elim 0 λx=>x.2.1)) (if(pendingOf b).size-2 > 0 then Option.map (λx=>x.2.1) (pendingOf b)[(pendingOf b).size-2-1]? else none)=true then(pendingOf b).size-2-1 else(pendingOf b).size-2)=i;have hi':i+1<(pendingOf b).size:=by
    rw[←hi];exact Rf q
   obtain⟨xs,e,f,ys,ep,r⟩:=Bg hi';refine zG (Bh F v d (zE _) ep r.symm λU o M _=>?_);rw[zD (by simp)];refine zH ⟨rfl,o,.inr ?_⟩;have a0:=wD List.length ep;have a6:=wD List.length M;simp only[Array.length_toList,List.length_append,List.length_cons]at a0 a6;omega
  case fpost =>
   rintro c b ⟨rfl,d,L⟩;refine zH (h b d.k d.f d.m ?_);have hr:=d.r;rw[←zM]at L
   match hl:(pendingOf b).toList,hr,L with
   |[],hr,_ =>
    have:0=a₀.size:=hr;rw[←this];exactλi j x y _ _ a5=>absurd a5 (Nat.not_lt_zero _)
   |[C],hr,_ =>
    have:0+C.2.1=a₀.size:=hr.2.2.2;rw[←this];exact hr.2.2.1
end
def dD(prog:Program)(w:World)(n:Nat):Prop:=∀{A:Around}{E:VP}{s:Shared}{κ:PyProof.Rows.KeyKind}{kd:SortKind}{a₀:Array Keyed}{st:SortSt}{Q:Unit->SortSt->Prop},a₀.size=n->2<=n->Cmp prog w A s κ kd->(∀x∈a₀.toList,Gd κ x)->kindOf st=kd->failedOf st=none->pendingOf st=#[]->arrOf st=a₀ ->
 (∀st',kindOf st'=kd->failedOf st'=none->(arrOf st').Perm a₀->Up κ (arrOf st') 0 a₀.size->Q () st')->wpS (model prog w) A E s sortRuns' Q st
section
variable {prog:Program} {w:World}
theorem Rc(n:Nat):dD prog w n:=λ_ _ f d b c e a h=>Re f d b c e a h
end
mutual
def fl:PyData->LI'
 |.int i=>[i]
 |.tuple xs=>flA xs
 |_=>[]
def flA:List PyData->LI'
 |[]=>[]
 |d:: ds=>fl d++flA ds
end
mutual
def sm:PyData->PyData->Bool
 |.int _,.int _=>true
 |.tuple xs,.tuple ys=>smA xs ys
 |_,_=>false
def smA:List PyData->List PyData->Bool
 |[],[]=>true
 |x:: xs,y:: ys=>sm x y && smA xs ys
 |_,_=>false
end
mutual
theorem bY:∀(x y:PyData),sm x y=true->(fl x).length=(fl y).length
 |.int _,y,h=>by cases y <;> simp[sm]at h <;> simp[fl]
 |.tuple xs,y,h=>by cases y <;> simp[sm]at h <;> simp[fl];exact Hg _ _ h
 |.none,y,h=>by simp[sm]at h
 |.bool _,y,h=>by simp[sm]at h
 |.str _,y,h=>by simp[sm]at h
 |.list _,y,h=>by simp[sm]at h
 |.dict _,y,h=>by simp[sm]at h
theorem Hg:∀(xs ys:List PyData),smA xs ys=true->(flA xs).length=(flA ys).length
 |[],ys,h=>by cases ys <;> simp[smA]at h <;> rfl
 |x:: xs,ys,h=>by
  cases ys <;> simp[smA]at h;simp only[flA,List.length_append];rw[bY _ _ h.1,Hg _ _ h.2]
end
mutual
theorem bZ:∀(x y:PyData),sm x y=true->fl x=fl y->x=y
 |.int _,y,h,e=>by cases y <;> simp[sm]at h;simp[fl]at e;rw[e]
 |.tuple xs,y,h,e=>by cases y <;> simp[sm]at h;simp only[fl]at e;rw[Hf _ _ h e]
 |.none,y,h,e=>by simp[sm]at h
 |.bool _,y,h,e=>by simp[sm]at h
 |.str _,y,h,e=>by simp[sm]at h
 |.list _,y,h,e=>by simp[sm]at h
 |.dict _,y,h,e=>by simp[sm]at h
theorem Hf:∀(xs ys:List PyData),smA xs ys=true->flA xs=flA ys->xs=ys
 |[],ys,h,e=>by cases ys <;> simp[smA]at h;rfl
 |x:: xs,ys,h,e=>by
  cases ys <;> simp[smA]at h;simp only[flA]at e;obtain⟨e1,a⟩:=List.append_inj e (bY _ _ h.1);rw[bZ _ _ h.1 e1,Hf _ _ h.2 a]
end
def lx(a b:LI'):Bool:=decide (a<b)
theorem Bf:∀(a l1 l2:LI'),lx (a++l1) (a++l2)=lx l1 l2
 |[],_,_=>rfl
 |x:: a,l1,l2=>by
  rw[←Bf a l1 l2]
  refine decide_eq_decide.mpr ?_
  simp[List.cons_lt_cons_iff]
theorem Be:∀(a b l1 l2:LI'),a.length=b.length->a≠b->lx (a++l1) (b++l2)=lx a b
 |[],[],_,_,_,h=>absurd rfl h
 |[],_:: _,_,_,h,_=>by simp at h
 |_:: _,[],_,_,h,_=>by simp at h
 |x:: a,y:: b,l1,l2,h,c=>by
  refine decide_eq_decide.mpr ?_
  simp only[List.cons_append,List.cons_lt_cons_iff]
  by_cases e:x=y
  ·subst e;have:=decide_eq_decide.mp (Be a b l1 l2 (by simpa using h) (by simpa using c));rw[this]
  ·simp[e]
section
variable {prog:Program} {w:World} {E:VP}
theorem eqT{n:Nat}(g:n<=4){A:Around}{s:Shared}{v u:Value}{x y:PyData}{as bs:LA}{Q:Bool->Shared->Prop}(d:tT n x=true)(c:tT n y=true)(r1:Reads s.heap v x as)(r2:Reads s.heap u y bs)(f:A.units+8<cLine)(h:Q (decide (x=y)) s):wpAny (model prog w) A (eqBool v u) Q E s:=by
 have a:=gM n _ d;have b:=gM n _ c;have l1:=iG n _ a;have l2:=iG n _ b;refine PySem.SeqAt.eqBoolOverData _ _ _ _ _ _ _ _ _ _ _ _ r1 r2 l1.1 l2.1 ⋯ ?_;rw[←SeqAt.same_eq_eqv _ _ (bE n _ _ a b)];have e:=bF n _ _ a b
 by_cases z:x=y
 ·rw[zL z]at h;rw[e.mpr z];exact h
 ·rw[zK z]at h;have:same x y=false:=by
   cases q:same x y with
   |false=>rfl
   |true=>exact absurd (e.mp q) z
  rw[this];exact h
theorem ltT:∀(n:Nat),n<=4->∀{A:Around}{s:Shared}{v u:Value}{x y:PyData}{as bs:LA}{Q:VP},tT n x=true->tT n y=true->sm x y=true->Reads s.heap v x as->Reads s.heap u y bs->A.units+8+n<cLine->Q (.bool (lx (fl x) (fl y))) s->wpAny (model prog w) A (richCompare .Lt v u) Q E s:=by
 intro n
 induction n with
 |zero =>
  intro a2 A s v u x y as bs Q D C F r1 r2 T h;cases r1 <;> simp[tT]at D;cases r2 <;> simp[tT]at C;refine wpAny_lt_int ?_;simpa [fl,lx,uU]using h
 | succ n U =>
  intro a2 A s v u x y as bs Q D C F r1 r2 T h;cases r1 <;> simp only[tT,Bool.false_eq_true]at D
  case int =>
   cases r2 <;> simp only[sm,Bool.false_eq_true]at F;refine wpAny_lt_int ?_;simpa [fl,lx,uU]using h
  case tuple a o vs m xs hg hc hd hr =>
   cases r2 <;> simp only[sm,Bool.false_eq_true]at F;rename_i b R us b5 ys O S X a7;simp only[tT]at C;have M:s.TypeIs (.ref a) "tuple" := ⟨o,hg,hc⟩;have N:s.TypeIs (.ref b) "tuple" := ⟨R,O,S⟩;refine wpAny_richCompare_same_room (op:=.Lt) M N PySem.F.slot_tuple_lt (xT PySem.F.slot_tuple_lt M PySem.F.entry_tuple_lt ?_ (PySem.F.args_tuple_lt_2 _ _)) ⋯;show wpAny _ _ (isInstance (.ref b) (.type "tuple") >>= _) _ _ s;refine zA (uD N isSubtype_tuple_tuple ?_);simp only[Bool.not_true,Bool.false_eq_true,if_false];refine zA (rT hg hd ?_);refine zA (rT O X ?_);refine zA ?_;refine wpAny_forIn_list _
    (λrest r i=>r.1=none/\i=s/\∃f g j k L J,rest=List.zip j k/\ReadsAll s.heap j f L/\ReadsAll s.heap k g J/\f.all (tT n)=true/\g.all (tT n)=true/\smA f g=true/\lx (flA f) (flA g)=lx (flA xs) (flA ys)/\(j.length+us.size=k.length+vs.size))
    _ ?_ ?_ _ _ ⟨rfl,rfl,xs,ys,vs.toList,us.toList,_,_,rfl,hr,a7,D,C,F,rfl,by simp;omega⟩
   ·rintro⟨p,q⟩ rest r i ⟨K,rfl,f,g,j,k,L,J,l,G,z,t,tb,c,d,I⟩;cases G with
    |nil=>simp at l
    | @cons b3 a8 d' a5 b4 b2 r1 Z =>
     cases z with
     |nil=>simp[smA]at c
     |@cons b7 Y P a0 b1 b6 r2 V =>
      simp only[List.zip_cons_cons,List.cons.injEq,Prod.mk.injEq]at l;obtain⟨⟨rfl,rfl⟩,rfl⟩:=l;rw[xG,zP]at t tb;simp only[smA,Bool.and_eq_true]at c;refine zA (eqT (n:=n) ⋯ t.1 tb.1 r1 r2 (by show A.units+1+8<cLine;omega) ?_)
      by_cases e:d'=P
      ·subst e;rw[zL rfl];simp only[Bool.not_true,Bool.false_eq_true,if_false];refine zB ⟨rfl,rfl,a5,a0,a8,Y,_,_,rfl,Z,V,t.2,tb.2,c.2,?_,by simp at I;omega⟩;rw[←d];simp only[flA];rw[Bf]
      ·rw[zK e];simp only[Bool.not_false,if_true];have W:fl d'≠fl P:=λq=>e (bZ _ _ c.1 q);simp only[flA]at d;rw[Be _ _ _ _ (bY _ _ c.1) W]at d;refine zA (wT ?_);refine zA (U ⋯ t.1 tb.1 c.1 r1 r2 (by show A.units+1+8+n<cLine;omega) ?_);rw[d];exact zA (zB (zB (zB ⟨_,rfl,(λe=>nomatch e),h⟩)))
   ·rintro⟨r1,r2⟩ i ⟨K,rfl,f,g,j,k,L,J,l,G,z,t,tb,c,d,I⟩;simp only at K;subst K;cases G with
    |cons b0 a9 =>
     cases z with
     |nil=>simp[smA]at c
     |cons a3 a4=>simp at l
    | nil =>
     cases z with
     |cons a3 a4=>simp[smA]at c
     |nil =>
      have a1:vs.size=us.size:=by simp at I;omega
      have a6:lx (flA xs) (flA ys)=false:=by rw[←d];simp[flA,lx]
      refine zB ⟨_,rfl,(λe=>nomatch e),?_⟩;show Q (.bool (decide (vs.size<us.size))) i;have h':Q (.bool (lx (flA xs) (flA ys))) i:=h;rw[a6]at h';rw[a1,zK (yW _)];exact h'
end
mutual
theorem He:∀(d x y:PyData),sm d x=true->sm d y=true->sm x y=true
 |.int _,x,y,a,b=>by cases x <;> simp[sm]at a;cases y <;> simp[sm]at b;simp[sm]
 |.tuple xs,x,y,a,b=>by cases x <;> simp[sm]at a;cases y <;> simp[sm]at b;simp only[sm];exact Hd _ _ _ a b
 |.none,x,y,a,b=>by simp[sm]at a
 |.bool _,x,y,a,b=>by simp[sm]at a
 |.str _,x,y,a,b=>by simp[sm]at a
 |.list _,x,y,a,b=>by simp[sm]at a
 |.dict _,x,y,a,b=>by simp[sm]at a
theorem Hd:∀(d x y:List PyData),smA d x=true->smA d y=true->smA x y=true
 |[],x,y,b,a=>by cases x <;> simp[smA]at b;cases y <;> simp[smA]at a;simp[smA]
 |d:: ds,x,y,b,a=>by
  cases x <;> simp[smA]at b;cases y <;> simp[smA]at a;simp only[smA,Bool.and_eq_true];exact⟨He _ _ _ b.1 a.1,Hd _ _ _ b.2 a.2⟩
end
theorem aA(a:LI'):lx a a=false:=zK (List.lt_irrefl a)
theorem Hc(a b c:LI')(d:lx a b=true)(e:lx b c=true):lx a c=true:=zL (List.lt_trans (wN d) (wN e))
theorem Hb(a b:LI')(c:lx a b=false)(d:lx b a=false):a=b:=List.le_antisymm (oH.mp (tX d)) (oH.mp (tX c))
theorem Rb(a b c:LI')(h:lx a c=true):lx a b=true\/lx b c=true:=by
 cases h1:lx a b with
 |true=>exact .inl rfl
 | false =>
  refine .inr ?_;cases h2:lx b c with
  |true=>rfl
  |false =>
   have e1:b<=a:=oH.mp (tX h1);have d:c<=b:=oH.mp (tX h2);exact absurd (wN h) (oH.mpr (List.le_trans d e1))
open Classical in
def keyT(h:Heap)(d0:PyData)(v:Value):Option (LI'):=if q:∃d,tT 4 d=true/\sm d0 d=true/\∃as,Reads h v d as then some (fl q.choose) else none
theorem Ha{h:Heap}{d0 d:PyData}{v:Value}{as:LA}(a:tT 4 d=true)(z:sm d0 d=true)(r:Reads h v d as):keyT h d0 v=some (fl d):=by
 have q:∃d,tT 4 d=true/\sm d0 d=true/\∃as,Reads h v d as:=⟨d,a,z,as,r⟩;unfold keyT;rw[dif_pos q];obtain⟨t',c,e,b⟩:=q.choose_spec;rw[PySem.SeqAt.Reads.unique _ _ _ _ _ (iG 4 _ (gM 4 _ t')).1 b r]
theorem Iz{h:Heap}{d0:PyData}{v:Value}{a:LI'}(e:keyT h d0 v=some a):∃d as,tT 4 d=true/\sm d0 d=true/\Reads h v d as/\a=fl d:=by
 unfold keyT at e
 by_cases q:∃d,tT 4 d=true/\sm d0 d=true/\∃as,Reads h v d as
 ·rw[dif_pos q]at e;obtain⟨t',b,c,f⟩:=q.choose_spec;exact⟨_,c,t',b,f,by cases e;rfl⟩
 ·rw[dif_neg q]at e;cases e
def fQ(h:Heap)(d0:PyData):PyProof.Rows.KeyKind where
 α:=LI'
 blt:=lx
 irrefl:=aA
 trans:=Hc
 negTrans:=Rb
 total:=Hb
 keyOf:=keyT h d0
 dflt:=[]
section
variable {prog:Program} {w:World} {A:Around} {s:Shared}
theorem katT(p:A.units+16<cLine){Q:Bool->Shared->Prop}:∀(c a:List PyData)(j f:LW)(m n:LA)(i:Nat),ReadsAll s.heap j c m->ReadsAll s.heap f a n->c.all (tT 3)=true->a.all (tT 3)=true->smA c a=true->Q (lx (flA c) (flA a)) s->PySem.W.KatLex prog w A false false Q (j.zip f) i s
 | [],a,j,f,m,n,i,k,l,_,_,b,h=>by
  cases k;cases a with
  |cons _ _=>simp[smA]at b
  |nil =>
   cases l;refine PySem.W.kat_nil ?_;simpa [flA,lx]using h
 | d :: c,a,j,f,m,n,i,k,l,g,tb,b,h=>by
  cases a with
  |nil=>simp[smA]at b
  | cons e a =>
   cases k with
   | cons r1 o =>
    cases l with
    |cons r2 r =>
     rw[xG,zP]at g tb;simp only[smA,Bool.and_eq_true]at b;rw[rZ];refine PySem.W.kat_cons (eqT (n:=3) ⋯ g.1 tb.1 r1 r2 ⋯ ?_);simp only[flA]at h
     by_cases z:d=e
     ·subst z;rw[zL rfl];rw[Bf]at h;exact PySem.W.kat_yes (katT p c a _ _ _ _ (i+1) o r g.2 tb.2 b.2 h)
     ·rw[zK z];rw[Be _ _ _ _ (bY _ _ b.1) λq=>z (bZ _ _ b.1 q)]at h;refine PySem.W.kat_no ?_;show wpAny (model prog w) A (oneLt' false _ _) Q _ s;exact PySem.W.kat_one _ _ (ltT 3 ⋯ g.1 tb.1 b.1 r1 r2 ⋯ h)
theorem cmpT(v:A.units+16<cLine){d0:PyData}(f:∃l,d0=.tuple l):Cmp prog w A s (fQ s.heap d0) (tuples' false):=by
 intro E x y a b Q q u h;obtain⟨l,rfl⟩:=f;obtain⟨d,as,n,i,r1,rfl⟩:=Iz q;obtain⟨e,bs,g,j,r2,rfl⟩:=Iz u;have z:=He _ _ _ i j;cases r1 <;> simp only[sm,Bool.false_eq_true]at i
 case tuple a o vs m xs hg hc f hr =>
  cases r2 <;> simp only[sm,Bool.false_eq_true]at j;rename_i b D us F ys t G C k;simp only[tT]at n g;simp only[sm]at z;have hl:vs.size=us.size:=by
   have e1:∀{h:Heap}{vs:LW}{xs:List PyData}{as:LA},ReadsAll h vs xs as->vs.length=xs.length:=by
    intro h vs xs as r
    induction xs generalizing vs as with
    |nil=>cases r;rfl
    |cons x xs c=>cases r with|cons r1 r2=>simp[c r2]
   have p:∀{xs ys:List PyData},smA xs ys=true->xs.length=ys.length:=by
    intro xs
    induction xs with
    |nil=>intro ys h;cases ys <;> simp[smA]at h;rfl
    |cons x xs c=>intro ys h;cases ys <;> simp[smA]at h;simp[c h.2]
   have:=e1 hr;have:=e1 k;have:=p z;simp only[Array.length_toList]at*
   omega
  refine PySem.W.kat_lt hg f t C ?_;rw[zK ⋯];exact katT v xs ys _ _ _ _ 0 hr k n g z h
end
theorem Bd{h h':Heap}(f:∀b o,h.get? b=some o->o.cls=.type "tuple" -> h'.get? b=some o):∀(n:Nat){v:Value}{d:PyData}{as:LA},tT n d=true->Reads h v d as->Reads h' v d as:=by
 intro n
 induction n with
 |zero =>
  intro v d as c r;cases r <;> simp[tT]at c;exact .int _ _
 | succ n e =>
  have all:∀(xs:List PyData)(vs:LW)(as:LA),xs.all (tT n)=true->ReadsAll h vs xs as->ReadsAll h' vs xs as:=by
   intro xs
   induction xs with
   |nil=>intro vs as _ r;cases r;exact .nil
   | cons d ds g =>
    intro vs as c r;cases r with
    |cons r1 r2 =>
     rw[xG,zP]at c;exact .cons (e c.1 r1) (g _ _ c.2 r2)
  intro v d as c r;cases r <;> simp only[tT,Bool.false_eq_true]at c
  case int=>exact .int _ _
  case tuple a o vs k xs hg hc hdd hr=>exact .tuple (f _ _ hg hc) hc hdd (all _ _ _ c hr)
theorem Paired.perm{i g:Type}{F:i->g->Prop}{ys f:List g}(p:ys.Perm f):∀{xs:List i},Paired F xs ys->∃e,e.Perm xs/\Paired F e f:=by
 induction p with
 |nil=>intro xs h;exact⟨xs,List.Perm.refl _,h⟩
 | cons x p j =>
  intro xs h;cases h with
  |@cons a b l1 l2 c d =>
   obtain⟨e,k,h'⟩:=j d;exact⟨a:: e,k.cons _,.cons c h'⟩
 | swap x y l =>
  intro xs h;cases h with
  |@cons a b l1 l2 c d =>
   cases d with
   |@cons t I r z w m=>exact⟨t:: a:: r,List.Perm.swap ..,.cons w (.cons c m)⟩
 |trans C G o v =>
  intro xs h;obtain⟨D,u,c⟩:=o h;obtain⟨q,n,d⟩:=v c;exact⟨q,n.trans u,d⟩
theorem Paired.mem{c b:Type}{F:c->b->Prop}{xs:List c}{ys:List b}(h:Paired F xs ys):∀x∈xs,∃y∈ys,F x y:=by
 induction h with
 |nil=>intro x a;cases a
 |cons f i d =>
  intro x a;rcases xC.mp a with e|a
  ·subst e;exact⟨_,.head _,f⟩
  ·obtain⟨y,g,q⟩:=d x a;exact⟨y,.tail _ g,q⟩
theorem ord_of{κ:PyProof.Rows.KeyKind}{d:Type}{F:d->Value->Prop}{k:d->κ.α}(a:∀p v,F p v->κ.keyOf v=some (k p)):∀(L:List Keyed)(ps:List d),(∀e∈L,e.1=e.2)->L.Pairwise (le' κ)->Paired F ps (L.map (·.2))->ps.Pairwise λp q=>κ.blt (k q) (k p)=false
 |[],ps,_,_,h=>by cases h;exact .nil
 | e:: L,ps,c,f,h=>by
  cases h with
  |@cons p b l1 l2 r g =>
   rw[pZ]at f;refine .cons (λq o=>?_) (ord_of a L l1 (λx n=>c x (.tail _ n)) f.2 g);obtain⟨v,m,t⟩:=Paired.mem g q o;obtain⟨y,j,rfl⟩:=oA.mp m;have l:=f.1 y j;have k1:ky κ e=k p:=by unfold ky;rw[c e (.head _),a _ _ r];rfl
   have k2:ky κ y=k q:=by unfold ky;rw[c y (.tail _ j),a _ _ t];rfl
   have i:κ.blt (ky κ y) (ky κ e)=false:=l;rw[k1,k2]at i;exact i
structure TV(K:Frag)(H:Hp)(d0:PyData)(p:V×PyData)(v:Value):Prop where
 r:RelV p.1 v
 t:tT 4 p.2=true
 z:sm d0 p.2=true
 d:Dt K H p.1 p.2
theorem TV.vals{K:Frag}{H:Hp}{d0:PyData}{ps:List (V×PyData)}{vs:LW}(h:Paired (TV K H d0) ps vs):Vals (ps.map (·.1)) vs:=by
 induction h with
 |nil=>exact .nil
 |cons a _ b=>exact .cons a.r b
theorem Bc:∀{vs:LW}{e:Keyed},e∈vs.zip vs->e.1=e.2
 |[],e,h=>by cases h
 |v:: vs,e,h=>by
  rw[rZ]at h;rcases xC.mp h with h|h
  ·rw[h]
  ·exact Bc h
theorem lC{a b:Type}{F:a->b->Prop}{xs:List a}{ys:List b}(h:Paired F xs ys):xs.length=ys.length:=by
 induction h with
 |nil=>rfl
 |cons _ _ c=>simp[c]
theorem Bb{c b:Type}{F:c->b->Prop}{xs:List c}{ys:List b}(h:Paired F xs ys):∀y∈ys,∃x∈xs,F x y:=by
 induction h with
 |nil=>intro x a;cases a
 |cons f i d =>
  intro x a;rcases xC.mp a with e|a
  ·subst e;exact⟨_,.head _,f⟩
  ·obtain⟨y,g,q⟩:=d x a;exact⟨y,.tail _ g,q⟩
theorem Ra{l:List Keyed}{n:Nat}(h:l.length=n):seg l 0 n=l:=by
 unfold seg;rw[List.drop_zero,Nat.sub_zero,yT ⋯]
section
variable {X:Cx} {pins:PN} {σ:St} {H:Hp} {s:Shared} {a:Addr} {A:Around} {E:VP} {vs:LW} {ps:List (V×PyData)} {n0:Nat} {R:VP} {d0:PyData} {l0 l1:List PyData}
theorem Sz(c2:dD X.prog X.w vs.length)(a9:A.units+16<cLine)(I:Inv X pins σ H s)(c0:FpOk X pins H a)(t:s.heap.get? a=some (seqObj "list" vs.toArray n0))(T:vs.length<=sizeLine)(a4:d0=.tuple (.tuple l1:: l0))(C:Paired (TV X.K H d0) ps vs)
  (h:∀(ps':List (V×PyData)) H' D,Inv X pins σ H' D->Same H H'->H' a=some (.lst (ps'.map (·.1)))->ps'.Perm ps->ps'.Pairwise (λp q=>lx (fl q.2) (fl p.2)=false)->R .none D):
  wpAny (model X.prog X.w) A (Builtin.«list.sort» ⟨[.ref a],[]⟩) (λL D=>∃v,L=.done (.ret v)/\R v D) E s:=by
 obtain⟨P,N,c9,Y,a0,a1⟩:=c0;rw[list_sort_plain];have d2:a<s.heap.objs.size:=zI t;refine zA (listItems_at t rfl ?_);refine zA (listUpdate_at t rfl ?_ (by rw[zV];exact T) (yA _));obtain⟨e1,a3⟩:∃e1,(s.heap.update a (Obj.mapSeq λ_=>(#[]:Array Value))).get? a=some (seqObj "list" #[] e1):=⟨_,get?_update_seq t (λ_=>#[])⟩;have b3:=vE s.heap a (Obj.mapSeq λ_=>(#[]:Array Value));have c1:Inv X pins σ H {s with heap:=s.heap.update a (Obj.mapSeq λ_=>(#[]:Array Value)),toks:=s.toks}:=I.turned (λb o j q=>(b3.2 b j).trans q) P N Y a0 a1;refine zA (seqEpoch_at a3 rfl ?_);refine zA (pI ?_ T);refine zA (wpAny_newList ?_ (yA _));refine yU ?_;have J:(((s.heap.update a (Obj.mapSeq λ_=>(#[]:Array Value))).push (seqObj "tuple" vs.toArray 0)).push (seqObj "list" #[] 0)).get? a=some (seqObj "list" #[] e1):=zC _ (zC _ a3);have y:Inv X pins σ H {s with heap:=((s.heap.update a (Obj.mapSeq λ_=>(#[]:Array Value))).push (seqObj "tuple" vs.toArray 0)).push (seqObj "list" #[] 0),toks:=s.toks}:=c1.kept λb o q=>zC _ (zC _ q);show wpAny (model X.prog X.w) A _ _ E {s with heap:=((s.heap.update a (Obj.mapSeq λ_=>(#[]:Array Value))).push (seqObj "tuple" vs.toArray 0)).push (seqObj "list" #[] 0),toks:=s.toks};generalize ((s.heap.update a (Obj.mapSeq λ_=>(#[]:Array Value))).push (seqObj "tuple" vs.toArray 0)).push (seqObj "list" #[] 0)=f at*
 dsimp only;have L:∀d:SortSt,(arrOf d).Perm (pairsOf vs)->Srt (fQ f d0) (arrOf d).toList->R .none {s with heap:=f.update a (Obj.mapSeq λ_=>(arrOf d).map (·.2))}:=by
  intro d K b5;have pl:(arrOf d).toList.Perm (vs.zip vs):=by rw[←pairsOf_toList];exact Array.perm_iff_toList_perm.mp K
  have W:∀e∈(arrOf d).toList,e.1=e.2:=λe W=>Bc (pl.mem_iff.mp W);have c6:vs.Perm ((arrOf d).toList.map (·.2)):=by
   have:=(pl.map (·.2)).symm;rw[List.map_snd_zip (zE _)]at this;exact this
  obtain⟨ps',Z,a2⟩:=Paired.perm c6 C;have a8:∀p v,TV X.K H d0 p v->(fQ f d0).keyOf v=some (fl p.2):=λp v g=>by
   obtain⟨as,r⟩:=g.d.reads y g.r;exact Ha g.t g.z r
  have a5:=ord_of (κ:=fQ f d0) (k:=λp:V×PyData=>fl p.2) a8 _ ps' W b5 a2;have a7:((arrOf d).map (·.2)).toList=(arrOf d).toList.map (·.2):=Array.toList_map ..;generalize (arrOf d).map (·.2)=out at*
  have F:=vE f a (Obj.mapSeq λ_=>out);obtain⟨U,O⟩:∃U,(f.update a (Obj.mapSeq λ_=>out)).get? a=some (seqObj "list" (out) U):=⟨_,get?_update_seq J λ_=>out⟩;generalize f.update a (Obj.mapSeq λ_=>out)=b1 at*
  refine h ps' (upd H a (.lst (ps'.map (·.1)))) _ ?_ ?_ oS Z a5
  ·have w:∀b u,H b=some u->b≠a:=λb u e z=>by rw[z,P]at e;cases e
   refine Inv.step (s:={s with heap:=f,toks:=s.toks}) (h':=b1) (H':=upd H a (.lst (ps'.map (·.1)))) (I:=y) (g':=s.gens) (d':=s.drawn) (t':=s.toks) (ch:=[a]) (λb j=>?_) (λb o _ _ i e _=>(F.2 b (λz=>i (by simp[z]))).trans e) (λb o _ _ i e _=>⟨o.slots,(F.2 b (λz=>i (by simp[z]))).trans e⟩)
    (λb o i e q=>by rw[oV (λz=>i (by simp[z]))];exact q) (λb o i e=>⟨o,(F.2 b (λz=>i (by simp[z]))).trans e⟩) (λb xs e=>by rw[oV (w _ _ e)];exact e) (λb o u e=>by rw[oV (w _ _ e)];exact e)
    (λb ps e=>⟨#[],by rw[oV (w _ _ e),e];simp⟩) (λm S=>?_) (λb u e=>?_) y.bare
   ·have e:b=a:=by simpa using j
    subst e;exact⟨Y,N,a0,a1⟩
   ·obtain⟨o,es,ep,t,r⟩:=S;exact⟨o,es,ep,(F.2 _ (zZ N)).trans t,r⟩
   ·by_cases j:b=a
    ·subst j;rw[oS]at e;cases e;refine⟨?_,(arrOf d).toList.map (·.2),U,TV.vals a2,by rw[O,←a7]⟩;rw[yP,Z.length_eq,lC C];exact T
    ·rw[oV j]at e;refine(y.hok b u e).stay (λc v i q=>(F.2 c ?_).trans q) (λc q=>by rw[oV (w _ _ q)];exact q) λc xs q=>by rw[oV (w _ _ q)];exact q
     rcases i with z|z
     ·rw[z];exact j
     ·exact w c _ z
  ·intro b u q;rw[oV (λz=>by rw[z,P]at q;cases q)];exact q
 have hsz:vs.toArray.size=vs.length:=by simp
 by_cases n:vs.toArray.size<2
 ·rw[zF n,zF n];refine zA (zB ?_);rw[StateT.run_pure];refine zA (zB ?_);dsimp only;refine zA (seqEpoch_at J rfl ?_);refine zA (listUpdate_at J rfl ?_ (yA _) (by rw[Array.size_map];show(pairsOf vs).size<=_;rw[pairsOf_size];omega));simp only[bne_self_eq_false,Bool.false_eq_true,if_false];refine zB ⟨_,rfl,L (SortSt.mk' general' (vs.toArray.zip vs.toArray) #[] 7 none) (Array.Perm.refl _) ?_⟩;show Srt _ (pairsOf vs).toList;rw[pairsOf_toList]
  match vs,hsz,n with
  |[],_,_=>exact .nil
  |[_],_,_=>exact .cons (λ_ h=>nomatch h) .nil
  |_:: _:: _,_,n=>simp at n;omega
 ·rw [zD n,zD n];have c7:∀{ps:List (V×PyData)}{vs:LW},Paired (TV X.K H d0) ps vs->∃fs,PySem.W.KatTups f vs fs/\fs.length=vs.length/\∀v∈fs,∃b o,v=.ref b/\f.get? b=some o/\o.cls=.type "tuple" := by
   intro ps vs C
   induction C with
   |nil=>exact⟨[],PySem.W.KatTups.nil,rfl,λ_ h=>nomatch h⟩
   | @cons p v ps vs g _ b6 =>
    obtain⟨fs,k,l,b0⟩:=b6;obtain⟨as,r⟩:=g.d.reads y g.r;have z:=g.z;rw[a4]at z;generalize p.2=dd at*
    cases r <;> simp only[sm,Bool.false_eq_true]at z
    case tuple b o us m xs hg i hd hr =>
     cases xs with
     |nil=>simp[smA]at z
     | cons x xs =>
      simp only[smA,Bool.and_eq_true]at z;cases hr0:us.toList with
      |nil=>rw[hr0]at hr;cases hr
      | cons u c8 =>
       rw[hr0]at hr;cases hr with
       | cons r1 r2 =>
        have b7:=z.1;cases r1 <;> simp only[sm,Bool.false_eq_true]at b7
        case tuple b2 o2 us2 m2 xs2 hg2 O hd2 hr2 =>
         refine⟨.ref b2:: fs,PySem.W.KatTups.cons hg i hd ?_ k,by simp[l],λv G=>?_⟩
         ·rw[←yM,hr0];rfl
         ·rcases xC.mp G with e|G
          ·exact⟨b2,o2,e,hg2,O⟩
          ·exact b0 v G
  obtain⟨fs,c3,d1,b4⟩:=c7 C;refine zA (PySem.W.kat_kind (s:={s with heap:=f,toks:=s.toks}) (T:=.type "tuple") c3 ⋯ (λv G=>?_) rfl ?_)
  ·obtain⟨b,o,rfl,j,i⟩:=b4 v G;exactλA Q E s k q=>uV (T:= "tuple") ⟨o,k _ _ j,i⟩ q
  have c4:(Value.type "tuple" != Value.type "tuple")=false:=∅
  rw[c4];refine zA (yI (c2 (κ:=fQ f d0) (kd:=tuples' false) (a₀:=pairsOf vs) (st:=SortSt.mk' (tuples' false) (vs.toArray.zip vs.toArray) #[] 7 none)
   (Q:=λ_ d=>(arrOf d).Perm (pairsOf vs)/\failedOf d=none/\Up (fQ f d0) (arrOf d) 0 (pairsOf vs).size) (pairsOf_size _) ⋯ (cmpT (s:={s with heap:=f,toks:=s.toks}) a9 ⟨_,a4⟩) (λx M=>?_) rfl rfl rfl rfl λd _ a6 c5 b8=>⟨c5,a6,b8⟩) ?_ λ_ _ e=>e)
  ·rw[pairsOf_toList]at M;have e:=Bc M;have S:x.2∈vs:=(tN (a:=x.1) (b:=x.2) M).2;obtain⟨p,_,g⟩:=Bb C x.2 S;obtain⟨as,r⟩:=g.d.reads y g.r;exact⟨fl p.2,by rw[e];exact Ha g.t g.z r⟩
  rintro⟨⟨⟩,d⟩ D ⟨rfl,K,b9,up⟩;dsimp only;refine zA (seqEpoch_at J rfl ?_);refine zA (listUpdate_at J rfl ?_ (yA _) (by refine yC (qU ((Array.size_map ..).trans (K.size_eq.trans (pairsOf_size _)))) ?_;omega));rw[b9];simp only[bne_self_eq_false,Bool.false_eq_true,if_false];refine zB ⟨_,rfl,L d K ?_⟩;have:=Bi up
  rwa[Ra (by rw[zM];exact K.size_eq)]at this
end
abbrev Asc(ps:List (V×PyData)):Prop:=ps.Pairwise λp q=>lx (fl q.2) (fl p.2)=false
section
variable {X:Cx} {pins:PN} {σ:St} {H:Hp} {s:Shared} {d0:PyData} {l0 l1:List PyData}
theorem Sy{N:Nat}(m:∀n,n<=N->dD X.prog X.w n)(x:X.A.units+64<cLine){ps:List (V×PyData)}{its:LW}{v:Value}{Q:VK}(d:its.length<=sizeLine)(j:its.length<=N)(r:d0=.tuple (.tuple l1:: l0))(t:Paired (TV X.K H d0) ps its)
  (l:∀(g:LW->Shared->Prop)(w:VP),(∀a,Inv X pins σ H a->g its a)->wpAny (model X.prog X.w) X.A.in1 (collect v) g w s)
  (h:∀q(ps':List (V×PyData)) H',Same H H'->H q=none->H' q=some (.lst (ps'.map (·.1)))->ps'.Perm ps->Asc ps'->Q (.ref q) H'):
  wpAny (model X.prog X.w) X.A (call (.builtin "sorted") [v]) (EP X pins σ Q) X.xe s:=by
 refine Calls.call_function_entry kind_sorted plain_sorted entry_sorted (args_sorted1 _) ?_;unfold Builtin.«sorted»;refine zA (m:=checkCount "sorted" 1 1 _) (zB ?_);refine zA (l _ _ λa I=>?_);refine zA (wpAny_newList ?_ d);have f:(a.heap.push (seqObj "list" its.toArray 0)).get? a.heap.objs.size=some (seqObj "list" its.toArray 0):=zR _ rfl;have c:H a.heap.objs.size=none:=I.hok.fresh (zE _);have i:=I.fpOk (zE _) c;have u:Inv X pins σ H {a with heap:=a.heap.push (seqObj "list" its.toArray 0),toks:=a.toks}:=I.kept λb o q=>zC _ q;refine zA (yU (xT slot_list_sort ⟨_,f,rfl⟩ entry_list_sort ?body (args_list_sort _)));show wpAny (model X.prog X.w) X.A.in1.in1 (Builtin.«list.sort» ⟨[.ref a.heap.objs.size],[]⟩) _ _ {a with heap:=a.heap.push (seqObj "list" its.toArray 0),toks:=a.toks};refine Sz (m _ j) (A:=X.A.in1.in1) (by show X.A.units+1+1+16<cLine;omega) u i f d r t λps' H' y k sm e p o=>?_;exact zB ⟨_,rfl,.ref a.heap.objs.size,H',k,rfl,h _ ps' H' sm c e p o⟩
end
def RawD(h:Heap)(d:Addr)(es:Array DictEntry)(ep:Nat):Prop:=∃o,h.get? d=some o/\o.ExactDict/\o.data=.dict es ep
theorem RawD.at{h h':Heap}{d:Addr}{es:Array DictEntry}{ep:Nat}(x:RawD h d es ep)(e:∀o,h.get? d=some o->h'.get? d=some o):RawD h' d es ep:=let ⟨o,a,r⟩:=x;⟨o,e _ a,r⟩
section
variable {prog:Program} {w:World} {A:Around} {E:VP} {s:Shared} {d it:Addr} {es:Array DictEntry} {ep i:Nat}
theorem RawD.typeIs(x:RawD s.heap d es ep):s.TypeIs (.ref d) "dict" := let ⟨o,b,a,_⟩:=x;⟨o,b,a.1⟩
theorem Sx{Q:VP}(g:(d == sysModules)=false)(c:RawD s.heap d es ep)
  (f:Q (.ref s.heap.objs.size) {s with heap:=s.heap.push {cls:=.type "dict_keyiterator",data:=.fields #[.ref d,.int 0 0,.int es.size 0,.int ep 0]}}):wpAny (model prog w) A (pyIter (.ref d)) Q E s:=by
 obtain⟨o,e,j,b⟩:=id c;have a:=c.typeIs;refine wpAny_pyIter_slot a PySem.F.slot_dict_iter (xT PySem.F.slot_dict_iter a PySem.F.entry_dict_iter ?_ (PySem.F.args_dict_iter_1 _));unfold Builtin.«dict.__iter__»;refine zA ?_;unfold Builtin.Dict.dictSlotNone;refine zA (wpAny_notOrdered_dict a ?_);show wpAny _ _ (pure (Value.ref d)) _ _ s;refine zB ?_;show wpAny _ _ (Builtin.Dict.showsAll d >>= _) _ _ s;unfold Builtin.Dict.showsAll;rw[zD (by rw[g];exact zQ)];refine zA (zB ?_);refine zA (qO e b ?_);refine zA (qZ e b ?_);exact zA (xD (zB ⟨_,rfl,"dict_keyiterator",_,⟨_,zR _ rfl,rfl⟩,PySem.F.slot_dict_keyiterator_next.lookup,f⟩))
theorem Sw{Q:Option Value->Shared->Prop}(a:s.heap.IsKeyIter it d i es.size ep)(l:RawD s.heap d es ep)(hi:i<es.size)
  (j:∀h',h'.IsKeyIter it d (i+1) es.size ep->Heap.SameBut it s.heap h'->Q (some es[i].key) {s with heap:=h'}):wpAny (model prog w) A (pyNext (.ref it)) Q E s:=by
 obtain⟨o,c,m,b⟩:=id a;obtain⟨od,f,n,e⟩:=id l;unfold pyNext;refine zA (vB (xZ (name:=Str.ofString "__next__") a.typeIs wM
  (xT wM a.typeIs PySem.F.entry_dict_keyiterator_next ?_ (PySem.F.args_dict_keyiterator_next_1 _))))
 refine zA (zB ?_);refine zA ?_;refine zA ?_
 first|refine zA (vC a.typeIs (zB ?_))|refine zA (uG a.typeIs (zB ?_))
 refine zA (wpAny_fieldsOf c b ?_);have k:Builtin.Dict_items.ownsTuple "dict_keyiterator"=false:=∅
 simp only[k,Bool.false_eq_true,if_false];show wpAny _ _ (if(Value.ref d == Value.none)=true then _ else _) _ _ s;rw[zD (show¬ ((Value.ref d == Value.none)=true) from zQ)];refine zA (zB ?_);refine zA (qO f e ?_);rw[zD (by simp)];refine zA (zB ?_);refine zA (qZ f e ?_);rw[zD (by simp)];refine zB ?_;simp only[show¬ ((i:Int)<0) from⋯,if_false,Int.toNat_natCast,Array.getElem?_eq_getElem hi];refine zA ?_
 first|refine zA (vC a.typeIs (zB ?_))|refine zA (uG a.typeIs (zB ?_))
 refine zA (wpAny_isOneOf_keyiter a.typeIs ?_);show wpAny _ _ (setField (.ref it) 1 (rawInt ((i:Int)+1)) >>= _) _ _ s;refine zA (vG c b (by simp) ?_);have g:(s.heap.update it (Obj.mapFields (·.setIfInBounds 1 (rawInt ((i:Int)+1))))).IsKeyIter it d (i+1) es.size ep:=
  ⟨_,yX _ c (uW (wW b _)),(qJ ..).trans m,by rw[wW b];simp[rawInt]⟩
 refine zA (yU ?_);refine zA (wpAny_isOneOf_keyiter (s:={s with heap:=s.heap.update it (Obj.mapFields (·.setIfInBounds 1 (rawInt ((i:Int)+1))))}) g.typeIs ?_);show wpAny _ _ (pure es[i].key) _ _ _;exact zB (zB ⟨_,rfl,zB (j _ g (vE ..))⟩)
theorem Sv{Q:Option Value->Shared->Prop}(hh:A.handled=none)(a:s.heap.IsKeyIter it d es.size es.size ep)(k:RawD s.heap d es ep)
  (g:∀h',Heap.ExtBut it s.heap h'->Q none {s with heap:=h'}):wpAny (model prog w) A (pyNext (.ref it)) Q E s:=by
 obtain⟨o,f,l,c⟩:=id a;obtain⟨od,e,m,b⟩:=id k;unfold pyNext;refine zA (vB (xZ (name:=Str.ofString "__next__") a.typeIs wM
  (xT wM a.typeIs PySem.F.entry_dict_keyiterator_next ?_ (PySem.F.args_dict_keyiterator_next_1 _))))
 refine zA (zB ?_);refine zA ?_;refine zA ?_
 first|refine zA (vC a.typeIs (zB ?_))|refine zA (uG a.typeIs (zB ?_))
 refine zA (wpAny_fieldsOf f c ?_);have j:Builtin.Dict_items.ownsTuple "dict_keyiterator"=false:=∅
 simp only[j,Bool.false_eq_true,if_false];show wpAny _ _ (if(Value.ref d == Value.none)=true then _ else _) _ _ s;rw[zD (show¬ ((Value.ref d == Value.none)=true) from zQ)];refine zA (zB ?_);refine zA (qO e b ?_);rw[zD (by simp)];refine zA (zB ?_);refine zA (qZ e b ?_);rw[zD (by simp)];refine zB ?_;simp only[show¬ ((es.size:Int)<0) from⋯,if_false,Int.toNat_natCast,Array.getElem?_eq_none (Nat.le_refl _)];refine zA ?_
 first|refine zA (vC a.typeIs (zB ?_))|refine zA (uG a.typeIs (zB ?_))
 show wpAny _ _ (setField (.ref it) 0 .none >>= _) _ _ s;refine zA (vG f c (by simp) ?_);show wpAny _ _ (newExc (.type "StopIteration") [] >>= _) _ _ _;refine zA ?_;simp only[newExc,newTuple];refine zA (xD ?_ (by size_fits));refine zA (m:=firstArgMember _ _) (wpAny_of_eq (a:=Value.none) (by first|rfl|(simp only[firstArgMember];rfl)) ?_);refine xD ?_ (by size_fits);simp only[raiseNew];refine zA (wpAny_handled ?_);rw[show A.in1.handled=none from hh];refine zA (zB (wpAny_throw ?_));refine zA (uD (T:= "StopIteration") (b:=true) ⟨_,zR _ rfl,rfl⟩ pJ ?_);exact zB (g _ (((vE ..).extBut.push _).push _))
theorem Su(hh:A.handled=none)(I d:Addr)(k:d≠I)(es:Array DictEntry)(ep:Nat):
  Walks prog w A I [I,d] [I] es.size (λi v=>(es[i]?).map (·.key)=some v) (λi h=>h.IsKeyIter I d i es.size ep/\RawD h d es ep) where
 sub:=λb a=>by simp at a;simp[a]
 frame:=λ_ _ _ st f=>⟨st.1.at λo e=>f I (by simp) o e,st.2.at λo e=>f d (by simp) o e⟩
 item:=λi s Q E hi st c=>by
  refine Sw st.1 st.2 hi λh' l g=>?_;exact c _ h' s.toks (by simp[hi]) ⟨l,st.2.at λo e=>(g.2 d k).trans e⟩ λb o a e=>(g.2 b (λh=>a (by simp[h]))).trans e
 done:=λs Q E st c=>Sv hh st.1 st.2 λh' j=>c h' s.toks λb o a e=>j b o (λh=>a (by simp[h])) e
 self:=λ_ _ _ _ st c=>wpAny_pyIter_keyiter st.1 c
theorem Ss:typeLookup (.type "dict") "__len__"=pure (some (.builtin "dict.__len__")):=PySem.F.slot_dict_len.lookup
theorem Sr{Q:LW->Shared->Prop}(hh:A.handled=none)(J:(d == sysModules)=false)(c:RawD s.heap d es ep)(N:es.size<=sizeLine)
  (h:∀h' tk,(∀b o,s.heap.get? b=some o->h'.get? b=some o)->Q (es.toList.map (·.key)) {s with heap:=h',toks:=tk}):wpAny (model prog w) A (collect (.ref d)) Q E s:=by
 obtain⟨o,K,Y,W⟩:=id c;have u:@LT.lt Nat _ d s.heap.objs.size:=zI K;unfold collect;refine zA (wpAny_runValue (tR PySem.F.entry_proto_collect ?_));rw[tG PySem.F.plain_proto_collect _];show wpAny _ A.in1 (newList [] >>= λl=>again (.builtin "list.__iadd__" ⟨[l,.ref d],[]⟩)) _ _ s;refine zA (xD ?_);refine zB ⟨qH PySem.F.plain_list_iadd _,tR PySem.F.entry_list_iadd ?_⟩;rw[tG PySem.F.plain_list_iadd _];have S:(s.heap.push {cls:=.type "list",data:=.seq ([]:LW).toArray}).get? s.heap.objs.size=some {cls:=.type "list",data:=.seq ([]:LW).toArray}:=zR _ rfl;have r:RawD (s.heap.push {cls:=.type "list",data:=.seq ([]:LW).toArray}) d es ep:=c.at λo e=>zC _ e;have k1:∀b o,s.heap.get? b=some o->(s.heap.push {cls:=.type "list",data:=.seq ([]:LW).toArray}).get? b=some o:=λb o e=>zC _ e;have t:(s.heap.push {cls:=.type "list",data:=.seq ([]:LW).toArray}).objs.size=s.heap.objs.size+1:=size_push' _ _;show wpAny _ A.in1 (Builtin.List.listExtendWith (.ref s.heap.objs.size) (.ref d) (.ref s.heap.objs.size)) _ _ {s with heap:=s.heap.push {cls:=.type "list",data:=.seq ([]:LW).toArray}};generalize s.heap.push {cls:=.type "list",data:=.seq ([]:LW).toArray}=a at*
 unfold Builtin.List.listExtendWith;refine zA (uV (s:={s with heap:=a}) (T:= "dict") (RawD.typeIs (s:={s with heap:=a}) r) ?_);have e1:Builtin.List.listSameRef (.ref s.heap.objs.size) (.ref d)=false:=by simp only[Builtin.List.listSameRef,beq_eq_false_iff_ne];exact zZ (zX u)
 rw[zD (by rw[e1];decide)];refine zA (Sx (s:={s with heap:=a}) J r ?_);have n:RawD (a.push {cls:=.type "dict_keyiterator",data:=.fields #[.ref d,.int 0 0,.int es.size 0,.int ep 0]}) d es ep:=r.at λo e=>zC _ e;have L:(a.push {cls:=.type "dict_keyiterator",data:=.fields #[.ref d,.int 0 0,.int es.size 0,.int ep 0]}).IsKeyIter a.objs.size d 0 es.size ep:=⟨_,zR _ rfl,rfl,rfl⟩;have x:(a.push {cls:=.type "dict_keyiterator",data:=.fields #[.ref d,.int 0 0,.int es.size 0,.int ep 0]}).get? s.heap.objs.size=_:=zC _ S;have k2:∀b o,a.get? b=some o->(a.push {cls:=.type "dict_keyiterator",data:=.fields #[.ref d,.int 0 0,.int es.size 0,.int ep 0]}).get? b=some o:=λb o e=>zC _ e;generalize a.push {cls:=.type "dict_keyiterator",data:=.fields #[.ref d,.int 0 0,.int es.size 0,.int ep 0]}=f at*
 refine zA (yU ?_);unfold Builtin.List.listLengthHint;refine zA (wpAny_specialOf (s:={s with heap:=f}) (RawD.typeIs (s:={s with heap:=f}) n) Ss ?_);generalize hid:("dict.__len__" :String)=D
 (fail_if_success (clear hid D))
 wp_delta
 rw[show splitId D=some ("dict","__len__") from by subst hid;decide +kernel];subst hid;refine zA (uD (b:=true) (RawD.typeIs (s:={s with heap:=f}) n) (by rw[isSubtype_type];kernel_rfl) ?_);refine zA (uV (s:={s with heap:=f}) (T:= "dict") (RawD.typeIs (s:={s with heap:=f}) n) ?_);refine zB ?_;rw[zF ∅];refine zA (wT ?_);refine zA ?_;show wpAny _ A.in1 (updateSeq s.heap.objs.size (·.push .none) >>= λ_=>updateSeq s.heap.objs.size (·.pop)) _ _ _;refine zA (wpAny_updateSeq x rfl ?_);have y:=yX (Obj.mapSeq (·.push Value.none)) x rfl;refine wpAny_updateSeq y rfl ?_;have R:=yX (Obj.mapSeq (·.pop)) y rfl;have M:d≠a.objs.size:=zX (by rw[t];exact qN u);have C:s.heap.objs.size≠a.objs.size:=by rw[t];exact zX (uE _)
 have F:s.heap.objs.size≠d:=zZ (zX u);have q:∀b o,b≠s.heap.objs.size->f.get? b=some o->((f.update s.heap.objs.size (Obj.mapSeq (·.push Value.none))).update s.heap.objs.size (Obj.mapSeq (·.pop))).get? b=some o:=
  λb o m e=>(xK _ _ (zZ m)).trans ((xK _ _ (zZ m)).trans e)
 have O:=(Su (prog:=prog) (w:=w) (A:=A.in1) hh a.objs.size d M es ep).toS;refine zB ⟨qH PySem.F.plain_extend_loop _,codeAny_extend_loopS O N s.heap.objs.size (λc=>by rcases xC.mp c with z|z;exact C z;exact F (rW.mp z)) _ es.size 0 _ _ _ rfl (yA _)
  ⟨L.at λo e=>q _ _ (zZ C) e,n.at λo e=>q _ _ (zZ F) e⟩ R (ItemsOf.nil _) λk p X c V G=>?_⟩
 show wpAny _ A (load s.heap.objs.size >>= _) _ _ k;refine zA (wpAny_load V ?_);have U:p.toList=es.toList.map (·.key):=by
  refine List.ext_getElem? ?_
  intro j;rw[zO,yM,yM];cases hj:p[j]? with
  |some v=>exact(G.2 j v hj).symm
  |none =>
   have:p.size<=j:=Array.getElem?_eq_none_iff.mp hj;rw[Array.getElem?_eq_none (by rw[←G.1];exact this)];rfl
 show wpAny _ _ (pure p.toList) Q E k;rw[U];have P:k={s with heap:=k.heap,toks:=k.toks}:=by
  obtain⟨_,g,I,T,_⟩:=c;cases k;cases g;cases I;cases T;rfl
 rw[P];refine zB (h _ _ λb o e=>c.heap b o ?_ (q b o ?_ (k2 _ _ (k1 _ _ e))))
 ·have m:@LT.lt Nat _ b s.heap.objs.size:=zI e;intro c;rcases xC.mp c with z|z
  ·exact absurd z (zX m)
  ·rw[rW.mp z,t]at m;exact absurd m (Nat.not_lt.mpr (vZ _))
 ·exact zX (zI e)
end
def So(K:Frag)(N:Nat):List V->Hp->VK->Prop:=λxs H Q=>∃(a:Addr)(kvs:List (PyData×V))(l0 l1:List PyData),xs=[.ref a]/\kvs.length<=N/\DTr K H a kvs/\(∀kv∈kvs,sm (.tuple (.tuple l1:: l0)) kv.1=true) /\
 ∀q(ps':List (V×PyData)) H',Same H H'->H q=none->H' q=some (.lst (ps'.map (·.1)))->(∀p∈ps',tT 4 p.2=true/\Dt K H p.1 p.2)->(ps'.map (·.2)).Perm (kvs.map (·.1))->Asc ps'->Q (.ref q) H'
section
variable {X:Cx}
theorem Sn{N:Nat}(P:∀n,n<=N->dD X.prog X.w n)(D:X.A.units+64<cLine)(Z:X.calm=true):mU X (.builtin "sorted") (So X.K N):=by
 intro a5 s a6 H xs us Q I r h;obtain⟨a,kvs,f,l1,rfl,a7,g,c,q⟩:=h;obtain⟨u,rfl,F⟩:=jA r;cases F;obtain⟨xs,e,i,dd⟩:=eW I g;obtain⟨o,es,ep,C,O,L,l,_⟩:=id dd;have a3:=g.len;have J:RawD s.heap a es ep:=⟨o,C,O,L⟩;have T:es.toList.map (·.key)=xs.map λx=>Value.ref x.2.1:=by rw[l,xR];rfl
 have pr:∀{kvs:List (PyData×V)}{xs:List (PyData×Addr×Value)},KP X.K H kvs xs->(∀d∈kvs,sm (.tuple (.tuple l1:: f)) d.1=true)->Paired (TV X.K H (.tuple (.tuple l1:: f))) (xs.map λx=>(V.ref x.2.1,x.1)) (xs.map λx=>Value.ref x.2.1)/\(xs.map (·.1))=kvs.map (·.1):=by
  intro kvs xs i
  induction i with
  |nil=>intro _;exact⟨.nil,rfl⟩
  |@cons p q ps a8 b a4 G =>
   intro c;obtain⟨M,K⟩:=G λd a0=>c d (.tail _ a0);have z:=c p (.head _);rw[b.1]at z;have m:=b.2.1.1;have k:=b.2.1.2;rw[b.1]at m k;refine⟨.cons ⟨rfl,m,z,k⟩ M,?_⟩;rw[zN,zN,K,b.1]
 obtain⟨j,t⟩:=pr i c;have a9:xs.length=kvs.length:=by have:=wD List.length t;simpa using this
 have le:es.size=xs.length:=by have:=wD List.length l;simpa using this
 refine Sy P D (d0:=.tuple (.tuple l1:: f)) (its:=xs.map λx=>Value.ref x.2.1) (ps:=xs.map λx=>(V.ref x.2.1,x.1)) (by rw[yP];omega) (by rw[yP];omega) rfl j (λb0 b1 Y=>?_) λU ps' H' R S W w as=>?_
 ·refine Sr (I.ok.hd Z) g.sys J ⋯ λh' tk a1=>?_;rw[T];exact Y _ (I.kept (t':=tk) a1)
 ·refine q U ps' H' R S W (λp a2=>?_) ?_ as
  ·obtain⟨v,_,y⟩:=Paired.mem j p (w.mem_iff.mp a2);exact⟨y.t,y.d⟩
  ·have:=w.map (·.2);rw[xR]at this;rw[←t];exact this
end
open Sem (wp)
theorem Sl:typeLookup (.type "list") (Str.ofString "keys")=pure none:=am_miss_of_fast (by kernel_rfl)
theorem Sk:typeLookup (.type "list") "__getattr__"=pure none:=by rw[typeLookup_type,builtinLookup_eq_fast];kernel_rfl
section
variable {prog:Program} {w:World} {A:Around} {E:VP} {h:Heap} {g:Array GenState} {d:Drawn} {t:Nat} {os:OsState} {a:Addr} {o:Obj}
theorem Sj{tk:Tok}{Q:PySem.Fin->Shared->Prop}(hh:A.handled=none)(c:h.get? a=some o)(b:o.cls=.type "list")(i:o.dict=none){xs:Array Value}{n:Nat}(f:o.data=.seq xs n)(j:∀h' tk e,Heap.NewAttrErr h h' e (.ref a) (Str.ofString "keys")->E (.ref e) ⟨h',g,d,tk,os⟩):
  wpAny (model prog w) A (Builtin.«object.__getattribute__» ⟨[.ref a,.str (Str.ofString "keys") tk],[]⟩) Q E ⟨h,g,d,t,os⟩:=by
 have k:(⟨h,g,d,t,os⟩:Shared).TypeIs (.ref a) "list" := ⟨_,c,b⟩;have l:=Sl;unfold Builtin.«object.__getattribute__»
 repeat (any_goals (first|assumption|wp_step))
 rw[f];dsimp only;unfold instanceDict
 repeat (any_goals (first|assumption|wp_step))
 rw[b,i];dsimp only;simp only[Bool.not_false,Bool.true_or,if_true]
 repeat (any_goals (first|assumption|wp_step))
 exact wpAny_raiseAttrError hh j (attrMsg_fits (nofun) (by size_fits))
theorem Si{Q:Option Value->Shared->Prop}(hh:A.handled=none)(c:h.get? a=some o)(f:o.cls=.type "list")(k:o.dict=none){xs:Array Value}{n:Nat}(j:o.data=.seq xs n)(m:∀h' tk,(∀b i,h.get? b=some i->h'.get? b=some i)->Q none ⟨h',g,d,tk,os⟩):
  wpAny (model prog w) A (getAttr? (.ref a) (Str.ofString "keys")) Q E ⟨h,g,d,t,os⟩:=by
 have l:∀t,(⟨h,g,d,t,os⟩:Shared).TypeIs (.ref a) "list" := λt=>⟨_,c,f⟩;have u:(⟨h,g,d,t+1,os⟩:Shared).TypeIs (.ref a) "list" := ⟨_,c,f⟩;have r:=sub_AttributeError;have v:=PySem.F.slot_list_getattribute.lookup;have z:=PySem.F.slot_list_getattribute.bind (.ref a);have y:=Sk;unfold getAttr? getAttrBy?;refine zA (pS ?_);refine zA (vB ?_);unfold getAttrBy
 repeat (any_goals (first|assumption|((with_reducible show wpAny _ _ (call (Value.builtin "list.__getattribute__") _ _) _ _ _);refine xT PySem.F.slot_list_getattribute (l _) PySem.F.entry_list_ga (Sj hh c f k j λh' q e c=>?_) (PySem.F.args_list_getattribute_2 _ _))|wp_step))
 obtain⟨t',p,x⟩:=c.there
 repeat (any_goals (first|assumption|wp_step))
 exact m _ _ c.keeps
end
theorem aB:plainId "dict.update.loop"=true:=nofun
theorem Iy:entryFor table "dict.update.loop"=some Builtin.«dict.update.loop»:=entryFor_of_fast (by kernel_rfl)
structure Ent where
 p:Addr
 k:PyData
 b:Addr
 v:Value
def Ent.ok(h:Heap)(t:Ent):Prop:=(∃o n,h.get? t.p=some o/\o.cls=.type "tuple" /\ o.data=.seq #[.ref t.b,t.v] n)/\isT h t.k t.b
theorem Ent.up{h h':Heap}{e:Ent}(x:e.ok h)(a:∀b o,h.get? b=some o->o.cls=.type "tuple" -> h'.get? b=some o):e.ok h':=by
 obtain⟨⟨o,n,g,c,i⟩,d,as,f⟩:=x;exact⟨⟨o,n,a _ _ g c,c,i⟩,d,as,Bd a 4 d f⟩
def putP(xs:List (PyData×Addr×Value))(t:Ent):List (PyData×Addr×Value):=storedH xs t.k t.b t.v
theorem Sh(xs:List (PyData×Addr×Value))(k:PyData)(b:Addr)(v:Value):(storedH xs k b v).length<=xs.length+1:=by
 unfold storedH;split <;> simp
section
variable {prog:Program} {w:World} {A:Around} {R:Result->Shared->Prop} {d it l:Addr} {items:Array Value}
theorem Ix(hh:A.handled=none)(X:A.units+32<cLine)(n:d≠it)(T:d≠l)(P:l≠it):
  ∀(rest:List Ent)(i:Nat)(xs:List (PyData×Addr×Value))(s:Shared),(∀j,items[i+j]?=rest[j]?.map λa=>Value.ref a.p)->s.heap.IsListIter it l i->s.heap.IsList l items->s.heap.DictOfH (kN prog w) d xs->(∀a∈rest,a.ok s.heap)->xs.length+rest.length<=sizeLine ->
  (∀h' tk,(∀b o,b≠it->b≠d->s.heap.get? b=some o->h'.get? b=some o)->h'.DictOfH (kN prog w) d (rest.foldl putP xs)->R (.ok (.ret .none)) {s with heap:=h',toks:=tk}) ->
  codeAny (model prog w) A (.builtin "dict.update.loop" ⟨[.ref d,.ref it,.int i 0,.none],[]⟩) R s
 | [],i,xs,s,q,m,hl,v,_,_,y=>by
  refine tR Iy ?_;rw[tG aB _];show wpAny _ A.in1 (pyNext (.ref it) >>= _) _ _ s;refine zA (wpAny_pyNext_list_end (i:=i) hh m hl (by simpa using q 0) λh' K=>?_);show wpAny _ _ (Builtin.Dict.addKeywords d [] >>= _) _ _ _;refine zA (zB (zB ?_));obtain⟨o,es,ep,c,C⟩:=v;exact y h' s.toks (λb o b7 _ e=>K b o b7 e) ⟨o,es,ep,K d o n c,by
   obtain⟨f,I,G,J,F⟩:=C;refine⟨f,I,G,λx u=>?_,F⟩;obtain⟨a,as,r⟩:=J x u;refine⟨a,as,Bd (λb o e g=>K b o (λz=>?_) e) 4 a r⟩;obtain⟨a1,e1,U,_⟩:=m;rw[z,e1]at e;cases e;rw[U]at g;simp at g⟩
 | a:: rest,i,xs,s,q,m,hl,v,V,O,y=>by
  refine tR Iy ?_;rw[tG aB _];show wpAny _ A.in1 (pyNext (.ref it) >>= _) _ _ s;have b6:items[i]?=some (.ref a.p):=by simpa using q 0
  refine zA (wpAny_pyNext_list_item (i:=i) m hl b6 λc a4 t=>?_);obtain⟨a1,Y,a0,_⟩:=id m;have N:∀b o,s.heap.get? b=some o->o.cls=.type "tuple" -> c.get? b=some o:=λb o e g=>(t.2 b (λz=>by rw[z,Y]at e;cases e;rw[a0]at g;simp at g)).trans e;have M:c.DictOfH (kN prog w) d xs:=by
   obtain⟨o,es,ep,k,f,I,G,J,F⟩:=v;exact⟨o,es,ep,(t.2 d n).trans k,f,I,G,λx u=>let ⟨a,as,r⟩:=J x u;⟨a,as,Bd N 4 a r⟩,F⟩
  have a2:c.IsList l items:=by
   obtain⟨o,k,f⟩:=hl;exact⟨o,(t.2 l P).trans k,f⟩
  have S:∀t'∈a:: rest,t'.ok c:=λt' D=>Ent.up (V t' D) N;obtain⟨⟨op,b9,L,b0,b3⟩,a8⟩:=S a (.head _);refine zA (yU ?_);have a3:xs.length<=sizeLine:=by
   have:=O;simp only[List.length_cons]at this;omega
  refine zA (wpAny_tryCatch ?_);unfold Builtin.Dict.pairItems;refine zA (uV (s:={s with heap:=c}) (T:= "tuple") ⟨op,L,b0⟩ ?_);rw[zF ∅];refine zA (wH (s:={s with heap:=c}) L b3 (zB ?_));show wpAny _ A.in1 (holding [.ref a.b,a.v] (dictSet d (.ref a.b) a.v)) _ _ _;refine yU ?_;refine wpAny_dictSet_heap (knd:=kN prog w) (s:={s with heap:=c}) (hsz:=a3) (show A.units+1+8<cLine by omega) a8 M λC a7 p=>?_;obtain⟨c1,c2,b8,a5,b5,c0,_⟩:=id M;have Z:∀b o,c.get? b=some o->o.cls=.type "tuple" -> C.get? b=some o:=λb o e g=>(p.2 b (λz=>by rw[z,a5]at e;cases e;rw[b5.1]at g;simp at g)).trans e;refine zB ⟨qH aB _,?_⟩;have b4:(rawInt ((i:Int)+1))=.int ((i+1:Nat):Int) 0:=rfl;rw[b4];refine Ix hh X n T P rest (i+1) (storedH xs a.k a.b a.v) _ (λj=>?_) ?_ ?_ a7 (λt' D=>Ent.up (S t' (.tail _ D)) Z) ?_ λa6 W k3 a9=>?_
  ·have:=q (j+1);rw[List.getElem?_cons_succ]at this;rw[←this];congr 1;omega
  ·obtain⟨o,k,f⟩:=a4;exact⟨o,(p.2 it (zZ n)).trans k,f⟩
  ·obtain⟨o,k,f⟩:=a2;exact⟨o,(p.2 l (zZ T)).trans k,f⟩
  ·have:=Sh xs a.k a.b a.v;have:=O;simp only[List.length_cons]at this;omega
  ·exact y a6 W (λb o b1 b2 e=>k3 b o b1 b2 ((p.2 b b2).trans ((t.2 b b1).trans e))) a9
end
section
variable {prog:Program} {w:World} {A:Around} {E:VP} {s:Shared} {l:Addr}
theorem Sg{Q:VP}{es:List Ent}{o:Obj}{n:Nat}(hh:A.handled=none)(U:A.units+48<cLine)(d:s.heap.get? l=some o)(f:o.cls=.type "list")(R:o.dict=none)(k:o.data=.seq (es.map λc=>Value.ref c.p).toArray n)(C:∀c∈es,c.ok s.heap)(K:es.length<=sizeLine)
  (h:∀h' tk,(∀b o,s.heap.get? b=some o->h'.get? b=some o)->h'.DictOfH (kN prog w) s.heap.objs.size (es.foldl putP [])->Q (.ref s.heap.objs.size) {s with heap:=h',toks:=tk}):
  wpAny (model prog w) A (call (.type "dict") [.ref l]) Q E s:=by
 have q:@LT.lt Nat _ l s.heap.objs.size:=zI d;refine callType_codes (Q₁:=λv u=>v=.ref s.heap.objs.size/\u={s with heap:=s.heap.push {cls:=.type "dict",data:=.dict #[]}}) PySem.F.kt_called_dict (PySem.F.kt_typeCall_dict_1 _) PySem.F.entry_dict_init (kt_code_dict_new _ ⟨rfl,rfl⟩) ?_;rintro v u ⟨rfl,rfl⟩;have m:(s.heap.push {cls:=.type "dict",data:=.dict #[]}).DictOfH (kN prog w) s.heap.objs.size []:=Heap.DictOfH.new s.heap;have k1:∀b o,s.heap.get? b=some o->(s.heap.push {cls:=.type "dict",data:=.dict #[]}).get? b=some o:=λb o e=>zC _ e;have V:(s.heap.push {cls:=.type "dict",data:=.dict #[]}).objs.size=s.heap.objs.size+1:=size_push' _ _;generalize s.heap.push {cls:=.type "dict",data:=.dict #[]}=g at*
 have y:=Heap.DictOfH.typeIs (s:={s with heap:=g}) m;refine⟨y,PySem.F.args_dict_init_2 _ _,?_⟩;unfold Builtin.«dict.__init__»;refine zA ?_;unfold Builtin.Dict.selfAndRest;refine zA (wpAny_notOrdered_dict y ?_);show wpAny _ _ (pure (s.heap.objs.size,[Value.ref l])) _ _ _;refine zB ?_;show wpAny _ _ (Builtin.Dict.updateFrom "dict.__init__" s.heap.objs.size (.ref l) [] .none) _ _ {s with heap:=g};unfold Builtin.Dict.updateFrom;refine zA (uV (s:={s with heap:=g}) (T:= "list") ⟨o,k1 _ _ d,f⟩ ?_);rw[zF ∅];refine zA (Si (A:=A.in1.in1) hh (k1 _ _ d) f R k λa t k2=>?_);rw[zF (by rfl)];refine zA (wT ?_);have G:a.IsList l (es.map λc=>Value.ref c.p).toArray:=⟨o,k2 _ _ (k1 _ _ d),f,n,k⟩;refine zA (sD (s:={s with heap:=a,toks:=t}) G ?_);have i:s.heap.objs.size+1<=a.objs.size:=by
  obtain⟨od,_,_,e,_⟩:=id m;exact(show @LT.lt Nat _ s.heap.objs.size a.objs.size from zI (k2 _ _ e))
 have k3:∀b o,a.get? b=some o->(a.push {cls:=.type "list_iterator",data:=.fields #[.ref l,.int 0 0]}).get? b=some o:=λb o e=>zC _ e;have O:(a.push {cls:=.type "list_iterator",data:=.fields #[.ref l,.int 0 0]}).IsListIter a.objs.size l 0:=⟨_,zR _ rfl,rfl,rfl⟩;show wpAny _ _ _ _ _ {s with heap:=a.push {cls:=.type "list_iterator",data:=.fields #[.ref l,.int 0 0]},toks:=t};generalize a.push {cls:=.type "list_iterator",data:=.fields #[.ref l,.int 0 0]}=J at*
 have p:∀b o,s.heap.get? b=some o->J.get? b=some o:=λb o e=>k3 _ _ (k2 _ _ (k1 _ _ e));refine zA (zB ?_);refine zB ⟨qH aB _,?_⟩;refine Ix (A:=A.in1) (items:=(es.map λc=>Value.ref c.p).toArray) hh (by show A.units+1+32<cLine;omega) (zX (zJ (uE _) i)) (zZ (zX q)) (zX (zJ (qN q) i)) es 0 [] _ (λj=>by simp) O
  ⟨o,p _ _ d,f,n,k⟩ ?_ (λc S=>Ent.up (C c S) λb o e _=>p b o e) (by simpa using K) λI M P T=>?_
 ·obtain⟨od,L,ep,e,r⟩:=id m;obtain⟨r1,r2,F,_,N⟩:=r;exact⟨od,L,ep,k3 _ _ (k2 _ _ e),r1,r2,F,λx D=>(nomatch D),N⟩
 ·refine⟨rfl,h I M (λb o e=>?_) T⟩;have z:@LT.lt Nat _ b s.heap.objs.size:=zI e;exact P b o (zX (zJ (qN z) i)) (zX z) (p _ _ e)
end
def Sf(K:Frag):List V->Hp->VK->Prop:=λxs H Q=>∃(l:Addr)(ts:List (Addr×PyData×Addr×V)),xs=[.ref l]/\SqL K H l (ts.map λt=>V.ref t.1)/\(∀t∈ts,SqT K H t.1 [.ref t.2.2.1,t.2.2.2]/\tT 4 t.2.1=true/\Dt K H (.ref t.2.2.1) t.2.1)/\(ts.map (·.2.1)).Nodup /\
 ∀D H',Same H H'->H D=none->DTr K H' D (ts.map λt=>(t.2.1,t.2.2.2))->Q (.ref D) H'
theorem Se{kvs:List (PyData×V)}{k:PyData}(h:k∉kvs.map (·.1)):vT kvs k=none:=by
 induction kvs with
 |nil=>rfl
 |cons p r a =>
  rw[zN,xC,not_or]at h;rw[jQ (λe=>h.1 e.symm)];exact a h.2
section
variable {X:Cx}
theorem Sd(a4:X.A.units+64<cLine)(a1:X.calm=true):mU X (.type "dict") (Sf X.K):=by
 intro a5 s a7 H xs us Q I r h;obtain⟨l,ts,rfl,P,b,W,q⟩:=h;obtain⟨u,rfl,K⟩:=jA r;cases K;obtain⟨its,J,⟨o,a6,e,c,od,dd⟩,t⟩:=I.list P;have mk:∀(ts:List (Addr×PyData×Addr×V))(its:LW),Vals (ts.map λa=>V.ref a.1) its->(∀a∈ts,SqT X.K H a.1 [.ref a.2.2.1,a.2.2.2]/\tT 4 a.2.1=true/\Dt X.K H (.ref a.2.2.1) a.2.1) ->
   ∃es:List Ent,its=es.map (λa=>Value.ref a.p)/\Paired (λa(e:Ent)=>e.k=a.2.1/\e.b=a.2.2.1/\RelV a.2.2.2 e.v/\e.ok s.heap) ts es:=by
  intro ts
  induction ts with
  |nil=>intro its r _;cases r;exact⟨[],rfl,.nil⟩
  | cons a ts k =>
   intro its r b;cases r with
   | cons r1 r2 =>
    obtain⟨es,e1,g⟩:=k _ r2 λx j=>b x (.tail _ j);obtain⟨d,p,m⟩:=b a (.head _);obtain⟨a9,a2,⟨op,G,U,R,S⟩,_⟩:=I.tuple d;cases a2 with
    | cons w i =>
     cases i with
     |cons i F =>
      cases F;cases w;cases r1;rename_i v2;refine⟨⟨a.1,a.2.1,a.2.2.1,v2⟩:: es,by rw[zN,←e1],.cons ⟨rfl,rfl,i,⟨op,R,G,U,S⟩,fG I p m⟩ g⟩
 obtain⟨es,e1,g⟩:=mk ts its J b;subst e1;have y:ts.length=es.length:=lC g;refine Sg (es:=es) (I.ok.hd a1) ⋯ e c od (by rw[dd]) (λa n=>?_) (by rw[←y];simpa using t) λh' tk a3 D=>?_
 ·obtain⟨_,_,z⟩:=Bb g a n;exact z.2.2.2
 have T:∀(ts:List (Addr×PyData×Addr×V))(es:List Ent),Paired (λa(e:Ent)=>e.k=a.2.1/\e.b=a.2.2.1/\RelV a.2.2.2 e.v/\e.ok s.heap) ts es->(∀a∈ts,tT 4 a.2.1=true/\Dt X.K H (.ref a.2.2.1) a.2.1)->∀(kvs:List (PyData×V))(xs:List (PyData×Addr×Value)),KP X.K H kvs xs->(kvs.map (·.1)++ts.map (·.2.1)).Nodup->KP X.K H (kvs++ts.map λa=>(a.2.1,a.2.2.2)) (es.foldl putP xs):=by
  intro ts es pr
  induction pr with
  |nil=>intro _ kvs xs f _;rw[List.map_nil,wO];exact f
  | @cons a e ts es a0 _ k =>
   intro b kvs xs f nd;obtain⟨d,p,m,_⟩:=a0;have st:=f.put a.2.1 (b a (.head _)).1 (b a (.head _)).2 m;have N:a.2.1∉kvs.map (·.1):=λM=>by
    have:=(qK.mp nd).2.2 _ M a.2.1 (by simp);exact this rfl
   have ep:pT kvs a.2.1 a.2.2.2=kvs++[(a.2.1,a.2.2.2)]:=by
    unfold pT;rw[Se N];rfl
   rw[ep,←d,←p]at st;have:=k (λx j=>b x (.tail _ j)) _ _ st (by rw[xB,yG];simpa [d]using nd);rw[yG]at this;rw[d]at this;show KP X.K H _ (List.foldl putP (storedH xs e.k e.b e.v) es);rw[d];exact this
 have f:=T ts es g (λa n=>(b a n).2) [] [] .nil (by simpa using W);rw[rB]at f;obtain⟨b1,b0,a8,O,Y,Z,L,_,C⟩:=D;have v:H s.heap.objs.size=none:=I.hok.fresh (zE _);have sm:Same H (upd H s.heap.objs.size (mP s.heap.objs.size (es.foldl putP []))):=Same.new v;refine⟨.ref s.heap.objs.size,_,I.laid (a:=s.heap.objs.size) (o:=mP s.heap.objs.size (es.foldl putP [])) (t':=tk) a3 (zE _) (bL O Y Z L),rfl,?_⟩;refine q _ _ sm v ⟨by rw[yP];simpa using t,pY.mpr (zZ (zX (Bu I))),_,oS,C,f.keeps (lK sm)⟩
end
open Classical in
structure FunD(K:Frag)(x qual:Str)(st:Stmt)(f:Addr)(fd:FuncData)(ds:LW):Prop where
 ex:∃(oc:Value)(od:Option Addr)(T:Addr)(kV doc pm:Value)(an:Option Addr)(cdv ct:Value)(osl:Array (Option Value)),
  fd=PySem.W.fnOf x qual (jB st) (lR st) (oU st) (.ref T) kV doc pm an cdv ct/\K.lookup f=some ⟨oc,od,.func fd,osl⟩/\PySem.W.codeIn K cdv qual=true/\∃(o2:Value)(d2:Option Addr)(n2:Nat)(s2:Array (Option Value)),K.lookup T=some ⟨o2,d2,.seq ds.toArray n2,s2⟩
 kp:PySem.W.keepIn K (.ref f)=true
section
variable {P:Program} {w:World} {K:Frag} {mg:MT} {base:Heap}
theorem FunD.ok{x c:Str}{st:Stmt}{f:Addr}{d:FuncData}{ds:LW}{N ps:List Str}{k:Nat}{b:Sp}(F:FunD K x c st f d ds)(e:nF N ps (oU st))(len:∀vs H Q E,b vs H Q E->vs.length=ps.length)
  (i:∀(cdv:Value)(A:Around)(outer:List Env)(s:Shared)(H:Hp)(vs:List V)(Q:VK)(E:XK),Room k (A.deeper (envOfC c (oU st) s.heap.objs.size f cdv))->b vs H Q E ->
   ∃a,PSs (cxOf CX0 P w K mg base N c (oU st) f cdv A outer s H E).nox (lR st) a/\a {nx:=λ_ H'=>Q .non H',rt:=Q} (start N vs) H):FnOk P w K mg base CX0 (k+1) f d ps b:=by
 obtain⟨r,od,T,kV,o,t,p,cdv,n,m,rfl,g,j,_⟩:=F.ex;refine cO g j e len λA outer s H vs Q E hr l=>?_;obtain⟨a,h,q⟩:=i cdv A outer s H vs Q E hr l;exact⟨a,h.nox,q⟩
theorem FunD.binds{x e:Str}{st:Stmt}{f:Addr}{g:FuncData}{ps:List Str}{ds:LW}(F:FunD K x e st f g ds)
  (h:∀(T:Addr)(kV b d:Value)(c:Option Addr)(cdv a:Value)(us:LW),us.length+ds.length=ps.length->∃k,bindArgs (PySem.W.fnOf x e (jB st) (lR st) (oU st) (.ref T) kV b d c cdv a) ⟨us,[]⟩=seqItems? (.ref T) >>= k/\k (some ds.toArray)=pure (ps.zip (us++ds))):mM K g ps ds:=by
 obtain⟨p,od,T,kV,b,d,c,cdv,a,l,rfl,n,t,m,o,r,q,lt⟩:=F.ex;intro s us j hl;obtain⟨k,e1,i⟩:=h T kV b d c cdv a us (by simpa using hl);exact rK (T:=T) rfl (j _ _ lt) rfl e1 i
theorem FunD.bindsA{x e:Str}{st:Stmt}{f:Addr}{g:FuncData}{ps:List Str}{ds:LW}(F:FunD K x e st f g ds)
  (h:∀(T:Addr)(kV b d:Value)(c:Option Addr)(cdv a:Value)(us:LW),us.length=ps.length->∃k,bindArgs (PySem.W.fnOf x e (jB st) (lR st) (oU st) (.ref T) kV b d c cdv a) ⟨us,[]⟩=seqItems? (.ref T) >>= k/\k (some ds.toArray)=pure (ps.zip us)):mM K g ps []:=by
 obtain⟨p,od,T,kV,b,d,c,cdv,a,l,rfl,n,t,m,o,r,q,lt⟩:=F.ex;intro s us j hl;rw[wO]at hl ⊢;obtain⟨k,e1,i⟩:=h T kV b d c cdv a us hl;exact rK (T:=T) rfl (j _ _ lt) rfl e1 i
theorem Sc{x a:Str}{st:Stmt}{f T:Addr}{m i:Value}{od j e:Option Addr}{p n:Array (Option Value)}{kV d g cdv b:Value}{ds:LW}{o:Nat}(l:K.lookup f=some ⟨m,od,.func (PySem.W.fnOf x a (jB st) (lR st) (oU st) (.ref T) kV d g e cdv b),p⟩)
  (c:PySem.W.codeIn K cdv a=true)(k:PySem.W.keepIn K (.ref f)=true)(l2:K.lookup T=some ⟨i,j,.seq ds.toArray o,n⟩):FunD K x a st f (PySem.W.fnOf x a (jB st) (lR st) (oU st) (.ref T) kV d g e cdv b) ds:=⟨⟨m,od,T,kV,d,g,e,cdv,b,p,rfl,l,c,i,j,o,n,l2⟩,k⟩
end
end L2
namespace PySem
section
variable {prog:Program} {w:World} {A:Around} {E:VP} {h:Heap} {g:Array GenState} {d:Drawn} {t:Nat} {os:OsState}
variable {nm q:Str} {C N:Addr} {bs bm bmB:LW} {hdct:Bool} {sn:List Str} {sub:LW} {ab:Bool} {col:Option Bool} {dd:Option Addr} {k0 k1 k2 k3 k5:Option Value} {B newId initId:String}
abbrev xTup(us:LW):Obj:={cls:=.type "tuple",data:=.seq us.toArray}
abbrev xExc(C t:Addr)(dx:Option Addr):Obj:={cls:=.ref C,dict:=dx,data:=.fields #[.ref t,.none,.none,.none,.bool false,.none]}
abbrev iZ(h:Heap)(C:Addr)(us:LW):Heap:=(h.push (xTup us)).push (xExc C h.objs.size none)
theorem Sb(F:ExcBaseFacts B newId initId bmB)(T:OwnTail h bmB bm){mN:MT}{us:LW}{f:Addr}{j:Obj}{Q:Fin->Shared->Prop}
  (a:h.get? C=some (excClassObj nm q C N bs bm hdct sn sub ab col dd k0 k1 k2 k3 k5 newId))(I:h.Ns N mN)(hi:mN "__init__"=some (.ref f))(G:h.get? f=some j)(p:j.cls=.type "function")(n:us.length<=sizeLine)
  (z:wpAny (model prog w) A (call (.ref f) (.ref (h.objs.size+1):: us)) (λr k=>r=.none/\Q (.done (.ret (.ref (h.objs.size+1)))) k) E ⟨iZ h C us,g,d,t,os⟩):
  wpAny (model prog w) A (Builtin.«type.__call__» ⟨.ref C:: us,[]⟩) Q E ⟨h,g,d,t,os⟩:=by
 repeat (first|with_reducible refine uQ a ?_|with_reducible refine wpAny_madeBy_exc a ?_|wp_step)
 refine codeAny_call_builtin_code (rS _ F.quiet) (wpAny_check_new_subT F T a (codeAny_exc_new_subT F T a ?_ n));show wpAny _ _ _ _ _ _;have c:∀b o,h.get? b=some o->(iZ h C us).get? b=some o:=λb o e=>zC _ (zC _ e);have i:=c _ _ a;have v:=c _ _ G;have l:=I.keeps c;have u:(iZ h C us).get? (h.objs.size+1)=some (xExc C h.objs.size none):=by heap_get
 have D:(Value.ref C:: bm).contains (.ref C)=true:=by simp
 have m:=T.keeps c;unfold isInstance
 repeat (first|with_reducible refine uQ u ?_|(with_reducible refine wpAny_isSubtype_exc i ?_;rw[D])|wp_step)
 show wpAny _ _ (typeLookup (.ref C) _) _ _ _;refine wpAny_typeLookup_tail i l m F.mroIs F.init.lookup ?_;rw[hi];refine yU (zA ?_);unfold bindSpecial;refine zA (uV (T:= "function") ⟨_,v,p⟩ ?_);rw[zF ∅];refine zB (zA (yI z (λr k hr=>?_) λ_ _ x=>x));obtain⟨rfl,y⟩:=hr
 wp_walk
 exact y
theorem Sa(F:ExcBaseFacts B newId initId bmB)(T:OwnTail h bmB bm){mN:MT}{us:LW}{b:Addr}{c:Obj}{Q:VP}
  (a:h.get? C=some (excClassObj nm q C N bs bm hdct sn sub ab col dd k0 k1 k2 k3 k5 newId))(l:h.Ns N mN)(hi:mN "__init__"=some (.ref b))(k:h.get? b=some c)(f:c.cls=.type "function")(e:us.length<=sizeLine)
  (i:wpAny (model prog w) (A.under (.builtin "type.__call__" ⟨.ref C:: us,[]⟩)) (call (.ref b) (.ref (h.objs.size+1):: us)) (λr j=>r=.none/\Q (.ref (h.objs.size+1)) j) E ⟨iZ h C us,g,d,t,os⟩):
  wpAny (model prog w) A (call (.ref C) us) Q E ⟨h,g,d,t,os⟩:=by
 have m:=tc_lookup;have o:=tc_bind (.ref C);have n:(⟨h,g,d,t,os⟩:Shared).TypeIs (.ref C) "type" := ⟨_,a,rfl⟩;refine vJ (codeAny_of_tree ?_);show wpAny _ _ (callAny (.ref C) _) _ _ _
 repeat (any_goals (first|assumption|with_reducible refine uQ a ?_|wp_step))
 refine⟨rfl,codeAny_call_builtin_at (rS _ (nofun)) entry_typeCall (wpAny_check_type_call_sub a (Sb F T a l hi k f e ?_))⟩;exact i
theorem Tz{env:Env}{s:Shared}{x:Sem Value}{Q:Flow->Shared->Prop}(l:bm.contains (.type "BaseException")=true)(hh:A.handled=none){M:Model}
  (h:wpAny M A x (λv a=>∃e t b,v=.ref e/\a.heap.get? C=some (excClassObj nm q C N bs bm hdct sn sub ab col dd k0 k1 k2 k3 k5 newId)/\a.heap.get? e=some (xExc C t b)/\E (.ref e) a) E s):
  wpAny M A (raiseStmt env (some x) none) Q E s:=by
 have f:(Value.ref C:: bm).contains (.type "BaseException")=true:=by rw[List.contains_cons,l,Bool.or_true]
 unfold raiseStmt;refine zA (yI h (λv a j=>?_) λ_ _ x=>x);obtain⟨e,t,b,rfl,c,k,i⟩:=j;obtain⟨m,g,d,tk,os⟩:=a
 repeat (first|with_reducible refine uQ k ?_|with_reducible refine uQ c ?_|(with_reducible refine wpAny_isSubtype_exc c ?_;rw[f])|wp_step)
 exact wpAny_raiseNew_none hh i
end
end PySem
namespace L2
open PySem PySem.Spec PyProof.Rows
open PySem.W (Frag)
def XObj(e C:Addr)(od:Option Addr):HO:=.ext λh=>∃t,h.get? e=some (xExc C t od)
theorem Ba{P:Program}{w:World}{H:Hp}{h:Heap}{e C t:Addr}{od:Option Addr}(q:h.get? e=some (xExc C t od)):nM P w H h e (XObj e C od):=⟨⟨t,q⟩,⟨_,q⟩,λ_ _⟨t,z⟩k=>⟨t,k _ z⟩⟩
def rmv(H:Hp)(e:Addr):Hp:=λb=>if b=e then none else H b
theorem jT{H:Hp}{e b:Addr}(h:b≠e):rmv H e b=H b:=zD h
theorem Cz{H:Hp}{e:Addr}:rmv H e e=none:=zF rfl
theorem Ty{H:Hp}{e:Addr}{o:HO}(h:H e=some o):upd H e o=H:=by
 funext b
 by_cases q:b=e
 ·rw[q,oS,h]
 ·exact oV q
section
variable {X:Cx} {pins:PN} {σ:St} {H:Hp} {s:Shared} {e C:Addr} {b0:Option Addr}
theorem Inv.untrack(I:Inv X pins σ H s)(l:H e=some (XObj e C b0)):Inv X pins σ (rmv H e) s:=by
 have u:=I.base;have t:∀{b o},rmv H e b=some o->b≠e/\H b=some o:=λ{b o}z=>by
  by_cases q:b=e
  ·rw[q,Cz]at z;cases z
  ·rw[jT q]at z;exact⟨q,z⟩
 have f:∀{b o},H b=some o->o≠XObj e C b0->b≠e:=λ{b o}z d q=>by rw[q,l]at z;exact d (zU z).symm
 have g:∀b,H b=none->rmv H e b=none:=λb z=>by
  by_cases q:b=e
  ·rw[q,Cz]
  ·rw[jT q];exact z
 refine⟨I.ok,I.os,I.bare,⟨u.keep,u.slot,λb o q n i=>g _ (u.free b o q n i),u.there,λb xs q=>?_,λb o v q=>?_,λb ps q=>?_⟩,I.loc,I.cell,g _ I.free,λx c q=>g _ (I.freeC x c q),λp w=>?_,λa o q=>?_,I.len⟩
 ·have:=u.tups b xs q;rw[jT (f this (by intro z;cases z))];exact this
 ·have:=u.frzs b o v q;rw[jT (f this (by intro z;cases z))];exact this
 ·obtain⟨m,e1⟩:=u.tbls b ps q;exact⟨m,by rw[jT (f e1 (by intro z;cases z))];exact e1⟩
 ·obtain⟨e1,k,r⟩:=I.pin p w;exact⟨e1,g _ k,r⟩
 ·obtain⟨_,j⟩:=t q;exact(I.hok a o j).stay (λ_ _ _ z=>z) (λb z=>by rw[jT (f z (by intro z;cases z))];exact z) λb xs z=>by rw[jT (f z (by intro z;cases z))];exact z
end
section
variable {M:Model} {A:Around} {E:VP} {s:Shared}
theorem Tx{base:Heap}{env:Env}{outer:List Env}{L e C b:Addr}{a:Option Addr}{Q:Unit->Shared->Prop}(p:A.frames=some (env:: outer))(d:env.frame=some L)(j:base.StaysIn s.heap)(hl:s.heap.FunFrames base (env:: outer))(f:s.heap.get? e=some (xExc C b a))(c:base.get? e=none)
  (m:∀h',Heap.FlyingW base outer e (.ref C) (.ref b) h'->Dc h' e a->s.heap.UpToSlots h'->Q () {s with heap:=h'}):wpAny M A (leaving env (.ref e)) Q E s:=by
 unfold leaving noteFrame;simp only[d];refine zA (zA (yY f rfl (x:=.none) rfl ?_));rw[zD ∅];refine Ah p hl d f j c rfl (by simp) (a0:=.ref b) rfl (od:=a) (λ_ q=>q) λn⟨u,r,o,t⟩g=>?_;exact cV (s:={s with heap:=n}) ⟨u,c,r,o⟩ g λk⟨k1,k2,⟨_,_,k3⟩,v⟩l i=>m k ⟨k1,k2,k3,v⟩ l (Heap.UpToSlots.trans t i)
end
def Iw(X:Cx)(EX:XE):Prop:=∀(pins:PN)(σ:St)(H:Hp)(s:Shared)(e C t:Addr)(dx:Option Addr),Inv X pins σ H s->H e=none->X.s₀.heap.get? e=none->s.heap.get? e=some (xExc C t dx)->EX σ (.ref C) dx H->X.xe (.ref e) s
section
variable {P:Program} {w:World} {K:Frag} {mg:MT} {base:Heap} {N:List Str} {qual:Str} {scope:Scope} {f:Addr} {cd:Value} {A:Around} {outer:List Env} {s₀:Shared} {H₀:Hp} {E:XK}
theorem Tw:Iw (cxOf (CX1 P w) P w K mg base N qual scope f cd A outer s₀ H₀ E) (λ_ C od H=>E C od H):=by
 intro L M H s e C J i I r y D x;have u:=PySem.W.funFrames_hide (as:=e:: frs (cxOf (CX1 P w) P w K mg base N qual scope f cd A outer s₀ H₀ E).stack) I.stack (λenv d a t=>.tail _ (oJ.mpr ⟨env,d,t⟩));refine Tx I.ok.frames rfl (λb o q=>qC _ q) u D (sZ _ (.head _)) λh' m k j=>?_;obtain⟨g,_,p,n⟩:=m;obtain⟨un,ok,l⟩:=cW I rfl rfl rfl g j λb o q G F=>rJ _ q λd=>by
  rcases xC.mp d with z|z
  ·subst z;rcases F with⟨O,c⟩|⟨v,c⟩
   ·rw[y]at c;cases c
   ·rw[r]at c;cases c
  ·exact G z
 exact⟨e,.ref C,i,H,_,_,rfl,I.os,I.bare,un,ok,⟨g,sZ _ (.head _),p,n⟩,l,k,x⟩
end
def aC(K:Frag)(C:Addr)(bmB:LW)(newId:String)(f:Addr):Bool:=
 (K.lookup f).any (λo=>o.cls == .type "function") &&
 (K.lookup C).any λob=>match ob with
  |⟨.type "type",_,.cls c1,sl⟩=>(match c1.mro,sl.toList with
   |.ref C1:: bm,[_,_,_,_,some (.builtin nw),_]=>C1 == C && nw == newId && !c1.hasDel && PySem.W.tailIn K bmB bm && PySem.W.nsOkIn K c1.ns && PySem.W.nsIn K c1.ns "__init__" == some (some (.ref f))
   |_,_=>false)
  |_=>false
theorem Tv{K:Frag}{h:Heap}{N:Addr}{x:Str}{v:Value}(X:K.In h)(g:h.Ns N (h.nsMap N))(e:PySem.W.nsIn K N x=some (some v)):h.nsMap N x=some v:=by
 obtain⟨o,es,ep,i,b,_,a⟩:=g;unfold PySem.W.nsIn at e;split at e
 ·rename_i c d j l k q;have:=X _ _ q;rw[i]at this;cases this;cases b;split at e
  ·rename_i f;cases e;rw[←a];unfold nsFind findBy;rw[←Array.find?_toList,f];rfl
  ·split at e <;> cases e
 ·cases e
theorem Iv{K:Frag}{h:Heap}{C f:Addr}{k:LW}{newId:String}(KX:K.In h)(g:aC K C k newId f=true):
  ∃bm N nm e bs c sn sub ab col dd k0 k1 k2 k3 k5 mN b,h.get? C=some (excClassObj nm e C N bs bm c sn sub ab col dd k0 k1 k2 k3 k5 newId)/\h.Ns N mN/\mN "__init__"=some (.ref f)/\OwnTail h k bm/\h.get? f=some b/\b.cls=.type "function" := by
 unfold aC at g;obtain⟨d,a⟩:=Bool.and_eq_true_iff.mp g;obtain⟨b,u,d⟩:=sQ d;obtain⟨G,x,a⟩:=sQ a;split at a
 ·next dd o j =>
  split at a
  ·next q bm k0 k1 k2 k3 F k5 w es =>
   simp only[Bool.and_eq_true,beq_iff_eq,Bool.not_eq_true']at a;obtain⟨⟨⟨⟨⟨e1,m⟩,t⟩,D⟩,i⟩,z⟩:=a;subst e1 m;cases o with
   | mk nm bs n ns e c sn sub ab col y =>
    have r:n=Value.ref q:: bm:=w;have p:y=false:=t;subst r p;have v:j=#[k0,k1,k2,k3,some (Value.builtin F),k5]:=by
     cases j with
     |mk l=>exact wD Array.mk es
    subst v;exact⟨bm,ns,nm,e,bs,c,sn,sub,ab,col,dd,k0,k1,k2,k3,k5,_,b,KX _ _ x,qX (rV KX i),Tv KX (qX (rV KX i)) z,PySem.W.tail_of_in KX D,KX _ _ u,pW.mp d⟩
  ·cases a
 ·cases a
section
variable {X:Cx} {CX:CXT} {EX:XE} {k:Nat} {C f:Addr} {fd:FuncData} {ps:List Str} {sp:Sp} {dvs:List V} {ds:LW} {x:Str} {np p cpos pos:Pos} {e e₀:Expr} {es rest:List Expr} {t:TA} {bmB:LW} {B newId initId:String}
def Tu(C:Addr)(sp:Sp)(EX:XE)(t:TA):TS:=λ_ σ H=>t σ H λvs H1=>vs.length<=sizeLine/\∀e,H1 e=none->sp (.ref e:: vs) (upd H1 e (XObj e C none)) (λv H2=>v=.non/\∃od,H2 e=some (XObj e C od)/\EX σ (.ref C) od (rmv H2 e)) E0
theorem Tt(b8:X.calm=true)(W:Iw X EX)(a3:Gl X x)(a4:X.mg x=some (.ref C))(a1:aC X.K C bmB newId f=true)(S:ExcBaseFacts B newId initId bmB)(F:FnOk X.prog X.w X.K X.mg X.base CX k f fd ps sp)
  (hr:Room (k+1) X.A)(b5:mM X.K fd ps [])(a9:iC CX X E0)(b1:PA X (e₀:: rest) t)
  (a5:(x == ("__debug__" :Str))=false:=by decide)(R:starEach (e₀:: rest) X.env=(false,eval e₀ X.env):: starEach rest X.env:=by rfl)(b4:(backTo cpos (starEach rest X.env)).any (·.1)=false:=by rfl):
  PS X (.Raise (some (.Call (.Name x np) (e₀:: rest) [] cpos)) none pos) (Tu C sp EX t):=by
 intro g s j H D I h;obtain⟨bm,N,nm,q,bs,Z,sn,sub,ab,col,dd,k0,k1,k2,k3,k5,mN,c4,P,a7,b6,T,a6,b7⟩:=Iv I.mod.kin a1;have K:(backTo cpos (starEach (e₀:: rest) X.env)).any (·.1)=false:=by
  rw[R];show(false || (backTo cpos (starEach rest X.env)).any (·.1))=false;rw[b4];rfl
 rw[arm_exec_Raise];refine zA (wA (Tz (C:=C) (nm:=nm) (q:=q) (N:=N) (bs:=bs) (bm:=bm) (hdct:=Z) (sn:=sn) (sub:=sub) (ab:=ab) (col:=col) (dd:=dd) (k0:=k0) (k1:=k1) (k2:=k2) (k3:=k3) (k5:=k5) (newId:=newId) (T.hasType S.hasBase) (I.ok.hd b8)
  (zA (yI (wpAny_Call_ofName (kZ I a3 a4 ?_ a5)) (λv c2 b3=>zA (wA (zB b3))) λ_ _ x=>x))))
 unfold callWith;have y:=b1 cpos g s j H _ I h;rw[R]at y K ⊢;refine zA (yU (yI (tE (Q:=λa c=>∃us,a=⟨us,[]⟩/\AP X g j _ us c) (thn y λus c8 z=>⟨us,rfl,z⟩)) (λa c b0=>zA (wA ?_)) λ_ _ x=>x));obtain⟨us,rfl,vs,H1,d,r,a8,b2⟩:=b0;simp only[K];have L:=d.bk _ _ P;have hl:us.length<=sizeLine:=by rw[←r.length];exact a8
 have O:=b2 (c.heap.objs.size+1) (d.hok.fresh (vZ _));have b9:∀b o,c.heap.get? b=some o->(iZ c.heap C us).get? b=some o:=λb o e=>zC _ (zC _ e);have a0:(iZ c.heap C us).get? (c.heap.objs.size+1)=some (xExc C c.heap.objs.size none):=by
  have:=zR (c.heap.push (xTup us)) (o:=xExc C c.heap.objs.size none) rfl
  rwa[xO]at this
 have l:Inv X g j (upd H1 (c.heap.objs.size+1) (XObj (c.heap.objs.size+1) C none)) {c with heap:=iZ c.heap C us}:=d.laid (t':=c.toks) b9 (vZ _) (Ba a0);have r2:Vals (V.ref (c.heap.objs.size+1):: vs) (Value.ref (c.heap.objs.size+1):: us):=.cons rfl r;have U:(Value.ref (c.heap.objs.size+1):: us++[]).length=ps.length:=by rw[wO,←r2.length];exact F.len _ _ _ _ O
 have J:=b5 {c with heap:=iZ c.heap C us} (Value.ref (c.heap.objs.size+1):: us) l.kIn U;rw[wO]at J;have run:=F.run _ X.stack _ _ ⟨Value.ref (c.heap.objs.size+1):: us,[]⟩ _ _ _ E0 (hr.make C us []) (l.env0.make C us []) J r2 O;obtain⟨c1,c6,c7,c5,c3⟩:=c;refine zA (wpAny_keeperOf_exc L ?_);refine zA (Sa S (T.keeps d.bk) L (a7.keeps d.bk) b6 (d.bk _ _ a6) b7 hl (vJ (wZ run λY n i=>?_)));cases Y with
 |error w=>exact a9 g j _ _ w n l i
 | ok fl =>
  cases fl with
  |ret u =>
   obtain⟨v,H',m,a2,w,od,M,c0⟩:=l.after i;subst w;refine⟨a2,zA (yU (wpAny_point (zB ?_)))⟩;obtain⟨⟨t',G⟩,_⟩:=(show nM X.prog X.w H' n.heap _ (XObj _ C od) from m.hok _ _ M);refine⟨_,t',od,rfl,m.bk _ _ P,G,W g j (rmv H' _) n _ C t' od (m.untrack M) Cz (Heap.get?_none_of_le (yC d.sz (vZ _))) G c0⟩
  |next=>exact False.elim i
  |brk=>exact False.elim i
  |cont=>exact False.elim i
def aD(C:Addr)(sp:Sp)(dvs:List V)(EX:XE)(t:TA):TE:=λσ H Q=>t σ H λvs H1=>∀x dx,H1 x=none->H1 dx=none->dx≠x ->
 sp (.ref x:: (vs++dvs)) (upd (upd H1 dx (.own x)) x (.ins C dx [])) (λv H2=>v=.non/\Q (.ref x) H2) λC' od H'=>EX σ C' od H'
theorem Ts{i:PN}{d:St}{H:Hp}{s:Shared}{Q:VK}{us:LW}{vs:List V}(M:Mk X.K C f)(F:FnOk X.prog X.w X.K X.mg X.base (CX1 X.prog X.w) k f fd ps sp)(hr:Room (k+1) X.A)(m:mM X.K fd ps ds)(S:Vals dvs ds)
  (N:fB X EX)(R:X.ex=[])(I:Inv X i d H s)(r:Vals vs us)
  (h:∀x g,H x=none->H g=none->g≠x->sp (.ref x:: (vs++dvs)) (upd (upd H g (.own x)) x (.ins C g [])) (λv H2=>v=.non/\Q (.ref x) H2) λj od H'=>EX d j od H'):
  wpAny (model X.prog X.w) X.A (call (.ref C) us) (EP X i d Q) X.xe s:=by
 have y:=h (s.heap.objs.size+1) s.heap.objs.size (I.hok.fresh (vZ _)) (I.hok.fresh (zE _)) (zX (uE _));have a:=Inv.made (C:=C) I;have r2:Vals (V.ref (s.heap.objs.size+1):: (vs++dvs)) (Value.ref (s.heap.objs.size+1):: (us++ds)):=.cons rfl (r.append S);have hl:(Value.ref (s.heap.objs.size+1):: us++ds).length=ps.length:=r2.length.symm.trans (F.len _ _ _ _ y);refine vJ (As (f:=f) I.kIn M.makes M.init (pW.mp M.fn) (wZ (F.run _ X.stack _ _ ⟨Value.ref (s.heap.objs.size+1):: us,[]⟩ (Value.ref (s.heap.objs.size+1):: (us++ds)) _ _ _ (hr.make C us [])
  (a.env0.make C us []) (m _ (Value.ref (s.heap.objs.size+1):: us) a.kIn hl) r2 y) λP n c=>?_))
 cases P with
 | error D =>
  obtain⟨e,j,od,H',T,a0,rfl,a3,a5,un,ok,fl,G,Z,q⟩:=c;have w:Inv X i d H' n:=a.call' a3 un ok a5 λb z=>absurd z (by simp);refine N i d H' n e j od w ⟨⟨T,a0,fl,λb o e1 m l=>G b o e1 m ?_,λp J=>?_⟩,Z⟩ q
  ·rcases l with⟨a1,a4⟩|l
   ·obtain⟨O,K⟩:=a.base.there b a1 a4 (by rw[R];simp);exact .inl ⟨O,K⟩
   ·exact .inr l
  ·obtain⟨e1,a7,a2,a6,_⟩:=w.pin p J;refine G p.1 p.2 e1 (λW=>?_) (.inl ⟨_,(a.pin p J).1⟩);rcases xC.mp (a.stkSub p.1 W) with z|z
   ·exact a2 z
   ·exact a6 z
 | ok fl =>
  cases fl with
  |ret u =>
   obtain⟨v,H',L,U,D,Y⟩:=a.after c;subst D;exact⟨U,⟨V.ref (s.heap.objs.size+1),H',L,rfl,Y⟩⟩
  |next=>exact False.elim c
  |brk=>exact False.elim c
  |cont=>exact False.elim c
theorem Cy(M:Mk X.K C f)(F:FnOk X.prog X.w X.K X.mg X.base (CX1 X.prog X.w) k f fd ps sp)(hr:Room (k+1) X.A)(i:Gl X x)(j:X.mg x=some (.ref C))(v:mM X.K fd ps ds)(m:Vals dvs ds)(d:fB X EX)
  (b:PA X (e:: es) t)(g:X.ex=[]:=by rfl)(l:(x == ("__debug__" :Str))=false:=by decide)(u:starEach (e:: es) X.env=(false,eval e X.env):: starEach es X.env:=by rfl)(o:(backTo pos (starEach es X.env)).any (·.1)=false:=by rfl):
  PE X (.Call (.Name x p) (e:: es) [] pos) (aD C sp dvs EX t):=by
 intro c s n H Q I h;refine xS (kZ I i j ?_ l);refine uN (h₀:=X.base) I.ok.mod.kin M.kp (thn (b pos c s n H _ I h) λus w⟨vs,H1,a,r,q⟩=>⟨a.kIn,?_⟩) u o;exact Ts M F hr v m d g a r q
theorem FunD.okX{P:Program}{w:World}{K:Frag}{b:MT}{base:Heap}{x a:Str}{st:Stmt}{f:Addr}{fd:FuncData}{ds:LW}{N ps:List Str}{k:Nat}{sp:Sp}(F:FunD K x a st f fd ds)(c:nF N ps (oU st))(len:∀vs H Q E,sp vs H Q E->vs.length=ps.length)
  (g:∀(cdv:Value)(A:Around)(outer:List Env)(s:Shared)(H:Hp)(vs:List V)(Q:VK)(E:XK),Room k (A.deeper (envOfC a (oU st) s.heap.objs.size f cdv))->sp vs H Q E ->
   ∃t,PSs (cxOf (CX1 P w) P w K b base N a (oU st) f cdv A outer s H E) (lR st) t/\t {nx:=λ_ H'=>Q .non H',rt:=Q} (start N vs) H):FnOk P w K b base (CX1 P w) (k+1) f fd ps sp:=by
 obtain⟨o,od,T,kV,m,r,n,cdv,l,q,rfl,d,i,_⟩:=F.ex;exact cO d i c len λA outer s H vs Q E hr j=>g cdv A outer s H vs Q E hr j
end
structure XIn(K:Frag)(C C0 f:Addr):Prop where
 cl:aC K C [.type "ValueError",.type "Exception",.type "BaseException",.type "object"] "ValueError.__new__" f=true
 ga:PySem.W.specialIn K (.ref C0) "__getattribute__"=some (some (.builtin "type.__getattribute__"))
 rd:PySem.W.readsIn K C0 (.type "type")=true
 fi:PySem.W.findCls K (.ref C0) (.type "type") "__init__"=some (.val (.builtin "ValueError.__init__"))
def Cv:LW->Bool
 |.ref _:: r=>Cv r
 |l=>l == [.type "ValueError",.type "Exception",.type "BaseException",.type "object"]
theorem Iu(a:Value):∀{l:LW},Cv l=true->refuseLoop a "__setattr__" l=pure ()/\l.contains (.type "object")=true
 |.ref c:: r,e=>by
  obtain⟨d,b⟩:=Iu a (l:=r) e;exact⟨by rw[refuseLoop_ref];exact d,by rw[List.contains_cons,b,Bool.or_true]⟩
 |[],e=>by cases e
 |.type n:: r,e=>by rw[show Value.type n:: r=_ from pW.mp e];exact⟨PySem.F.store_ValueError.passes a,∅⟩
structure XSt(K:Frag)(C:Addr)(x:Str):Prop where
 sa:PySem.W.findIn K (.ref C) "__setattr__"=some (some (.builtin "object.__setattr__"))
 mr:((PySem.W.clsIn K C).any λc1=>Cv c1.mro && c1.hasDict)=true
 tk:PySem.W.takerIn K C x=some none
section
variable {X:Cx} {C C0 f:Addr} {x nm:Str} {np apos cpos pos:Pos} {e o:Expr} {es:List Expr} {te to:TE} {t:TA}
def Ir(C:Addr)(t:TA):TE:=λσ H Q=>t σ H λvs H1=>∃p b r,vs=.ref p:: r/\H1 p=some (XObj p C b)/\r.length<=sizeLine/\Q .non H1
theorem Tr{pl:Sem Bool}(L:Gl X x)(M:X.mg x=some (.ref C0))(g:XIn X.K C C0 f)(V:PA X (e:: es) t)(O:(x == ("__debug__" :Str))=false:=by decide)
  (G:starEach (e:: es) X.env=(false,eval e X.env):: starEach es X.env:=by rfl)(Z:(backTo cpos (starEach es X.env)).any (·.1)=false:=by rfl)
  (a0:eval (.Call (.Attribute (.Name x np) "__init__" apos) (e:: es) [] cpos) X.env=(do
   let y ←eval (.Name x np) X.env
   standAt apos.atName
   let (f,first) ←holding [y] (getMethod y "__init__" pl)
   callWith cpos f first (backTo cpos (starEach (e:: es) X.env)) (backToKw cpos (keywordEach [] X.env))):=by rfl):
  PE X (.Call (.Attribute (.Name x np) "__init__" apos) (e:: es) [] cpos) (Ir C t):=by
 intro K s P H Q I h;refine PySem.W.methodCall_KW (pl:=pl) (kZ I L M ?_ O) a0;refine PySem.W.method_cls I.kIn g.ga (PySem.W.cls_value I.kIn g.rd g.fi (by rfl) ?_);have W:=I.tok (s.toks+1);have w:=V cpos K _ P H _ W h;show wpAny _ _ (callWith cpos (.builtin "ValueError.__init__") [] (backTo cpos (starEach (e:: es) X.env)) []) _ _ _;rw[G]at w ⊢;refine Calls.callWith_builtin (by show(false || (backTo cpos (starEach es X.env)).any (·.1))=false;rw[Z];rfl) (tE (thn w λus m⟨vs,H1,j,r,q⟩=>?_));obtain⟨p,b,J,rfl,l,R,Y⟩:=q;obtain⟨u,d,rfl,a1,D⟩:∃u d,us=u:: d/\RelV (.ref p) u/\Vals J d:=by cases r with|cons a b=>exact⟨_,_,rfl,a,b⟩
 obtain rfl:u=Value.ref p:=a1;obtain⟨⟨t',i⟩,_⟩:=(show nM X.prog X.w H1 m.heap _ (XObj _ C b) from j.hok _ _ l);obtain⟨bm,N,nm,q,bs,a3,sn,sub,ab,col,dd,k0,k1,k2,k3,k5,mN,a8,S,a6,b2,T,a5,b1⟩:=Iv j.kIn g.cl;have F:=yO;have hl:d.length<=sizeLine:=by rw[←D.length];exact R
 obtain⟨c,a9,b0,U,a7⟩:=m;refine vJ (vW F.init.plain F.initEntry (wpAny_check_init_subT F T S i rfl ?_));have a4:p≠c.objs.size:=zX (zI i);have k:(c.push (xTup d)).get? p=some (xExc C t' b):=zC _ i;unfold Builtin.«BaseException.__init__»;refine zA (pI ?_ hl);refine zA (zA (yY k rfl rfl (zA (vG k rfl (by show 0<6;decide) (pG (zB ?_))))));have v:((c.push (xTup d)).update p (Obj.mapFields (·.setIfInBounds 0 (.ref c.objs.size)))).get? p=some (xExc C c.objs.size b):=yX _ k rfl;refine⟨.non,H1,?_,rfl,Y⟩;have n:=j.write (h':=(c.push (xTup d)).update p (Obj.mapFields (·.setIfInBounds 0 (.ref c.objs.size)))) (x:=p) (e:=p) (t':=U) (o:=XObj p C b) (by rw[l];exact True.intro) (.inl rfl) (λb u a2 z=>(xK _ _ (zZ a2)).trans (zC _ z)) ⟨_,v⟩ (Ba v);rw[Ty l]at n;exact n
def XDct(a:Addr)(f:Str)(v:V):HO:=.ext λh=>∃mA u,h.Ns1 a mA/\mA f=some u/\RelV v u
theorem Tq{P:Program}{w:World}{H:Hp}{h:Heap}{a:Addr}{f:Str}{v:V}{b:MT}{u:Value}(q:h.Ns1 a b)(e:b f=some u)(r:RelV v u):nM P w H h a (XDct a f v):=
 ⟨⟨b,u,q,e,r⟩,let ⟨_,_,_,z,_⟩:=q;⟨_,z⟩,λ_ _⟨b,u,⟨od,es,ep,z,c⟩,e,r⟩k=>⟨b,u,⟨od,es,ep,k _ z,c⟩,e,r⟩⟩
def XNew(a:Addr):HO:=.ext λh=>∃o,h.get? a=some o
theorem Tp{P:Program}{w:World}{H:Hp}{h:Heap}{a:Addr}{o:Obj}(q:h.get? a=some o):nM P w H h a (XNew a):=⟨⟨o,q⟩,⟨o,q⟩,λ_ _⟨o,z⟩k=>⟨o,k _ z⟩⟩
def Iq(C:Addr)(nm:Str)(te to:TE):TS:=λD σ H=>te σ H λv H1=>to σ H1 λy H2=>∃p,y=.ref p/\H2 p=some (XObj p C none)/\∀dx,H2 dx=none->dx≠p->D.nx σ (upd (upd H2 dx (XDct dx nm v)) p (XObj p C (some dx)))
open Builtin Builtin.ObjectAttr in
theorem To(xs:XSt X.K C nm)(L:PE X e te)(b7:PE X o to)(c7:swapsWith e (some (.Attribute o nm apos)) pos.line X.env=pure false:=by rfl):PS X (.Assign [.Attribute o nm apos] e pos) (Iq C nm te to):=by
 intro O s R H D I h;refine plainObj_wpAny_Assign_Attribute (thn (L O s R H _ I h) λu a4⟨v,H1,b9,a5,g⟩=>thn (b7 O a4 R H1 _ b9 g) λc6 d⟨y,H2,F,b5,p,b8,T,a7⟩=>?_) c7;subst b8;obtain rfl:c6=Value.ref p:=b5;obtain⟨⟨t',n⟩,_⟩:=(show nM X.prog X.w H2 d.heap _ (XObj _ C none) from F.hok _ _ T);have j:=F.kIn;have ia:PySem.W.InstAt d.heap p (xExc C t' none) C none:=⟨n,rfl,rfl,trivial⟩;refine PySem.W.set_plain j ia xs.sa ?_;have k:=PySem.F.store_object;obtain⟨K,M,c4⟩:=sQ xs.mr;obtain⟨G,b2⟩:=Bool.and_eq_true_iff.mp c4;obtain⟨W,a2⟩:=Iu (.ref p) G;have c0:K.mro.isEmpty=false:=by cases q:K.mro with|nil=>rw[q]at G;cases G|cons _ _=>rfl
 have sub:PySem.W.Looks (model X.prog X.w) d.heap (isInstance (.ref p) (.type "object")) true:=ia.type.andThen (tL j (by unfold PySem.W.mroIn;rw[M,Option.bind_some,zD (by rw[c0];decide),a2]));refine vW k.slot.plain k.entry (@PySem.W.check_slot (model X.prog X.w) _ _ {d with toks:=d.toks+1} "object.__setattr__" "object" "__setattr__" (.ref p) [.str nm d.toks,u] [] _ k.kind k.split sub (k.args (.ref p) (.str nm d.toks) u) ?_);obtain⟨U,c3,hr⟩:=Option.bind_eq_some_iff.mp xs.tk;have a1:PySem.W.Looks (model X.prog X.w) d.heap (mroOf (.ref C)) K.mro:=(rM j M).andThen .now;have Z:PySem.W.Looks (model X.prog X.w) d.heap (storeTaker? U) none:=by
  cases U with
  |none=>exact .now
  |some a =>
   obtain⟨b,l,Y⟩:=Option.map_eq_some_iff.mp hr;refine(PySem.W.looks_takesIn j l).andThen ?_;cases b
   ·exact .now
   ·cases Y
 have up:∀{V:Type}{m:Sem V}{a:V},PySem.W.Looks (model X.prog X.w) d.heap m a->PySem.W.Looks (model X.prog X.w) {d with toks:=d.toks+1}.heap m a:=λz=>z;rw[PySem.W.osa_eq,refuse_eq];refine zA (zA (wX (up ia.type) (zA (wX (up a1) ?_))));rw[W];refine zB (zA (wX (up ia.type) (zA (wX (up (wK j c3)) (zA (wX (up Z) ?_))))));obtain⟨c,c1,c5,r,b4⟩:=d;have a0:c.get? p=some ⟨.ref C,none,.fields #[.ref t',.none,.none,.none,.bool false,.none],#[]⟩:=n;refine zA (zB (zA (zA (rP a0 (zA (wX (s:=⟨c,c1,c5,r+1,b4⟩) (rM j M) ?_))))));rw[b2];have i:p≠c.objs.size:=zX (zI n);have w:(c.push {cls:=.type "dict",data:=.dict #[]}).get? p=some (xExc C t' none):=zC _ n;refine zA (wpAny_alloc' (zA (wpAny_update' w (zB ?_))));have b6:((c.push {cls:=.type "dict",data:=.dict #[]}).update p λo=>{cls:=o.cls,dict:=some c.objs.size,data:=o.data,slots:=o.slots}).get? c.objs.size=some {cls:=.type "dict",data:=.dict #[]}:=
  (Heap.get?_update_ne _ _ _ _ i.symm).trans (Heap.get?_push_at rfl rfl)
 have a6:((c.push {cls:=.type "dict",data:=.dict #[]}).update p λo=>{cls:=o.cls,dict:=some c.objs.size,data:=o.data,slots:=o.slots}).Ns c.objs.size (λ_=>none):=
  ⟨_,#[],_,b6,rfl,λe L=>absurd L (by simp),λ_=>rfl⟩
 show wpAny _ _ (storeInDict c.objs.size (.str nm r) nm u) _ _ _;unfold storeInDict newKeyGuard;refine zA (zB (zA (wpAny_nsSet1 (Heap.Ns1.of_empty a6) λh' N S=>?_)));obtain⟨d1,d2,d0,P,a8,b1⟩:=N.count (Within.cons nm u Within.nil);refine zA (wpAny_lookBehind P (by rw[a8];exact pastItsLine_dict (yC b1 (by rw[zY,List.length_nil,sizeLine_eq];omega))) (zB ?_));have c9:h'.get? p=some (xExc C t' (some c.objs.size)):=(S.2 p i).trans (yX _ w rfl);have c8:H2 c.objs.size=none:=F.hok.fresh (zE _);refine⟨_,_,?_,a7 c.objs.size c8 i.symm⟩;have a3:=F.laid (h':=c.push {cls:=.type "dict",data:=.dict #[]}) (t':=r) (a:=c.objs.size) (o:=XNew c.objs.size) (λb u z=>zC _ z) (zE _) (Tp (Heap.get?_push_at rfl rfl));have c2:(upd H2 c.objs.size (XNew c.objs.size)) p=some (XObj p C none):=by rw[oV i];exact T
 have a9:=a3.write (h':=(c.push {cls:=.type "dict",data:=.dict #[]}).update p λo=>{cls:=o.cls,dict:=some c.objs.size,data:=o.data,slots:=o.slots}) (x:=p) (e:=p) (t':=r) (o:=XObj p C (some c.objs.size)) (by rw[c2];exact True.intro) (.inl rfl)
  (λb q l z=>(Heap.get?_update_ne _ _ _ _ l).trans z) ⟨_,yX _ w rfl⟩ (Ba (yX _ w rfl))
 have b0:(upd (upd H2 c.objs.size (XNew c.objs.size)) p (XObj p C (some c.objs.size))) c.objs.size=some (XNew c.objs.size):=by rw[oV i.symm,oS]
 have b3:upd (upd (upd H2 c.objs.size (XNew c.objs.size)) p (XObj p C (some c.objs.size))) c.objs.size (XDct c.objs.size nm v)=upd (upd H2 c.objs.size (XDct c.objs.size nm v)) p (XObj p C (some c.objs.size)):=by
  funext b
  by_cases g:b=c.objs.size
  ·subst g;rw[oS,oV i.symm,oS]
  ·by_cases J:b=p
   ·subst J;rw[oV g,oS,oS]
   ·rw[oV g,oV J,oV g,oV J,oV g]
 rw[←b3];exact a9.write (h':=h') (x:=c.objs.size) (e:=c.objs.size) (o:=XDct c.objs.size nm v) (by rw[b0];exact True.intro) (.inl rfl) (λb q l z=>(S.2 b l).trans z) ⟨_,P⟩ (Tq (u:=u) N (by simp) a5)
end
theorem Tn{prog:Program}{w:World}{A:Around}{E:VP}{s:Shared}{K:Frag}{x C:Addr}{j od:Obj}{nm:Str}{v:Value}{c:Bool}{Q:VP}(F:fC K C)(t:PySem.W.findIn K (.ref C) nm=some none)(l:PySem.W.hasDictIn K C=true)(KX:K.In s.heap)
  (b:PySem.W.InstAt s.heap x j C (some od))(hl:PySem.W.lookIn nm od=some (some v))(a:PySem.W.handedIn v=true)(h:Q v {s with toks:=s.toks+1}):wpAny (model prog w) A (getAttr (.ref x) nm c) Q E s:=by
 obtain⟨hh,g,d,f,D⟩:=s;have e:PySem.W.Looks (model prog w) hh (typeOf (.ref x)) (.ref C):=b.type;have m:=wK (M:=model prog w) KX F.ga;have p:=wK (M:=model prog w) KX F.gt;have o:=tL (M:=model prog w) KX F.bx;have n:=PySem.W.looks_find (M:=model prog w) KX b (PySem.W.findObj_own l t rfl hl);unfold getAttr getAttrBy;refine zA (pS (yU (zA (e.at (zA (m.at ?_))))));show wpAny _ _ (getAttrByItsOwn _ _ _ _ _ _) _ _ _;unfold getAttrByItsOwn;refine zA (show wpAny _ _ (hookBefore (.ref C)) _ _ _ from p.at ?_);refine zA (vB (yU ?_));unfold callGetattribute;rw[zD (show¬ (c && onTheHeap (Value.builtin "BaseException.__getattribute__"))=true by cases c <;> decide)];unfold boundAndCalled;rw[PySem.F.attr_ValueError.ga.bind (.ref x)];refine zA (zB (vJ ?_));refine vW PySem.F.attr_ValueError.ga.plain PySem.F.entry_bexc_ga ?_;have k:builtinKind "BaseException.__getattribute__"=some .slot:=nofun
 have r:splitId "BaseException.__getattribute__"=some ("BaseException","__getattribute__"):=nofun
 have G:=PySem.F.args_bexc_ga (.ref x) (.str nm f);have u:PySem.W.Looks (model prog w) hh (isInstance (.ref x) (.type "BaseException")) true:=e.andThen o;show wpAny _ _ (checkBuiltinCall "BaseException.__getattribute__" ⟨[.ref x,.str nm f],[]⟩) _ _ _;simp only[checkBuiltinCall,k,r];refine zA (u.at ?_)
 repeat wp_step
 refine rP b.at_ ?_;show wpAny _ _ (pure j.cls) _ _ _;rw[b.cls];refine zB (zA (n.at ?_))
 repeat wp_step
 cases v <;> first|exact zB h|skip;rename_i i;dsimp only;rw[zD]
 ·exact zB h
 ·replace a:(withoutEnding? i "#data").isNone=true:=a;intro q;cases z:withoutEnding? i "#data" with
  |none=>rw[z]at q;cases q
  |some y=>rw[z]at a;cases a
structure XGt(K:Frag)(C:Addr)(f:Str):Prop where
 F:fC K C
 na:PySem.W.findIn K (.ref C) f=some none
 hd:PySem.W.hasDictIn K C=true
theorem Ip{a b:Type}(f:a->b):∀(l:List a)(j:Nat),(l.map f).eraseIdx j=(l.eraseIdx j).map f
 |[],_=>rfl
 |_:: _,0=>rfl
 |x:: l,j+1=>by show f x:: (l.map f).eraseIdx j=_;rw[Ip f l j];rfl
def Tm:List V->Hp->VK->Prop:=λvs H Q=>∃x p b,vs=[x,.ref p]/\H p=some (.tup [.ty "list",.ty "tuple"])/\((∃i,x=.int i/\b=false)\/∃a xs,x=.ref a/\H a=some (.lst xs)/\b=true)/\Q (.bl b) H
theorem Io{X:Cx}(g:PySem.W.kitOne X.K (.type "int") (.type "list")=some false)(r:PySem.W.kitOne X.K (.type "int") (.type "tuple")=some false):mU X (.builtin "isinstance") Tm:=by
 intro k s m H xs us Q I j h;obtain⟨x,p,b,rfl,w,f,q⟩:=h;obtain⟨u,v,rfl,r1,r2⟩:=j.two;cases r2;have e:∀tk,EP X k m Q (.bool b) {s with toks:=tk}:=λtk=>⟨.bl b,H,I.tok tk,rfl,q⟩;obtain⟨_,its,t,⟨⟨J,od,G,K⟩,e1,c,n,d⟩⟩:=(show nM X.prog X.w H s.heap p (.tup _) from I.hok p _ w);obtain⟨F,L,rfl,C,l⟩:=t.two;cases C;cases l;dsimp only at c d;subst c d;rcases f with⟨i,rfl,rfl⟩|⟨a,ys,rfl,y,rfl⟩
 ·obtain⟨D,rfl⟩:=r1;exact PySem.W.kia_tup PySem.W.kitx_int I.kIn True.intro e1 (by unfold PySem.W.kitAny;rw[g];show PySem.W.kitAny _ _ _=_;unfold PySem.W.kitAny;rw[r];rfl) (λz=>nomatch z) e
 ·cases r1;obtain⟨_,_,n,_,o⟩:=(show nM X.prog X.w H s.heap a (.lst ys) from I.hok a _ y);exact PySem.W.kia_tup qI I.kIn ⟨_,o,rfl⟩ e1 (by rfl) (λz=>nomatch z) e
def KB(K:Frag)(fd:FuncData)(ps:List Str)(nm:Str):Prop:=
 ∀(s:Shared)(us:LW)(u:Value),K.In s.heap->us.length+1=ps.length->BindsTo s fd ⟨us,[(nm,u)]⟩ (ps.zip (us++[u]))
theorem FunD.kb{K:Frag}{x e nm:Str}{st:Stmt}{f:Addr}{g:FuncData}{ps:List Str}{ds:LW}(F:FunD K x e st f g ds)
  (h:∀(T:Addr)(kV b d:Value)(c:Option Addr)(cdv a:Value)(us:LW)(u:Value),us.length+1=ps.length->∃k,bindArgs (PySem.W.fnOf x e (jB st) (lR st) (oU st) (.ref T) kV b d c cdv a) ⟨us,[(nm,u)]⟩=seqItems? (.ref T) >>= k/\k (some ds.toArray)=pure (ps.zip (us++[u]))):KB K g ps nm:=by
 obtain⟨q,od,T,kV,b,d,c,cdv,a,m,rfl,o,v,n,p,t,r,lt⟩:=F.ex;intro s us u j l;obtain⟨k,e1,i⟩:=h T kV b d c cdv a us u l;exact rK (T:=T) rfl (j _ _ lt) rfl e1 i
section
variable {X:Cx} {CX:CXT} {E:XK} {k:Nat} {C f:Addr} {fd:FuncData} {ps:List Str} {sp:Sp} {x nm:Str} {p pos kpos:Pos} {e ek:Expr} {es:List Expr} {t:TA} {tk:TE}
def Im(C:Addr)(sp:Sp)(E:XK)(t:TA)(tk:TE):TE:=λσ H Q=>t σ H λvs H1=>tk σ H1 λz H2=>∀x dx,H2 x=none->H2 dx=none->dx≠x ->
 sp (.ref x:: (vs++[z])) (upd (upd H2 dx (.own x)) x (.ins C dx [])) (λv H3=>v=.non/\Q (.ref x) H3) E
def one1(R:V->Hp->Prop):List V->Hp->Prop
 |[z],H=>R z H
 |_,_=>False
theorem Tl{R:V->Hp->Prop}{zs:List V}{H:Hp}(h:one1 R zs H):∃z,zs=[z]/\R z H:=by
 cases zs with
 |nil=>exact h.elim
 |cons z r =>
  cases r with
  |nil=>exact⟨z,rfl,h⟩
  |cons _ _=>exact h.elim
theorem Tk(M:Mk X.K C f)(F:FnOk X.prog X.w X.K X.mg X.base CX k f fd ps sp)(hr:Room (k+1) X.A)(J:Gl X x)(K:X.mg x=some (.ref C))(a1:KB X.K fd ps nm)(o:iC CX X E)
  (Y:PA X (e:: es) t)(U:PE X ek tk)(N:(x == ("__debug__" :Str))=false:=by decide)(a0:starEach (e:: es) X.env=(false,eval e X.env):: starEach es X.env:=by rfl)
  (Z:((backTo pos (starEach (e:: es) X.env)).any (·.1) || (backToKw pos (keywordEach [⟨some nm,ek,kpos⟩] X.env)).any (·.1.isNone))=false:=by rfl):
  PE X (.Call (.Name x p) (e:: es) [⟨some nm,ek,kpos⟩] pos) (Im C sp E t tk):=by
 intro l s m H Q I h;refine xS (kZ I J K ?_ N);refine PySem.W.callWith_KW (h₀:=X.base) I.ok.mod.kin M.kp rfl (thn (Y pos l s m H _ I h) λus D⟨vs,H1,T,r,q⟩=>?_) Z a0;refine thn (Nn (nm:=some nm) (kpos:=kpos) U No pos l D m H1 (one1 λz H2=>∀x j,H2 x=none->H2 j=none->j≠x->sp (.ref x:: (vs++[z])) (upd (upd H2 j (.own x)) x (.ins C j [])) (λv H3=>v=.non/\Q (.ref x) H3) E) T q) λw c⟨zs,H2,g,P,L⟩=>⟨g.kIn,?_⟩;obtain⟨z,rfl,S⟩:=Tl L;obtain⟨u,rfl,a2⟩:∃u,w=[u]/\RelV z u:=by
  cases P with
  |cons a b=>cases b;exact⟨_,rfl,a⟩
 have n:=S (c.heap.objs.size+1) c.heap.objs.size (g.hok.fresh (vZ _)) (g.hok.fresh (zE _)) (zX (uE _));have i:=Inv.made (C:=C) g;have r2:Vals (V.ref (c.heap.objs.size+1):: (vs++[z])) (Value.ref (c.heap.objs.size+1):: (us++[u])):=.cons rfl (r.append (.cons a2 .nil));have hl:(Value.ref (c.heap.objs.size+1):: us).length+1=ps.length:=by
  have e:=r2.length;rw[F.len _ _ _ _ n,zY,yE,List.length_singleton]at e;rw[zY];omega
 show wpAny (model X.prog X.w) X.A (call (.ref C) ([]++us) [(nm,u)]) _ _ _;rw[rB];refine vJ (As (f:=f) g.kIn M.makes M.init (pW.mp M.fn) (wZ (F.run _ X.stack _ _ ⟨Value.ref (c.heap.objs.size+1):: us,[(nm,u)]⟩ (Value.ref (c.heap.objs.size+1):: (us++[u])) _ _ E (hr.make C us [(nm,u)])
  (i.env0.make C us [(nm,u)]) (a1 _ (Value.ref (c.heap.objs.size+1):: us) u i.kIn hl) r2 n) λr y d=>?_))
 cases r with
 |error e=>exact o l m _ _ e y i d
 | ok fl =>
  cases fl with
  |ret u =>
   obtain⟨v,H',W,G,R,O⟩:=i.after d;subst R;exact⟨G,⟨V.ref (c.heap.objs.size+1),H',W,rfl,O⟩⟩
  |next=>exact False.elim d
  |brk=>exact False.elim d
  |cont=>exact False.elim d
end
end L2
namespace Cw
open PySem L2
abbrev pa':List Str:=["_law_script","_law_at","_law_d","_law_spot","_law_sort"]
abbrev pb':List Str:=["_law_d","_law_makers_here","_law_members","_law_cell"]
abbrev pc':List Str:=["_law_rows_here","_law_tops","_law_under"]
abbrev pd':List Str:=["_law_d","_law_makers_here","_law_bound"]
abbrev pe':List Str:=["_law_members","_law_makers_here"]
abbrev pf':List Str:=["_law_sort","_law_cell","_law_d"]
abbrev pg':List Str:=["_law_rows_here","_law_cell"]
abbrev ph':List Str:=["_law_d","_law_makers_here"]
abbrev pi':List Str:=["self","d","makers","most"]
abbrev pj':List Str:=["_law_one","_law_other"]
abbrev pk':List Str:=["_law_script","_law_k"]
abbrev pl':List Str:=["rows","tops","under"]
abbrev pm':List Str:=["_law_cell","_law_d"]
abbrev pn':List Str:=["d","makers","most"]
abbrev po':List Str:=["self","apart"]
abbrev pp':List Str:=["rows","i","k"]
abbrev pq':List Str:=["one","other"]
abbrev pr':List Str:=["rows","spot"]
abbrev pt':List Str:=["_law_script"]
abbrev pu':List Str:=["_law_e"]
abbrev pv':List Str:=["rows"]
abbrev pw':List Str:=["self"]
open PySem.W (nsIn keepIn codeIn findIn fnOf mg_of kitOne)
open PyProof.Rows (mulOk_of_bits)
theorem zqe{a b:Type}{l:List a}{f:a->b}:(l.map f).length=l.length:=yP ..
theorem zqa{b:Type}{l:List b}{i:Nat}{a:b}(h:l[i]?=some a):∃h:i<l.length,l[i]=a:=oK.mp h
theorem zqb{b:Type}{l:List b}{i:Nat}{a:b}(h:l[i]?=some a):a∈l:=yF h
theorem zqc{b:Type}{l:List b}{i:Nat}{a:b}:l.getD i a=l[i]?.getD a:=tJ
theorem zqd{a:Type}{l:List a}{i:Nat}(h:i<l.length):l[i]?=some l[i]:=xM h
open PySem.W (Frag)
abbrev LM:=List (LI')
def top(i:Nat):Stmt:=PySem.Challenge.pw_crystalwords_k42_bounds.main.body.getD i (.Pass ⟨0,0,0,0⟩)
abbrev s_12:Stmt:=top 2
abbrev N_12:List Str:=["thing"]
abbrev s_3:Stmt:=cT (top 8) 0
abbrev N_3:List Str:=po'
abbrev Cu:Stmt:=top 20
abbrev N_z:List Str:=["one","other","greater","lesser","remainder"]
abbrev s_13:Stmt:=top 22
abbrev N_13:List Str:=["tops","under","common","top"]
abbrev aE:Stmt:=top 23
abbrev N_m:List Str:=["one","under"]
abbrev aF:Stmt:=top 25
abbrev N_o:List Str:=["size"]
abbrev s_1n:Stmt:=top 26
abbrev N_1n:List Str:=pq'
abbrev s_16:Stmt:=top 27
abbrev N_16:List Str:=pv'
abbrev s_11:Stmt:=top 28
abbrev N_11:List Str:=pp'
abbrev s_6:Stmt:=top 29
abbrev N_6:List Str:=["rows","total","sign","k","number"]
abbrev s_10:Stmt:=top 31
abbrev N_10:List Str:=pr'
abbrev s_1h:Stmt:=top 32
abbrev N_1h:List Str:=["rows","tops","under","axes"]
abbrev s_1e:Stmt:=top 33
abbrev N_1e:List Str:=["d"]
abbrev s_1a:Stmt:=top 34
abbrev N_1a:List Str:=["one","spot","tops"]
abbrev s_15:Stmt:=top 35
abbrev N_15:List Str:=["one","other","columns","rows"]
abbrev s_1i:Stmt:=top 36
abbrev N_1i:List Str:=["one"]
abbrev Ct:Stmt:=top 39
abbrev N_p:List Str:=["most"]
abbrev Cs:Stmt:=top 40
abbrev N_n:List Str:=["d","makers","maker"]
abbrev dE:Stmt:=top 41
abbrev N_x:List Str:=["d","makers","most","steps","found","words","at","number","step","reached"]
abbrev s_0:Stmt:=cT (top 42) 0
abbrev N_0:List Str:=["self","d","makers","most","words"]
abbrev s_8:Stmt:=cT (top 42) 2
abbrev N_8:List Str:=pw'
abbrev s_1:Stmt:=cT (top 42) 3
abbrev N_1:List Str:=pw'
abbrev s_7:Stmt:=top 44
abbrev N_7:List Str:=pk'
abbrev Cr:Stmt:=top 45
abbrev N_f:List Str:=pj'
abbrev aG:Stmt:=top 46
abbrev N_k:List Str:=["_law_d"]
abbrev aH:Stmt:=top 47
abbrev N_i:List Str:=["_law_one","_law_other","_law_d","_law_found","_law_i"]
abbrev Cq:Stmt:=top 48
abbrev N_r:List Str:=["_law_cell","_law_d","_law_rows_here","_law_k"]
abbrev aI:Stmt:=top 49
abbrev N_g:List Str:=["_law_cell","_law_d","_law_left","_law_rows_here","_law_i","_law_at"]
abbrev aJ:Stmt:=top 50
abbrev N_u:List Str:=["_law_cell","_law_d","_law_rows_here","_law_k","_law_i","_law_j","_law_by"]
abbrev Cp:Stmt:=top 51
abbrev N_y:List Str:=pf'
abbrev aK:Stmt:=top 52
abbrev N_h:List Str:=["_law_rows_here","_law_cell","_law_d","_law_k","_law_i","_law_j","_law_by","_law_row"]
abbrev dF:Stmt:=top 53
abbrev N_w:List Str:=["_law_rows_here","_law_tops","_law_under","_law_by","_law_top"]
abbrev aL:Stmt:=top 54
abbrev N_j:List Str:=["_law_script","_law_at","_law_d","_law_spot","_law_sort","_law_cell","_law_rows_here","_law_near","_law_under","_law_tops","_law_i","_law_far"]
abbrev dG:Stmt:=top 55
abbrev N_b:List Str:=["_law_script","_law_start","_law_d","_law_cell","_law_under","_law_spot","_law_sort","_law_many"]
abbrev dH:Stmt:=top 56
abbrev N_t:List Str:=["_law_rows_here","_law_tops","_law_under","_law_by","_law_top"]
abbrev aM:Stmt:=top 57
abbrev N_e:List Str:=["_law_one","_law_other","_law_rows_here","_law_tops","_law_i","_law_far"]
abbrev Co:Stmt:=top 58
abbrev N_l:List Str:=["_law_members","_law_makers_here","_law_there","_law_one","_law_maker_here"]
abbrev Cn:Stmt:=top 59
abbrev N_q:List Str:=pu'
abbrev Cm:Stmt:=top 60
abbrev N_v:List Str:=["_law_e","_law_some"]
abbrev s_4:Stmt:=top 61
abbrev N_4:List Str:=["_law_d","_law_makers_here","_law_bound","_law_word_here","_law_e"]
abbrev Cl:Stmt:=top 62
abbrev N_s:List Str:=["_law_d","_law_makers_here","_law_bound","_law_words","_law_e"]
abbrev s_9:Stmt:=top 63
abbrev N_9:List Str:=["_law_d","_law_makers_here","_law_group","_law_words","_law_e","_law_members"]
abbrev Ck:Stmt:=top 64
abbrev N_d:List Str:=["_law_d","_law_makers_here","_law_members","_law_cell","_law_count","_law_group","_law_more"]
abbrev s_1m:Stmt:=top 65
abbrev N_1m:List Str:=["_law_script","_law_d","_law_makers_here","_law_cell","_law_good","_law_members","_law_far","_law_bound","_law_beyond","_law_at","_law_other","_law_mixed"]
local macro_rules | `(tactic| walk_at "s")=>`(tactic| exact ⟨rfl,rfl,rfl,by decide +kernel,rfl,by decide +kernel,by decide +kernel⟩)
local macro_rules | `(tactic| walk_at "v")=>`(tactic| (intro _ _ _ _ h; first | (obtain ⟨_,hh,_⟩:=h; subst hh; rfl) | (obtain ⟨_,_,hh,_⟩:=h; subst hh; rfl) | (obtain ⟨_,_,_,hh,_⟩:=h; subst hh; rfl) | (obtain ⟨_,_,_,_,hh,_⟩:=h; subst hh; rfl) | (obtain ⟨_,_,_,_,_,hh,_⟩:=h; subst hh; rfl) | (obtain ⟨_,_,_,_,_,_,hh,_⟩:=h; subst hh; rfl) | (obtain ⟨_,_,_,_,_,_,_,hh,_⟩:=h; subst hh; rfl) | (obtain ⟨_,_,_,_,_,_,_,_,hh,_⟩:=h; subst hh; rfl) | (obtain ⟨_,_,_,_,_,_,_,_,_,hh,_⟩:=h; subst hh; rfl)))
theorem sc_12:nF N_12 ["thing"] (oU s_12):=by walk_at "s"
theorem sc_3:nF N_3 po' (oU s_3):=by walk_at "s"
theorem sc_z:nF N_z pq' (oU Cu):=by walk_at "s"
theorem sc_13:nF N_13 ["tops","under"] (oU s_13):=by walk_at "s"
theorem sc_m:nF N_m ["one"] (oU aE):=by walk_at "s"
theorem sc_o:nF N_o ["size"] (oU aF):=by walk_at "s"
theorem sc_1n:nF N_1n pq' (oU s_1n):=by walk_at "s"
theorem sc_16:nF N_16 pv' (oU s_16):=by walk_at "s"
theorem sc_11:nF N_11 pp' (oU s_11):=by walk_at "s"
theorem sc_6:nF N_6 pv' (oU s_6):=by walk_at "s"
theorem sc_10:nF N_10 pr' (oU s_10):=by walk_at "s"
theorem sc_1h:nF N_1h pl' (oU s_1h):=by walk_at "s"
theorem sc_1e:nF N_1e ["d"] (oU s_1e):=by walk_at "s"
theorem sc_1a:nF N_1a ["one","spot"] (oU s_1a):=by walk_at "s"
theorem sc_15:nF N_15 pq' (oU s_15):=by walk_at "s"
theorem sc_1i:nF N_1i ["one"] (oU s_1i):=by walk_at "s"
theorem sc_p:nF N_p ["most"] (oU Ct):=by walk_at "s"
theorem sc_n:nF N_n ["d","makers"] (oU Cs):=by walk_at "s"
theorem sc_x:nF N_x pn' (oU dE):=by walk_at "s"
theorem sc_0:nF N_0 pi' (oU s_0):=by walk_at "s"
theorem sc_8:nF N_8 pw' (oU s_8):=by walk_at "s"
theorem sc_1:nF N_1 pw' (oU s_1):=by walk_at "s"
theorem sc_7:nF N_7 pk' (oU s_7):=by walk_at "s"
theorem sc_f:nF N_f pj' (oU Cr):=by walk_at "s"
theorem sc_k:nF N_k ["_law_d"] (oU aG):=by walk_at "s"
theorem sc_i:nF N_i pj' (oU aH):=by walk_at "s"
theorem sc_r:nF N_r pm' (oU Cq):=by walk_at "s"
theorem sc_g:nF N_g pm' (oU aI):=by walk_at "s"
theorem sc_u:nF N_u pm' (oU aJ):=by walk_at "s"
theorem sc_y:nF N_y pf' (oU Cp):=by walk_at "s"
theorem sc_h:nF N_h pg' (oU aK):=by walk_at "s"
theorem sc_w:nF N_w pc' (oU dF):=by walk_at "s"
theorem sc_j:nF N_j pa' (oU aL):=by walk_at "s"
theorem sc_b:nF N_b pt' (oU dG):=by walk_at "s"
theorem sc_t:nF N_t pc' (oU dH):=by walk_at "s"
theorem sc_e:nF N_e pj' (oU aM):=by walk_at "s"
theorem sc_l:nF N_l pe' (oU Co):=by walk_at "s"
theorem sc_q:nF N_q pu' (oU Cn):=by walk_at "s"
theorem sc_v:nF N_v pu' (oU Cm):=by walk_at "s"
theorem sc_4:nF N_4 pd' (oU s_4):=by walk_at "s"
theorem sc_s:nF N_s pd' (oU Cl):=by walk_at "s"
theorem sc_9:nF N_9 ph' (oU s_9):=by walk_at "s"
theorem sc_d:nF N_d pb' (oU Ck):=by walk_at "s"
theorem sc_1m:nF N_1m pt' (oU s_1m):=by walk_at "s"
set_option genInjectivity false in
structure Adr where
 (a_12 a_3 a_z a_13 a_m a_o a_1n a_16 a_11 a_6 a_10 a_1h a_1e a_1a a_15 a_1i a_p a_n a_x a_0 a_8 a_1 a_7 a_f a_k a_i a_r a_g a_u a_y a_h a_w a_j a_b a_t a_e a_l a_q a_v a_4 a_s a_9 a_d a_1m:Addr)
 (d_12 d_3 d_z d_13 d_m d_o d_1n d_16 d_11 d_6 d_10 d_1h d_1e d_1a d_15 d_1i d_p d_n d_x d_0 d_8 d_1 d_7 d_f d_k d_i d_r d_g d_u d_y d_h d_w d_j d_b d_t d_e d_l d_q d_v d_4 d_s d_9 d_d d_1m:FuncData)
 a_14:Addr
 a_17:Addr
 a_a:Addr
 a_5:Addr
 a_1k:Addr
 a_2:Addr
 a_1d:Addr
 a_1g:Addr
 a_1l:Addr
 a_19:Addr
 a_1b:Addr
 a_18:Addr
 a_1c:Addr
 a_1f:Addr
 a_1o:Addr
 a_1j:Addr
 a_c:Addr
 k_0:Tok
structure Txt(K:Frag)(mg:MT)(t:Adr):Prop where
 F_12:FunT K mg "copied" s_12 t.a_12 t.d_12 ["thing"]
 F_3:Fun K "__init__" "TooMany.__init__" s_3 t.a_3 t.d_3
 b_3:mM K t.d_3 po' []
 F_z:FunT K mg "divisor" Cu t.a_z t.d_z pq'
 F_13:FunT K mg "place" s_13 t.a_13 t.d_13 ["tops","under"]
 F_m:FunT K mg "rest_place" aE t.a_m t.d_m ["one"]
 F_o:FunT K mg "still_rows" aF t.a_o t.d_o ["size"]
 F_1n:FunT K mg "dot" s_1n t.a_1n t.d_1n pq'
 F_16:FunT K mg "turned" s_16 t.a_16 t.d_16 pv'
 F_11:FunT K mg "without" s_11 t.a_11 t.d_11 pp'
 F_6:FunT K mg "determinant" s_6 t.a_6 t.d_6 pv'
 F_10:FunT K mg "joined" s_10 t.a_10 t.d_10 pr'
 F_1h:FunT K mg "deed" s_1h t.a_1h t.d_1h pl'
 F_1e:FunT K mg "still" s_1e t.a_1e t.d_1e ["d"]
 F_1a:FunT K mg "moved" s_1a t.a_1a t.d_1a ["one","spot"]
 F_15:FunT K mg "behind" s_15 t.a_15 t.d_15 pq'
 F_1i:FunT K mg "rest" s_1i t.a_1i t.d_1i ["one"]
 F_p:FunT K mg "check_most" Ct t.a_p t.d_p ["most"]
 F_n:FunT K mg "check_axes" Cs t.a_n t.d_n ["d","makers"]
 F_x:FunT K mg "closed" dE t.a_x t.d_x pn'
 F_0:FunD K "__init__" "Group.__init__" s_0 t.a_0 t.d_0 [.int 200 t.k_0]
 bd_Group___init__:mM K t.d_0 pi' [.int 200 t.k_0]
 bk_Group___init__:KB K t.d_0 pi' "most"
 b_0:mM K t.d_0 pi' []
 F_8:Fun K "makers" "Group.makers" s_8 t.a_8 t.d_8
 b_8:mM K t.d_8 pw' []
 F_1:Fun K "members" "Group.members" s_1 t.a_1 t.d_1
 b_1:mM K t.d_1 pw' []
 F_7:FunT K mg "_law_cell_at" s_7 t.a_7 t.d_7 pk'
 F_f:FunT K mg "_law_common" Cr t.a_f t.d_f pj'
 F_k:FunT K mg "_law_still" aG t.a_k t.d_k ["_law_d"]
 F_i:FunT K mg "_law_times" aH t.a_i t.d_i pj'
 F_r:FunT K mg "_law_sixty" Cq t.a_r t.d_r pm'
 F_g:FunT K mg "_law_signed" aI t.a_g t.d_g pm'
 F_u:FunT K mg "_law_free" aJ t.a_u t.d_u pm'
 F_y:FunT K mg "_law_rows" Cp t.a_y t.d_y pf'
 F_h:FunT K mg "_law_based" aK t.a_h t.d_h pg'
 F_w:FunT K mg "_law_low" dF t.a_w t.d_w pc'
 F_j:FunT K mg "_law_maker" aL t.a_j t.d_j pa'
 F_b:FunT K mg "_law_makers" dG t.a_b t.d_b pt'
 F_t:FunT K mg "_law_rest" dH t.a_t t.d_t pc'
 F_e:FunT K mg "_law_product" aM t.a_e t.d_e pj'
 F_l:FunT K mg "_law_closed" Co t.a_l t.d_l pe'
 F_q:FunT K mg "_law_later" Cn t.a_q t.d_q pu'
 F_v:FunT K mg "_law_word" Cm t.a_v t.d_v pu'
 F_4:FunT K mg "_law_refused" s_4 t.a_4 t.d_4 pd'
 F_s:FunT K mg "_law_apart" Cl t.a_s t.d_s pd'
 F_9:FunT K mg "_law_left_out" s_9 t.a_9 t.d_9 ph'
 F_d:FunT K mg "_law_by_count" Ck t.a_d t.d_d pb'
 F_1m:FunT K mg "law" s_1m t.a_1m t.d_1m pt'
 z_any:mg "any"=none
 z_sum:mg "sum"=none
 z_zip:mg "zip"=none
 z_enumerate:mg "enumerate"=none
 z_range:mg "range"=none
 z_len:mg "len"=none
 z_abs:mg "abs"=none
 z_isinstance:mg "isinstance"=none
 z_int:mg "int"=none
 z_list:mg "list"=none
 z_tuple:mg "tuple"=none
 z_sorted:mg "sorted"=none
 z_dict:mg "dict"=none
 z_min:mg "min"=none
 z_ValueError:mg "ValueError"=none
 m_14:mg "CrystalError"=some (.ref t.a_14)
 m_17:mg "NoPlace"=some (.ref t.a_17)
 m_a:mg "NoDeed"=some (.ref t.a_a)
 m_5:mg "NoNumber"=some (.ref t.a_5)
 m_1k:mg "NoText"=some (.ref t.a_1k)
 m_2:mg "TooMany"=some (.ref t.a_2)
 m_1d:mg "NoChange"=some (.ref t.a_1d)
 m_1g:mg "NotKept"=some (.ref t.a_1g)
 m_1l:mg "NoForm"=some (.ref t.a_1l)
 m_19:mg "NotWithin"=some (.ref t.a_19)
 m_1b:mg "NotLeast"=some (.ref t.a_1b)
 m_18:mg "NoDrawing"=some (.ref t.a_18)
 m_1c:mg "OffSheet"=some (.ref t.a_1c)
 m_1f:mg "NoSheet"=some (.ref t.a_1f)
 m_1o:mg "NoRow"=some (.ref t.a_1o)
 m_1j:mg "NoName"=some (.ref t.a_1j)
 m_c:mg "Group"=some (.ref t.a_c)
 g_MOST_MEMBERS:∃u,mg "MOST_MEMBERS"=some u/\RelV (.int 200) u
 k_ll:kitOne K (.type "list") (.type "list")=some true
 x_17:PySem.W.excIn K t.a_17 [.type "ValueError",.type "Exception",.type "BaseException",.type "object"] "ValueError.__new__"=true
 x_a:PySem.W.excIn K t.a_a [.type "ValueError",.type "Exception",.type "BaseException",.type "object"] "ValueError.__new__"=true
 cl_c:L2.Cls K t.a_c
 mk_c:L2.Mk K t.a_c t.a_0
 me_1:L2.Meth K t.a_c "members" t.a_1
 h_2:findIn K (.ref t.a_c) "dimension"=some none
 h_19:findIn K (.ref t.a_c) "given"=some none
 h_a:findIn K (.ref t.a_c) "ordered"=some none
 h_3:findIn K (.ref t.a_c) "shortest"=some none
 h_b:findIn K (.ref t.a_c) "numbers"=some none
 me_8:L2.Meth K t.a_c "makers" t.a_8
 k_il:kitOne K (.type "int") (.type "list")=some false
 k_it:kitOne K (.type "int") (.type "tuple")=some false
 h_c:L2.XIn K t.a_2 t.a_14 t.a_3
 h_d:L2.XSt K t.a_2 "apart"
 h_t:PySem.W.exmOne K (.ref t.a_2) (.ref t.a_2)=some true
 x_5:PySem.W.excIn K t.a_5 [.type "ValueError",.type "Exception",.type "BaseException",.type "object"] "ValueError.__new__"=true
 nm:PySem.W.exmOne K (.ref t.a_5) (.ref t.a_14)=some true
 n_ga:findIn K (.ref t.a_5) "__getattribute__"=some (some (.builtin "BaseException.__getattribute__"))
 n_gt:findIn K (.ref t.a_5) "__getattr__"=some none
 n_ca:findIn K (.ref t.a_5) "__class__"=some (some (.builtin "object.__class__"))
 n_ob:PySem.W.mroIn K t.a_5 (.type "object")=some true
 n_bx:PySem.W.mroIn K t.a_5 (.type "BaseException")=some true
 n_VE:kitOne K (.ref t.a_5) (.type "ValueError")=some true
 n_5:kitOne K (.ref t.a_5) (.ref t.a_5)=some true
 n_a:kitOne K (.ref t.a_5) (.ref t.a_a)=some false
 n_2:kitOne K (.ref t.a_5) (.ref t.a_2)=some false
 n_17:kitOne K (.ref t.a_5) (.ref t.a_17)=some false
 n_1k:kitOne K (.ref t.a_5) (.ref t.a_1k)=some false
 n_1d:kitOne K (.ref t.a_5) (.ref t.a_1d)=some false
 n_1g:kitOne K (.ref t.a_5) (.ref t.a_1g)=some false
 n_1l:kitOne K (.ref t.a_5) (.ref t.a_1l)=some false
 n_19:kitOne K (.ref t.a_5) (.ref t.a_19)=some false
 n_1b:kitOne K (.ref t.a_5) (.ref t.a_1b)=some false
 n_18:kitOne K (.ref t.a_5) (.ref t.a_18)=some false
 n_1c:kitOne K (.ref t.a_5) (.ref t.a_1c)=some false
 n_1f:kitOne K (.ref t.a_5) (.ref t.a_1f)=some false
 n_1o:kitOne K (.ref t.a_5) (.ref t.a_1o)=some false
 n_1j:kitOne K (.ref t.a_5) (.ref t.a_1j)=some false
 dm:PySem.W.exmOne K (.ref t.a_a) (.ref t.a_14)=some true
 d_ga:findIn K (.ref t.a_a) "__getattribute__"=some (some (.builtin "BaseException.__getattribute__"))
 d_gt:findIn K (.ref t.a_a) "__getattr__"=some none
 d_ca:findIn K (.ref t.a_a) "__class__"=some (some (.builtin "object.__class__"))
 d_ob:PySem.W.mroIn K t.a_a (.type "object")=some true
 d_bx:PySem.W.mroIn K t.a_a (.type "BaseException")=some true
 d_VE:kitOne K (.ref t.a_a) (.type "ValueError")=some true
 d_5:kitOne K (.ref t.a_a) (.ref t.a_5)=some false
 d_a:kitOne K (.ref t.a_a) (.ref t.a_a)=some true
 d_2:kitOne K (.ref t.a_a) (.ref t.a_2)=some false
 d_17:kitOne K (.ref t.a_a) (.ref t.a_17)=some false
 d_1k:kitOne K (.ref t.a_a) (.ref t.a_1k)=some false
 d_1d:kitOne K (.ref t.a_a) (.ref t.a_1d)=some false
 d_1g:kitOne K (.ref t.a_a) (.ref t.a_1g)=some false
 d_1l:kitOne K (.ref t.a_a) (.ref t.a_1l)=some false
 d_19:kitOne K (.ref t.a_a) (.ref t.a_19)=some false
 d_1b:kitOne K (.ref t.a_a) (.ref t.a_1b)=some false
 d_18:kitOne K (.ref t.a_a) (.ref t.a_18)=some false
 d_1c:kitOne K (.ref t.a_a) (.ref t.a_1c)=some false
 d_1f:kitOne K (.ref t.a_a) (.ref t.a_1f)=some false
 d_1o:kitOne K (.ref t.a_a) (.ref t.a_1o)=some false
 d_1j:kitOne K (.ref t.a_a) (.ref t.a_1j)=some false
 ym:PySem.W.exmOne K (.ref t.a_2) (.ref t.a_14)=some true
 y_ga:findIn K (.ref t.a_2) "__getattribute__"=some (some (.builtin "BaseException.__getattribute__"))
 y_gt:findIn K (.ref t.a_2) "__getattr__"=some none
 y_ca:findIn K (.ref t.a_2) "__class__"=some (some (.builtin "object.__class__"))
 y_ob:PySem.W.mroIn K t.a_2 (.type "object")=some true
 y_bx:PySem.W.mroIn K t.a_2 (.type "BaseException")=some true
 y_VE:kitOne K (.ref t.a_2) (.type "ValueError")=some true
 y_5:kitOne K (.ref t.a_2) (.ref t.a_5)=some false
 y_a:kitOne K (.ref t.a_2) (.ref t.a_a)=some false
 y_2:kitOne K (.ref t.a_2) (.ref t.a_2)=some true
 y_17:kitOne K (.ref t.a_2) (.ref t.a_17)=some false
 y_1k:kitOne K (.ref t.a_2) (.ref t.a_1k)=some false
 y_1d:kitOne K (.ref t.a_2) (.ref t.a_1d)=some false
 y_1g:kitOne K (.ref t.a_2) (.ref t.a_1g)=some false
 y_1l:kitOne K (.ref t.a_2) (.ref t.a_1l)=some false
 y_19:kitOne K (.ref t.a_2) (.ref t.a_19)=some false
 y_1b:kitOne K (.ref t.a_2) (.ref t.a_1b)=some false
 y_18:kitOne K (.ref t.a_2) (.ref t.a_18)=some false
 y_1c:kitOne K (.ref t.a_2) (.ref t.a_1c)=some false
 y_1f:kitOne K (.ref t.a_2) (.ref t.a_1f)=some false
 y_1o:kitOne K (.ref t.a_2) (.ref t.a_1o)=some false
 y_1j:kitOne K (.ref t.a_2) (.ref t.a_1j)=some false
 e_cg:PySem.W.specialIn K (.builtin "object.__class__") "__get__"=some (some (.builtin "getset_descriptor.__get__"))
 e_tk:PySem.W.takesIn K (.builtin "object.__class__")=some true
 h_1m:findIn K (.ref t.a_2) "apart"=some none
 h_r:PySem.W.hasDictIn K t.a_2=true
 bl:∀(s:Shared)(u:Value),BindsTo s t.d_1m ⟨[u],[]⟩ [("_law_script",u)]
local macro_rules | `(tactic| walk_at "r")=>`(tactic| simp only [tSeq,tAsg,nB,tVar,qVar,tC,tOp,s_V,t_A,t_B,tUn,cI,tB,tIfS,tIf,tAnd,tOr,tNot,Mu,tOrV,t_w,tRet,t_y,Mq,Et,kL,Oh,nO,tNil,tCB,tTup,tLst,tPar,Fe,tBM,tBM0,tSl,Ao,Ap,List.getElem?_cons_zero,List.getElem?_cons_succ,Option.some.injEq,exists_eq_left',exists_eq_left,List.set_cons_zero,List.set_cons_succ,List.cons.injEq,V.int.injEq,V.bl.injEq,V.ref.injEq,and_true,true_and,List.append_nil,ne_eq,exists_and_left,and_assoc,↓reduceIte,Bool.not_true,Bool.not_false,Bool.false_eq_true])
set_option hygiene false in
local macro_rules | `(tactic|apply $e:term)=>`(tactic|refine $e (by walk_at "v") (λcdv A outer s H vs Q E hr h=>?_))
set_option hygiene false in
local macro_rules | `(tactic|left)=>`(tactic|(subst e1;refine st λN1 e1=>?_;ext))
set_option hygiene false in
local macro_rules | `(tactic|right)=>`(tactic|(refine st λN1 e1=>?_;ext))
set_option hygiene false in
local macro_rules | `(tactic|symm)=>`(tactic|(subst e1;ext))
set_option hygiene false in
local macro_rules | `(tactic|exfalso)=>`(tactic|(refine nW λB eB=>?_;simp only[iSeq];ext))
def gcdI(a b:Int):Int:=(Int.gcd a b:Int)
def absI(u:Int):Int:=if u<0 then -u else u
def gl(u:Int)(ns:LI'):Int:=ns.foldl gcdI (absI u)
theorem Tj(u:Int):0<=absI u:=by unfold absI;split <;> omega
theorem Ti{d u:Int}:d∣absI u↔d∣u:=by
 unfold absI;split
 ·exact Int.dvd_neg
 ·exact Iff.rfl
theorem Il{d:Int}:∀(ns:LI')(c:Int),d∣ns.foldl gcdI c↔d∣c/\∀g∈ns,d∣g
 |[],c=>by simp
 | g:: r,c=>by
  rw[vQ,Il r];unfold gcdI;rw[Int.dvd_coe_gcd_iff];constructor
  ·rintro⟨⟨f,a⟩,i⟩;refine⟨f,λx b=>?_⟩;rcases xC.mp b with e|e
   ·rw[e];exact a
   ·exact i x e
  ·rintro⟨f,a⟩;exact⟨⟨f,a g yD⟩,λx b=>a x (zT _ b)⟩
theorem fR{d u:Int}{ns:LI'}:d∣gl u ns↔d∣u/\∀t∈ns,d∣t:=by
 unfold gl;rw[Il,Ti]
theorem Ik:∀(ns:LI')(c:Int),0<=c->0<=ns.foldl gcdI c
 |[],_,h=>h
 |t:: r,c,_=>Ik r _ (Int.natCast_nonneg _)
theorem aN(u:Int)(ns:LI'):0<=gl u ns:=Ik ns _ (Tj u)
theorem gl_u(u:Int)(ns:LI'):gl u ns∣u:=(fR.mp (qT _)).1
theorem aO{u t:Int}{ns:LI'}(h:t∈ns):gl u ns∣t:=(fR.mp (qT _)).2 t h
theorem Cj{u:Int}(ns:LI')(h:u≠0):0<gl u ns:=by
 have:=aN u ns;rcases Int.lt_or_eq_of_le this with q|q
 ·exact q
 ·obtain⟨k,e⟩:=gl_u u ns;rw[←q,uJ]at e;exact absurd e h
theorem Th{u v:Int}{ns ms:LI'}(h:∀d:Int,(d∣u/\∀t∈ns,d∣t)↔(d∣v/\∀t∈ms,d∣t)):gl u ns=gl v ms:=
 Int.dvd_antisymm (aN _ _) (aN _ _) (fR.mpr ((h _).mp (fR.mp (qT _)))) (fR.mpr ((h _).mpr (fR.mp (qT _))))
theorem Tg(u:Int)(ns:LI')(t:Int):gl u (ns++[t])=gcdI (gl u ns) t:=by unfold gl;rw[tZ];rfl
def cs(u:Int)(ns:LI'):Int:=if u<0 then -(gl u ns) else gl u ns
theorem fS{u:Int}(ns:LI')(h:u≠0):cs u ns≠0:=by
 have:=Cj ns h;unfold cs;split <;> omega
theorem jU{u x:Int}{ns:LI'}(h:gl u ns∣x):cs u ns∣x:=by
 unfold cs;split
 ·exact Int.neg_dvd.mpr h
 ·exact h
theorem hJ{c x:Int}(a:c≠0)(h:c∣x):x.fdiv c*c=x:=by
 obtain⟨k,e⟩:=h;subst e;rw[vA c k,Int.mul_fdiv_cancel _ a]
theorem aP{u:Int}(ns:LI')(h:u≠0):0<u.fdiv (cs u ns):=by
 have e:=hJ (fS ns h) (jU (gl_u u ns));have g:=Cj ns h;rcases Int.lt_trichotomy (u.fdiv (cs u ns)) 0 with q|q|q
 ·refine False.elim ?_;unfold cs at e q;split at e
  ·rename_i a;rw[zF a]at q;have:=Int.mul_nonneg_of_nonpos_of_nonpos (uB q) (show -(gl u ns)<=0 by omega);omega
  ·rename_i a;rw[zD a]at q;have:=Int.mul_neg_of_neg_of_pos q g;omega
 ·rw[q,uJ]at e;exact absurd e.symm h
 ·exact q
theorem Tf{u:Int}{ns:LI'}(h:0<u)(g:gl u ns=1):cs u ns=1:=by
 unfold cs;rw[zD ⋯,g]
theorem Td{u:Int}{ns:LI'}(h:0<u)(g:gl u ns=1):(ns.map λt=>t.fdiv (cs u ns))=ns/\u.fdiv (cs u ns)=u:=by
 rw[Tf h g];refine⟨?_,Int.fdiv_one u⟩;rw[show(λt:Int=>t.fdiv 1)=id from funext λt=>Int.fdiv_one t,List.map_id]
theorem Tc{u:Int}(b:0<u)(a:Int):(a.fmod u-a).fmod u=0:=by
 rw[wB a (uB b),wB _ (uB b)];exact Int.emod_eq_zero_of_dvd (by
  have:=Int.emod_add_mul_ediv a u;exact⟨-(a/u),by rw[Int.mul_neg];omega⟩)
theorem Ij(g l:Int):Int.gcd l (Int.fmod g l)=Int.gcd g l:=by
 rw[Int.fmod_def,Int.gcd_sub_mul_left_right,Int.gcd_comm]
theorem Ii(a b:Int):Int.gcd (if a<0 then -a else a) (if b<0 then -b else b)=Int.gcd a b:=by
 split <;> split <;> simp
theorem aQ(a:Int):0<=(if a<0 then -a else a):=by split <;> omega
theorem Ih{g l a b:Int}(h:Int.gcd g l=Int.gcd a b)(c:0<=g)(z:l=0):g=gcdI a b:=by
 rw[z,Int.gcd_zero_right]at h;unfold gcdI;rw[←h];omega
def Ci:Sp:=λvs H Q _=>∃a b,vs=[.int a,.int b]/\Q (.int (gcdI a b)) H
abbrev sp_z:Sp:=Ci
abbrev sp_f:Sp:=Ci
def jF(H:Hp)(p:Addr)(ns:LI')(u:Int):Prop:=∃q,H p=some (.tup [.ref q,.int u])/\H q=some (.tup (ns.map V.int))
theorem jF.up{H H':Hp}{p:Addr}{ns:LI'}{u:Int}(h:jF H p ns u)(s:Same H H'):jF H' p ns u:=let ⟨q,b,a⟩:=h;⟨q,s _ _ b,s _ _ a⟩
def kH(n:Int):Prop:=n.natAbs<2^8990
theorem Ig{c:Int}(h:kH c)(z:c≠0):c.natAbs.log2<9000:=zJ ((Nat.log2_lt ⋯).mpr h) ∅
theorem Ie{c u:Int}(h:kH u)(z:u≠0)(d:c∣u):kH c:=by
 have:=Int.natAbs_dvd_natAbs.mpr d;have:=Nat.le_of_dvd ⋯ this;unfold kH at*
 omega
def redT(u:Int)(ns:LI'):LI':=ns.map λt=>t.fdiv (cs u ns)
def redU(u:Int)(ns:LI'):Int:=u.fdiv (cs u ns)
def mQ(u:Int)(ns:LI'):LI':=ns.map λt=>t.fmod u
def sp_13(K:Frag)(C:Addr):Sp:=λvs H Q E=>E4 λ(b:Bool)(a:Addr)(ns:LI')(u:Int)=>A6 (vs=[.ref a,.int u]) (SqB b K H a (ns.map V.int)) (ns.length<=100) (kH u) (((u=0\/ns=[])->E (.ref C) none H)) ((u≠0->ns≠[]->∀p H',Same H H'->jF H' p (redT u ns) (redU u ns)->Q (.ref p) H'))
theorem Ta{a:Type}{ns:List a}{i:Nat}{n:a}(h:ns[i]?=some n):ns.take (i+1)=ns.take i++[n]:=by
 rw[xN,h];rfl
def sp_1n(K:Frag):Sp:=λvs H Q _=>E6 λ(b1 b2:Bool)(p q:Addr)(ms ns:LI')=>A7 (vs=[.ref p,.ref q]) (SqB b1 K H p (ms.map V.int)) (SqB b2 K H q (ns.map V.int)) (ms.length=ns.length) (ms.length<=1000) ((∀(i:Nat) m n,ms[i]?=some m->ns[i]?=some n->IntMulOk m n)) (∀H',Same H H'->Q (.int (dotI ms ns)) H')
def sp_16(K:Frag):Sp:=λvs H Q _=>E5 λ(b1 b2:Bool)(a:Addr)(rows:LM)(w:Nat)=>A7 (vs=[.ref a]) (MatB b1 b2 K H a rows) (rows≠[]) ((∀r∈rows,r.length=w)) (w<=1000) (rows.length<=1000) (∀r H',H r=none->Same H H'->MatL H' r (bH w rows)->Q (.ref r) H')
def jV(i k:Nat)(rows:LM):LM:=(rows.eraseIdx i).map λr=>r.eraseIdx k
def sg(k:Nat):Int:=if k%2=0 then 1 else -1
def altS(f:Nat->Int):Nat->Int
 |0=>0
 |k+1=>altS f k+sg k*f k
def detM:Nat->LM->Int
 |0,_=>1
 |1,rows=>(rows.getD 0 []).getD 0 0
 |n+2,rows=>altS (λk=>(rows.getD 0 []).getD k 0*detM (n+1) (jV 0 k rows)) (n+2)
def Sq(n:Nat)(rows:LM):Prop:=rows.length=n/\∀r∈rows,r.length=n
def nZ(B:Nat)(rows:LM):Prop:=∀r∈rows,∀x∈r,x.natAbs<2^B
theorem Uz(k:Nat):-sg k=sg (k+1):=by
 unfold sg
 by_cases h:k%2=0
 ·rw[zF h,zD ⋯]
 ·rw[zD h,zF ⋯];rfl
theorem Id(k:Nat):(sg k).natAbs=1:=by unfold sg;split <;> rfl
theorem Sq.minor{n i k:Nat}{a:LM}(h:Sq (n+1) a)(hi:i<n+1)(b:k<n+1):Sq n (jV i k a):=by
 refine⟨?_,λr hr=>?_⟩
 ·unfold jV;rw[zqe,rA,h.1,zF hi];rfl
 ·obtain⟨z,c,rfl⟩:=oA.mp hr;have hl:=h.2 z (tS c);rw[rA,hl,zF b];rfl
theorem nZ.minor{B i k:Nat}{a:LM}(h:nZ B a):nZ B (jV i k a):=λr hr x b=>by
 obtain⟨z,c,rfl⟩:=oA.mp hr;exact h z (tS c) x (tS b)
theorem Ic{f:Nat->Int}{M:Nat}:∀n:Nat,(∀k<n,(f k).natAbs<=M)->(altS f n).natAbs<=n*M
 |0,_=>by simp[altS]
 |n+1,h=>by
  have d:=Ic n λk c=>h k ⋯;have b:=h n ⋯;show(altS f n+sg n*f n).natAbs<=_;have a:=vS (altS f n) (sg n*f n);rw[xP,Id,Nat.one_mul]at a;rw[rC];omega
theorem row0{n:Nat}{a:LM}(h:Sq (n+1) a):a[0]?=some (a.getD 0 [])/\a.getD 0 []∈a:=by
 have hl:0<a.length:=by have:=h.1;omega
 have e:a.getD 0 []=a[0]:=by simp[hl]
 rw[e];exact⟨by simp[hl],uF hl⟩
theorem Ib{B:Nat}:∀(n:Nat)(a:LM),1<=n->n<=4->Sq n a->nZ B a->(detM n a).natAbs<=2^(n*(B+2))
 |0,_,h,_,_,_=>⋯
 |1,a,_,_,b,c=>by
  have hr:=row0 b;have hl:0<(a.getD 0 []).length:=by rw[b.2 _ hr.2];decide
  have:=c _ hr.2 _ (L2.getD_mem hl);show((a.getD 0 []).getD 0 0).natAbs<=_;have:2^B<=2^(1*(B+2)):=yV ∅ ⋯;omega
 | n+2,a,_,j,b,c=>by
  have hr:=row0 b;have i:∀k<n+2,((a.getD 0 []).getD k 0*detM (n+1) (jV 0 k a)).natAbs<=2^B*2^((n+1)*(B+2)):=λk d=>by
   have hl:k<(a.getD 0 []).length:=by rw[b.2 _ hr.2];exact d
   have g:=c _ hr.2 _ (L2.getD_mem hl);have f:=Ib (n+1) (jV 0 k a) ⋯ ⋯ (b.minor ⋯ d) c.minor;rw[xP];exact vH (vL g) f
  have:=Ic (n+2) i;have e:2^((n+2)*(B+2))=4*(2^B*2^((n+1)*(B+2))):=by
   rw[←tK,show(4:Nat)=2^2 from rfl,←tK];congr 1;rw[Nat.add_mul,Nat.add_mul];omega
  show(altS _ (n+2)).natAbs<=_;rw[e];refine yC this (wG _ ⋯)
theorem mE{x:Int}{B:Nat}(h:x.natAbs<2^B):Builtin.Int.intBits x<=B:=intBits_le_iff.mpr h
def sp_11(K:Frag):Sp:=λvs H Q _=>E7 λ(b1 b2:Bool)(a:Addr)(rows:LM)(i k w:Nat)=>A7 (vs=[.ref a,.int i,.int k]) (MatB b1 b2 K H a rows) ((∀r∈rows,r.length=w)) (k<w) (w<=1000) (rows.length<=1000) (∀r H',H r=none->Same H H'->MatL H' r (jV i k rows)->Q (.ref r) H')
def sp_6(K:Frag):Nat->Sp
 |0=>λ_ _ _ _=>False
 |n+1=>λvs H Q _=>∃(b1 b2:Bool)(a:Addr)(rows:LM)(B:Nat),vs=[.ref a]/\MatB b1 b2 K H a rows/\Sq (n+1) rows/\n<=3/\nZ B rows/\B<=1000000/\∀H',Same H H'->Q (.int (detM (n+1) rows)) H'
section
variable {g:TG} {tt:TOx} {fr:List (Str×Nat)} {σ:St} {a:Addr} {H:Hp} {Q:VK} {K:Frag}
theorem Uy{b:Bool}{l:Addr}{xs:List V}(P:Nat->List V->Hp->Prop)(f:H a=none)(c:SqB b K H l xs)(m:xs.length<=1000)(u:P 0 [] (upd H a (.lst [])))
  (hl:∀i zs H1,P i zs H1->zs.length<=i)(mono:∀i zs H1 H2,P i zs H1->kU a H1 H2->P i zs H2)
  (z:∀i x H1 zs,xs[i]?=some x->Same H H1->H1 a=some (.lst zs)->P i zs H1->∀C:Option V->Hp->Prop,
   (∀y H2,Same H1 H2->P (i+1) (zs++[y]) H2->C (some y) H2)->(∀H2,Same H1 H2->P (i+1) zs H2->C none H2)->tt (some (.int i):: some x:: mX fr σ) H1 C)
  (v:∀H1 ys,Same H H1->H1 a=some (.lst ys)->P xs.length ys H1->Q (.ref a) H1):
  kF (Ite K b l) (gTup K 2 (mW (nB 0) (mW (nB 1) gNil))) tt 2 fr σ a H Q:=by
 refine Bw xs.length P f m u hl mono (λi H1 hi s=>⟨xs,xs[i],c.up s,by simp[hi]⟩) (λH1 s=>⟨xs,c.up s,rfl⟩) ?_ v;intro i H1 zs hi e F p n x H3 k G C D t;obtain⟨q,x,rfl,w,rfl,j⟩:=G;refine⟨q,[.int i,x],rfl,SqT.of oS,rfl,_,[x],rfl,x,[],rfl,rfl,?_⟩;have sn:Same H1 (upd H1 q (.tup [.int i,x])):=Same.new w
 match n,k with
 |[o,I],_ =>
  exact⟨⟨[some (.int i),some x],rfl,rfl⟩,z i x _ zs (j xs (c.up e)) (e.trans sn) (sn _ _ F) (mono _ _ _ _ p sn.x) C (λy H2 d r=>D y H2 (sn.trans d) r) λH2 d r=>t H2 (sn.trans d) r⟩
end
theorem SqB.cut{b:Bool}{K:Frag}{H:Hp}{p:Addr}{xs:List V}:SqB b K (upd H p (seqO b xs)) p xs:=by
 cases b
 ·exact SqB.lst oS
 ·exact SqB.tup oS
theorem Ux{d:Type}{b:List d}{c a:Nat}{r:d}(e:b[a]?=some r):(b.take (a+1)).eraseIdx c=if a=c then(b.take a).eraseIdx c else(b.take a).eraseIdx c++[r]:=by
 have g:a<b.length:=(zqa e).1;have hl:(b.take a).length=a:=by rw[yN];omega
 rw[xN,e];show(b.take a++[r]).eraseIdx c=_
 by_cases h:a=c
 ·rw[zF h,vY ⋯,hl,h,vK,tI (l:=b.take c) (by rw[yN];omega)];simp
 ·rw[zD h]
  by_cases f:c<a
  ·rw[List.eraseIdx_append_of_lt_length ⋯]
  ·rw[vY ⋯,hl,tI (l:=b.take a) ⋯];congr 1;rw[tI];simp;omega
theorem aR{B C:Nat}:∀(ms ns:LI'),(∀x∈ms,x.natAbs<2^B)->(∀y∈ns,y.natAbs<2^C)->(dotI ms ns).natAbs<=ms.length*2^(B+C)
 |[],ns,_,_=>by simp[dotI]
 |m:: ms,[],_,_=>by simp[dotI]
 | m:: ms,n:: ns,b,a=>by
  have i:=aR ms ns (λx c=>b x (zT _ c)) (λy g=>a y (zT _ g));have e:dotI (m:: ms) (n:: ns)=m*n+dotI ms ns:=by simp[dotI]
  have d:=b m yD;have f:=a n yD;have k:(m*n).natAbs<=2^(B+C):=by
   rw[xP,tK];exact vH (vL d) (vL f)
  have j:=vS (m*n) (dotI ms ns);rw[e,zY,rC];omega
def idM(d:Nat):LM:=(List.range d).map λi=>(List.range d).map λk=>if i=k then(1:Int) else 0
def sp_o:Sp:=λvs H Q _=>E1 λ(n:Nat)=>A3 (vs=[.int n]) (n<=1000) (∀r H',H r=none->Same H H'->MatL H' r (idM n)->Q (.ref r) H')
def lN(K:Frag)(H:Hp)(p:Addr)(M:LM)(ts:LI')(u:Int):Prop:=∃pr pt,H p=some (.tup [.ref pr,.ref pt,.int u])/\MatB true true K H pr M/\H pt=some (.tup (ts.map V.int))
theorem lN.up{K:Frag}{H H':Hp}{p:Addr}{M:LM}{ts:LI'}{u:Int}(h:lN K H p M ts u)(s:Same H H'):lN K H' p M ts u:=let ⟨pr,pt,b,a,c⟩:=h;⟨pr,pt,s _ _ b,a.up s,s _ _ c⟩
def sp_10(K:Frag):Sp:=λvs H Q _=>E7 λ(b1 b2:Bool)(a p:Addr)(M:LM)(ts:LI')(u:Int)=>A5 (vs=[.ref a,.ref p]) (MatB b1 b2 K H a M) (jF H p ts u) (M.length<=100) (∀q H',Same H H'->lN K H' q M ts u->Q (.ref q) H')
def PlS(K:Frag)(H:Hp)(p:Addr)(ns:LI')(u:Int):Prop:=∃q,SqT K H p [.ref q,.int u]/\SqT K H q (ns.map V.int)
theorem jF.s{K:Frag}{H:Hp}{p:Addr}{ns:LI'}{u:Int}(h:jF H p ns u):PlS K H p ns u:=let ⟨q,b,a⟩:=h;⟨q,SqT.of b,SqT.of a⟩
theorem PlS.up{K:Frag}{H H':Hp}{p:Addr}{ns:LI'}{u:Int}(h:PlS K H p ns u)(s:Same H H'):PlS K H' p ns u:=let ⟨q,b,a⟩:=h;⟨q,lK s _ _ b,lK s _ _ a⟩
theorem Ia{K:Frag}{H:Hp}{p:Addr}{ns:LI'}{u:Int}{Q:VK}(h:PlS K H p ns u)(k:∀q,SqT K H q (ns.map V.int)->Q (.ref q) H):rIxB K (.ref p) (.int 0) H Q:=let ⟨q,b,a⟩:=h;⟨true,p,_,_,_,rfl,rfl,(b:SqB true K H p _),rfl,k q a⟩
theorem Cg{K:Frag}{H:Hp}{p:Addr}{ns:LI'}{u:Int}{Q:VK}(h:PlS K H p ns u)(k:Q (.int u) H):rIxB K (.ref p) (.int 1) H Q:=let ⟨q,a,b⟩:=h;⟨true,p,_,_,_,rfl,rfl,(a:SqB true K H p _),rfl,k⟩
def sp_m(K:Frag):Sp:=λvs H Q _=>E3 λ(p:Addr)(ns:LI')(u:Int)=>A5 (vs=[.ref p]) (PlS K H p ns u) (ns.length<=100) (0<u) (∀p' H',Same H H'->jF H' p' (mQ u ns) u->Q (.ref p') H')
def kQ(K:Frag)(H:Hp)(p:Addr)(M:LM)(ts:LI')(u:Int):Prop:=∃v0 v1,SqT K H p [.ref v0,.ref v1,.int u]/\MatB true true K H v0 M/\SqT K H v1 (ts.map V.int)
theorem kQ.up{K:Frag}{H H':Hp}{p:Addr}{M:LM}{ts:LI'}{u:Int}(h:kQ K H p M ts u)(s:Same H H'):kQ K H' p M ts u:=let ⟨e,a,c,b,d⟩:=h;⟨e,a,lK s _ _ c,b.up s,lK s _ _ d⟩
theorem lN.s{K:Frag}{H:Hp}{p:Addr}{M:LM}{ts:LI'}{u:Int}(h:lN K H p M ts u):kQ K H p M ts u:=let ⟨e,a,c,b,d⟩:=h;⟨e,a,SqT.of c,b,SqT.of d⟩
theorem hX{K:Frag}{H:Hp}{p:Addr}{M:LM}{ts:LI'}{u:Int}{Q:VK}(h:kQ K H p M ts u)(q:∀x,MatB true true K H x M->Q (.ref x) H):rIxB K (.ref p) (.int 0) H Q:=let ⟨x,y,b,a,c⟩:=h;⟨true,p,_,_,_,rfl,rfl,(b:SqB true K H p _),rfl,q x a⟩
theorem dI{K:Frag}{H:Hp}{p:Addr}{M:LM}{ts:LI'}{u:Int}{Q:VK}(h:kQ K H p M ts u)(q:∀x,SqT K H x (ts.map V.int)->Q (.ref x) H):rIxB K (.ref p) (.int 1) H Q:=let ⟨x,y,a,c,b⟩:=h;⟨true,p,_,_,_,rfl,rfl,(a:SqB true K H p _),rfl,q y b⟩
theorem hZ{K:Frag}{H:Hp}{p:Addr}{M:LM}{ts:LI'}{u:Int}{Q:VK}(h:kQ K H p M ts u)(q:Q (.int u) H):rIxB K (.ref p) (.int 2) H Q:=let ⟨x,y,a,b,c⟩:=h;⟨true,p,_,_,_,rfl,rfl,(a:SqB true K H p _),rfl,q⟩
def movT(M:LM)(ts:LI')(u:Int)(ns:LI')(v:Int):LI':=List.zipWith (λr t=>dotI r ns*u+t*v) M ts
def kB(B:Nat)(ns:LI'):Prop:=∀x∈ns,x.natAbs<2^B
structure Fine(d:Nat)(M:LM)(ts:LI')(u:Int):Prop where
 sq:Sq d M
 len:ts.length=d
 pos:0<u
 bm:nZ 200000 M
 bt:kB 200000 ts
 bu:u<2^1500
def sp_1a(K:Frag):Sp:=λvs H Q _=>E8 λ(p q:Addr)(M:LM)(ts ns:LI')(u v:Int)(d:Nat)=>A11 (vs=[.ref p,.ref q]) (kQ K H p M ts u) (PlS K H q ns v) (Fine d M ts u) (1<=d) (d<=4) (ns.length=d) (kB 200000 ns) (0<v) (v<2^1500) (∀r H',Same H H'->jF H' r (redT (u*v) (movT M ts u ns v)) (redU (u*v) (movT M ts u ns v))->Q (.ref r) H')
def sp_15(K:Frag):Sp:=λvs H Q _=>E9 λ(p q:Addr)(M N:LM)(ts ns:LI')(u v:Int)(d:Nat)=>A8 (vs=[.ref p,.ref q]) (kQ K H p M ts u) (kQ K H q N ns v) (Fine d M ts u) (Fine d N ns v) (1<=d) (d<=4) (∀r H',Same H H'->lN K H' r (mulM d N M) (redT (v*u) (movT N ns v ts u)) (redU (v*u) (movT N ns v ts u))->Q (.ref r) H')
def sp_1i(K:Frag):Sp:=λvs H Q _=>E4 λ(p:Addr)(M:LM)(ts:LI')(u:Int)=>A6 (vs=[.ref p]) (kQ K H p M ts u) (M.length<=100) (ts.length<=100) (0<u) (∀r H',Same H H'->lN K H' r M (mQ u ts) u->Q (.ref r) H')
theorem fT{u:Int}(a:0<u)(b:u<2^1500):u.natAbs<2^1500:=by
 have e:((2^1500:Nat):Int)=(2:Int)^1500:=nofun
 omega
theorem Cf{u:Int}{B:Nat}(h:u.natAbs<2^B)(a:B<=8990):kH u:=zJ h (yV ∅ a)
theorem Uw{u v:Int}(a:0<u)(d:u<2^1500)(b:0<v)(c:v<2^1500):kH (u*v)/\0<u*v:=by
 refine⟨Cf (B:=1500+1500) ?_ ∅,xU a b⟩;rw[xP,tK];exact qR (fT a d) (fT b c)
theorem nZ.le{B C:Nat}{M:LM}(h:nZ B M)(b:B<=C):nZ C M:=λr hr x a=>zJ (h r hr x a) (yV ∅ b)
section
variable {P:Program} {w:World} {K:Frag} {mg:MT} {base:Heap} {t:Adr}
theorem Uv{ns:LI'}{k:Int}(a:0<=k)(b:k<ns.length):atI (ns.map V.int) k=some (.int (ns.getD k.toNat 0)):=by
 obtain⟨j,rfl⟩:=Int.eq_ofNat_of_zero_le a;exact lZ (iI (getD_at ⋯)) rfl
def sp_7(K:Frag):Sp:=λvs H Q _=>E3 λ(p:Addr)(ns:LI')(k:Int)=>A4 (vs=[.ref p,.int k]) (SqL K H p (ns.map V.int)) (0<=k) (Q (.int (ns.getD k.toNat 0)) H)
theorem ok_7(T:Txt K mg t):FnOk P w K mg base CX0 1 t.a_7 t.d_7 pk' (sp_7 K):=by
 apply T.F_7.ok sc_7
 ·obtain⟨p,ns,k,rfl,a,b,q⟩:=h;refine⟨_,(oQ (nK (nI gX (pq 1) (mO T.z_len (pq 0)) (nH _))
   (oR (oZ (nV ix_B (pq 0) (pq 1) (λ_ _=>rfl))))
   nJ)
   (oR (oZ oO))),?_⟩
  show tSeq _ _ _ [some (.ref p),some (.int k)] H;ext;refine bJ (b:=false) a ?_;ext
  by_cases z:k<ns.length
  ·rw[zL z];exact iteT ⟨false,p,_,_,_,rfl,rfl,a,Uv b z,q⟩
  ·rw[zK z];refine iteF ?_;have e:ns.getD k.toNat 0=0:=by
    rw[zqc,vN ⋯];rfl
   rw[e]at q;exact q
theorem Uu{a b:Int}{H:Hp}{Q:VK}{E:XK}:Ci [.int a,.int b] H Q E=Q (.int (gcdI a b)) H:=propext ⟨λ⟨_,_,e,q⟩=>by cases e;exact q,λq=>⟨_,_,rfl,q⟩⟩
theorem ok_z(T:Txt K mg t):FnOk P w K mg base CX0 1 t.a_z t.d_z pq' sp_z:=by
 apply T.F_z.ok sc_z
 ·obtain⟨a,b,rfl,k⟩:=h;refine⟨_,(oQ (oW (i:=2) sc_z.nd rfl (Or.inl rfl) (nQ gY rfl T.z_abs (nofun) (oM (pq 0) oN)))
   (oQ (oW (i:=3) sc_z.nd rfl (Or.inl rfl) (nQ gY rfl T.z_abs (nofun) (oM (pq 1) oN)))
   (oQ (Aw yR (nI gI (pq 3) oO (nH _))
   (oQ (oW (i:=4) sc_z.nd rfl (Or.inl rfl) (oP nP (pq 2) (pq 3)))
   (oQ (oW (i:=2) sc_z.nd rfl (Or.inl rfl) (pq 3))
   (oR (oW (i:=3) sc_z.nd rfl (Or.inl rfl) (pq 4))))))
   (oR (oZ (pq 2)))))),?_⟩
  show tSeq _ _ _ [some (.int a),some (.int b),none,none,none] H;ext;refine⟨λm c H1=>∃g l r,c=[some (.int a),some (.int b),some (.int g),some (.int l),r]/\H1=H/\0<=g/\0<=l/\Int.gcd g l=Int.gcd a b/\m=l.toNat,
   ⟨_,_,_,_,rfl,rfl,aQ a,aQ b,Ii a b,rfl⟩,?_⟩
  rintro m c H1 ⟨g,l,r,rfl,rfl,f,hl,e,rfl⟩;ext
  by_cases z:l=0
  ·rw[zL z];refine iteF ?_;rw[Ih e f z];exact k
  ·rw[zK z];refine iteT ⟨λd H'=>d=[some (.int a),some (.int b),some (.int l),some (.int (g.fmod l)),some (.int (g.fmod l))]/\H'=H1,?_,z,rfl,rfl⟩;rintro d H' ⟨rfl,rfl⟩;have l1:=qB g (show 0<l by omega);have l2:=sG g (show 0<l by omega);exact⟨(g.fmod l).toNat,⋯,_,_,_,rfl,rfl,hl,l2,by rw[Ij];exact e,rfl⟩
theorem ok_13(T:Txt K mg t):FnOk P w K mg base (CX1 P w) 2 t.a_13 t.d_13 ["tops","under"] (sp_13 K t.a_17):=by
 have J:=@ok_z P w K mg base t T;refine T.F_13.okX sc_13 (λvs H Q E h=>?_) (λcdv A outer s H vs Q E hr h=>?_)
 ·obtain⟨b,a,ns,u,rfl,_⟩:=h;rfl
 ·obtain⟨b,a,ns,u,rfl,d,hl,Y,o,W⟩:=h;refine⟨_,(oQ (nK (nI mZ (pq 1) oO (nH _))
   (oR (iF rfl iD rfl T.m_17 T.x_17 yO (oM mJ oN)))
   nJ)
   (oQ (nK (nI mZ (mO T.z_len (pq 0)) oO (nH _))
   (oR (iF rfl iD rfl T.m_17 T.x_17 yO (oM mJ oN)))
   nJ)
   (oQ (oW (i:=2) sc_13.nd rfl (Or.inr rfl) (nQ gY rfl T.z_abs (nofun) (oM (pq 1) oN)))
   (oQ (PS.nox (lE yR rfl (mI (pq 0)) (mD (i:=3) sc_13.nd rfl (Or.inl rfl))
   (oR (oW (i:=2) sc_13.nd rfl (Or.inr rfl) (nD J hr.mo T.F_z (oM (pq 2) (oM (pq 3) oN)))))))
   (oQ (nK (nI gX (pq 1) oO (nH _))
   (oR (oW (i:=2) sc_13.nd rfl (Or.inr rfl) (gU gW (pq 2))))
   nJ)
   (oR (oZ (kD (oM (lF jM rfl T.z_tuple (nofun) (oM (mK (sc:=oU s_13) (N:=N_13) (fr:=[("common",2)]) (te:=(tOp (rI jJ λi j=>.int (i.fdiv j)) (tVar 0) (tVar 1))) rfl rfl (nofun) rfl (nofun) (mI (pq 0)) (λ_ _ _ a0=>(oP mB (pv 0) (pv 1)))) oN)) (oM (oP mB (pq 1) (pq 2)) oN)))))))))),?_⟩
  show tSeq _ _ _ [some (.ref a),some (.int u),none,none] H;refine st λN1 e1=>?_;simp only[iE];ext;refine ite2 (λz=>⟨∅,o (.inl (wN z))⟩) (λz=>?_);have f:u≠0:=λq=>z (zL q);subst e1;refine st λN1 e1=>?_;simp only[iE];ext;refine bJ d ?_;ext;refine ite2 (λz=>⟨∅,o (.inr ?_)⟩) (λz=>?_)
  ·have:=wN z;exact vD ⋯
  have M:ns≠[]:=λq=>z (zL (by rw[q];rfl));left;subst e1;refine st λN1 e1=>lG λB eB=>?_;simp only[iSeq];ext;refine⟨b,⟨_,d⟩,?_⟩;refine iJ (g:=nB 3) (tb:=B) (λi g H1=>∃v3,g=[some (.ref a),some (.int u),some (.int (gl u (ns.take i))),v3]/\H1=H) ⟨_,rfl,rfl⟩ (λi g H1 _⟨_,_,e⟩=>e ▸ d) ?_ ?_
  ·rintro i x g H1 hi ⟨v3,rfl,rfl⟩;obtain⟨n,k,rfl⟩:=jE hi;subst eB;ext;simp only[Uu];rw[Ta k,Tg]
   first|trivial|exact⟨_,rfl,rfl⟩
  ·rintro g H1 ⟨v3,rfl,rfl⟩;rw[zqe,uC];subst e1;refine st λS C=>?_;have c:S [some (.ref a),some (.int u),some (.int (cs u ns)),v3] H1:=by
    subst C;have O:kH (cs u ns):=Ie Y f (jU (gl_u u ns));have m:∀x,jJ x (cs u ns):=λx=>⟨fS ns f,Ig O (fS ns f)⟩;ext;exfalso;refine⟨b,⟨_,d⟩,λR L=>kG (λj y _=>∃n,ns[j]?=some n/\y=.int (n.fdiv (cs u ns))) L d (by rw[zqe];omega) (λ_ _ _ _ r _=>r) ?_ ?_⟩
    ·intro i x H2 zs D _ _ N X;obtain⟨n,k,rfl⟩:=jE D;subst eB;show tOp _ _ _ [some (.int n),some (.int (cs u ns))] H2 N;ext;exact⟨m n,X _ H2 (Same.refl _) ⟨n,k,rfl⟩⟩
    ·intro H2 ys F e1 I Z;have U:ys=(redT u ns).map V.int:=by
      unfold redT;rw[xR];exact lH (by simpa using I) Z
     subst U;refine⟨R,_,rfl,.inl ⟨SqL.of e1,λl G=>?_⟩⟩;ext;refine⟨m u,(by show 2<=sizeLine;decide),λp v=>W f M p _ ((F.trans (Same.new G)).trans (Same.new v)) ⟨l,oS,?_⟩⟩;rw[oV (nY oS v)];exact oS
   ext;unfold cs at c;refine ite2 (λz=>?_) (λz=>?_)
   ·rw[zF (wN z)]at c;exact c
   ·rw[zD (λq=>z (zL q))]at c;exact c
theorem Ut{H:Hp}{p:Addr}{ns:LI'}{u:Int}{Q:VK}(h:jF H p ns u)(q:∀x,H x=some (.tup (ns.map V.int))->Q (.ref x) H):rIxB K (.ref p) (.int 0) H Q:=let ⟨x,b,a⟩:=h;⟨true,p,_,_,_,rfl,rfl,SqB.tup b,rfl,q x a⟩
theorem Us{H:Hp}{p:Addr}{ns:LI'}{u:Int}{Q:VK}(h:jF H p ns u)(q:Q (.int u) H):rIxB K (.ref p) (.int 1) H Q:=let ⟨x,a,b⟩:=h;⟨true,p,_,_,_,rfl,rfl,SqB.tup a,rfl,q⟩
theorem ok_m(T:Txt K mg t):FnOk P w K mg base CX0 1 t.a_m t.d_m ["one"] (sp_m K):=by
 apply T.F_m.ok sc_m
 ·obtain⟨p,ns,u,rfl,b,hl,G,m⟩:=h;refine⟨_,(oQ (oW (i:=1) sc_m.nd rfl (Or.inr rfl) (nN (pq 0)))
   (oR (oZ (kD (oM (lF jM rfl T.z_tuple (nofun) (oM (mK (sc:=oU aE) (N:=N_m) (fr:=[("under",1)]) (te:=(tOp (rI (λ_ j=>j≠0) λi j=>.int (i.fmod j)) (tVar 0) (tVar 1))) rfl rfl (nofun) rfl (nofun) (mI (nN (pq 0))) (λ_ _ _ F=>(oP nP (pv 0) (pv 1)))) oN)) (oM (pq 1) oN)))))),?_⟩
  show tSeq _ _ _ [some (.ref p),none] H;right;refine Cg b ?_;symm;exfalso;refine Ia b λx a=>⟨true,x,rfl,⟨_,(show SqB true K H x _ from a)⟩,λd q=>kG (λj y _=>∃n,ns[j]?=some n/\y=.int (n.fmod u)) q ((show SqB true K H x _ from a)) (by rw[zqe];omega) (λ_ _ _ _ r _=>r) ?_ ?_⟩
  ·intro i x H1 zs a _ _ D v;obtain⟨n,k,rfl⟩:=jE a;subst eB;show tOp _ _ _ [some (.int n),some (.int u)] H1 D;ext;exact⟨⋯,v _ H1 (Same.refl _) ⟨n,k,rfl⟩⟩
  ·intro H1 ys C e1 g z;have o:ys=(mQ u ns).map V.int:=by
    unfold mQ;rw[xR];exact lH (by simpa using g) z
   subst o;refine⟨d,_,rfl,.inl ⟨SqL.of e1,λl e=>?_⟩⟩;refine⟨(by show 2<=sizeLine;decide),λf c=>m f _ ((C.trans (Same.new e)).trans (Same.new c)) ⟨l,oS,?_⟩⟩;rw[oV (nY oS c)];exact oS
theorem ok_1n(T:Txt K mg t):FnOk P w K mg base CX0 1 t.a_1n t.d_1n pq' (sp_1n K):=by
 apply T.F_1n.ok sc_1n
 ·obtain⟨b1,b2,p,q,ms,ns,rfl,k,g,hl,z,D,C⟩:=h;refine⟨_,(oR (oZ (nQ (bB rfl) rfl T.z_sum (nofun) (oM (iW (xs:=["left","right"]) (fr:=[]) (g:=(gTup K 2 (mW (nB 0) (mW (nB 1) gNil)))) (tt:=(tEl (tOp (rI (λi j=>IntMulOk i j) λi j=>.int (i*j)) (tVar 0) (tVar 1)))) (jD (sc:=oU s_1n) (N:=N_1n) rfl rfl (nofun)) rfl (Gp rfl T.z_zip (oM (pq 0) (oM (pq 1) oN))) (λ_ _ _ d=>(gF rfl (lQ (jL (N:=["left","right"]) (i:=0) d rfl (nofun)) (lQ (jL (N:=["left","right"]) (i:=1) d rfl (nofun)) iQ)))) (λ_ _ _ d=>(jK (oP mG (pv 0) (pv 1))))) oN)))),?_⟩;show tRet _ _ [some (.ref p),some (.ref q)] H;ext;refine nW λB eB=>?_;simp only[iZip];ext;refine⟨b1,⟨_,k⟩,b2,⟨_,g⟩,λa u=>?_⟩;refine Gn (λj y _=>∃m n,ms[j]?=some m/\ns[j]?=some n/\y=.int (m*n)) u k g (by simpa using hl) (by simpa using z) (λ_ _ _ _ r _=>r) ?_ ?_
  ·intro i x y H1 zs v f o l J F;obtain⟨m,c,rfl⟩:=jE v;obtain⟨n,b,rfl⟩:=jE f;subst eB;show tOp _ _ _ [some (.int m),some (.int n)] H1 J;ext;exact⟨D i m n c b,F _ _ (Same.refl _) ⟨m,n,c,b,rfl⟩⟩
  ·intro H1 zs o l G I;have f:zs=(List.zipWith (·*·) ms ns).map V.int:=by
    refine lH (by simp at G ⊢;omega) λj y e=>?_;obtain⟨m,n,c,b,rfl⟩:=I j y e;exact⟨m*n,by rw[wE,c,b],rfl⟩
   subst f;exact⟨_,rfl,_,SqL.of l,C H1 o⟩
theorem ok_16(T:Txt K mg t):FnOk P w K mg base CX0 1 t.a_16 t.d_16 pv' (sp_16 K):=by
 apply T.F_16.ok sc_16
 ·obtain⟨b1,b2,a,b,w,rfl,o,J,n,S,a5,Y⟩:=h;refine⟨_,(oR (oZ (iW (xs:=["k"]) (fr:=[("rows",0)]) (g:=(nB 0)) (tt:=(tEl (lY (iSeq K (tVar 1)) (nB 0) (tEl (tOp (rIxB K) (tVar 0) (tVar 1))) 1 [("k",0)]))) (jD (sc:=oU s_16) (N:=N_16) rfl rfl (nofun)) rfl (mT rfl T.z_range (oM (mO T.z_len (nN (pq 0))) oN)) (λ_ _ _ g=>(eO (N:=["k","rows"]) (i:=0) g rfl (nofun) rfl)) (λ_ _ _ g=>(jK (mK (N:=["k","rows"]) (fr:=[("k",0)]) (te:=(tOp (rIxB K) (tVar 0) (tVar 1))) g rfl (nofun) rfl (nofun) (mI (pv 1)) (λ_ _ _ a7=>(nV ix_B (pv 0) (pv 1) (λ_ _=>rfl))))))))),?_⟩;show tRet _ _ [some (.ref a)] H;ext;refine nW λB eB=>?_;simp only[mF];ext;obtain⟨d,C⟩:∃d,b[0]?=some d:=by cases b with|nil=>exact absurd rfl J|cons r _=>exact⟨r,rfl⟩
  have L:d.length=w:=n d (zqb C);obtain⟨ps,p,k1,k2,k3,X⟩:=o.row C;refine⟨b1,a,_,0,_,rfl,rfl,k1,lZ k2 rfl,b2,p,_,rfl,X,?_⟩;rw[zqe,L];refine⟨_,rfl,⋯,⋯,λl u=>?_⟩;rw[zS];refine kM (RowR l λk=>colI k b) u S (RowR.mono (a:=l)) ?_ ?_
  ·intro i H1 zs hi f W N a0;subst eB;show lY _ _ _ _ _ [some (.int (0+(i:Int))),some (.ref a)] H1 N;exfalso;obtain⟨xs,z,a6,U⟩:=(o.up f).walk;refine⟨b1,⟨_,z⟩,λF v=>?_⟩;refine kG (λj y _=>∃r,b[j]?=some r/\y=.int (r.getD i 0)) v z ⋯ (λ_ _ _ _ r _=>r) ?_ ?_
   ·intro j x H2 a4 I m a3 Z G;obtain⟨p,r,rfl,c,a2⟩:=U j x I;subst eB;show tOp _ _ _ [some (.ref p),some (.int (0+(i:Int)))] H2 Z;ext;have O:i<r.length:=by rw[n r (zqb c)];exact hi
    exact⟨b2,p,_,_,_,rfl,rfl,a2.up m,lZ (iI (getD_at O)) ⋯,G _ _ (Same.refl _) ⟨r,c,rfl⟩⟩
   ·intro H2 ys m D q a1;have R:ys=(colI i b).map V.int:=by
     refine lH (by simp[colI];omega) λj y e=>?_;obtain⟨r,c,rfl⟩:=a1 j y e;exact⟨r.getD i 0,by unfold colI;rw[zO,c];rfl,rfl⟩
    subst R;exact a0 _ _ m ⟨F,rfl,zZ (nY W v),D⟩
  ·intro H1 ys f e1 q M;have:=MatL.of e1 M;rw[q]at this;exact Y l H1 u f this
theorem ok_11(T:Txt K mg t):FnOk P w K mg base CX0 1 t.a_11 t.d_11 pp' (sp_11 K):=by
 apply T.F_11.ok sc_11
 ·obtain⟨b1,b2,a,S,f,k,w,rfl,a2,W,b6,b4,b0,a9⟩:=h;refine⟨_,(oR (oZ (iW (xs:=["at","row"]) (fr:=[("i",1),("k",2)]) (g:=(gTup K 2 (mW (nB 0) (mW (nB 1) gNil)))) (tt:=(fE (cI (tOp (rI0 λi j=>.bl (!decide (i=j))) (tVar 0) (tVar 2))) (tOp rCat (tCB (Bx K) (nO (tSl (rSlB K) (tVar 1) Ap (Ao (tVar 3))) tNil)) (tCB (Bx K) (nO (tSl (rSlB K) (tVar 1) (Ao (tOp (rI0 λi j=>.int (i+j)) (tVar 3) (tC (.int 1)))) Ap) tNil))))) (jD (sc:=oU s_11) (N:=N_11) rfl rfl (nofun)) rfl (bA rfl T.z_enumerate (oM (pq 0) oN)) (λ_ _ _ F=>(gF rfl (lQ (jL (N:=["at","row","i","k"]) (i:=0) F rfl (nofun)) (lQ (jL (N:=["at","row","i","k"]) (i:=1) F rfl (nofun)) iQ)))) (λ_ _ _ F=>(Pw (nI gI (pv 0) (pv 2) (nH _)) (oP gZ (lF eT rfl T.z_list (nofun) (oM (cR sl_B (pv 1) cP (cQ (pv 3))) oN)) (lF eT rfl T.z_list (nofun) (oM (cR sl_B (pv 1) (cQ (oP mC (pv 3) oO)) cP) oN)))))))),?_⟩;show tRet _ _ [some (.ref a),some (.int f),some (.int k)] H;ext;refine Pa λb7 b5 a6 eB=>?_;simp only[eP];ext;obtain⟨xs,N,a5,a7⟩:=a2.walk;refine⟨b1,⟨_,N⟩,λO M=>?_⟩;refine Uy (λt zs H1=>kA O H1 zs (((S.take t).eraseIdx f).map λ(r:LI')=>r.eraseIdx k)) M N ⋯ kA.nil ?_ (λ_ _ _ _ r s=>r.mono s) ?_ ?_
  ·intro i zs H1 p;rw[p.len,zqe,rA];have:=List.length_take_le i S;split <;> omega
  ·intro i x H1 zs a0 D a8 p C I G;obtain⟨v,r,rfl,L,u⟩:=a7 i x a0;have b3:r.length=w:=W r (zqb L);replace u:=u.up D;rw[Ux L]at I G;subst a6 eB;show fE _ _ [some (.int i),some (.ref v),some (.int f),some (.int k)] H1 C;simp only[fE];ext
   by_cases z:i=f
   ·subst z;rw[zF rfl]at G;rw[zL rfl];exact G H1 (Same.refl _) p
   ·rw[zD z]at I;rw[zK (show¬ (i:Int)=f by omega)];refine iteT ?_;refine⟨b2,v,_,rfl,u,λ_=>by rw[zqe,HT.sIx_none,HT.sIx_nat];omega,λd a1=>?_⟩;have sq1:SqB b2 K (upd H1 d (seqO b2 (cutV (r.map V.int) none (some (k:Int))))) d (cutV (r.map V.int) none (some (k:Int))):=SqB.cut;have q:Same H1 (upd H1 d (seqO b2 (cutV (r.map V.int) none (some (k:Int))))):=Same.new a1;generalize upd H1 d _=H2 at sq1 q;rw[Qw ⋯]at sq1;refine⟨b2,d,_,rfl,sq1,λb Y=>?_⟩;have J:(upd H2 b (.lst ((r.take k).map V.int))) b=some (.lst ((r.take k).map V.int)):=oS;have m:Same H2 (upd H2 b (.lst ((r.take k).map V.int))):=Same.new Y;generalize upd H2 b _=H3 at J m;refine⟨b2,v,_,rfl,(u.up q).up m,λ_=>by rw[zqe,HT.sIx_none,show(k:Int)+1=((k+1:Nat):Int) by omega,HT.sIx_nat];omega,λc Z=>?_⟩;have sq3:SqB b2 K (upd H3 c (seqO b2 (cutV (r.map V.int) (some ((k:Int)+1)) none))) c (cutV (r.map V.int) (some ((k:Int)+1)) none):=SqB.cut;have l:Same H3 (upd H3 c (seqO b2 (cutV (r.map V.int) (some ((k:Int)+1)) none))):=Same.new Z;generalize upd H3 c _=n at sq3 l;rw[show(k:Int)+1=((k+1:Nat):Int) by omega,Qv ⋯]at sq3;refine⟨b2,c,_,rfl,sq3,λg a4=>?_⟩;have o:Same n (upd n g (.lst ((r.drop (k+1)).map V.int))):=Same.new a4;have R:(upd n g (.lst ((r.drop (k+1)).map V.int))) g=some (.lst ((r.drop (k+1)).map V.int)):=oS;generalize upd n g _=a3 at R o;refine⟨b,g,_,_,rfl,rfl,o _ _ (l _ _ J),R,by rw[zqe,zqe,yN,uI];exact vL (iU ⋯),λX y=>?_⟩;have U:Same H1 (upd a3 X (.lst ((r.take k).map V.int++(r.drop (k+1)).map V.int))):=(((q.trans m).trans l).trans o).trans (Same.new y);refine I _ _ U ?_;rw[xB];refine(p.mono U.x).snoc (λe=>?_) ?_
    ·subst e;rw[o _ _ (l _ _ (m _ _ (q _ _ a8)))]at y;cases y
    ·rw[oS];dsimp only;rw[List.eraseIdx_eq_take_drop_succ,xB]
  ·intro H1 ys D e1 p;rw[a5,uC]at p;exact a9 O H1 M D (kA.mat e1 p)
theorem ok_6(T:Txt K mg t):∀n:Nat,FnOk P w K mg base CX0 (n+1) t.a_6 t.d_6 pv' (sp_6 K n)
 |0=>⟨λ_ _ _ _ h=>h.elim,λ_ _ _ _ _ _ _ _ _ _ _ _ _ h=>h.elim⟩
 | n+1=>by
  have a1:FnOk P w K mg base CX0 (n+1) t.a_6 t.d_6 pv' (sp_6 K n):=ok_6 T n;have Z:=@ok_11 P w K mg base t T;apply T.F_6.ok sc_6
  ·obtain⟨b1,b2,a,c,B,rfl,e,d,a5,M,a2,I⟩:=h;refine⟨_,(oQ (nK (nI mZ (mO T.z_len (pq 0)) oO (nH _))
   (oR (oZ (nN (nN (pq 0)))))
   nJ)
   (oQ (oW (i:=1) sc_6.nd rfl (Or.inl rfl) oO)
   (oQ (oW (i:=2) sc_6.nd rfl (Or.inl rfl) oO)
   (oQ (lE yR rfl (bA rfl T.z_enumerate (oM (nN (pq 0)) oN)) (gF rfl (lQ (mD (i:=3) sc_6.nd rfl (Or.inl rfl)) (lQ (mD (i:=4) sc_6.nd rfl (Or.inl rfl)) iQ)))
   (oQ (nK (nI gI (pq 4) oO (nH _))
   (oR (Es (i:=1) sc_6.nd rfl (Or.inl rfl) (oP mG (oP mG (pq 2) (pq 4)) (nD a1 hr.mo T.F_6 (oM (nD Z hr.mo T.F_11 (oM (pq 0) (oM oO (oM (pq 3) oN)))) oN))) Er))
   nJ)
   (oR (oW (i:=2) sc_6.nd rfl (Or.inl rfl) (gU gW (pq 2))))))
   (oR (oZ (pq 1))))))),?_⟩
   show tSeq _ _ _ [some (.ref a),none,none,none,none] H;obtain⟨L,D⟩:=row0 d;have S:(c.getD 0 []).length=n+1:=d.2 _ D;right;refine gK e ?_;ext;rw[d.1]
   by_cases z:n=0
   ·subst z;rw[zL (by rfl)];exact iteT (iK e L (getD_at (k:=0) ⋯) rfl rfl (I H (Same.refl _)))
   ·rw[zK (show¬ ((n+1:Nat):Int)=1 by omega)];refine iteF ?_;obtain⟨n,rfl⟩:∃m,n=m+1:=⟨n-1,⋯⟩;left;left;subst e1;refine st λN1 e1=>lG λa6 eB=>?_;simp only[eP];ext;refine Qx e L rfl λp F=>⟨b2,_,rfl,⟨_,F⟩,?_⟩;generalize hf:(λk=>(c.getD 0 []).getD k 0*detM (n+1) (jV 0 k c))=f;refine Gj (nx:=N1) (rt:=Q) (λk j H1=>∃v3 l,j=[some (.ref a),some (.int (altS f k)),some (.int (sg k)),v3,l]/\Same H H1) ⟨_,_,rfl,Same.refl _⟩ (λ_ _ _ _⟨_,_,_,b⟩=>F.up b) ?_ ?_
    ·rintro k x q j H1 V ⟨v3,l,rfl,b⟩ W;obtain⟨x,J,rfl⟩:=jE V;have G:k<n+2:=by have:=(zqa J).1;omega
     refine⟨q,[.int k,.int x],rfl,SqT.of oS,rfl,_,_,rfl,_,_,rfl,rfl,?_⟩;replace b:=b.trans (Same.new (o:=.tup [.int k,.int x]) W);generalize upd H1 q (.tup [.int k,.int x])=H2 at b;subst eB;show tSeq _ _ _ [some (.ref a),some (.int (altS f k)),some (.int (sg k)),some (.int k),some (.int x)] H2;refine st λa0 O=>?_;have y:∀H3(o:Int),Same H H3->o=altS f (k+1)->a0 [some (.ref a),some (.int o),some (.int (sg k)),some (.int k),some (.int x)] H3:=by
      intro H3 o g Y;subst O Y;ext;rw[Uz];exact⟨rfl,g⟩
     ext;have u:(c.getD 0 []).getD k 0=x:=Qz J;have N:f k=x*detM (n+1) (jV 0 k c):=by rw[←hf];dsimp only;rw[u]
     have v:=d.minor (i:=0) (k:=k) ⋯ G;have C:nZ B (jV 0 k c):=M.minor
     by_cases i:x=0
     ·rw[zL i];refine iteF (y H2 _ b ?_);show _=altS f k+sg k*f k;rw[N,i];simp
     ·rw[zK i];refine iteT ?_;simp only[tAug,ipI];ext;refine⟨wV (by unfold sg;split <;> decide),b1,b2,a,c,0,k,_,rfl,e.up b,d.2,G,⋯,by rw[d.1];omega,λr H3 _ g X=>?_⟩;refine⟨false,false,r,_,B,rfl,X.b,v,⋯,C,a2,λU R=>?_⟩;ext;have a3:=M _ D x (by rw[←u];exact L2.getD_mem ⋯);have a4:=Ib (n+1) _ ⋯ ⋯ v C;refine⟨xQ (m:=B+1) (n:=(n+1)*(B+2)+1) (mE ?_) (mE ?_) ?_,?_⟩
      ·rw[xP,Id,Nat.one_mul,tY];omega
      ·rw[tY];have:=pC ((n+1)*(B+2));omega
      ·have:(n+1)*(B+2)<=4*1000002:=vH ⋯ ⋯;omega
      ·refine y U _ ((b.trans g).trans R) ?_;show _=altS f k+sg k*f k;rw[N,Int.mul_assoc]
    ·rintro j H1 ⟨v3,l,rfl,b⟩;symm;rw[zqe,S];have:altS f (n+2)=detM (n+2) c:=by rw[←hf];rfl
     rw[this];exact I H1 b
theorem ok_o(T:Txt K mg t):FnOk P w K mg base CX0 1 t.a_o t.d_o ["size"] sp_o:=by
 apply T.F_o.ok sc_o
 ·obtain⟨n,rfl,l,J⟩:=h;refine⟨_,(oR (oZ (iW (xs:=["i"]) (fr:=[("size",0)]) (g:=(nB 0)) (tt:=(tEl (lY (mF (nO (tVar 1) tNil)) (nB 0) (tEl (tIf (cI (tOp (rI0 λi j=>.bl (decide (i=j))) (tVar 1) (tVar 0))) (tC (.int 1)) (tC (.int 0)))) 1 [("i",0)]))) (jD (sc:=oU aF) (N:=N_o) rfl rfl (nofun)) rfl (mT rfl T.z_range (oM (pq 0) oN)) (λ_ _ _ a=>(eO (N:=["i","size"]) (i:=0) a rfl (nofun) rfl)) (λ_ _ _ a=>(jK (mK (N:=["i","size"]) (fr:=[("i",0)]) (te:=(tIf (cI (tOp (rI0 λi j=>.bl (decide (i=j))) (tVar 1) (tVar 0))) (tC (.int 1)) (tC (.int 0)))) a rfl (nofun) rfl (nofun) (mT rfl T.z_range (oM (pv 1) oN)) (λ_ _ _ S=>(Mr (nI mZ (pv 1) (pv 0) (nH _)) oO oO)))))))),?_⟩;show tRet _ _ [some (.int n)] H;ext;refine nW λB eB=>?_;simp only[mF];ext;refine⟨⋯,⋯,λc q=>?_⟩;rw[zS];refine kM (RowR c λi=>(List.range n).map λk=>if i=k then(1:Int) else 0) q l (RowR.mono (a:=c)) ?_ ?_
  ·intro i H2 zs hi p G C M;subst eB;show lY _ _ _ _ _ [some (.int (0+(i:Int))),some (.int n)] H2 C;refine nW λB eB=>?_;simp only[mF];ext;refine⟨⋯,⋯,λv g=>?_⟩;rw[zS];refine kM (λk y _=>k<n/\y=.int (if i=k then 1 else 0)) g l (λ_ _ _ _ r _=>r) ?_ ?_
   ·intro k H3 O m d R L f;subst eB;show tIf _ _ _ [some (.int (0+(k:Int))),some (.int (0+(i:Int)))] H3 L;ext
    by_cases z:i=k
    ·rw[zL ⋯];exact iteT (f _ _ (Same.refl _) ⟨m,by rw[zF z]⟩)
    ·rw[zK ⋯];exact iteF (f _ _ (Same.refl _) ⟨m,by rw[zD z]⟩)
   ·intro H3 ys d x b I;have D:ys=((List.range n).map λk=>if i=k then(1:Int) else 0).map V.int:=by
     refine lH (by simpa using b) λj y e=>?_;obtain⟨F,rfl⟩:=I j y e;exact⟨_,by rw[zO,xA F];rfl,rfl⟩
    subst D;exact M _ _ d ⟨v,rfl,zZ (nY G g),x⟩
  ·intro H2 ys p u b N;have o:=MatL.of u N;rw[b]at o;exact J c H2 q p o
theorem Ce{H:Hp}{a d:Addr}{M:LM}{L:St}{Q:VK}{b1 b2:Bool}(k:MatB b1 b2 K H a M)(hl:M.length<=1000)(u:H d=none)
  (D:∀H1 zs,Same H H1->H1 d=some (.lst zs)->(∀l,H1 l=none->MatB true true K (upd H1 l (.tup zs)) l M)->Q (.ref d) H1):kF (Its K b1 a) (nB 0) (tEl (tCB (fF K) (nO (tVar 0) tNil))) 1 [] L d H Q:=by
 cases b2 with
 |false =>
  refine Qu k hl u λH1 b o=>?_;obtain⟨zs,c,_⟩:=id o;refine D H1 _ b c λl g=>?_;obtain⟨Y,m,T⟩:=o.tuple (K:=K) g;rw[c]at m;cases m;exact T
 | true =>
  obtain⟨xs,O,a1,R⟩:=k.walk;refine kG (λj y _=>∃p r,y=.ref p/\M[j]?=some r/\SqB true K H p (r.map V.int)) u O ⋯ (λ_ _ _ _ r _=>r) ?_ ?_
  ·intro i x H1 zs I b a3 a2 W;obtain⟨p,r,rfl,G,F⟩:=R i x I;exact⟨_,rfl,p,_,rfl,.inr ⟨F.up b,W _ _ (Same.refl _) ⟨p,r,rfl,G,F⟩⟩⟩
  ·intro H1 ys b e1 n v;have S:∃ps:LA,ys=ps.map V.ref:=by
    clear e1 n;have:∀(zs:List V),(∀(j:Nat) y,zs[j]?=some y->∃p:Addr,y=.ref p)->∃ps:LA,zs=ps.map V.ref:=by
     intro zs
     induction zs with
     |nil=>intro _;exact⟨[],rfl⟩
     |cons z r J =>
      intro c;obtain⟨p,e⟩:=c 0 z rfl;obtain⟨ps,f⟩:=J λj y q=>c (j+1) y (by simpa using q);exact⟨p:: ps,by rw[e,f];rfl⟩
    exact this ys λj y e=>let ⟨p,r,e1,_⟩:=v j y e;⟨p,e1⟩
   obtain⟨ps,rfl⟩:=S;refine D H1 _ b e1 λl g=>⟨ps,SqB.tup oS,by simp at n;omega,λi p r f N=>?_⟩;obtain⟨a0,Z,X,C,U⟩:=v i (.ref p) (by simp[f]);cases X;rw[N]at C;cases C;exact U.up (b.trans (Same.new g))
theorem ok_10(T:Txt K mg t):FnOk P w K mg base CX0 1 t.a_10 t.d_10 pr' (sp_10 K):=by
 apply T.F_10.ok sc_10
 ·obtain⟨b1,b2,a,p,M,ts,u,rfl,g,e,hl,n⟩:=h;refine⟨_,(oR (oZ (kD (oM (lF jM rfl T.z_tuple (nofun) (oM (mK (sc:=oU s_10) (N:=N_10) (fr:=[]) (te:=(tCB (fF K) (nO (tVar 0) tNil))) rfl rfl (nofun) rfl (nofun) (mI (pq 0)) (λ_ _ _ v=>(lF jM rfl T.z_tuple (nofun) (oM (pv 0) oN)))) oN)) (oM (nN (pq 1)) (oM (nN (pq 1)) oN)))))),?_⟩;show tRet _ _ [some (.ref a),some (.ref p)] H;ext;exfalso;obtain⟨xs,j,_⟩:=g.walk;refine⟨b1,⟨_,j⟩,λk o=>?_⟩;subst eB;refine Ce g ⋯ o λH1 zs r m b=>?_;refine⟨k,_,rfl,.inl ⟨SqL.of m,λl f=>?_⟩⟩;have c:Same H (upd H1 l (.tup zs)):=r.trans (Same.new f);replace b:=b l f;generalize upd H1 l (.tup zs)=H2 at c b;refine Ut (e.up c) λx i=>Us (e.up c) ⟨(by show 3<=sizeLine;decide),λq d=>n q _ (c.trans (Same.new d)) ⟨l,x,oS,b.up (Same.new d),Same.new d _ _ i⟩⟩
theorem ok_1i(T:Txt K mg t):FnOk P w K mg base CX0 2 t.a_1i t.d_1i ["one"] (sp_1i K):=by
 have f:=@ok_10 P w K mg base t T;have r:=@ok_m P w K mg base t T;apply T.F_1i.ok sc_1i
 ·obtain⟨p,M,ts,u,rfl,a,hl,o,n,j⟩:=h;refine⟨_,(oR (oZ (nD f hr.mo T.F_10 (oM (nN (pq 0)) (oM (nD r hr.mo T.F_m (oM (kD (oM (nN (pq 0)) (oM (nN (pq 0)) oN))) oN)) oN))))),?_⟩;show tRet _ _ [some (.ref p)] H;ext;refine hX a λx e=>dI a λy v=>hZ a ⟨(by show 2<=sizeLine;decide),λl g=>?_⟩;have b:Same H (upd H l (.tup [.ref y,.int u])):=Same.new g;refine⟨l,ts,u,rfl,⟨y,SqT.of oS,lK b _ _ v⟩,o,n,λi H2 c d=>?_⟩;exact⟨true,true,x,i,M,_,u,rfl,e.up (b.trans c),d,hl,λq H3 m k=>j q H3 ((b.trans c).trans m) k⟩
theorem ok_1a(T:Txt K mg t):FnOk P w K mg base CX0 3 t.a_1a t.d_1a ["one","spot"] (sp_1a K):=by
 have b0:=@ok_1n P w K mg base t T;have a0:=@ok_13 P w K mg base t T;apply T.F_1a.ok sc_1a
 ·obtain⟨p,q,M,ts,ns,u,v,d,rfl,f,g,a,c0,b5,b8,L,F,C,b1⟩:=h;refine⟨_,(oQ (Bz (i:=2) (xs:=["row","top"]) (fr:=[("one",0),("spot",1)]) (g:=(gTup K 2 (mW (nB 0) (mW (nB 1) gNil)))) (tt:=(tEl (tOp (rI0 λi j=>.int (i+j)) (tOp (rI (λi j=>IntMulOk i j) λi j=>.int (i*j)) (kL (sp_1n K) [] E0 (nO (tVar 0) (nO (tOp (rIxB K) (tVar 3) (tC (.int 0))) tNil))) (tOp (rIxB K) (tVar 2) (tC (.int 2)))) (tOp (rI (λi j=>IntMulOk i j) λi j=>.int (i*j)) (tVar 1) (tOp (rIxB K) (tVar 3) (tC (.int 1))))))) (jD (sc:=oU s_1a) (N:=N_1a) rfl rfl (nofun)) rfl sc_1a.nd rfl rfl (Gp rfl T.z_zip (oM (nN (pq 0)) (oM (nN (pq 0)) oN))) (λ_ _ _ o=>(gF rfl (lQ (jL (N:=["row","top","one","spot"]) (i:=0) o rfl (nofun)) (lQ (jL (N:=["row","top","one","spot"]) (i:=1) o rfl (nofun)) iQ)))) (λ_ _ _ o=>(jK (oP mC (oP mG (nD b0 hr.mo T.F_1n (oM (pv 0) (oM (nN (pv 3)) oN))) (nN (pv 2))) (oP mG (pv 1) (nN (pv 3)))))))
   (oR (oZ (cM a0 hr.mo rfl T.F_13.m T.F_13.kp T.F_13.b .nil eI (oM (pq 2) (oM (oP mG (nN (pq 0)) (nN (pq 1))) oN)))))),?_⟩
  show tSeq _ _ _ [some (.ref p),some (.ref q),none] H;right;refine nW λB eB=>?_;simp only[iZip];ext;refine hX f λx R=>dI f λy O=>?_;obtain⟨xs,J,D,a8⟩:=R.walk;refine⟨true,true,x,rfl,y,rfl,⟨_,J⟩,⟨_,(O:SqB true K H y _)⟩,λa3 Y=>?_⟩;have a9:∀(i:Nat)(r:LI')(tt:Int),M[i]?=some r->ts[i]?=some tt->(movT M ts u ns v)[i]?=some (dotI r ns*u+tt*v):=λi r tt e1 k=>by
   unfold movT;rw[wE,e1,k]
  refine Gn (λj z _=>∃n,(movT M ts u ns v)[j]?=some n/\z=.int n) Y J ((O:SqB true K H y _)) (by rw[D,a.sq.1,zqe,a.len]) (by rw[D,a.sq.1];omega) (λ_ _ _ _ r _=>r) ?_ ?_
  ·intro i Z b7 H1 zs S a5 b c2 a2 b2;obtain⟨pr,r,rfl,G,b4⟩:=a8 i Z S;obtain⟨tt,N,rfl⟩:=jE a5;have b6:r.length=d:=a.sq.2 r (zqb G);have I:=a.bm r (zqb G);subst eB;show tOp _ _ _ [some (.ref pr),some (.int tt),some (.ref p),some (.ref q)] H1 a2;ext;refine Ia (g.up b) λz a6=>?_;refine⟨true,true,pr,z,r,ns,rfl,b4.up b,(a6:SqB true K H1 z _),⋯,⋯,λb9 m n e1 k=>xQ (mE (I m (zqb e1))) (mE (L n (zqb k))) ∅,λH2 c=>?_⟩;refine hZ (f.up (b.trans c)) ?_;ext;have c1:=aR r ns I L;have X:(dotI r ns).natAbs<2^400010:=by
    have:r.length*2^(200000+200000)<=4*2^(200000+200000):=wG _ ⋯;have e:(2:Nat)^400010=1024*2^(200000+200000):=by rw[show(400010:Nat)=10+(200000+200000) from rfl,tK]
    have:=pC (200000+200000);omega
   refine⟨xQ (mE X) (mE (fT a.pos a.bu)) ∅,?_⟩;refine Cg (g.up (b.trans c)) ?_;ext;refine⟨xQ (mE (a.bt tt (zqb N))) (mE (fT F C)) ∅,?_⟩;exact b2 _ _ c ⟨_,a9 i r tt G N,rfl⟩
  ·intro H1 zs b U b3 a1;have l:(movT M ts u ns v).length=d:=by unfold movT;rw[xW,a.sq.1,a.len];omega
   have a7:zs=(movT M ts u ns v).map V.int:=lH (by rw[b3,D,a.sq.1,l]) a1;subst a7;symm;refine hZ (f.up b) ?_;refine Cg (g.up b) ?_;ext;have W:=Uw a.pos a.bu F C;refine⟨xQ (mE (fT a.pos a.bu)) (mE (fT F C)) ∅,?_⟩;refine⟨false,a3,_,_,rfl,SqB.lst U,⋯,W.1,λz=>?_,λ_ _ r H2 c a4=>b1 r H2 (b.trans c) a4⟩;rcases z with z|z
   ·omega
   ·rw[z]at l;simp at l;omega
theorem ok_15(T:Txt K mg t):FnOk P w K mg base CX0 4 t.a_15 t.d_15 pq' (sp_15 K):=by
 have d8:=@ok_1n P w K mg base t T;have c7:=@ok_16 P w K mg base t T;have b6:=@ok_1a P w K mg base t T;have b7:=@ok_10 P w K mg base t T;apply T.F_15.ok sc_15
 ·obtain⟨p,q,M,N,ts,ns,u,v,d,rfl,L,a6,a,g,c8,b1,e2⟩:=h;refine⟨_,(oQ (oW (i:=2) sc_15.nd rfl (Or.inr rfl) (nD c7 hr.mo T.F_16 (oM (nN (pq 0)) oN)))
   (oQ (Bz (i:=3) (xs:=["row"]) (fr:=[("columns",2)]) (g:=(nB 0)) (tt:=(tEl (lY (iSeq K (tVar 1)) (nB 0) (tEl (kL (sp_1n K) [] E0 (nO (tVar 1) (nO (tVar 0) tNil)))) 1 [("row",0)]))) (jD (sc:=oU s_15) (N:=N_15) rfl rfl (nofun)) rfl sc_15.nd rfl rfl (mI (nN (pq 1))) (λ_ _ _ O=>(eO (N:=["row","columns"]) (i:=0) O rfl (nofun) rfl)) (λ_ _ _ O=>(jK (mK (N:=["row","columns"]) (fr:=[("row",0)]) (te:=(kL (sp_1n K) [] E0 (nO (tVar 1) (nO (tVar 0) tNil)))) O rfl (nofun) rfl (nofun) (mI (pv 1)) (λ_ _ _ f3=>(nD d8 hr.mo T.F_1n (oM (pv 1) (oM (pv 0) oN))))))))
   (oR (oZ (nD b7 hr.mo T.F_10 (oM (pq 3) (oM (nD b6 hr.mo T.F_1a (oM (pq 1) (oM (kD (oM (nN (pq 0)) (oM (nN (pq 0)) oN))) oN))) oN))))))),?_⟩
  show tSeq _ _ _ [some (.ref p),some (.ref q),none,none] H;right;have c4:M≠[]:=λz=>by have:=a.sq.1;rw[z]at this;simp at this;omega
  refine hX L λx a8=>⟨true,true,x,M,d,rfl,a8,c4,a.sq.2,⋯,by rw[a.sq.1];omega,λc H1 f2 X b5=>?_⟩;left;exfalso;refine hX (a6.up X) λy d4=>?_;obtain⟨xs,a4,a3,d2⟩:=d4.walk;refine⟨true,y,rfl,⟨_,a4⟩,λS c2=>?_⟩;refine kG (RowR S λj=>(List.range d).map λk=>dotI (N.getD j []) (colI k M)) c2 a4 (by rw[a3,g.sq.1];omega) (RowR.mono (a:=S)) ?_ ?_
  ·intro i x H2 zs b8 G d3 c9 e3;obtain⟨pr,r,rfl,J,e5⟩:=d2 i x b8;have c6:N.getD i []=r:=by rw[zqc,J];rfl
   have b4:r.length=d:=g.sq.2 r (zqb J);have b9:=g.bm r (zqb J);subst eB;show lY _ _ _ _ _ [some (.ref pr),some (.ref c)] H2 c9;exfalso;obtain⟨e7,a1,e8,d1⟩:=((b5.up G).b (K:=K)).walk;refine⟨false,⟨_,a1⟩,λa9 a2=>?_⟩;have e6:(bH d M).length=d:=by simp[bH]
   refine kG (λj y _=>y=.int (dotI r (colI j M))/\j<d) a2 a1 ⋯ (λ_ _ _ _ r _=>r) ?_ ?_
   ·intro j y H3 f0 U b f1 d9 b2;obtain⟨a0,col,rfl,C,R⟩:=d1 j y U;have o:j<d:=by have:=(zqa C).1;omega
    have d6:col=colI j M:=by
     unfold bH at C;rw[zO,xA o]at C;exact(zU C).symm
    subst eB d6;show kL _ _ _ _ [some (.ref a0),some (.ref pr)] H3 d9;ext;refine⟨true,false,pr,a0,r,colI j M,rfl,(e5.up G).up b,R.up b,by simp[colI,b4,a.sq.1],⋯,λc3 m n e1 f=>?_,λb3 D=>b2 _ _ D ⟨rfl,o⟩⟩;unfold colI at f;rw[zO]at f;cases eb:M[c3]? with
    |none=>rw[eb]at f;cases f
    |some I =>
     rw[eb]at f;have b0:I.getD j 0=n:=zU f;subst b0;have Y:=zqb eb;exact xQ (mE (b9 m (zqb e1))) (mE (a.bm I Y _ (L2.getD_mem (by rw[a.sq.2 I Y];exact o)))) ∅
   ·intro H3 ys b c5 Z d7;have U:ys=((List.range d).map λk=>dotI r (colI k M)).map V.int:=by
     refine lH (by simp;omega) λj y e=>?_;obtain⟨rfl,o⟩:=d7 j y e;exact⟨_,by rw[zO,xA o];rfl,rfl⟩
    subst U;exact e3 _ _ b ⟨a9,rfl,zZ (nY d3 a2),by dsimp only;rw[c6];exact c5⟩
  ·intro H2 ys G f Z e4;have a5:=MatL.of f e4;have e:(List.range ys.length).map (λj=>(List.range d).map λk=>dotI (N.getD j []) (colI k M))=mulM d N M:=by
    rw[Z,a3];unfold mulM;refine tF (by simp) λi W e9=>?_;simp at W;simp[W]
   rw[e]at a5;have F:=X.trans G;symm;refine dI (L.up F) λz d0=>hZ (L.up F) ⟨(by show 2<=sizeLine;decide),λl c0=>?_⟩;have b:Same H2 (upd H2 l (.tup [.ref z,.int u])):=Same.new c0;refine⟨q,l,N,ns,ts,v,u,d,rfl,(a6.up F).up b,⟨z,SqT.of oS,lK b _ _ d0⟩,g,c8,b1,a.len,a.bt,a.pos,a.bu,λr b3 D a7=>?_⟩;exact⟨false,false,S,r,_,_,_,rfl,((a5.up b).up D).b,a7,by simp[mulM,g.sq.1];omega,λe0 c1 d5 R=>e2 e0 c1 (((F.trans b).trans D).trans d5) R⟩
def Cd(rows:LM)(tops:LI')(u:Int):Prop:=(rows.length=2\/rows.length=3)/\(∀r∈rows,r.length=rows.length)/\tops.length=rows.length/\u≠0/\(detM rows.length rows=1\/detM rows.length rows=-1)
def sp_1h(K:Frag)(C:Addr):Sp:=λvs H Q E=>E9 λ(b1 b2 b3:Bool)(a p:Addr)(rows:LM)(tops:LI')(u:Int)(B:Nat)=>A10 (vs=[.ref a,.ref p,.int u]) (MatB b1 b2 K H a rows) (SqB b3 K H p (tops.map V.int)) (rows.length<=100) (tops.length<=100) (nZ B rows) (B<=1000000) (kH u) ((¬ Cd rows tops u->∀H',Same H H'->E (.ref C) none H')) ((Cd rows tops u->∀q H',Same H H'->lN K H' q rows (redT u tops) (redU u tops)->Q (.ref q) H'))
theorem inV2(L x y:Int):inV (.int L) [.int x,.int y]=decide (L=x\/L=y):=by
 have e:inV (.int L) [.int x,.int y]=(eqV (.int x) (.int L) || (eqV (.int y) (.int L) || false)):=rfl;have f:∀a b:Int,eqV (.int a) (.int b)=decide (a=b):=λa b=>by
  first|rfl|(unfold eqV;rfl)|(simp only[eqV];by_cases h:a=b <;> simp[h])
 rw[e,f,f,Bool.or_false]
 by_cases d:x=L
 ·rw[zL d,zL (p:=L=x\/L=y) (Or.inl d.symm)];rfl
 ·rw[zK d]
  by_cases c:y=L
  ·rw[zL c,zL (p:=L=x\/L=y) (Or.inr c.symm)];rfl
  ·rw[zK c,zK (p:=L=x\/L=y) ⋯];rfl
theorem Ur{H:Hp}{Q:VK}{E:XK}{b1 b2:Bool}{a:Addr}{b:LM}{n B:Nat}(g:1<=n)(d:n<=4)(f:MatB b1 b2 K H a b)(c:Sq n b)(i:nZ B b)(e:B<=1000000)(q:∀H',Same H H'->Q (.int (detM n b)) H'):sp_6 K n [.ref a] H Q E:=by
 match n,g,d,c,q with
 |m+1,_,d,c,q=>exact⟨b1,b2,a,b,B,rfl,f,c,⋯,i,e,q⟩
theorem ok_1h(T:Txt K mg t):FnOk P w K mg base (CX1 P w) 6 t.a_1h t.d_1h pl' (sp_1h K t.a_a):=by
 have b0:=@ok_13 P w K mg base t T;have a5:=@ok_10 P w K mg base t T;refine T.F_1h.okX sc_1h (λvs H Q E h=>?_) (λcdv A outer s H vs Q E hr h=>?_)
 ·obtain⟨b1,b2,Y,a,p,c,F,u,B,rfl,_⟩:=h;rfl
 ·obtain⟨b1,b2,Y,a,p,c,F,u,B,rfl,m,W,a7,b3,c4,d0,c9,f,c6⟩:=h;obtain⟨n,d7,L⟩:∃n:Nat,n<=3/\((c.length=2\/c.length=3)->n=c.length):=by
   by_cases z:c.length=2\/c.length=3
   ·exact⟨c.length,⋯,λ_=>rfl⟩
   ·exact⟨0,⋯,λh=>absurd h z⟩
  have c2:FnOk P w K mg base CX0 (n+1) t.a_6 t.d_6 pv' (sp_6 K n):=ok_6 T n;refine⟨_,(oQ (oW (i:=3) sc_1h.nd rfl (Or.inr rfl) (mO T.z_len (pq 0)))
   (oQ (nK (nI Ak (pq 3) (kD (oM oO (oM oO oN))) rfl)
   (oR (iF rfl iD rfl T.m_a T.x_a yO (oM mJ oN)))
   nJ)
   (oQ (nK (PW.pt (lD (mS (nQ (Qs rfl) rfl T.z_any (nofun) (oM (mK (sc:=oU s_1h) (N:=N_1h) (fr:=[("axes",3)]) (te:=(tOp (rI0 λi j=>.bl (!decide (i=j))) (tCB (eQ K) (nO (tVar 0) tNil)) (tVar 1))) rfl rfl (nofun) rfl (nofun) (mI (pq 0)) (λ_ _ _ d2=>(iR gI (mO T.z_len (pv 0)) (pv 1) (nH _)))) oN))) (kK (nI gI (mO T.z_len (pq 1)) (pq 3) (nH _)))))
   (oR (iF rfl iD rfl T.m_a T.x_a yO (oM mJ oN)))
   nJ)
   (oQ (nK (nI mZ (pq 2) oO (nH _))
   (oR (iF rfl iD rfl T.m_a T.x_a yO (oM mJ oN)))
   nJ)
   (oQ (nK (nI Ak (nD c2 hr.mo T.F_6 (oM (pq 0) oN)) (kD (oM oO (oM (gU gW oO) oN))) rfl)
   (oR (iF rfl iD rfl T.m_a T.x_a yO (oM mJ oN)))
   nJ)
   (oR (oZ (nD a5 hr.mo T.F_10 (oM (pq 0) (oM (cM b0 hr.mo rfl T.F_13.m T.F_13.kp T.F_13.b .nil eI (oM (pq 1) (oM (pq 2) oN))) oN)))))))))),?_⟩
  show tSeq _ _ _ [some (.ref a),some (.ref p),some (.int u),none] H;right;refine gK m ?_;subst e1;refine st λN1 e1=>?_;simp only[iE];ext;refine⟨by show 2<=sizeLine;decide,λD c1=>?_⟩;have k:Same H (upd H D (.tup [.int 2,.int 3])):=Same.new c1;refine⟨D,_,rfl,.inr (SqT.of oS),rfl,rfl,_,rfl,?_⟩;generalize upd H D (.tup [.int 2,.int 3])=H1 at k;rw[inV2]
  by_cases G:c.length=2\/c.length=3
  case neg =>
   rw[zK ⋯];refine iteT ?_;simp only[iE];ext;exact⟨∅,f (λg=>G g.1) _ k⟩
  rw[zL ⋯];refine iteF ?_;replace L:=L G;subst L;left;refine nW λC b9=>?_;simp only[iSeq];ext;obtain⟨xs,U,d5,c0⟩:=(m.up k).walk;refine⟨b1,⟨_,U⟩,λb7 a9=>?_⟩;refine kG (λj y _=>∃r,c[j]?=some r/\y=.bl (!decide (r.length=c.length))) a9 U ⋯ (λ_ _ _ _ r _=>r) ?_ ?_
  ·intro i x H2 zs a6 M d6 b6 c7;obtain⟨pr,O,rfl,a1,c5⟩:=c0 i x a6;subst b9;show tOp _ _ _ [some (.ref pr),some (.int c.length)] H2 b6;ext;refine bJ (c5.up M) ?_
   try ext
   refine c7 _ _ (Same.refl _) ⟨O,a1,?_⟩
   by_cases z:O.length=c.length
   ·rw[zL z,zL ⋯]
   ·rw[zK z,zK ⋯]
  ·intro H2 ys M Z d3 N;have b8:ys=(c.map λr=>!decide (r.length=c.length)).map V.bl:=by
    rw[xR];exact lH ⋯ N
   subst b8;refine⟨b7,rfl,_,SqL.of Z,?_⟩
   try ext
   have d:=k.trans M
   by_cases e:∀r∈c,r.length=c.length
   case neg =>
    have I:(c.map λr=>!decide (r.length=c.length)).any id=true:=by
     rw[List.any_eq_true];obtain⟨r,hr⟩:=Classical.not_forall.mp e;obtain⟨b5,N⟩:=Classical.not_imp.mp hr;exact⟨true,oA.mpr ⟨r,b5,by rw[zK N];rfl⟩,rfl⟩
    rw[I];refine iteT ?_;simp only[iE];ext;exact⟨∅,f (λg=>e g.2.1) _ d⟩
   have I:(c.map λr=>!decide (r.length=c.length)).any id=false:=by
    rw[List.any_eq_false];intro b c8;obtain⟨r,hr,rfl⟩:=oA.mp c8;rw[zL (e r hr)]
    decide
   rw[I];refine iteF ?_;refine bJ (W.up d) ?_
   try ext
   by_cases v:F.length=c.length
   case neg =>
    rw[zK ⋯];refine iteT ?_;simp only[iE];ext;exact⟨∅,f (λg=>v g.2.2.1) _ d⟩
   rw[zL ⋯];refine iteF ?_;subst e1;refine st λN1 e1=>?_;simp only[iE];ext;refine ite2 (λz=>⟨∅,f (λg=>g.2.2.2.1 (wN z)) _ d⟩) (λz=>?_);have S:u≠0:=λq=>z (zL q);left;refine Ur ⋯ ⋯ (m.up d) ⟨rfl,e⟩ c4 d0 λH3 a4=>?_
   try ext
   refine⟨by show 2<=sizeLine;decide,λJ a2=>?_⟩;have R:Same H3 (upd H3 J (.tup [.int 1,.int (-1)])):=Same.new a2;refine⟨J,_,rfl,.inr (SqT.of oS),rfl,rfl,_,rfl,?_⟩;generalize upd H3 J (.tup [.int 1,.int (-1)])=d1 at R;have l:=(d.trans a4).trans R;rw[inV2]
   by_cases o:detM c.length c=1\/detM c.length c=-1
   case neg =>
    rw[zK o];refine iteT ?_;simp only[iE];ext;exact⟨∅,f (λg=>o g.2.2.2.2) _ l⟩
   rw[zL o];refine iteF ?_;symm;refine⟨Y,p,F,u,rfl,W.up l,b3,c9,λz=>?_,λ_ _ a3 d4 X a0=>⟨b1,b2,a,a3,c,_,_,rfl,m.up (l.trans X),a0,a7,λq b4 c3 a8=>c6 ⟨G,e,v,S,o⟩ q b4 ((l.trans X).trans c3) a8⟩⟩;rcases z with z|z
   ·exact absurd z S
   ·rw[z]at v;simp at v;omega
def sp_1e(K:Frag):Sp:=λvs H Q _=>E1 λ(d:Nat)=>A3 (vs=[.int d]) ((d=2\/d=3)) (∀q H',Same H H'->lN K H' q (idM d) (List.replicate d 0) 1->Q (.ref q) H')
theorem Uq(ns:LI'):gl 1 ns=1:=Int.eq_one_of_dvd_one (aN 1 ns) (gl_u 1 ns)
theorem Uo{d:Nat}(b:d=2\/d=3):Cd (idM d) (List.replicate d 0) 1/\nZ 1 (idM d):=by
 rcases b with rfl|rfl
 ·exact⟨⟨.inl rfl,∅,∅,∅,.inl ∅⟩,by intro r hr x a;revert r x;decide⟩
 ·exact⟨⟨.inr rfl,∅,∅,∅,.inl ∅⟩,by intro r hr x a;revert r x;decide⟩
theorem Um:kH 1:=Cf (B:=1) ∅ ∅
theorem ok_1e(T:Txt K mg t):FnOk P w K mg base CX0 8 t.a_1e t.d_1e ["d"] (sp_1e K):=by
 have C:=@ok_1h P w K mg base t T;have x:=@ok_o P w K mg base t T;apply T.F_1e.ok sc_1e
 ·obtain⟨d,rfl,c,p⟩:=h;refine⟨_,(oR (oZ (cM C hr.mo rfl T.F_1h.m T.F_1h.kp T.F_1h.b .nil eI (oM (nD x hr.mo T.F_o (oM (pq 0) oN)) (oM (oP Fl (nS (oM oO oN)) (pq 0)) (oM oO oN)))))),?_⟩;show tRet _ _ [some (.int d)] H;ext;refine⟨d,rfl,⋯,λr H1 _ z m=>?_⟩
  try ext
  refine⟨by show 1<=sizeLine;decide,λl hl=>?_⟩;have b:Same H1 (upd H1 l (.lst [.int 0])):=Same.new hl;have j:(upd H1 l (.lst [.int 0])) l=some (.lst [.int 0]):=oS;generalize upd H1 l (.lst [.int 0])=H2 at b j;refine⟨l,d,_,rfl,rfl,j,⋯,⋯,?_,λl2 y=>?_⟩
  ·rw[zS];show 1*d<=sizeLine;have:3<=sizeLine:=∅
   omega
  have a:Same H2 (upd H2 l2 (.lst (List.replicate (d:Int).toNat [V.int 0]).flatten)):=Same.new y;have i:(upd H2 l2 (.lst (List.replicate (d:Int).toNat [V.int 0]).flatten)) l2=some (.lst ((List.replicate d (0:Int)).map V.int)):=by
   rw[oS,zS];rcases c with rfl|rfl <;> rfl
  generalize upd H2 l2 (.lst (List.replicate (d:Int).toNat [V.int 0]).flatten)=H3 at a i;obtain⟨g,u⟩:=Uo c;have f:=Td (u:=1) ∅ (Uq (List.replicate d 0));have e1:redT 1 (List.replicate d 0)=List.replicate d 0:=f.1;have k:redU 1 (List.replicate d 0)=1:=f.2;refine⟨false,false,false,r,l2,idM d,List.replicate d 0,1,1,rfl,((m.up b).up a).b,SqB.lst i,by simp[idM];omega,by simp;omega,u,∅,Um,λn=>absurd g n,λ_ q o v e=>?_⟩;rw[e1,k]at e;exact p q o ((z.trans (b.trans a)).trans v) e
def dJ(M:LM)(ts:LI')(u:Int):PyData:=.tuple [matD true true M,iH true ts,.int u]
theorem Ul{M N:LM}{ts ns:LI'}{u v:Int}:dJ M ts u=dJ N ns v↔(M=N/\ts=ns/\u=v):=by
 unfold dJ;simp only[PyData.tuple.injEq,List.cons.injEq,PyData.int.injEq,and_true,Pc,Gk]
theorem Dt.deed{K:Frag}{H:Hp}{p:Addr}{M:LM}{ts:LI'}{u:Int}(h:lN K H p M ts u):Dt K H (.ref p) (dJ M ts u):=by
 obtain⟨pr,pt,b,a,c⟩:=h;exact .tup (SqT.of b) (.cons (Dt.matB a) (.cons (Dt.intsB (SqB.tup c)) (.cons (.int u) .nil)))
abbrev Dd:=LM×List Int×Int
def dat(x:Dd):PyData:=dJ x.1 x.2.1 x.2.2
theorem dL{x y:Dd}:dat x=dat y↔x=y:=by
 obtain⟨M,ts,u⟩:=x;obtain⟨N,ns,v⟩:=y;unfold dat;rw[Ul];simp
theorem aS{n:Nat}{ds:List PyData}:tT (n+1) (.tuple ds)=ds.all (tT n):=rfl
theorem jG(x:Dd):tT 4 (dat x)=true:=by
 obtain⟨M,ts,u⟩:=x;have hi:∀(n:Nat)(l:LI'),(l.map PyData.int).all (tT n)=true:=λn l=>by
  rw[vI];intro d a;obtain⟨i,_,rfl⟩:=oA.mp a;cases n <;> rfl
 show tT 4 (.tuple [.tuple (M.map λr=>.tuple (r.map PyData.int)),.tuple (ts.map PyData.int),.int u])=true;rw[aS,xG,xG,xG,aS,aS,hi];have:(M.map λr=>PyData.tuple (r.map PyData.int)).all (tT 2)=true:=by
  rw[vI];intro d a;obtain⟨r,_,rfl⟩:=oA.mp a;rw[aS];exact hi 1 r
 rw[this];rfl
def DdAt(K:Frag)(H:Hp)(p:Addr)(x:Dd):Prop:=lN K H p x.1 x.2.1 x.2.2
theorem DdAt.up{K:Frag}{H H':Hp}{p:Addr}{x:Dd}(h:DdAt K H p x)(s:Same H H'):DdAt K H' p x:=lN.up h s
theorem DdAt.dt{K:Frag}{H:Hp}{p:Addr}{x:Dd}(h:DdAt K H p x):Dt K H (.ref p) (dat x):=Dt.deed h
abbrev DdS(K:Frag)(H:Hp)(p:Addr)(x:Dd):Prop:=kQ K H p x.1 x.2.1 x.2.2
theorem DdS.up{K:Frag}{H H':Hp}{p:Addr}{x:Dd}(h:DdS K H p x)(s:Same H H'):DdS K H' p x:=kQ.up h s
theorem DdAt.s{K:Frag}{H:Hp}{p:Addr}{x:Dd}(h:DdAt K H p x):DdS K H p x:=lN.s h
def oY(x:Dd):Dd:=(x.1,mQ x.2.2 x.2.1,x.2.2)
def behD(d:Nat)(x s:Dd):Dd:=(mulM d s.1 x.1,redT (s.2.2*x.2.2) (movT s.1 s.2.1 s.2.2 x.2.1 x.2.2),redU (s.2.2*x.2.2) (movT s.1 s.2.1 s.2.2 x.2.1 x.2.2))
def nA(d:Nat)(x s:Dd):Dd:=oY (behD d x s)
def nU(d:Nat):Dd:=(idM d,List.replicate d 0,1)
abbrev Tb:=List (Dd×List Nat)
def nxt(d:Nat)(x:Dd)(w:List Nat)(tb:Tb)(ks:Dd×Nat):Tb:=if nA d x ks.1∈tb.map (·.1) then tb else tb++[(nA d x ks.1,w++[ks.2])]
def kR(d:Nat)(ss:List Dd)(tb:Tb)(i:Nat):Tb:=match tb[i]? with
 |none=>tb
 |some xw=>ss.zipIdx.foldl (nxt d xw.1 xw.2) tb
def nR(d:Nat)(ss:List Dd):Nat->Nat->Tb->Tb
 |0,_,tb=>tb
 |n+1,i,tb=>if i<tb.length then nR d ss n (i+1) (kR d ss tb i) else tb
theorem Uk(d:Nat)(x:Dd)(w:List Nat)(tb:Tb)(ks:Dd×Nat):∃r,nxt d x w tb ks=tb++r:=by
 unfold nxt;split
 ·exact⟨[],by simp⟩
 ·exact⟨_,rfl⟩
theorem dM(d:Nat)(x:Dd)(w:List Nat):∀(l:List (Dd×Nat))(tb:Tb),∃r,l.foldl (nxt d x w) tb=tb++r
 |[],tb=>⟨[],by simp⟩
 |k:: l,tb=>by
  obtain⟨r1,e1⟩:=Uk d x w tb k;obtain⟨r2,a⟩:=dM d x w l (nxt d x w tb k);exact⟨r1++r2,by rw[vQ,a,e1,yG]⟩
theorem Jz(d:Nat)(ss:List Dd)(tb:Tb)(i:Nat):∃r,kR d ss tb i=tb++r:=by
 unfold kR;split
 ·exact⟨[],by simp⟩
 ·exact dM ..
theorem Cc(d:Nat)(ss:List Dd):∀(n i:Nat)(tb:Tb),∃r,nR d ss n i tb=tb++r
 |0,i,tb=>⟨[],by simp[nR]⟩
 |n+1,i,tb=>by
  unfold nR;split
  ·obtain⟨r1,e1⟩:=Jz d ss tb i;obtain⟨r2,a⟩:=Cc d ss n (i+1) (kR d ss tb i);exact⟨r1++r2,by rw[a,e1,yG]⟩
  ·exact⟨[],by simp⟩
def lO(d:Nat)(x:Dd):Prop:=Fine d x.1 x.2.1 x.2.2
def TbAt(H:Hp)(tb:Tb)(kvs:List (PyData×V)):Prop:=Paired (λ(x:Dd×List Nat)(kv:PyData×V)=>kv.1=dat x.1/\∃p,kv.2=.ref p/\H p=some (.lst (x.2.map λn=>V.int (n:Nat)))) tb kvs
structure Cb(d:Nat)(ms:List Dd)(G:Nat->Dd->Prop):Prop where
 f1:∀s∈ms,lO d s
 f2:∀s∈ms,lO d (oY s)
 g:∀n x,n<=201->G n x->lO d x
 g0:G 0 (nU d)
 gs:∀n x s,n<=200->G n x->s∈ms->G (n+1) (nA d x (oY s))
def Apt(H:Hp)(dx:Addr)(n:Nat):Prop:=∃l ys,H dx=some (XDct dx "apart" (.ref l))/\H l=some (.lst ys)/\ys.length=n
def sp_x(K:Frag)(C:Addr):Sp:=λvs H Q E=>E7 λ(b:Bool)(d:Nat)(a:Addr)(ps:LA)(ms:List Dd)(most:Nat)(G:Nat->Dd->Prop)=>A10 (vs=[.int d,.ref a,.int most]) ((d=2\/d=3)) (SqB b K H a (ps.map V.ref)) (Paired (DdS K H) ps ms) (ms.length<=200) (Cb d ms G) (1<=most) (most<=200) (((nR d (ms.map oY) 201 0 [(nU d,[])]).length<=most->(((nR d (ms.map oY) 201 0 [(nU d,[])]).map (·.1)).Nodup/\∀y∈nR d (ms.map oY) 201 0 [(nU d,[])],G y.2.length y.1/\y.2.length<=200)->∀w kvs H',Same H H'->H w=none->DTr K H' w kvs->TbAt H' (nR d (ms.map oY) 201 0 [(nU d,[])]) kvs->Q (.ref w) H')) ((most<(nR d (ms.map oY) 201 0 [(nU d,[])]).length->∀dx H',Same H H'->Apt H' dx (most+1)->E (.ref C) (some dx) H'))
def sp_p(C:Addr):Sp:=λvs H Q E=>E1 λ(n:Int)=>A3 (vs=[.int n]) (((1<=n/\n<=200)->Q .non H)) ((¬ (1<=n/\n<=200)->∀H',Same H H'->E (.ref C) none H'))
def AxOk(d:Int)(ms:List Dd):Prop:=(d=2\/d=3)/\∀s∈ms,(s.1.length:Int)=d
def sp_n(K:Frag)(C:Addr):Sp:=λvs H Q E=>E5 λ(b:Bool)(d:Int)(a:Addr)(ps:LA)(ms:List Dd)=>A5 (vs=[.int d,.ref a]) (SqB b K H a (ps.map V.ref)) (Paired (DdS K H) ps ms) ((AxOk d ms->∀H',Same H H'->Q .non H')) ((¬ AxOk d ms->∀H',Same H H'->E (.ref C) none H'))
theorem Uj{prog:Program}{w:World}:∀n,n<=200->dD prog w n:=λn _=>Rc n
theorem Ca{K:Frag}{H:Hp}{a b:Addr}{kvs:List (PyData×V)}{k:PyData}{v:V}{Q:VK}(g:DTr K H a kvs)(t:tT 4 k=true)(d:Dt K H (.ref b) k)(e:vT kvs k=some v)(q:Q v H):bK K (.ref a) (.ref b) H Q:=⟨a,kvs,b,k,v,rfl,rfl,g,t,d,e,q⟩
theorem Ui{K:Frag}{H:Hp}{a b:Addr}{kvs:List (PyData×V)}{k:PyData}{c:Bool}{Q:VK}(g:DTr K H a kvs)(t:tT 4 k=true)(d:Dt K H (.ref b) k)(q:Q (.bl (if c=true then !(vT kvs k).isSome else(vT kvs k).isSome)) H):rInT K c (.ref b) (.ref a) H Q:=⟨a,kvs,b,k,rfl,rfl,g,t,d,q⟩
theorem gC{a b:Type}{f:a->b}{l:List a}{i:Nat}{y:b}(h:(l.map f)[i]?=some y):∃x,l[i]?=some x/\y=f x:=by
 rw[zO]at h;cases hx:l[i]? with
 |none=>rw[hx]at h;cases h
 |some x=>rw[hx]at h;exact⟨x,rfl,(zU h).symm⟩
def CpOk:Nat->V->Hp->Prop
 |0,x,_=>∃i,x=.int i
 |n+1,x,H=>∃a xs,x=.ref a/\H a=some (.lst xs)/\xs.length<=1000/\∀y∈xs,CpOk n y H
theorem CpOk.up{H H':Hp}(s:Same H H'):∀{n:Nat}{x:V},CpOk n x H->CpOk n x H'
 |0,_,h=>h
 |_+1,_,⟨a,xs,e,h,l,k⟩=>⟨a,xs,e,s _ _ h,l,λy b=>CpOk.up s (k y b)⟩
def sp_12(n:Nat):Sp:=λvs H Q _=>∃x,vs=[x]/\CpOk n x H/\∀y H',Same H H'->(∀a xs,x=.ref a->H a=some (.lst xs)->∃l ys,y=.ref l/\H' l=some (.lst ys)/\ys.length=xs.length)->Q y H'
def Uh(C:Addr):Sp:=λvs H Q _=>E3 λ(e a:Addr)(xs:List V)=>A5 (vs=[.ref e,.ref a]) (H e=some (XObj e C none)) (H a=some (.lst xs)) (CpOk 2 (.ref a) H) (∀dx H',(∀b o,b≠e->H b=some o->H' b=some o)->H' e=some (XObj e C (some dx))->Apt (rmv H' e) dx xs.length->Q .non H')
structure TK(K:Frag)(H H':Hp):Prop where
 k:∀b xs,H b=some (.tup xs)->H' b=some (.tup xs)
 t:∀b xs,SqT K H b xs->SqT K H' b xs
theorem TK.same{K:Frag}{H H':Hp}(s:Same H H'):TK K H H':=⟨λb xs e=>s _ _ e,lK s⟩
theorem TK.trans{K:Frag}{H H1 H2:Hp}(a:TK K H H1)(b:TK K H1 H2):TK K H H2:=⟨λc xs e=>b.k _ _ (a.k _ _ e),λc xs e=>b.t _ _ (a.t _ _ e)⟩
theorem TK.off{K:Frag}{H H':Hp}{a:Addr}{o:HO}(e:H a=some o)(f:∀xs,o≠.tup xs)(g:∀d u,o≠.frz d u)(h:∀c,c≠a->H' c=H c):TK K H H':=by
 have k:∀b xs,H b=some (.tup xs)->H' b=some (.tup xs):=λb xs q=>by
  rw[h b λz=>f xs (by rw[z,e]at q;exact zU q)];exact q
 refine⟨k,λb xs q=>?_⟩;rcases q with(q|⟨d,q⟩)|q
 ·exact .inl (.inl (k _ _ q))
 ·exact .inl (.inr ⟨d,by rw[h b λz=>g _ _ (by rw[z,e]at q;exact zU q)];exact q⟩)
 ·exact .inr q
theorem MatB.tk{K:Frag}{H H':Hp}{a:Addr}{M:LM}(h:MatB true true K H a M)(s:TK K H H'):MatB true true K H' a M:=let ⟨ps,d,b,e⟩:=h;⟨ps,s.t _ _ d,b,λi p r e1 c=>s.t _ _ (e i p r e1 c)⟩
theorem DdAt.tk{K:Frag}{H H':Hp}{p:Addr}{x:Dd}(h:DdAt K H p x)(s:TK K H H'):DdAt K H' p x:=let ⟨pr,pt,b,a,c⟩:=h;⟨pr,pt,s.k _ _ b,MatB.tk a s,s.k _ _ c⟩
theorem DdS.tk{K:Frag}{H H':Hp}{p:Addr}{x:Dd}(h:DdS K H p x)(s:TK K H H'):DdS K H' p x:=let ⟨pr,pt,b,a,c⟩:=h;⟨pr,pt,s.t _ _ b,MatB.tk a s,s.t _ _ c⟩
theorem DTr.tk{K:Frag}{H H':Hp}{a:Addr}{kvs:List (PyData×V)}(h:DTr K H a kvs)(s:TK K H H')(e:H' a=H a):DTr K H' a kvs:=by
 obtain⟨l,y,xs,b,n,r⟩:=h;exact⟨l,y,xs,e.trans b,n,r.keeps s.t⟩
structure CI(K:Frag)(H0:Hp)(qs:LA)(ss:List Dd)(as af aw:Addr)(tb:Tb)(H:Hp):Prop where
 s:∀b o,H0 b=some o->H b=some o
 st:H as=some (.lst (qs.map V.ref))/\Paired (DdAt K H) qs ss
 fo:∃fs,H af=some (.lst (fs.map V.ref))/\Paired (λp(x:Dd×List Nat)=>DdAt K H p x.1) fs tb
 wo:∃kvs,DTr K H aw kvs/\Paired (λ(x:Dd×List Nat)(kv:PyData×V)=>kv.1=dat x.1/\∃p,kv.2=.ref p/\p≠af/\H p=some (.lst (x.2.map λn=>V.int (n:Nat)))) tb kvs
 n1:H0 as=none
 n2:H0 af=none
 n3:H0 aw=none
 x1:as≠af
theorem CI.up{K:Frag}{f H H':Hp}{a:LA}{ss:List Dd}{as d c:Addr}{tb:Tb}(h:CI K f a ss as d c tb H)(s:Same H H'):CI K f a ss as d c tb H':=by
 obtain⟨i,⟨b1,b2⟩,⟨fs,g,k⟩,⟨kvs,q,j⟩,m,v,u,x⟩:=h;exact⟨λb o e=>s _ _ (i _ _ e),⟨s _ _ b1,Paired.mapP b2 λ_ _ z=>z.up s⟩,⟨fs,s _ _ g,Paired.mapP k λ_ _ z=>z.up s⟩,⟨kvs,q.up s,Paired.mapP j λ_ _ z=>let ⟨n,p,r,l,y⟩:=z;⟨n,p,r,l,s _ _ y⟩⟩,m,v,u,x⟩
theorem Dz{H:Hp}{d:Addr}{x:Dd}:∀{tb:Tb}{kvs:List (PyData×V)},Paired (λ(x:Dd×List Nat)(a:PyData×V)=>a.1=dat x.1/\∃p,a.2=.ref p/\p≠d/\H p=some (.lst (x.2.map λn=>V.int (n:Nat)))) tb kvs ->
  (x∉tb.map (·.1)/\vT kvs (dat x)=none)\/∃w p,(x,w)∈tb/\vT kvs (dat x)=some (.ref p)/\p≠d/\H p=some (.lst (w.map λn=>V.int (n:Nat))):=by
 intro tb kvs h
 induction h with
 |nil=>exact .inl ⟨by simp,rfl⟩
 | @cons y a tb kvs k _ f =>
  obtain⟨e1,p,e,i,g⟩:=k
  by_cases z:y.1=x
  ·refine .inr ⟨y.2,p,by rw[←z];exact .head _,?_,i,g⟩;rw[jP (by rw[e1,z]),e]
  ·have j:¬ a.1=dat x:=λq=>z (dL.mp (e1.symm.trans q));rw[jQ j];rcases f with⟨b,c⟩|⟨w,p,b,c⟩
   ·exact .inl ⟨by rw[zN,xC,not_or];exact⟨λq=>z q.symm,b⟩,c⟩
   ·exact .inr ⟨w,p,.tail _ b,c⟩
theorem Jy{d:Nat}{x:Dd}{w:List Nat}{tb:Tb}{ks:Dd×Nat}(h:(tb.map (·.1)).Nodup):((nxt d x w tb ks).map (·.1)).Nodup:=by
 unfold nxt;split
 ·exact h
 ·next q =>
  rw[xB,qK];refine⟨h,by simp,λy b z a=>?_⟩;simp only[List.map_cons,List.map_nil,List.mem_singleton]at a;rw[a];exactλe=>q (e ▸ b)
theorem Jx{d:Nat}{x:Dd}{w:List Nat}:∀(l:List (Dd×Nat))(tb:Tb),(tb.map (·.1)).Nodup->((l.foldl (nxt d x w) tb).map (·.1)).Nodup
 |[],_,h=>h
 |k:: l,tb,h=>Jx l _ (Jy h)
theorem Ug{d:Nat}{x:Dd}{w:List Nat}{tb:Tb}{ks:Dd×Nat}{b:Dd->Prop}(h:∀y∈tb,b y.1)(c:b (nA d x ks.1)):∀y∈nxt d x w tb ks,b y.1:=by
 unfold nxt;split
 ·exact h
 ·intro y a;rcases oF.mp a with a|a
  ·exact h y a
  ·rw[rW.mp a];exact c
theorem Uf{tb:Tb}(h:(tb.map (·.1)).Nodup){i:Nat}{x:Dd}{w b:List Nat}(e:tb[i]?=some (x,w))(m:(x,b)∈tb):w=b:=by
 obtain⟨j,a⟩:=wI m;have e1:(tb.map (·.1))[i]?=some x:=by rw[zO,e];rfl
 have c:(tb.map (·.1))[j]?=some x:=by rw[zO,a];rfl
 have hi:i<(tb.map (·.1)).length:=(zqa e1).1;have:i=j:=(List.getElem?_inj hi h).mp (e1.trans c.symm);subst this;rw[e]at a;cases a;rfl
theorem Ue{d:Nat}{ss:List Dd}{n i:Nat}{tb:Tb}(h:tb.length<=i):nR d ss n i tb=tb:=by
 cases n with
 |zero=>rfl
 |succ n=>unfold nR;rw[zD ⋯]
theorem Ud{d:Nat}{ss:List Dd}{n i:Nat}{tb:Tb}(h:i<tb.length)(a:0<n):nR d ss n i tb=nR d ss (n-1) (i+1) (kR d ss tb i):=by
 obtain⟨m,rfl⟩:∃m,n=m+1:=⟨n-1,⋯⟩;show(if i<tb.length then _ else _)=_;rw[zF h];rfl
theorem Uc{d:Nat}{ss:List Dd}{tb:Tb}{i:Nat}{x:Dd}{w:List Nat}(e:tb[i]?=some (x,w)):kR d ss tb i=ss.zipIdx.foldl (nxt d x w) tb:=by
 unfold kR;rw[e]
def part(d:Nat)(x:Dd)(w:List Nat)(ss:List Dd)(tb:Tb)(i:Nat):Tb:=(ss.zipIdx.take i).foldl (nxt d x w) tb
theorem dN{d:Nat}{x s:Dd}{w:List Nat}{ss:List Dd}{tb:Tb}{i:Nat}(e:ss[i]?=some s):part d x w ss tb (i+1)=nxt d x w (part d x w ss tb i) (s,i):=by
 unfold part;rw[xN,rF,e,tZ];simp
theorem Ub{d:Nat}{x:Dd}{w:List Nat}{ss:List Dd}{tb:Tb}:part d x w ss tb ss.length=ss.zipIdx.foldl (nxt d x w) tb:=by
 unfold part;rw[yT (by simp)]
theorem Ua{d:Nat}{x:Dd}{w:List Nat}{ss:List Dd}{tb:Tb}(i:Nat):∃r,part d x w ss tb i=tb++r:=dM ..
theorem Jw{d:Nat}{x:Dd}{w:List Nat}{ss:List Dd}{tb:Tb}(i:Nat):(part d x w ss tb i).length<=(ss.zipIdx.foldl (nxt d x w) tb).length:=by
 have e:ss.zipIdx.foldl (nxt d x w) tb=(ss.zipIdx.drop i).foldl (nxt d x w) (part d x w ss tb i):=by
  unfold part;rw[←tZ,xX]
 obtain⟨r,a⟩:=dM d x w (ss.zipIdx.drop i) (part d x w ss tb i);rw[e,a,yE];omega
def ND(tb:Tb):Prop:=(tb.map (·.1)).Nodup/\∀y∈tb,y.2.length<tb.length
theorem Jv{d:Nat}{x:Dd}{w:List Nat}{tb:Tb}{ks:Dd×Nat}(h:ND tb)(c:(x,w)∈tb):ND (nxt d x w tb ks):=by
 refine⟨Jy h.1,?_⟩;have b:=h.2 _ c;unfold nxt;split
 ·exact h.2
 ·intro y a;rw[yE];rcases oF.mp a with a|a
  ·have:=h.2 y a;simp only[List.length_cons,List.length_nil];omega
  ·rw[rW.mp a];simp only[List.length_append,List.length_cons,List.length_nil];have e:w.length<tb.length:=b;omega
theorem Vz{d:Nat}{x:Dd}{w:List Nat}{tb:Tb}{ks:Dd×Nat}{b:Nat->Dd->Prop}(h:∀y∈tb,b y.2.length y.1)(c:b (w.length+1) (nA d x ks.1)):∀y∈nxt d x w tb ks,b y.2.length y.1:=by
 unfold nxt;split
 ·exact h
 ·intro y a;rcases oF.mp a with a|a
  ·exact h y a
  ·rw[rW.mp a];show b (w++[ks.2]).length (nA d x ks.1);rw[yE];exact c
theorem ok_p(T:Txt K mg t):FnOk P w K mg base (CX1 P w) 2 t.a_p t.d_p ["most"] (sp_p t.a_5):=by
 refine T.F_p.okX sc_p (λvs H Q E h=>?_) (λcdv A outer s H vs Q E hr h=>?_)
 ·obtain⟨n,rfl,_⟩:=h;rfl
 ·obtain⟨n,rfl,d,c⟩:=h;refine⟨_,(oR (nK (PW.pt (lD (nI gX (pq 0) oO (nH _)) (kK (nI cH (pq 0) (Qt (v:=(.int 200)) rfl T.g_MOST_MEMBERS) (nH _)))))
   (oR (iF rfl iD rfl T.m_5 T.x_5 yO (oM mJ oN)))
   nJ)),?_⟩
  show tIfS _ _ _ _ [some (.int n)] H;ext
  by_cases a:n<1
  ·rw[zL a];exact iteT ⟨by show 1<=sizeLine;decide,c (λz=>⋯) H (Same.refl _)⟩
  ·rw[zK a];refine iteF ?_
   by_cases b:200<n
   ·rw[zL b];exact iteT ⟨by show 1<=sizeLine;decide,c (λz=>⋯) H (Same.refl _)⟩
   ·rw[zK b];exact iteF (d ⟨⋯,⋯⟩)
theorem jW{a b:Type}{F:a->b->Prop}{xs:List a}{ys:List b}(h:Paired F xs ys):∀{i:Nat}{x:a},xs[i]?=some x->∃y,ys[i]?=some y/\F x y:=by
 induction h with
 |nil=>intro i x e;simp at e
 |cons c _ d =>
  intro i x e;cases i with
  |zero=>cases e;exact⟨_,rfl,c⟩
  |succ i=>exact d (by simpa using e)
theorem ok_n(T:Txt K mg t):FnOk P w K mg base (CX1 P w) 2 t.a_n t.d_n ["d","makers"] (sp_n K t.a_a):=by
 refine T.F_n.okX sc_n (λvs H Q E h=>?_) (λcdv A outer s H vs Q E hr h=>?_)
 ·obtain⟨b,d,a,ps,ms,rfl,_⟩:=h;rfl
 ·obtain⟨b,d,a,ps,ms,rfl,r,p,C,o⟩:=h;refine⟨_,(oQ (nK (nI Ak (pq 0) (kD (oM oO (oM oO oN))) rfl)
   (oR (iF rfl iD rfl T.m_a T.x_a yO (oM mJ oN)))
   nJ)
   (oR (lE qL rfl (mI (pq 1)) (mD (i:=2) sc_n.nd rfl (Or.inl rfl))
   (oR (nK (nI gI (mO T.z_len (nN (pq 2))) (pq 0) (nH _))
   (oR (iF rfl iD rfl T.m_a T.x_a yO (oM mJ oN)))
   nJ))))),?_⟩
  show tSeq _ _ _ [some (.int d),some (.ref a),none] H;right;refine⟨by show 2<=sizeLine;decide,λn D=>?_⟩;have l:Same H (upd H n (.tup [.int 2,.int 3])):=Same.new D;refine⟨n,_,rfl,.inr (SqT.of oS),rfl,rfl,_,rfl,?_⟩;generalize upd H n (.tup [.int 2,.int 3])=H1 at l;rw[inV2]
  by_cases j:d=2\/d=3
  case neg =>
   rw[zK j];exact iteT ⟨by show 1<=sizeLine;decide,o (λz=>j z.1) H1 l⟩
  rw[zL j];refine iteF ?_;subst e1;refine lG λB eB=>?_;simp only[iSeq];ext;refine⟨b,⟨_,r.up l⟩,?_⟩;refine iJ (g:=nB 2) (tb:=B) (nx:=λ_ H'=>Q .non H') (rt:=Q) (λi k H2=>∃v,k=[some (.int d),some (.ref a),v]/\Same H H2/\∀s∈ms.take i,(s.1.length:Int)=d) ⟨_,rfl,l,λs c=>by simp at c⟩ (λi k H2 _⟨_,_,e,_⟩=>r.up e) ?_ ?_
  ·rintro i x k H2 g ⟨v,rfl,e,hl⟩;rw[zO]at g;cases hp':ps[i]? with
   |none=>rw[hp']at g;cases g
   | some q =>
    rw[hp']at g;cases g;obtain⟨m,u,f⟩:=jW p hp';subst eB;show tIfS _ _ _ _ [some (.int d),some (.ref a),some (.ref q)] H2;ext;refine hX (DdS.up f e) λx y=>gK y ?_
    try ext
    by_cases f:(m.1.length:Int)=d
    ·rw[zL f];refine iteF ⟨e,λs c=>?_⟩;rw[xN,u]at c;rcases oF.mp c with c|c
     ·exact hl s c
     ·have:s=m:=by simpa using c
      rw[this];exact f
    ·rw[zK f];exact iteT ⟨by show 1<=sizeLine;decide,o (λz=>f (z.2 m (zqb u))) H2 e⟩
  ·rintro k H2 ⟨v,rfl,e,hl⟩;rw[zqe,lC p,uC]at hl;exact C ⟨j,hl⟩ H2 e
theorem ok_12(T:Txt K mg t):∀n:Nat,FnOk P w K mg base CX0 (n+2) t.a_12 t.d_12 ["thing"] (sp_12 n):=by
 intro n
 induction n with
 |zero =>
  apply T.F_12.ok sc_12
  ·obtain⟨x,rfl,⟨i,rfl⟩,f⟩:=h;refine⟨_,(oQ (nK (mS (nQ (Io T.k_il T.k_it) (by rfl) T.z_isinstance (nofun) (oM (pq 0) (oM (kD (oM (iP (v:=.ty "list") rfl T.z_list (nofun) rfl) (oM (iP (v:=.ty "tuple") rfl T.z_tuple (nofun) rfl) oN))) oN)))) Mo nJ) (oR (oZ (pq 0)))),?_⟩;show tSeq _ _ _ [some (.int i)] H;ext;refine⟨by show 2<=sizeLine;decide,λp d=>⟨_,p,false,rfl,oS,.inl ⟨i,rfl,rfl⟩,false,rfl,?_⟩⟩;refine iteF ?_;exact f _ _ (Same.new d) λa xs e=>by cases e
 | succ n m =>
  have z:=m;apply T.F_12.ok sc_12
  ·obtain⟨x,rfl,⟨a,xs,rfl,c,hl,k⟩,f⟩:=h;refine⟨_,(oQ (nK (mS (nQ (Io T.k_il T.k_it) (by rfl) T.z_isinstance (nofun) (oM (pq 0) (oM (kD (oM (iP (v:=.ty "list") rfl T.z_list (nofun) rfl) (oM (iP (v:=.ty "tuple") rfl T.z_tuple (nofun) rfl) oN))) oN))))
   (oR (oZ (mK (sc:=oU s_12) (N:=N_12) (fr:=[]) (te:=(kL (sp_12 n) [] E0 (nO (tVar 0) tNil))) rfl rfl (nofun) rfl (nofun) (mI (pq 0)) (λ_ _ _ D=>(nD z hr.mo T.F_12 (oM (pv 0) oN))))))
   nJ)
   (oR (oZ (pq 0)))),?_⟩
   show tSeq _ _ _ [some (.ref a)] H;ext;refine⟨by show 2<=sizeLine;decide,λp d=>⟨_,p,true,rfl,oS,.inr ⟨a,xs,rfl,Same.new d _ _ c,rfl⟩,true,rfl,?_⟩⟩;refine iteT ?_;have b:Same H (upd H p (.tup [.ty "list",.ty "tuple"])):=Same.new d;generalize upd H p (.tup [.ty "list",.ty "tuple"])=H1 at b;exfalso;refine⟨false,⟨_,SqB.lst (b _ _ c)⟩,λl u=>?_⟩;refine kG (λ_ _ _=>True) u (SqB.lst (b _ _ c)) hl (λ_ _ _ _ _ _=>trivial) ?_ ?_
   ·intro i x H2 zs o g _ C r;subst eB;show kL _ _ _ _ [some x] H2 C;ext;exact⟨x,rfl,(k x (zqb o)).up (b.trans g),λy H3 q _=>r _ _ q trivial⟩
   ·intro H2 ys g j v _;refine f _ _ (b.trans g) λG F e h=>?_;cases e;rw[c]at h;cases h;exact⟨l,ys,rfl,j,v⟩
theorem ok_3(T:Txt K mg t):FnOk P w K mg base CX0 6 t.a_3 t.d_3 po' (Uh t.a_2):=by
 have v:=ok_12 (P:=P) (w:=w) (base:=base) T 2;apply T.F_3.ok sc_3
 ·obtain⟨e,a,xs,rfl,f,j,k,p⟩:=h;have n:=2;refine⟨_,(oQ (kC (Tr rfl T.m_14 T.h_c (oM (pq 0) (oM mJ oN))))
   (oR (To T.h_d (nD v hr.mo T.F_12 (oM (pq 1) oN)) (pq 0)))),?_⟩
  show tSeq _ _ _ [some (.ref e),some (.ref a)] H;unfold Ir Iq;ext;refine⟨none,f,by show 1<=sizeLine;decide,.ref a,rfl,k,λy H1 c x=>?_⟩;obtain⟨l,ys,rfl,hl,m⟩:=x a xs rfl j;refine⟨c _ _ f,λg d i=>?_⟩;have le:l≠e:=λz=>by rw[z,c _ _ f]at hl;cases hl
  have r:l≠g:=λz=>by rw[z,d]at hl;cases hl
  refine p g _ (λb o u z=>?_) oS ⟨l,ys,?_,?_,m⟩
  ·rw[oV u,oV (λq=>by rw[q]at z;rw[c _ _ z]at d;cases d)];exact c _ _ z
  ·rw[jT i,oV i,oS]
  ·rw[jT le,oV le,oV r];exact hl
theorem Dy{d:Nat}{x:Dd}{w:List Nat}{tb:Tb}{ks:Dd×Nat}:(nxt d x w tb ks).length<=tb.length+1:=by
 unfold nxt;split
 ·omega
 ·rw[yE];exact zE _
def offH(a:Addr)(H:Hp):Hp:=λb=>if b=a then none else H b
theorem Ju{a:Addr}{H:Hp}:Same (offH a H) H:=λb o e=>by
 unfold offH at e
 by_cases z:b=a
 ·rw[zF z]at e;cases e
 ·rw[zD z]at e;exact e
theorem Jt{a:Addr}{H1 H2:Hp}(s:kU a H1 H2):Same (offH a H1) (offH a H2):=λb o e=>by
 unfold offH at e ⊢
 by_cases z:b=a
 ·rw[zF z]at e;cases e
 ·rw[zD z]at e ⊢;exact s _ _ z e
theorem Js{K:Frag}{a:Addr}{H:Hp}{xs:List V}(e:H a=some (.lst xs)):TK K H (offH a H):=TK.off e (λ_ z=>by cases z) (λ_ _ z=>by cases z) λc b=>by unfold offH;rw[zD b]
def DdR(K:Frag)(a:Addr)(ms:List Dd)(j:Nat)(y:V)(H:Hp):Prop:=∃q m,y=.ref q/\ms[j]?=some m/\DdAt K (offH a H) q m
theorem DdR.mono{K:Frag}{a:Addr}{ms:List Dd}(i:Nat)(y:V)(H1 H2:Hp)(h:DdR K a ms i y H1)(s:kU a H1 H2):DdR K a ms i y H2:=let ⟨q,m,e,b,d⟩:=h;⟨q,m,e,b,d.up (Jt s)⟩
theorem Jr{a:Type}{F:Addr->a->Prop}{D:List a}{ys:List V}(hl:ys.length=D.length)(h:∀(j:Nat) y,ys[j]?=some y->∃p e,y=V.ref p/\D[j]?=some e/\F p e):∃ps:LA,ys=ps.map V.ref/\Paired F ps D:=by
 induction D generalizing ys with
 |nil =>
  obtain rfl:=vD hl;exact⟨[],rfl,.nil⟩
 |cons m ms b =>
  obtain⟨y,ys,rfl⟩:=List.exists_cons_of_length_eq_add_one hl;obtain⟨q,l,rfl,k,d⟩:=h 0 y rfl;cases k;obtain⟨c,rfl,g⟩:=b (rE hl) λj f i=>h (j+1) f i;exact⟨q:: c,rfl,.cons d g⟩
theorem Vy{K:Frag}{a:Addr}{H:Hp}{ms:List Dd}{ys:List V}(hl:ys.length=ms.length)(h:∀j y,ys[j]?=some y->DdR K a ms j y H):∃c:LA,ys=c.map V.ref/\Paired (DdAt K H) c ms:=Jr hl λj y e=>by
 obtain⟨q,m,a,b,d⟩:=h j y e;exact⟨q,m,a,b,d.up Ju⟩
theorem fU{H:Hp}{p:Addr}{x:V}{xs:List V}{i:Nat}{I:Int}{Q:VK}(e:H p=some (.lst xs))(a:xs[i]?=some x)(hi:I=i)(q:Q x H):rIxB K (.ref p) (.int I) H Q:=⟨false,p,_,_,_,rfl,rfl,SqB.lst e,lZ a hi,q⟩
theorem tyL{H:Hp}{p:Addr}{xs:List V}(e:H p=some (.lst xs)):tyV K "list" (.ref p) H:=.inl ⟨rfl,xs,.inl (.inl e)⟩
def CPv(K:Frag)(H0:Hp)(G:Nat->Dd->Prop)(qs:LA)(ss:List Dd)(a as af aw:Addr)(d i most:Nat)(f:Nat->Tb)(k:Nat)(σ:St)(H:Hp):Prop:=
 ∃v7 v8 v9,σ=[some (.int d),some (.ref a),some (.int most),some (.ref as),some (.ref af),some (.ref aw),some (.int i),v7,v8,v9]/\CI K H0 qs ss as af aw (f k) H/\ND (f k)/\(∀y∈f k,G y.2.length y.1)/\(f k).length<=most
theorem ok_x(T:Txt K mg t):FnOk P w K mg base (CX1 P w) 10 t.a_x t.d_x pn' (sp_x K t.a_2):=by
 have j8:=@ok_1i P w K mg base t T;have n2:=@ok_1e P w K mg base t T;have p2:=@ok_15 P w K mg base t T;have s4:=@ok_3 P w K mg base t T;refine T.F_x.okX sc_x (λvs H Q E h=>?_) (λcdv A outer s H vs Q E hr h=>?_)
 ·obtain⟨b,d,a,ps,ms,most,S,rfl,_⟩:=h;rfl
 ·have c7:=hr.units;obtain⟨b,d,a,ps,ms,most,S,rfl,q6,k6,m8,u6,⟨r6,s3,i3,n1,t5⟩,t7,w6,s1,o2⟩:=h;refine⟨_,(oQ (Qn (i:=3) (sc:=oU dE) (N:=N_x) (fr:=[]) (te:=(kL (sp_1i K) [] E0 (nO (tVar 0) tNil))) rfl rfl (nofun) rfl sc_x.nd rfl rfl (nofun) (mI (pq 1)) (λ_ _ _ t2=>(nD j8 hr.mo T.F_1i (oM (pv 0) oN))))
   (oQ (oW (i:=4) sc_x.nd rfl (Or.inl rfl) (nS (oM (nD n2 hr.mo T.F_1e (oM (pq 0) oN)) oN)))
   (oQ (oW (i:=5) sc_x.nd rfl (Or.inr rfl) (Qg c7 (nN (pq 4)) (nS oN)))
   (oQ (oW (i:=6) sc_x.nd rfl (Or.inl rfl) oO)
   (oQ (Aw qL (nI gX (pq 6) (mO T.z_len (pq 4)) (nH _))
   (oQ (lE qL rfl (bA rfl T.z_enumerate (oM (pq 3) oN)) (gF rfl (lQ (mD (i:=7) sc_x.nd rfl (Or.inl rfl)) (lQ (mD (i:=8) sc_x.nd rfl (Or.inl rfl)) iQ)))
   (oQ (oW (i:=9) sc_x.nd rfl (Or.inl rfl) (nD j8 hr.mo T.F_1i (oM (nD p2 hr.mo T.F_15 (oM (nV ix_B (pq 4) (pq 6) (λ_ _=>rfl)) (oM (pq 8) oN))) oN)))
   (oQ (nK (nI (Ga c7) (pq 9) (pq 5) rfl)
   (oQ (gG (oP gZ (nV (ix_T c7) (pq 5) (nV ix_B (pq 4) (pq 6) (λ_ _=>rfl)) (λ_ _=>rfl)) (nS (oM (pq 7) oN))) (eE (pq 5) (pq 9) (Hy c7)))
   (oR (kC (jH yZ xE xF jI (pq 4) (oM (pq 9) oN)))))
   nJ)
   (oR (nK (nI cH (mO T.z_len (pq 4)) (pq 2) (nH _))
   (oR (Tt rfl Tw rfl T.m_2 T.h_c.cl yO s4 hr.mo T.b_3 fA (oM (mK (sc:=oU dE) (N:=N_x) (fr:=[("words",5)]) (te:=(tOp (bK K) (tVar 1) (tVar 0))) rfl rfl (nofun) rfl (nofun) (mI (pq 4)) (λ_ _ _ t2=>(nV (ix_T c7) (pv 1) (pv 0) (λ_ _=>rfl)))) oN)))
   nJ)))))
   (oR (Es (i:=6) sc_x.nd rfl (Or.inl rfl) oO Er))))
   (oR (oZ (pq 5)))))))),?_⟩
  show tSeq _ _ _ [some (.int d),some (.ref a),some (.int most),none,none,none,none,none,none,none] H;have v5:ps.length=ms.length:=lC m8;right;exfalso;refine⟨b,⟨_,k6⟩,λas l5=>?_⟩;refine kG (DdR K as (ms.map oY)) l5 k6 (by rw[zqe];omega) DdR.mono ?_ ?_
  ·intro i x H1 zs e9 d2 m2 f8 h6;obtain⟨q,u1,rfl⟩:=gC e9;obtain⟨m,k8,r0⟩:=jW m8 u1;have g5:=r6 m (zqb k8);subst eB;show kL _ _ _ _ [some (.ref q)] H1 f8;ext;refine⟨q,m.1,m.2.1,m.2.2,rfl,DdS.up r0 d2,by rw[g5.sq.1];omega,by rw[g5.len];omega,g5.pos,λr H2 v c5=>?_⟩;refine h6 _ _ v ⟨r,oY m,rfl,by rw[zO,k8];rfl,?_⟩;exact DdAt.tk (show DdAt K H2 r (oY m) from c5) (Js (v _ _ m2))
  ·intro H1 ys d2 b4 l3 d8;obtain⟨R,rfl,m1⟩:=Vy (by rw[l3,zqe,zqe];omega) d8;left;refine⟨d,rfl,q6,λa2 H2 v j1=>⟨by show 1<=sizeLine;decide,λg b8=>?_⟩⟩;have c9:Same H2 (upd H2 g (.lst [.ref a2])):=Same.new b8;have b7:(upd H2 g (.lst [.ref a2])) g=some (.lst [.ref a2]):=oS;generalize upd H2 g (.lst [.ref a2])=H3 at*
   have c0:DdAt K H3 a2 (nU d):=DdAt.up j1 c9;have e5:=c9 _ _ (v _ _ b4);have i9:=Paired.mapP m1 λ_ _ z=>z.up (v.trans c9);have f4:=(d2.trans v).trans c9;have s0:H g=none:=by
    cases z:H g with
    |none=>rfl
    |some o=>rw[v _ _ (d2 _ _ z)]at b8;cases b8
   have q8:as≠g:=λz=>by rw[z]at b4;rw[v _ _ b4]at b8;cases b8
   subst e1;refine st λN1 e1=>?_;simp only[Hu];ext;intro f X;have O:Same H3 (upd H3 f (mP f [])):=Same.new X;have d5:(upd H3 f (mP f [])) f=some (mP f []):=oS;have l1:H f=none:=by
    cases z:H f with
    |none=>rfl
    |some o=>rw[f4 _ _ z]at X;cases X
   generalize upd H3 f (mP f [])=e3 at*;ext;refine fU (i:=0) (O _ _ b7) rfl rfl ?_;refine⟨yA _,λa4 b0=>?_⟩;have N:Same e3 (upd e3 a4 (.lst [])):=Same.new b0;have ep:(upd e3 a4 (.lst [])) a4=some (.lst []):=oS;have j3:a4≠g:=λz=>by rw[z,O _ _ b7]at b0;cases b0
   have d7:a4≠f:=λz=>by rw[z,d5]at b0;cases b0
   generalize upd e3 a4 (.lst [])=p3 at*;refine⟨a2,rfl,dat (nU d),jG _,(DdAt.up c0 (O.trans N)).dt,N _ _ d5,λk0 b5 h8=>?_⟩;have j2:∀b o,H b=some o->b≠f:=λb o e z=>by rw[z,l1]at e;cases e
   have g2:TK K p3 k0:=TK.off (N _ _ d5) (λ_ z=>by cases z) (λ_ _ z=>by cases z) b5;have f0:as≠f:=λz=>by rw[z]at e5;rw[e5]at X;cases X
   have c1:g≠f:=λz=>by rw[z]at b7;rw[b7]at X;cases X
   have M:CI K H R (ms.map oY) as g f [(nU d,[])] k0:=⟨λb o e=>by rw[b5 b (j2 b o e)];exact N _ _ (O _ _ (f4 _ _ e)),⟨by rw[b5 _ f0];exact N _ _ (O _ _ e5),Paired.mapP i9 λ_ _ z=>DdAt.tk (z.up (O.trans N)) g2⟩,
    ⟨[a2],by rw[b5 _ c1];exact N _ _ (O _ _ b7),.cons (DdAt.tk (DdAt.up c0 (O.trans N)) g2) .nil⟩,⟨_,h8,.cons ⟨rfl,a4,rfl,j3,by rw[b5 _ d7];exact ep⟩ .nil⟩,l5,s0,l1,q8⟩
   clear h8 g2 ep j3 d7 b0 N d5 O X i9 e5 c0 b7 c9 b8 j1 v m1 d8 l3 b4 d2 f4 c1 f0 j2 b5;left;subst e1;refine st λN1 e1=>Oa λB eB=>?_;refine⟨λm c3 H'=>∃(i:Nat)(tb:Tb)(F D C:Option V),c3=[some (.int d),some (.ref a),some (.int most),some (.ref as),some (.ref g),some (.ref f),some (.int i),F,D,C]/\CI K H R (ms.map oY) as g f tb H'/\nR d (ms.map oY) (201-i) i tb=nR d (ms.map oY) 201 0 [(nU d,[])]/\ND tb/\(∀y∈tb,S y.2.length y.1)/\tb.length<=most/\m=201-i,
    ⟨201,0,_,none,none,none,rfl,M,rfl,⟨by simp,λy Z=>by rw[List.mem_singleton.mp Z];exact Nat.zero_lt_one⟩,λy Z=>by rw[rW.mp Z];exact n1,t7,rfl⟩,?_⟩
   clear M;rintro m c3 u3 ⟨i,tb,F,D,C,rfl,M,L,nd,h7,k9,rfl⟩;ext;obtain⟨fs,q5,n7⟩:=M.fo;have fl:fs.length=tb.length:=lC n7;refine⟨false,g,_,rfl,SqB.lst q5,?_⟩
   try ext
   rw[zqe,fl]
   by_cases hi:i<tb.length
   case neg =>
    rw[zK ⋯];refine iteF ?_;symm;rw[Ue ⋯]at L;obtain⟨kvs,c2,b3⟩:=M.wo;refine s1 (by rw[←L];exact k9) ⟨by rw[←L];exact nd.1,λy Z=>by rw[←L]at Z;exact⟨h7 y Z,by have:=nd.2 y Z;omega⟩⟩ f kvs u3 M.s M.n3 c2 ?_;rw[←L];exact Paired.mapP b3 λ_ _ z=>let ⟨a9,p,W,_,d9⟩:=z;⟨a9,p,W,d9⟩
   rw[zL (show(i:Int)<tb.length by omega)];obtain⟨⟨x,l⟩,e9⟩:∃d7,tb[i]?=some d7:=⟨_,zqd hi⟩;have n5:0<201-i:=⋯
   rw[Ud hi n5,Uc e9]at L;have w5:((ms.map oY).zipIdx.foldl (nxt d x l) tb).length<=(nR d (ms.map oY) 201 0 [(nU d,[])]).length:=by
    obtain⟨r,q4⟩:=Cc d (ms.map oY) (201-i-1) (i+1) ((ms.map oY).zipIdx.foldl (nxt d x l) tb);rw[←L,q4,yE];omega
   refine iteT ⟨λk4 H'=>∃(a7:Tb)(F D C:Option V),k4=[some (.int d),some (.ref a),some (.int most),some (.ref as),some (.ref g),some (.ref f),some (.int (i+1:Nat)),F,D,C]/\CI K H R (ms.map oY) as g f a7 H'/\nR d (ms.map oY) (201-(i+1)) (i+1) a7=nR d (ms.map oY) 201 0 [(nU d,[])]/\ND a7/\(∀y∈a7,S y.2.length y.1)/\a7.length<=most,?_,?_⟩
   ·rintro k4 H' ⟨a7,F,D,C,rfl,k1,k2,k3,g6,k5⟩;exact⟨201-(i+1),⋯,i+1,a7,F,D,C,rfl,k1,k2,k3,g6,k5,rfl⟩
   subst eB;refine st λu7 a1=>lG λB eB=>?_;simp only[eP];ext;refine⟨false,⟨_,SqB.lst M.st.1⟩,?_⟩;refine Gj (g:=gTup K 2 (mW (nB 7) (mW (nB 8) gNil))) (tb:=B) (CPv K H S R (ms.map oY) a as g f d i most (part d x l (ms.map oY) tb))
    ⟨_,_,_,rfl,M,nd,h7,k9⟩ (λk c3 H' _⟨_,_,_,_,c,_⟩=>SqB.lst c.st.1) ?_ ?_
   ·rintro k y p c3 i2 o0 ⟨F,D,C,rfl,a3,Y,c4,f5⟩ r4;obtain⟨q,j7,rfl⟩:=gC o0;obtain⟨u,a5,_⟩:=jW a3.st.2 j7;have q7:=Same.new (o:=.tup [.int (k:Int),.ref q]) r4;refine⟨p,[.int k,.ref q],rfl,SqT.of oS,rfl,_,[.ref q],rfl,_,[],rfl,rfl,?_⟩;have g8:=a3.up q7;generalize upd i2 p (.tup [.int (k:Int),.ref q])=p9 at*
    clear a3;obtain⟨v1,p1⟩:=Ua (d:=d) (x:=x) (w:=l) (ss:=ms.map oY) (tb:=tb) k;have I:(part d x l (ms.map oY) tb k)[i]?=some (x,l):=by rw[p1,yB hi];exact e9
    have u8:=Jw (d:=d) (x:=x) (w:=l) (ss:=ms.map oY) (tb:=tb) k;have n4:=Jw (d:=d) (x:=x) (w:=l) (ss:=ms.map oY) (tb:=tb) (k+1);have q2:∀F D C H',CI K H R (ms.map oY) as g f (nxt d x l (part d x l (ms.map oY) tb k) (u,k)) H'->S (l.length+1) (nA d x u)->(nxt d x l (part d x l (ms.map oY) tb k) (u,k)).length<=most->CPv K H S R (ms.map oY) a as g f d i most (part d x l (ms.map oY) tb) (k+1) [some (.int d),some (.ref a),some (.int most),some (.ref as),some (.ref g),some (.ref f),some (.int i),F,D,C] H':=λF D C H' c gs u4=>⟨F,D,C,rfl,by rw[dN a5];exact c,by rw[dN a5];exact Jv Y (zqb I),by rw[dN a5];exact Vz c4 gs,by rw[dN a5];exact u4⟩;rw[dN a5]at n4;generalize CPv K H S R (ms.map oY) a as g f d i most (part d x l (ms.map oY) tb) (k+1)=v7 at*
    generalize part d x l (ms.map oY) tb k=tk at*;obtain⟨j5,l6,m4⟩:∃m∈ms,oY m=u:=by
     have:=zqb a5;obtain⟨m,o1,q0⟩:=oA.mp this;exact⟨m,o1,q0⟩
    have j9:S l.length x:=c4 _ (zqb I);have w0:l.length<tk.length:=Y.2 _ (zqb I);have gs:S (l.length+1) (nA d x u):=by rw[←m4];exact t5 _ x j5 ⋯ j9 l6
    have t8:=i3 _ x ⋯ j9;have fs':lO d u:=by rw[←m4];exact s3 j5 l6
    have h5:=i3 _ _ ⋯ gs;subst eB;show tSeq _ _ _ [some (.int d),some (.ref a),some (.int most),some (.ref as),some (.ref g),some (.ref f),some (.int i),some (.int k),some (.ref q),C] p9;refine st λv9 g3=>?_;ext;obtain⟨r8,q9,m3⟩:=g8.fo;obtain⟨g9,m7⟩:∃g9,r8[i]?=some g9:=⟨_,zqd (by rw[lC m3];exact(zqa I).1)⟩;obtain⟨v0,j0,p0⟩:=jW m3 m7;rw[I]at j0;cases j0;obtain⟨v8,j6,p4⟩:=jW g8.st.2 j7;rw[a5]at j6;cases j6;refine fU (i:=i) q9 (by rw[zO,m7];rfl) rfl ?_;refine⟨g9,q,x.1,u.1,x.2.1,u.2.1,x.2.2,u.2.2,d,rfl,lN.s p0,lN.s p4,t8,fs',⋯,⋯,λr1 u2 t6 d8=>?_⟩;have q1:DdAt K u2 r1 (behD d x u):=d8;refine⟨r1,_,_,_,rfl,lN.s q1,?_,?_,h5.pos,λr2 a0 p5 c5=>?_⟩
    ·have:=h5.sq.1;show(mulM d u.1 x.1).length<=100;have:(mulM d u.1 x.1).length=d:=this;omega
    ·have:=h5.len;have e:(mQ (behD d x u).2.2 (behD d x u).2.1).length=(behD d x u).2.1.length:=by unfold mQ;simp
     have:(mQ (behD d x u).2.2 (behD d x u).2.1).length=d:=this;omega
    have l0:DdAt K a0 r2 (nA d x u):=c5;have e6:=g8.up (t6.trans p5);subst g3;show tSeq _ _ _ [some (.int d),some (.ref a),some (.int most),some (.ref as),some (.ref g),some (.ref f),some (.int i),some (.int k),some (.ref q),some (.ref r2)] a0;refine st λs6 d3=>?_;have l4:∀H',CI K H R (ms.map oY) as g f (nxt d x l tk (u,k)) H'->s6 [some (.int d),some (.ref a),some (.int most),some (.ref as),some (.ref g),some (.ref f),some (.int i),some (.int k),some (.ref q),some (.ref r2)] H':=by
     intro H' e7;subst d3;ext;obtain⟨u5,h4,e0⟩:=e7.fo;refine⟨false,g,_,rfl,SqB.lst h4,?_⟩
     try ext
     rw[zqe,lC e0]
     by_cases o7:(nxt d x l tk (u,k)).length<=most
     ·rw[zK ⋯];refine iteF ?_;exact q2 _ _ _ H' e7 gs o7
     ·rw[zL ⋯];refine iteT ?_;have r5:=o2 ⋯;obtain⟨w3,n8,s2⟩:=e7.wo;exfalso;refine⟨false,⟨_,SqB.lst h4⟩,λf3 f6=>?_⟩;refine kG (λ_ y H2=>∃p,y=.ref p/\p≠f3/\∃d0:List Nat,d0.length<=201/\H2 p=some (.lst (d0.map λn=>V.int (n:Nat)))) f6 (SqB.lst h4) (by rw[zqe,lC e0];have:=Dy (d:=d) (x:=x) (w:=l) (tb:=tk) (ks:=(u,k));omega) (λ_ _ _ _⟨p,e1,a1,d0,g3,d3⟩p7=>⟨p,e1,a1,d0,g3,p7 _ _ a1 d3⟩) ?_ ?_
      ·intro j i5 H2 zs o3 v m2 f8 h6;obtain⟨o4,s7,rfl⟩:=gC o3;obtain⟨o8,r9,c0⟩:=jW e0 s7;subst eB;show tOp _ _ _ [some (.ref o4),some (.ref f)] H2 f8;ext;rcases Dz (x:=o8.1) s2 with⟨a6,_⟩|⟨f7,d4,a6,h2,n0,c6⟩
       ·exact absurd (oA.mpr ⟨_,zqb r9,rfl⟩) a6
       refine Ca (n8.up v) (jG _) (DdAt.dt (c0.up v)) h2 ?_;refine h6 _ _ (Same.refl _) ⟨d4,rfl,(λz=>by rw[z]at c6;rw[c6]at f6;cases f6),f7,?_,v _ _ c6⟩;have o5:=(Jv (d:=d) (ks:=(u,k)) Y (zqb I)).2 _ a6;have:=Dy (d:=d) (x:=x) (w:=l) (tb:=tk) (ks:=(u,k));exact yC (vL o5) ⋯
      ·intro H2 ys v a1 i1 c5;have v4:=Dy (d:=d) (x:=x) (w:=l) (tb:=tk) (ks:=(u,k));rw[zqe,lC e0,show(nxt d x l tk (u,k)).length=most+1 by omega]at i1;refine⟨by show 1<=sizeLine;decide,λe g7=>⟨e,f3,ys,rfl,oS,Same.new (o:=XObj e t.a_2 none) g7 _ _ a1,?_,λs9 H3 k3 g6 k5=>⟨rfl,_,g6,?_⟩⟩⟩
       ·have i8:=Same.new (o:=XObj e t.a_2 none) g7;refine⟨f3,ys,rfl,i8 _ _ a1,⋯,λi5 p8=>?_⟩;obtain⟨j,t9⟩:=wI p8;obtain⟨t3,b4,_,d0,w1,d3⟩:=c5 j i5 t9;refine⟨t3,_,b4,i8 _ _ d3,by rw[zqe];omega,λz n9=>?_⟩;obtain⟨n,_,rfl⟩:=oA.mp n9;exact⟨_,rfl⟩
       ·refine r5 s9 _ (λb o o9=>?_) (by rw[i1]at k5;exact k5);have h0:=v _ _ (e7.s b o o9);have h3:b≠e:=λz=>by rw[z,g7]at h0;cases h0
        rw[jT h3];exact k3 b o h3 (by rw[oV h3];exact h0)
    ext;obtain⟨kvs,c2,b3⟩:=e6.wo;refine Ui c2 (jG _) l0.dt ?_;rcases Dz (x:=nA d x u) b3 with⟨a9,W⟩|⟨f7,d4,a9,W,l7,d9⟩
    case inr =>
     rw[W]
     try ext
     refine l4 a0 ?_;have g4:nxt d x l tk (u,k)=tk:=zF (oA.mpr ⟨_,a9,rfl⟩);rw[g4];exact e6
    rw[W]
    try ext
    rw[zF (by rfl)];obtain⟨a8,f9,e4⟩:=e6.fo;obtain⟨i4,i7⟩:∃i4,a8[i]?=some i4:=⟨_,zqd (by rw[lC e4];exact(zqa I).1)⟩;obtain⟨w4,m6,t4⟩:=jW e4 i7;rw[I]at m6;cases m6;refine fU (i:=i) f9 (by rw[zO,i7];rfl) rfl ?_;rcases Dz (x:=x) b3 with⟨a6,_⟩|⟨f7,d4,a6,h2,n0,c6⟩
    ·exact absurd (oA.mpr ⟨_,zqb I,rfl⟩) a6
    have t1:=Uf Y.1 I a6;subst t1;have v6:l.length<tk.length:=Y.2 _ (zqb I);have w2:tk.length=kvs.length:=lC b3;have hsz:1000<=sizeLine:=∅
    refine Ca c2 (jG _) (DdAt.dt t4) h2 ?_;refine⟨by show 1<=sizeLine;decide,λd1 u0=>?_⟩;have e8:Same a0 (upd a0 d1 (.lst [.int k])):=Same.new u0;have r7:(upd a0 d1 (.lst [.int k])) d1=some (.lst [.int k]):=oS;generalize upd a0 d1 (.lst [.int k])=e2 at*
    refine⟨d4,d1,_,_,rfl,rfl,e8 _ _ c6,r7,by rw[zqe];show l.length+1<=sizeLine;omega,λG g1=>?_⟩;have h9:Same e2 (upd e2 G (.lst ((l.map λn=>V.int (n:Nat))++[.int k]))):=Same.new g1;have l8:(upd e2 G (.lst ((l.map λn=>V.int (n:Nat))++[.int k]))) G=some (.lst ((l.map λn=>V.int (n:Nat))++[.int k])):=oS;have J:=e6.up (e8.trans h9);have i6:G≠g:=λz=>by rw[z,e8 _ _ f9]at g1;cases g1
    generalize upd e2 G (.lst ((l.map λn=>V.int (n:Nat))++[.int k]))=h1 at*;have c8:=e8.trans h9;have j4:=c2.up c8;have t0:=Paired.mapP b3 λ_ _ z=>(let ⟨a9,p,W,l7,d9⟩:=z;⟨a9,p,W,l7,c8 _ _ d9⟩:_/\∃p,_/\p≠g/\h1 p=_);have l2:=DdAt.up l0 c8;have f2:=c8 _ _ f9;have m9:=Paired.mapP e4 λ_ _ z=>DdAt.up z c8;simp only[gSub];ext;have g4:nxt d x l tk (u,k)=tk++[(nA d x u,l++[k])]:=zD a9;have p6:pT kvs (dat (nA d x u)) (.ref G)=kvs++[(dat (nA d x u),.ref G)]:=by
     unfold pT;rw[W];rfl
    obtain⟨u9,d6,_,_⟩:=j4.ex;have c1:g≠f:=λz=>by rw[z,d6]at f2;cases f2
    have f0:as≠f:=λz=>by have:=J.st.1;rw[z,d6]at this;cases this
    refine⟨f,kvs,r2,dat (nA d x u),rfl,rfl,j4,jG _,l2.dt,⋯,λU _ b9 i0=>?_⟩;rw[p6]at i0;have s8:DTr K U f (kvs++[(dat (nA d x u),V.ref G)]):=i0;have o6:TK K h1 U:=TK.off d6 (λ_ z=>by cases z) (λ_ _ z=>by cases z) b9;have g0:U g=some (.lst (a8.map V.ref)):=by rw[b9 g c1];exact f2
    refine⟨tyL g0,g,_,_,rfl,rfl,g0,by rw[zqe,lC e4];omega,l4 _ ?_⟩;rw[g4];have b6:∀c,c≠g->upd U g (.lst (a8.map V.ref++[.ref r2])) c=U c:=λc L=>oV L;have n6:upd U g (.lst (a8.map V.ref++[.ref r2])) g=some (.lst (a8.map V.ref++[.ref r2])):=oS;generalize upd U g (.lst (a8.map V.ref++[.ref r2]))=s5 at*
    have l9:TK K U s5:=TK.off g0 (λ_ z=>by cases z) (λ_ _ z=>by cases z) b6;have f1:=o6.trans l9;have m0:∀p xs,h1 p=some (.lst xs)->p≠f:=λp xs e z=>by rw[z,d6]at e;cases e
    refine⟨λb o e=>?_,⟨?_,Paired.mapP J.st.2 λ_ _ z=>DdAt.tk z f1⟩,⟨a8++[r2],by rw[n6];simp,Paired.snoc (Paired.mapP m9 λ_ _ z=>DdAt.tk z f1) (DdAt.tk l2 f1)⟩,⟨kvs++[(dat (nA d x u),V.ref G)],DTr.tk s8 l9 (b6 f (zZ c1)),Paired.snoc (Paired.mapP t0 λ_ _ z=>?_) ⟨rfl,G,rfl,i6,?_⟩⟩,J.n1,J.n2,J.n3,J.x1⟩
    ·have b1:b≠g:=λz=>by rw[z,J.n2]at e;cases e
     have b2:b≠f:=λz=>by rw[z,J.n3]at e;cases e
     rw[b6 b b1,b9 b b2];exact J.s b o e
    ·rw[b6 as J.x1,b9 as f0];exact J.st.1
    ·obtain⟨n3,p,q3,m5,k7⟩:=z;refine⟨n3,p,q3,m5,?_⟩;rw[b6 p m5,b9 p (m0 _ _ k7)];exact k7
    ·rw[b6 G i6,b9 G (m0 _ _ l8),l8];simp
   ·rintro c3 i2 ⟨F,D,C,rfl,a3,Y,c4,f5⟩;have r3:(R.map V.ref).length=(ms.map oY).length:=by rw[zqe];exact lC a3.st.2
    rw[r3,Ub]at a3 Y c4 f5;subst a1;refine⟨.int i,rfl,?_⟩;unfold tC ipI;refine⟨i,1,rfl,rfl,?_⟩;refine⟨_,F,D,C,rfl,a3,?_,Y,c4,f5⟩;rw[show 201-(i+1)=201-i-1 by omega];exact L
theorem Dx:∀{l a:LI'},l.length=a.length->smA (l.map PyData.int) (a.map PyData.int)=true
 |[],[],_=>rfl
 |_:: l,_:: a,h=>by
  show(sm (.int _) (.int _) && smA (l.map PyData.int) (a.map PyData.int))=true;rw[Dx (by simpa using h)];rfl
theorem Jq{d:Nat}:∀{M a:LM},M.length=a.length->(∀r∈M,r.length=d)->(∀r∈a,r.length=d)->smA (M.map λr=>PyData.tuple (r.map PyData.int)) (a.map λr=>PyData.tuple (r.map PyData.int))=true
 |[],[],_,_,_=>rfl
 |r:: M,c:: a,h,f,e=>by
  show(smA (r.map PyData.int) (c.map PyData.int) && smA (M.map λr=>PyData.tuple (r.map PyData.int)) (a.map λr=>PyData.tuple (r.map PyData.int)))=true;rw[Dx ((f r (.head _)).trans (e c (.head _)).symm),Jq (by simpa using h) (λx b=>f x (.tail _ b)) λx b=>e x (.tail _ b)];rfl
theorem Dw{d:Nat}{x y:Dd}(a:lO d x)(b:lO d y):sm (dat x) (dat y)=true:=by
 show(smA (x.1.map λr=>PyData.tuple (r.map PyData.int)) (y.1.map λr=>PyData.tuple (r.map PyData.int)) && (smA (x.2.1.map PyData.int) (y.2.1.map PyData.int) && (sm (.int _) (.int _) && true)))=true;rw[Jq (a.sq.1.trans b.sq.1.symm) a.sq.2 b.sq.2,Dx (a.len.trans b.len.symm)];rfl
def Vx(d:Nat)(lg lo ls ln:Addr):List (Str×V):=[(Str.ofString "dimension",.int d),(Str.ofString "given",.ref lg),(Str.ofString "ordered",.ref lo),(Str.ofString "shortest",.ref ls),(Str.ofString "numbers",.ref ln)]
abbrev fG1(d:Nat):List (Str×V):=[(Str.ofString "dimension",.int d)]
abbrev fG2(d:Nat)(lg:Addr):List (Str×V):=[(Str.ofString "dimension",.int d),(Str.ofString "given",.ref lg)]
abbrev fG3(d:Nat)(lg lo:Addr):List (Str×V):=[(Str.ofString "dimension",.int d),(Str.ofString "given",.ref lg),(Str.ofString "ordered",.ref lo)]
abbrev fG4(d:Nat)(lg lo ls:Addr):List (Str×V):=[(Str.ofString "dimension",.int d),(Str.ofString "given",.ref lg),(Str.ofString "ordered",.ref lo),(Str.ofString "shortest",.ref ls)]
abbrev fG5(d:Nat)(lg lo ls ln:Addr):List (Str×V):=[(Str.ofString "dimension",.int d),(Str.ofString "given",.ref lg),(Str.ofString "ordered",.ref lo),(Str.ofString "shortest",.ref ls),(Str.ofString "numbers",.ref ln)]
def numT(srt:Tb)(n:Nat):List (PyData×V):=(srt.zipIdx n).map λp=>(dat p.1.1,V.int ((p.2:Nat):Int))
structure GrpF(K:Frag)(t:Adr)(H:Hp)(g:Addr)(d:Nat)(ms:List Dd)(srt:Tb):Prop where
 ex:∃dx lg lo ls ln,H g=some (.ins t.a_c dx (Vx d lg lo ls ln))/\(∃gs:LA,H lg=some (.lst (gs.map V.ref))/\Paired (DdS K H) gs ms) /\
  (∃os:LA,H lo=some (.lst (os.map V.ref))/\Paired (λp x=>Dt K H (.ref p) (dat x.1)) os srt) /\
  (∃ws:LA,H ls=some (.lst (ws.map V.ref))/\Paired (λp(x:Dd×List Nat)=>H p=some (.lst (x.2.map λn=>V.int (n:Nat)))) ws srt)/\DTr K H ln (numT srt 0)
def Dv(K:Frag)(t:Adr):Sp:=λvs H Q E=>E8 λ(b:Bool)(d most:Int)(a x dx:Addr)(ps:LA)(ms:List Dd)=>A7 (vs=[.ref x,.int d,.ref a,.int most]) (H x=some (.ins t.a_c dx [])) (SqB b K H a (ps.map V.ref)) (Paired (DdS K H) ps ms) ((¬ (1<=most/\most<=200)->∀H',Same H H'->E (.ref t.a_5) none H')) (((1<=most/\most<=200)->¬ AxOk d ms->∀H',Same H H'->E (.ref t.a_a) none H')) (((1<=most/\most<=200)->AxOk d ms->∃(G:Nat->Dd->Prop)(d' m':Nat),d=d'/\most=m'/\ms.length<=200/\Cb d' ms G/\((nR d' (ms.map oY) 201 0 [(nU d',[])]).length<=m'->(((nR d' (ms.map oY) 201 0 [(nU d',[])]).map (·.1)).Nodup/\∀y∈nR d' (ms.map oY) 201 0 [(nU d',[])],G y.2.length y.1/\y.2.length<=200)->∀srt H',(∀b o,b≠x->H b=some o->H' b=some o)->GrpF K t H' x d' ms srt->srt.Perm (nR d' (ms.map oY) 201 0 [(nU d',[])])->srt.Pairwise (λp q=>lx (fl (dat q.1)) (fl (dat p.1))=false)->Q .non H')/\(m'<(nR d' (ms.map oY) 201 0 [(nU d',[])]).length->∀dx H',Same H H'->Apt H' dx (m'+1)->E (.ref t.a_2) (some dx) H')))
theorem Jp{c d:Type}{f:c->d}:∀{l:List d}{tb:List c},l.Perm (tb.map f)->∃srt:List c,srt.Perm tb/\srt.map f=l
 |[],tb,h=>by
  have:=h.length_eq;rw[zqe]at this;exact⟨[],by rw[List.length_eq_zero_iff.mp this.symm],rfl⟩
 | b:: l,tb,h=>by
  obtain⟨a,g,e⟩:=oA.mp (h.mem_iff.mp (yD));obtain⟨s,r,rfl⟩:=List.append_of_mem g;have i:(b:: l).Perm (b:: (s++r).map f):=by
   refine h.trans ?_;rw[xB,zN,e,xB];exact List.perm_middle
  obtain⟨srt,p,q⟩:=Jp (List.Perm.cons_inv i);exact⟨a:: srt,(List.Perm.cons a p).trans List.perm_middle.symm,by rw[zN,e,q]⟩
def KX(x:Addr)(H H':Hp):Prop:=∀b o,b≠x->H b=some o->H' b=some o
theorem KX.same{x:Addr}{H H':Hp}(s:Same H H'):KX x H H':=λb o _ e=>s b o e
theorem KX.put{x:Addr}{H:Hp}{o:HO}:KX x H (upd H x o):=λb c a e=>by rw[oV a];exact e
theorem KX.trans{x:Addr}{H H1 H2:Hp}(a:KX x H H1)(b:KX x H1 H2):KX x H H2:=λc o d e=>b c o d (a c o d e)
theorem KX.tk{K:Frag}{x C d:Addr}{fs:List (Str×V)}{H H':Hp}(k:KX x H H')(e:H x=some (.ins C d fs)):TK K H H':=by
 have a:∀b xs,H b=some (.tup xs)->H' b=some (.tup xs):=λb xs q=>k b _ (λz=>by rw[z,e]at q;cases q) q;refine⟨a,λb xs q=>?_⟩;rcases q with(q|⟨c,q⟩)|q
 ·exact .inl (.inl (a _ _ q))
 ·exact .inl (.inr ⟨c,k b _ (λz=>by rw[z,e]at q;cases q) q⟩)
 ·exact .inr q
theorem Vw{H:Hp}{x:Dd}{w:List Nat}{p:Addr}:∀{tb:Tb}{kvs:List (PyData×V)},TbAt H tb kvs->(tb.map (·.1)).Nodup->(x,w)∈tb->vT kvs (dat x)=some (.ref p)->H p=some (.lst (w.map λn=>V.int (n:Nat))):=by
 intro tb kvs h
 induction h with
 |nil=>intro _ a;cases a
 |@cons y f tb kvs i _ d =>
  intro nd a e;obtain⟨e1,q,c,b⟩:=i;rw[zN,tO]at nd;rcases xC.mp a with a|a
  ·rw[←a]at e1 b;rw[jP e1,c]at e;cases e;exact b
  ·have g:¬ f.1=dat x:=λq=>nd.1 (by rw[dL.mp (e1.symm.trans q)];exact oA.mpr ⟨_,a,rfl⟩);rw[jQ g]at e;exact d nd.2 a e
theorem Vv{K:Frag}{H:Hp}{C x d a:Addr}{fs:List (Str×V)}{o:HO}{b:Bool}{xs:List V}(e:H x=some (.ins C d fs))(h:SqB b K H a xs):SqB b K (upd H x o) a xs:=by
 cases b with
 |false =>
  rcases(show SqL K H a xs from h) with(h|⟨c,h⟩)|h
  ·exact(.inl (.inl (by rw[oV (λz=>by rw[z,e]at h;cases h)];exact h)):SqL K (upd H x o) a xs)
  ·exact(.inl (.inr ⟨c,by rw[oV (λz=>by rw[z,e]at h;cases h)];exact h⟩):SqL K (upd H x o) a xs)
  ·exact(.inr h:SqL K (upd H x o) a xs)
 |true =>
  rcases(show SqT K H a xs from h) with(h|⟨c,h⟩)|h
  ·exact(.inl (.inl (by rw[oV (λz=>by rw[z,e]at h;cases h)];exact h)):SqT K (upd H x o) a xs)
  ·exact(.inl (.inr ⟨c,by rw[oV (λz=>by rw[z,e]at h;cases h)];exact h⟩):SqT K (upd H x o) a xs)
  ·exact(.inr h:SqT K (upd H x o) a xs)
theorem Vu{H:Hp}{v:V}{ds:List PyData}(h:Dt K H v (.tuple ds)):∃q,v=V.ref q:=by
 cases h;exact⟨_,rfl⟩
theorem aT{H:Hp}{a:St}{i:Nat}{C x b:Addr}{fs:List (Str×V)}{f:Str}{v:V}{Q:VK}(d:a[i]?=some (some (V.ref x)))(e:H x=some (.ins C b fs))(c:Cls K C)(n:gH K C f)(l:fs.lookup f=some v)(q:Q v H):tFld K (tVar i) f a H Q:=⟨_,d,x,C,b,fs,v,rfl,e,c,n,l,q⟩
theorem Vt{H:Hp}:∀{tb:Tb}{kvs:List (PyData×V)},TbAt H tb kvs->∀y∈tb,∃p,vT kvs (dat y.1)=some (V.ref p):=by
 intro tb kvs h
 induction h with
 |nil=>intro y a;cases a
 | @cons z e tb kvs d _ b =>
  intro y a;obtain⟨e1,p,c,_⟩:=d
  by_cases q:e.1=dat y.1
  ·exact⟨p,by rw[jP q,c]⟩
  ·rw[jQ q];rcases xC.mp a with a|a
   ·exact absurd (by rw[e1,a]) q
   ·exact b y a
theorem Vs{K:Frag}{H:Hp}{ps:List (V×PyData)}{zs:List V}{n:Nat}(hl:zs.length=ps.length)(f:∀p∈ps,tT 4 p.2=true/\Dt K H p.1 p.2/\∃q,p.1=V.ref q)(d:∀j y,zs[j]?=some y->∃p m,y=V.ref p/\ps[j]?=some m/\H p=some (.tup [m.1,.int ((n+j:Nat):Int)])):
  ∃ts:List (Addr×PyData×Addr×V),zs=ts.map (λt=>V.ref t.1)/\(ts.map (·.2.1)=ps.map (·.2)/\ts.map (λt=>(t.2.1,t.2.2.2))=(ps.zipIdx n).map λp=>(p.1.2,V.int ((p.2:Nat):Int)))/\∀t∈ts,SqT K H t.1 [.ref t.2.2.1,t.2.2.2]/\tT 4 t.2.1=true/\Dt K H (.ref t.2.2.1) t.2.1:=by
 induction ps generalizing zs n with
 |nil =>
  obtain rfl:=vD hl;exact⟨[],rfl,⟨rfl,rfl⟩,λ_ h=>nomatch h⟩
 | cons p ps u =>
  obtain⟨z,zs,rfl⟩:=List.exists_cons_of_length_eq_add_one hl;obtain⟨a,m,e1,g,c⟩:=d 0 z rfl;cases g;obtain⟨o,e,q,J⟩:=f p (.head _);obtain⟨ts,F,⟨C,G⟩,I⟩:=u (zs:=zs) (n:=n+1) (rE hl) (λx i=>f x (.tail _ i)) λj y r=>by
   obtain⟨v,L,k,D,l⟩:=d (j+1) y r;exact⟨v,L,k,D,by rw[l,show n+(j+1)=n+1+j by omega]⟩
  rw[J]at c e;refine⟨(a,p.2,q,.int ((n+0:Nat):Int)):: ts,by rw[e1,F];rfl,⟨by rw[zN,zN,C],by rw[zN,uH,zN,G];rfl⟩,λt b=>?_⟩;rcases xC.mp b with b|b
  ·rw[b];exact⟨SqT.of c,o,e⟩
  ·exact I t b
theorem ord_of{K:Frag}{H:Hp}:∀{ps:List (V×PyData)}{srt:Tb},(srt.map λy=>dat y.1)=ps.map (·.2)->(∀p∈ps,Dt K H p.1 p.2/\(∃q,p.1=V.ref q))->∃a:LA,ps.map (·.1)=a.map V.ref/\Paired (λp(x:Dd×List Nat)=>Dt K H (.ref p) (dat x.1)) a srt
 |[],[],_,_=>⟨[],rfl,.nil⟩
 |[],_:: _,h,_=>by simp at h
 |_:: _,[],h,_=>by simp at h
 |p:: ps,y:: srt,e,h=>by
  rw[zN,zN,yJ]at e;obtain⟨a,e1,f⟩:=ord_of (ps:=ps) (srt:=srt) e.2 λx d=>h x (.tail _ d);obtain⟨c,q,b⟩:=h p (.head _);rw[b,←e.1]at c;exact⟨q:: a,by rw[zN,zN,e1,b],.cons c f⟩
theorem Vr{H:Hp}{kvs:List (PyData×V)}{srt:Tb}{ys:List V}(hl:ys.length=srt.length)(h:∀(j:Nat) y,ys[j]?=some y->∃p m,y=V.ref p/\srt[j]?=some m/\vT kvs (dat m.1)=some (V.ref p))
  (f:∀m∈srt,∀p,vT kvs (dat m.1)=some (V.ref p)->H p=some (.lst (m.2.map λn=>V.int (n:Nat)))):∃d:LA,ys=d.map V.ref/\Paired (λp(x:Dd×List Nat)=>H p=some (.lst (x.2.map λn=>V.int (n:Nat)))) d srt:=Jr hl λj y e=>by
 obtain⟨p,m,a,b,c⟩:=h j y e;exact⟨p,m,a,b,f m (zqb b) p c⟩
theorem Jo:∀{srt:Tb}{ps:List (V×PyData)},(srt.map λy=>dat y.1)=ps.map (·.2)->∀n,((srt.zipIdx n).map λp=>(dat p.1.1,V.int ((p.2:Nat):Int)))=(ps.zipIdx n).map λp=>(p.1.2,V.int ((p.2:Nat):Int))
 |[],[],_,_=>rfl
 |[],_:: _,h,_=>by simp at h
 |_:: _,[],h,_=>by simp at h
 |y:: srt,p:: ps,e,n=>by
  rw[zN,zN,yJ]at e;rw[uH,uH,zN,zN,Jo e.2 (n+1),e.1]
structure GI(K:Frag)(H0:Hp)(C x dx wd:Addr)(fs:List (Str×V))(tb:Tb)(kvs:List (PyData×V))(H:Hp):Prop where
 hx:H x=some (.ins C dx fs)
 s:∀b o,b≠x->H0 b=some o->H b=some o
 D:DTr K H wd kvs
 T:TbAt H tb kvs
theorem GI.up{K:Frag}{d H H':Hp}{C x c a:Addr}{fs:List (Str×V)}{tb:Tb}{kvs:List (PyData×V)}(h:GI K d C x c a fs tb kvs H)(s:Same H H'):GI K d C x c a fs tb kvs H':=
 ⟨s _ _ h.hx,λb o j e=>s _ _ (h.s b o j e),h.D.up s,Paired.mapP h.T λ_ _ z=>let ⟨g,p,i,f⟩:=z;⟨g,p,i,s _ _ f⟩⟩
theorem aU{K:Frag}{H:Hp}{C x a:Addr}{fs fs':List (Str×V)}(e:H x=some (.ins C a fs)):TK K H (upd H x (.ins C a fs')):=TK.off e (λ_ z=>by cases z) (λ_ _ z=>by cases z) λ_ b=>oV b
theorem GI.put{K:Frag}{g H:Hp}{C x d c:Addr}{fs:List (Str×V)}{tb:Tb}{kvs:List (PyData×V)}(h:GI K g C x d c fs tb kvs H)(fs':List (Str×V)):GI K g C x d c fs' tb kvs (upd H x (.ins C d fs')):=by
 have k:c≠x:=λz=>by
  obtain⟨_,_,xs,e,_⟩:=h.D;rw[z,h.hx]at e;cases e
 refine⟨oS,λb o f e=>?_,DTr.tk h.D (aU h.hx) (oV k),Paired.mapP h.T λ_ _ z=>?_⟩
 ·rw[oV f];exact h.s b o f e
 ·obtain⟨i,p,j,a⟩:=z;have:p≠x:=λq=>by rw[q,h.hx]at a;cases a
  exact⟨i,p,j,by rw[oV this];exact a⟩
theorem ok_0(T:Txt K mg t):FnOk P w K mg base (CX1 P w) 12 t.a_0 t.d_0 pi' (Dv K t):=by
 have h8:=@ok_p P w K mg base t T;have k5:=@ok_n P w K mg base t T;have i4:=@ok_x P w K mg base t T;refine T.F_0.okX sc_0 (λvs H Q E h=>?_) (λcdv A outer s H vs Q E hr h=>?_)
 ·obtain⟨b,d,most,a,x,g,ps,ms,rfl,_⟩:=h;rfl
 ·have c4:=hr.units;obtain⟨b,d0,f2,a,x,g,ps,ms,rfl,f5,c9,b6,d8,e6,S⟩:=h;refine⟨_,(oQ (kC (Af h8 hr.mo rfl T.F_p.m T.F_p.kp T.F_p.b .nil Ag (oM (pv 3) oN)))
   (oQ (kC (Af k5 hr.mo rfl T.F_n.m T.F_n.kp T.F_n.b .nil Ag (oM (pv 1) (oM (pv 2) oN))))
   (oQ (oW (i:=4) sc_0.nd rfl (Or.inr rfl) (Af i4 hr.mo rfl T.F_x.m T.F_x.kp T.F_x.b .nil Ag (oM (pv 1) (oM (pv 2) (oM (pv 3) oN)))))
   (oQ (eG (pv 0) (pv 1) rfl)
   (oQ (eG (pv 0) (lF eT rfl T.z_list (nofun) (oM (pv 2) oN)) rfl)
   (oQ (eG (pv 0) (nQ (Sn (N:=200) Uj c4 rfl) rfl T.z_sorted (nofun) (oM (pv 4) oN)) rfl)
   (oQ (eG (pv 0) (mK (sc:=oU s_0) (N:=N_0) (fr:=[("words",4)]) (te:=(tOp (bK K) (tVar 1) (tVar 0))) rfl rfl (nofun) rfl (nofun) (mI (cL (pv 0) rfl)) (λ_ _ _ a9=>(nV (ix_T c4) (pv 1) (pv 0) (λ_ _=>rfl)))) rfl)
   (oR (eG (pv 0) (lF (Sd c4 rfl) rfl T.z_dict (nofun) (oM (iW (xs:=["number","member"]) (fr:=[]) (g:=(gTup K 2 (mW (nB 0) (mW (nB 1) gNil)))) (tt:=(tEl (tTup (nO (tVar 1) (nO (tVar 0) tNil))))) (jD (sc:=oU s_0) (N:=N_0) rfl rfl (nofun)) rfl (bA rfl T.z_enumerate (oM (cL (pv 0) rfl) oN)) (λ_ _ _ a9=>(gF rfl (lQ (jL (N:=["number","member"]) (i:=0) a9 rfl (nofun)) (lQ (jL (N:=["number","member"]) (i:=1) a9 rfl (nofun)) iQ)))) (λ_ _ _ a9=>(jK (kD (oM (pv 1) (oM (pv 0) oN)))))) oN)) rfl))))))))),?_⟩
  show tSeq _ _ _ [some (.ref x),some (.int d0),some (.ref a),some (.int f2),none] H;right;refine⟨f2,rfl,λX=>?_,d8⟩;left;refine⟨b,d0,a,ps,ms,rfl,c9,b6,λax H1 a8=>?_,e6 X⟩;obtain⟨l6,d,most,rfl,rfl,h4,a3,S,e0⟩:=S X ax;have k0:d=2\/d=3:=by have:=ax.1;omega
  have l7:1<=most:=⋯
  have f9:most<=200:=⋯
  left;refine⟨b,d,a,ps,ms,most,l6,rfl,k0,c9.up a8,Paired.mapP b6 λ_ _ z=>z.up a8,h4,a3,l7,f9,λZ e8 b2 kvs H2 b9 m7 g7 h3=>?_,λZ i2 H2 b9 i7=>e0 Z i2 H2 (a8.trans b9) i7⟩;have S:=S Z e8;have m9:=yC Z f9;obtain⟨f3,d2⟩:=e8;have g3:∀y∈nR d (ms.map oY) 201 0 [(nU d,[])],lO d y.1:=λy C=>a3.g _ _ (by have:=(d2 y C).2;omega) (d2 y C).1;have m5:=a3.g 0 _ ∅ a3.g0;clear e0 d2 d8 e6;generalize nR d (ms.map oY) 201 0 [(nU d,[])]=tb at*
  have b8:=a8.trans b9;have c6:=b8 _ _ f5;subst e1;refine st λN1 e1=>?_;simp only[sFld];ext;have g0:GI K H t.a_c x g b2 [] tb kvs H2:=⟨c6,λb o _ e=>b8 _ _ e,g7,h3⟩;refine⟨_,_,_,c6,T.cl_c,T.h_2,∅,?_⟩;have f8:=g0.put (fG1 d);have sq3:SqB b K (upd H2 x (.ins t.a_c g (fG1 d))) a (ps.map V.ref):=Vv c6 (c9.up b8);show N1 _ (upd H2 x (.ins t.a_c g (fG1 d)));generalize upd H2 x (.ins t.a_c g (fG1 d))=H3 at*
  clear g0;subst e1;refine st λN1 e1=>?_;simp only[sFld];ext;refine⟨b,a,_,rfl,sq3,λc c8=>?_⟩;have j9:Same H3 (upd H3 c (.lst (ps.map V.ref))):=Same.new c8;have m4:(upd H3 c (.lst (ps.map V.ref))) c=some (.lst (ps.map V.ref)):=oS;have i0:c≠x:=λz=>by rw[z,f8.hx]at c8;cases c8
  have e7:=f8.up j9;generalize upd H3 c (.lst (ps.map V.ref))=F at*
  refine⟨_,_,_,e7.hx,T.cl_c,T.h_19,by show 1<1000;decide,?_⟩;have a0:=e7.put (fG2 d c);have m0:KX x F (upd F x (.ins t.a_c g (fG2 d c))):=KX.put;show N1 _ (upd F x (.ins t.a_c g (fG2 d c)));generalize upd F x (.ins t.a_c g (fG2 d c))=m8 at*
  subst e1;refine st λN1 e1=>?_;simp only[sFld];ext;have n2:tb.length=kvs.length:=lC a0.T;have g1:∀G∈kvs,∃y∈tb,G.1=dat y.1:=λG W=>by
   obtain⟨y,C,z⟩:=Bb a0.T G W;exact⟨y,C,z.1⟩
  have l9:=m5;refine⟨b2,kvs,[.tuple ((List.replicate d (0:Int)).map PyData.int),.int 1],(idM d).map (λr=>PyData.tuple (r.map PyData.int)),rfl,⋯,a0.D,λG W=>?_,λlo ps' R b7 n3 Y a4 a5 l1=>?_⟩
  ·obtain⟨y,C,e⟩:=g1 G W;rw[e];exact Dw l9 (g3 y C)
  have a2:=a0.up b7;have j1:=m0.trans (KX.same b7);refine⟨_,_,_,a2.hx,T.cl_c,T.h_a,by show 2<1000;decide,?_⟩;have pl:ps'.length<=200:=by
   have:=a5.length_eq;rw[zqe,zqe]at this;omega
  have n1:=Y;have U:=a2.put (fG3 d c lo);have b1:lo≠x:=λz=>by rw[z,a2.hx]at Y;cases Y
  have l0:KX x F (upd R x (.ins t.a_c g (fG3 d c lo))):=j1.trans KX.put;have b3:(upd R x (.ins t.a_c g (fG3 d c lo))) lo=some (.lst (ps'.map (·.1))):=by rw[oV b1];exact Y
  have J:∀p∈ps',tT 4 p.2=true/\Dt K (upd R x (.ins t.a_c g (fG3 d c lo))) p.1 p.2:=λp f=>⟨(a4 p f).1,kO (aU a2.hx).t 4 (a4 p f).1 (kO (lK b7) 4 (a4 p f).1 (a4 p f).2)⟩;show N1 _ (upd R x (.ins t.a_c g (fG3 d c lo)));generalize upd R x (.ins t.a_c g (fG3 d c lo))=n4 at*
  -- every member is a reference to one of the dict's keys
  have mem:∀p∈ps',∃y∈tb,p.2=dat y.1:=λp f=>by
   have:p.2∈kvs.map (·.1):=a5.mem_iff.mp (oA.mpr ⟨p,f,rfl⟩);obtain⟨G,W,e⟩:=oA.mp this;obtain⟨y,C,c0⟩:=g1 G W;exact⟨y,C,by rw[←e,c0]⟩
  have d9:kvs.map (·.1)=tb.map λy=>dat y.1:=by
   have:∀{H':Hp}{tb:Tb}{kvs:List (PyData×V)},TbAt H' tb kvs->kvs.map (·.1)=tb.map λy=>dat y.1:=by
    intro H' tb kvs h
    induction h with
    |nil=>rfl
    |cons b4 _ l5=>rw[zN,zN,l5,b4.1]
   exact this U.T
  obtain⟨srt,f4,O⟩:=Jp (f:=λy:Dd×List Nat=>dat y.1) (l:=ps'.map (·.2)) (tb:=tb) (by rw[←d9];exact a5);have g6:srt.length=ps'.length:=by have:=wD List.length O;simpa using this
  have d4:∀p∈ps',∃q,p.1=V.ref q:=λp f=>by
   obtain⟨y,_,e⟩:=mem p f;have e4:=(J p f).2;rw[e]at e4;exact Vu e4
  subst e1;refine st λN1 e1=>?_;simp only[sFld];refine nW λB eB=>?_;simp only[iSeq];refine aT rfl U.hx T.cl_c T.h_a rfl ?_;refine⟨false,lo,rfl,⟨_,SqB.lst b3⟩,λk c7=>?_⟩;refine kG (λj y _=>∃(p:Addr)(m:Dd×List Nat),y=V.ref p/\srt[j]?=some m/\vT kvs (dat m.1)=some (V.ref p)) c7 (SqB.lst b3) (by rw[zqe];omega) (λ_ _ _ _ h _=>h) ?_ ?_
  ·intro i y v zs b5 D g2 c2 d6;obtain⟨p,f,rfl⟩:=gC b5;have c3:=zqb f;obtain⟨q,k9⟩:=d4 p c3;obtain⟨m2,i1,h1⟩:=mem p c3;obtain⟨e3,e2⟩:=J p c3;subst eB;show tOp _ _ _ [some p.1,some (.ref b2)] v c2;ext;rw[k9]at e2 ⊢;have M:=U.up D;obtain⟨k6,d3⟩:=Vt M.T m2 i1;rw[←h1]at d3;refine Ca M.D e3 (kO (lK D) 4 e3 e2) d3 ?_;have i9:∃m,srt[i]?=some m/\dat m.1=p.2:=by
    have e:=wD (λl=>l[i]?) O;simp only[List.getElem?_map,f,Option.map_some]at e;cases hm2:srt[i]? with
    |none=>rw[hm2]at e;cases e
    |some m=>rw[hm2]at e;exact⟨m,rfl,zU e⟩
   obtain⟨m,d1,k2⟩:=i9;exact d6 _ _ (Same.refl _) ⟨k6,m,rfl,d1,by rw[k2];exact d3⟩
  ·intro v ys D j3 i8 k8;have M:=U.up D;have f6:k≠x:=λz=>by rw[z,U.hx]at c7;cases c7
   have h7:=l0.trans (KX.same D);have i6:KX x F (upd v x (.ins t.a_c g (fG4 d c lo k))):=h7.trans KX.put;have k7:(upd v x (.ins t.a_c g (fG4 d c lo k))) k=some (.lst ys):=by rw[oV f6];exact j3
   refine⟨.ref x,rfl,x,_,_,_,rfl,M.hx,T.cl_c,T.h_3,by show 3<1000;decide,?_⟩;have f0:=M.put (fG4 d c lo k);have c1:(upd v x (.ins t.a_c g (fG4 d c lo k))) lo=some (.lst (ps'.map (·.1))):=by rw[oV b1];exact D _ _ b3
   have L:∀p∈ps',tT 4 p.2=true/\Dt K (upd v x (.ins t.a_c g (fG4 d c lo k))) p.1 p.2:=λp f=>⟨(J p f).1,kO (aU M.hx).t 4 (J p f).1 (kO (lK D) 4 (J p f).1 (J p f).2)⟩;show N1 _ (upd v x (.ins t.a_c g (fG4 d c lo k)));generalize upd v x (.ins t.a_c g (fG4 d c lo k))=n0 at*
   subst e1;simp only[sFld];ext;refine nW λB eB=>?_;simp only[eP];ext;refine aT rfl f0.hx T.cl_c T.h_a rfl ?_;refine⟨false,lo,rfl,⟨_,SqB.lst c1⟩,λf7 m1=>?_⟩;refine Pe (λj y H=>∃p m,y=V.ref p/\p≠f7/\ps'[j]?=some m/\H p=some (.tup [m.1,.int (j:Int)])) m1 (SqB.lst c1) (by rw[zqe];omega) (λ_ _ _ _⟨p,m,e,n,d1,h⟩j4=>⟨p,m,e,n,d1,j4 _ _ n h⟩) ?_ ?_
   ·intro i y d5 zs b5 b0 g2 c2 d6;obtain⟨p,f,rfl⟩:=gC b5;subst eB;show tTup _ [some (.int i),some p.1] d5 c2;ext;refine⟨by show 2<=sizeLine;decide,λq c5=>?_⟩;refine d6 _ _ (Same.new c5) ⟨q,p,rfl,(λz=>by rw[z,g2]at c5;cases c5),f,oS⟩
   ·intro d5 zs b0 g9 m3 b4;obtain⟨ts,k4,⟨h5,j2⟩,h9⟩:=Vs (K:=K) (H:=d5) (ps:=ps') (zs:=zs) (n:=0) (by rw[m3,zqe]) (λp f=>⟨(L p f).1,kO (lK b0) 4 (L p f).1 (L p f).2,d4 p f⟩) λj y l4=>by
     obtain⟨p,m,j8,_,h6,k1⟩:=b4 j y l4;exact⟨p,m,j8,h6,by rw[wS];exact k1⟩
    have j0:=f0.up b0;have g4:(ps'.map (·.2)).Nodup:=a5.nodup_iff.mpr (by
     rw[d9,show(tb.map λy=>dat y.1)=(tb.map (·.1)).map dat by rw[xR];rfl];exact List.Pairwise.map dat (λa b h e=>h (dL.mp e)) f3)
    refine⟨f7,ts,rfl,by rw[←k4];exact .inl (.inl g9),h9,by rw[h5];exact g4,λu I e5 _ d7=>?_⟩;have a6:=j0.up e5;refine⟨_,_,_,a6.hx,T.cl_c,T.h_b,by show 4<1000;decide,?_⟩;have a7:=b0.trans e5;have e9:=aU (K:=K) (fs':=(fG5 d c lo k u)) a6.hx;have a1:=a6.put (fG5 d c lo k u);show Q .non (upd I x (.ins t.a_c g (fG5 d c lo k u)));have g5:KX x I (upd I x (.ins t.a_c g (fG5 d c lo k u))):=KX.put;have h2:(upd I x (.ins t.a_c g (fG5 d c lo k u))) k=some (.lst ys):=by rw[oV f6];exact a7 _ _ k7
    have k3:u≠x:=λz=>by
     obtain⟨_,_,xs,e,_⟩:=d7;rw[z,a6.hx]at e;cases e
    have i5:=DTr.tk d7 e9 (oV k3);have g8:(upd I x (.ins t.a_c g (fG5 d c lo k u))) lo=some (.lst (ps'.map (·.1))):=by rw[oV b1];exact a7 _ _ c1
    generalize upd I x (.ins t.a_c g (fG5 d c lo k u))=N at*;have m6:KX x F N:=((i6.trans (KX.same a7)).trans g5);have l2:TK K H N:=KX.tk (λb o i3 e=>a1.s b o i3 e) f5;refine S srt N a1.s ⟨g,c,lo,k,u,a1.hx,⟨ps,m6 _ _ i0 m4,Paired.mapP b6 λ_ _ z=>DdS.tk z l2⟩,?_,?_,?_⟩ f4 ?_
    ·obtain⟨j6,l8,j5⟩:=ord_of (K:=K) (H:=N) (ps:=ps') (srt:=srt) O λp f=>⟨kO e9.t 4 (L p f).1 (kO (lK a7) 4 (L p f).1 (L p f).2),d4 p f⟩;exact⟨j6,by rw[g8,l8],j5⟩
    ·obtain⟨l3,h0,j7⟩:=Vr (H:=N) (srt:=srt) (kvs:=kvs) (ys:=ys) (by rw[i8,zqe,g6]) k8 λm X p e=>Vw (x:=m.1) (w:=m.2) a1.T f3 (f4.mem_iff.mp X) e;exact⟨l3,by rw[←h0];exact h2,j7⟩
    ·have c0:numT srt 0=ts.map λt=>(t.2.1,t.2.2.2):=by
      rw[j2];unfold numT;exact Jo O 0
     rw[c0];exact i5
    ·have f1:(ps'.map (·.2)).Pairwise λp q=>lx (fl q) (fl p)=false:=oE.mpr l1;rw[←O]at f1;exact oE.mp f1
theorem GrpF.up{H H':Hp}{g:Addr}{d:Nat}{ms:List Dd}{srt:Tb}(h:GrpF K t H g d ms srt)(s:Same H H'):GrpF K t H' g d ms srt:=by
 obtain⟨n,k,lo,a,j,i,⟨gs,c,o⟩,⟨b,e,f⟩,⟨m,q,p⟩,l⟩:=h;exact⟨n,k,lo,a,j,s _ _ i,⟨gs,s _ _ c,Paired.mapP o λ_ _ z=>DdS.up z s⟩,⟨b,s _ _ e,Paired.mapP f λ_ x z=>kO (lK s) 4 (jG x.1) z⟩,⟨m,s _ _ q,Paired.mapP p λ_ _ z=>s _ _ z⟩,l.up s⟩
def sp_8(K:Frag)(t:Adr):Sp:=λvs H Q _=>E4 λ(g:Addr)(d:Nat)(ms:List Dd)(srt:Tb)=>A3 (vs=[.ref g]) (GrpF K t H g d ms srt) (∀l gs H',Same H H'->H l=none->H' l=some (.lst (gs.map V.ref))->Paired (DdS K H') gs ms->Q (.ref l) H')
def sp_1(K:Frag)(t:Adr):Sp:=λvs H Q _=>E4 λ(g:Addr)(d:Nat)(ms:List Dd)(srt:Tb)=>A3 (vs=[.ref g]) (GrpF K t H g d ms srt) (∀l os H',Same H H'->H l=none->H' l=some (.lst (os.map V.ref))->Paired (λp x=>Dt K H' (.ref p) (dat x.1)) os srt->Q (.ref l) H')
theorem ok_8(T:Txt K mg t):FnOk P w K mg base CX0 2 t.a_8 t.d_8 pw' (sp_8 K t):=by
 apply T.F_8.ok sc_8
 ·obtain⟨g,d,ms,srt,rfl,⟨k,e,lo,i,j,c,⟨gs,a,f⟩,_⟩,b⟩:=h;refine⟨_,(oR (oZ (lF eT rfl T.z_list (nofun) (oM (cL (pv 0) rfl) oN)))),?_⟩;show tRet _ _ [some (.ref g)] H;simp only[tRet,tCB,nO,tNil];refine aT rfl c T.cl_c T.h_19 rfl ?_;refine⟨false,e,_,rfl,SqB.lst a,λl hl=>?_⟩;exact b l gs _ (Same.new hl) hl oS (Paired.mapP f λ_ _ z=>DdS.up z (Same.new hl))
theorem ok_1(T:Txt K mg t):FnOk P w K mg base CX0 2 t.a_1 t.d_1 pw' (sp_1 K t):=by
 apply T.F_1.ok sc_1
 ·obtain⟨g,d,ms,srt,rfl,⟨m,k,lo,i,j,f,_,⟨a,b,e⟩,_⟩,c⟩:=h;refine⟨_,(oR (oZ (lF eT rfl T.z_list (nofun) (oM (cL (pv 0) rfl) oN)))),?_⟩;show tRet _ _ [some (.ref g)] H;simp only[tRet,tCB,nO,tNil];refine aT rfl f T.cl_c T.h_a rfl ?_;refine⟨false,lo,_,rfl,SqB.lst b,λl hl=>?_⟩;exact c l a _ (Same.new hl) hl oS (Paired.mapP e λ_ x z=>kO (lK (Same.new hl)) 4 (jG x.1) z)
theorem sq1{b:LM}(h:Sq 1 b):∃a,b=[[a]]:=by
 obtain⟨hl,hr⟩:=h
 match b,hl with
 |[r],_ =>
  have:=hr r (by simp)
  match r,this with
  |[a],_=>exact⟨a,rfl⟩
theorem len2{r:LI'}(h:r.length=2):∃a b,r=[a,b]:=by match r,h with|[a,b],_=>exact⟨a,b,rfl⟩
theorem len3{r:LI'}(h:r.length=3):∃a b c,r=[a,b,c]:=by match r,h with|[a,b,c],_=>exact⟨a,b,c,rfl⟩
theorem len4{r:LI'}(h:r.length=4):∃a b c d,r=[a,b,c,d]:=by match r,h with|[a,b,c,d],_=>exact⟨a,b,c,d,rfl⟩
theorem sq2{e:LM}(h:Sq 2 e):∃a b c d,e=[[a,b],[c,d]]:=by
 obtain⟨hl,hr⟩:=h
 match e,hl with
 |[r,s],_ =>
  obtain⟨a,b,rfl⟩:=len2 (hr r (by simp));obtain⟨c,d,rfl⟩:=len2 (hr s (by simp));exact⟨a,b,c,d,rfl⟩
theorem sq3{k:LM}(h:Sq 3 k):∃a b c d e f g i j,k=[[a,b,c],[d,e,f],[g,i,j]]:=by
 obtain⟨hl,hr⟩:=h
 match k,hl with
 |[r,s,t],_ =>
  obtain⟨a,b,c,rfl⟩:=len3 (hr r (by simp));obtain⟨d,e,f,rfl⟩:=len3 (hr s (by simp));obtain⟨g,i,j,rfl⟩:=len3 (hr t (by simp));exact⟨a,b,c,d,e,f,g,i,j,rfl⟩
theorem sq4{v:LM}(h:Sq 4 v):∃a b c d e f g i j k l m n o p q,v=[[a,b,c,d],[e,f,g,i],[j,k,l,m],[n,o,p,q]]:=by
 obtain⟨hl,hr⟩:=h
 match v,hl with
 |[r,s,t,u],_ =>
  obtain⟨a,b,c,d,rfl⟩:=len4 (hr r (by simp));obtain⟨e,f,g,i,rfl⟩:=len4 (hr s (by simp));obtain⟨j,k,l,m,rfl⟩:=len4 (hr t (by simp));obtain⟨n,o,p,q,rfl⟩:=len4 (hr u (by simp));exact⟨a,b,c,d,e,f,g,i,j,k,l,m,n,o,p,q,rfl⟩
theorem id2:idM 2=[[1,0],[0,1]]:=nofun
theorem id3:idM 3=[[1,0,0],[0,1,0],[0,0,1]]:=nofun
theorem Vq(a b v:Int)(c:0<v):gcdI (a*v) (b*v)=gcdI a b*v:=by
 unfold gcdI;rw[Int.gcd_mul_right];have:((v.natAbs:Nat):Int)=v:=⋯
 rw[Int.natCast_mul,this]
theorem Vp{u v:Int}(b:0<v)(ts:LI'):gl (u*v) (ts.map (·*v))=gl u ts*v:=by
 have d:∀(ts:LI')(a:Int),(ts.map (·*v)).foldl gcdI (a*v)=ts.foldl gcdI a*v:=by
  intro ts
  induction ts with
  |nil=>intro a;rfl
  |cons t r e=>intro a;rw[zN,vQ,vQ,Vq _ _ _ b,e]
 unfold gl;have:absI (u*v)=absI u*v:=by
  unfold absI;rcases Int.lt_or_le u 0 with l|l
  ·have c:u*v<0:=Int.mul_neg_of_neg_of_pos l b;rw[zF l,zF c,Int.neg_mul]
  ·have c:0<=u*v:=Int.mul_nonneg l (uB b);rw[zD ⋯,zD ⋯]
 rw[this,d]
def Cong(u:Int)(xs ys:LI'):Prop:=xs.length=ys.length/\∀(i:Nat)(x y:Int),xs[i]?=some x->ys[i]?=some y->u∣x-y
theorem Vo{u x y:Int}(a:0<u)(h:u∣x-y):x.fmod u=y.fmod u:=by
 rw[wB _ (uB a),wB _ (uB a)];exact Int.emod_eq_emod_iff_emod_sub_eq_zero.mpr (Int.emod_eq_zero_of_dvd h)
theorem Cong.rest{u:Int}(b:0<u)(ns:LI'):Cong u ns (mQ u ns):=by
 refine⟨by simp[mQ],λi x y e1 a=>?_⟩;unfold mQ at a;rw[zO,e1]at a;cases zU a;have:=Tc b x;have c:=wB (x.fmod u-x) (uB b);rw[c]at this;have d:=Int.dvd_of_emod_eq_zero this;have:=Int.dvd_neg.mpr d
 rwa[Int.neg_sub]at this
theorem Cong.gl{u:Int}{xs ys:LI'}(h:Cong u xs ys):Cw.gl u xs=Cw.gl u ys:=by
 have f:∀{xs ys:LI'}{d:Int},Cong u xs ys->d∣u->(∀t∈xs,d∣t)->∀t∈ys,d∣t:=λ{xs ys d}h k j t l=>by
  obtain⟨i,hi,e⟩:=wP l;have c:i<xs.length:=by rw[h.1];exact hi
  have a:=h.2 i xs[i] t (by simp[c]) (by simp[hi,e]);have b:=j _ (uF c);have n:=Int.dvd_sub b (Int.dvd_trans k a)
  rwa[show xs[i]-(xs[i]-t)=t by omega]at n
 have m:Cong u ys xs:=⟨h.1.symm,λi x y e1 g=>by
  have:=Int.dvd_neg.mpr (h.2 i y x g e1)
  rwa[Int.neg_sub]at this⟩
 exact Th λd=>⟨λ⟨a,b⟩=>⟨a,f h a b⟩,λ⟨a,b⟩=>⟨a,f m a b⟩⟩
theorem Cong.red{u:Int}{xs ys:LI'}(q:0<u)(h:Cong u xs ys):redU u xs=redU u ys/\mQ (redU u xs) (redT u xs)=mQ (redU u ys) (redT u ys):=by
 have l:=h.gl;have f:cs u xs=cs u ys:=by unfold cs;rw[l]
 have a:=fS xs (show u≠0 by omega);have d:redU u xs=redU u ys:=by unfold redU;rw[f]
 refine⟨d,?_⟩;have k:0<redU u xs:=aP xs ⋯;have o:redU u xs*cs u xs=u:=hJ a (jU (gl_u u xs));rw[←d];unfold mQ redT;refine tF (by simp[h.1]) λi c b=>?_;simp at c b;simp only[List.getElem_map];have j:=h.2 i xs[i] ys[i] (by simp[c]) (by simp[b]);have n:∀x y:Int,u∣x-y->cs u xs∣x->cs u ys∣y->redU u xs∣x.fdiv (cs u xs)-y.fdiv (cs u ys):=λx y p m e=>by
  have e1:x.fdiv (cs u xs)*cs u xs=x:=hJ a m;rw[←f]at e ⊢;have g:y.fdiv (cs u xs)*cs u xs=y:=hJ a e;refine Int.dvd_of_mul_dvd_mul_right a ?_;rw[o,Int.sub_mul,e1,g];exact p
 exact Vo k (n _ _ j (jU (aO (uF c))) (jU (aO (uF b))))
theorem Jn{u:Int}:∀(r ts c:LI'),Cong u ts c->u∣dotI r ts-dotI r c
 |[],ts,c,_=>by simp[dotI]
 |x:: r,[],c,h=>by
  have:c=[]:=vD h.1.symm;subst this;simp[dotI]
 |x:: r,t:: ts,[],h=>by have:=h.1;simp at this
 |x:: r,t:: ts,t':: c,h=>by
  have e:=Jn r ts c ⟨by have:=h.1;simpa using this,λi a b e1 d=>h.2 (i+1) a b (by simpa using e1) (by simpa using d)⟩;have f:=h.2 0 t t' rfl rfl;have e1:dotI (x:: r) (t:: ts)=x*t+dotI r ts:=by simp[dotI]
  have d:dotI (x:: r) (t':: c)=x*t'+dotI r c:=by simp[dotI]
  rw[e1,d,show x*t+dotI r ts-(x*t'+dotI r c)=x*(t-t')+(dotI r ts-dotI r c) by rw[Int.mul_sub];omega];exact Int.dvd_add (Int.dvd_mul_of_dvd_right f) e
theorem Jm{N:LM}{ns ts c b:LI'}{v u:Int}(d:Cong v ns c)(g:Cong u ts b):Cong (v*u) (movT N ns v ts u) (movT N c v b u):=by
 refine⟨by unfold movT;rw[xW,xW,d.1],λi x y e1 a=>?_⟩;unfold movT at e1 a;rw[wE]at e1 a;cases en:N[i]? with
 |none=>rw[en]at e1;cases e1
 | some r =>
  rw[en]at e1 a;cases e3:ns[i]? with
  |none=>rw[e3]at e1;cases e1
  | some n =>
   cases e4:c[i]? with
   |none=>rw[e4]at a;cases a
   |some e =>
    rw[e3]at e1;rw[e4]at a;cases zU e1;cases zU a;obtain⟨k,l⟩:=Jn r ts b g;obtain⟨m,o⟩:=d.2 i n e e3 e4;refine⟨k+m,?_⟩;have f:dotI r ts=dotI r b+u*k:=⋯
    have j:n=e+v*m:=⋯
    rw[f,j];grind
theorem Vn{d:Nat}{x s:Dd}(a:0<x.2.2)(b:0<s.2.2):oY (behD d x s)=nA d (oY x) (oY s):=by
 obtain⟨c,e⟩:=Cong.red (xU b a) (Jm (N:=s.1) (Cong.rest b s.2.1) (Cong.rest a x.2.1));unfold nA oY behD;show(_,_,_)=(_,_,_);rw[Prod.mk.injEq,Prod.mk.injEq];exact⟨rfl,e,c⟩
theorem Sq.mul{n:Nat}{A B:LM}(a:Sq n A):Sq n (mulM n A B):=by
 refine⟨by simp[mulM,a.1],λr hr=>?_⟩;obtain⟨z,_,rfl⟩:=oA.mp hr;simp
theorem jX{d:Nat}:Sq d (idM d):=⟨by simp[idM],λr hr=>by
 obtain⟨i,_,rfl⟩:=oA.mp hr;simp⟩
theorem mul2(a b c d e f g d':Int):mulM 2 [[a,b],[c,d]] [[e,f],[g,d']]=[[a*e+b*g,a*f+b*d'],[c*e+d*g,c*f+d*d']]:=by simp[mulM,dotI,colI,List.range,List.range.loop]
theorem mul3(a b c d e f g i j l q n d' o p g' m k:Int):mulM 3 [[a,b,c],[d,e,f],[g,i,j]] [[l,q,n],[d',o,p],[g',m,k]]=[[a*l+(b*d'+c*g'),a*q+(b*o+c*m),a*n+(b*p+c*k)],[d*l+(e*d'+f*g'),d*q+(e*o+f*m),d*n+(e*p+f*k)],[g*l+(i*d'+j*g'),g*q+(i*o+j*m),g*n+(i*p+j*k)]]:=by
 simp[mulM,dotI,colI,List.range,List.range.loop]
theorem mul_assoc{d:Nat}(o:d=2\/d=3){A B C:LM}(l:Sq d A)(m:Sq d B)(k:Sq d C):mulM d (mulM d A B) C=mulM d A (mulM d B C):=by
 rcases o with e|e <;> subst e
 ·obtain⟨a,b,c,d,rfl⟩:=sq2 l;obtain⟨p,r,v,d',rfl⟩:=sq2 m;obtain⟨n,b2,q,u,rfl⟩:=sq2 k;simp only[mul2,List.cons.injEq,and_true];refine⟨⟨?_,?_⟩,?_,?_⟩ <;> grind
 ·obtain⟨a,b,c,d,e,f,g,i,j,rfl⟩:=sq3 l;obtain⟨p,r,v,d',J,L,g',I,y,rfl⟩:=sq3 m;obtain⟨n,b2,q,u,x,D,F,z,G,rfl⟩:=sq3 k;simp only[mul3,List.cons.injEq,and_true];refine⟨⟨?_,?_,?_⟩,⟨?_,?_,?_⟩,?_,?_,?_⟩ <;> grind
theorem kW{d:Nat}(l:d=2\/d=3){A:LM}(k:Sq d A):mulM d (idM d) A=A/\mulM d A (idM d)=A:=by
 rcases l with e|e <;> subst e
 ·obtain⟨a,b,c,d,rfl⟩:=sq2 k;rw[id2,mul2,mul2];simp
 ·obtain⟨a,b,c,d,e,f,g,i,j,rfl⟩:=sq3 k;rw[id3,mul3,mul3];simp
theorem v2{v:LI'}(h:v.length=2):∃x y,v=[x,y]:=len2 h
theorem v3{v:LI'}(h:v.length=3):∃x y z,v=[x,y,z]:=len3 h
def mv(M:LM)(v:LI'):LI':=M.map λr=>dotI r v
def va(v w:LI'):LI':=List.zipWith (·+·) v w
theorem iM{d:Nat}{A:LM}{v:LI'}(h:Sq d A):(mv A v).length=d:=by unfold mv;rw[zqe];exact h.1
theorem mv2(a b c e x y:Int):mv [[a,b],[c,e]] [x,y]=[a*x+b*y,c*x+e*y]:=by simp[mv,dotI]
theorem mv3(a b c d i e j f g x y z:Int):mv [[a,b,c],[d,i,e],[j,f,g]] [x,y,z]=[a*x+(b*y+c*z),d*x+(i*y+e*z),j*x+(f*y+g*z)]:=by simp[mv,dotI]
theorem va2(a b c e:Int):va [a,b] [c,e]=[a+c,b+e]:=rfl
theorem va3(a b c x y z:Int):va [a,b,c] [x,y,z]=[a+x,b+y,c+z]:=rfl
theorem Du{d:Nat}(j:d=2\/d=3){A B:LM}(g:Sq d A)(i:Sq d B){v:LI'}(f:v.length=d):mv (mulM d A B) v=mv A (mv B v):=by
 rcases j with rfl|rfl
 ·obtain⟨a,b,c,e,rfl⟩:=sq2 g;obtain⟨u,J,L,M,rfl⟩:=sq2 i;obtain⟨x,y,rfl⟩:=v2 f;rw[mul2,mv2,mv2,mv2];simp only[List.cons.injEq,and_true];refine⟨?_,?_⟩ <;> grind
 ·obtain⟨C,k,I,D,R,O,r,m,o,rfl⟩:=sq3 g;obtain⟨b1,b2,N,G,l,q,p,n,F,rfl⟩:=sq3 i;obtain⟨x,y,z,rfl⟩:=v3 f;rw[mul3,mv3,mv3,mv3];simp only[List.cons.injEq,and_true];refine⟨?_,?_,?_⟩ <;> grind
theorem Jl{d:Nat}(l:d=2\/d=3){A:LM}(i:Sq d A){v w:LI'}(g:v.length=d)(f:w.length=d):mv A (va v w)=va (mv A v) (mv A w):=by
 rcases l with rfl|rfl
 ·obtain⟨a,b,c,e,rfl⟩:=sq2 i;obtain⟨x,y,rfl⟩:=v2 g;obtain⟨j,k,rfl⟩:=v2 f;rw[va2,mv2,mv2,mv2,va2];simp only[List.cons.injEq,and_true];refine⟨?_,?_⟩ <;> grind
 ·obtain⟨m,o,F,n,D,C,u,p,r,rfl⟩:=sq3 i;obtain⟨x,y,z,rfl⟩:=v3 g;obtain⟨j,k,q,rfl⟩:=v3 f;rw[va3,mv3,mv3,mv3,va3];simp only[List.cons.injEq,and_true];refine⟨?_,?_,?_⟩ <;> grind
theorem Vm{d:Nat}(b:d=2\/d=3){v:LI'}(a:v.length=d):mv (idM d) v=v:=by
 rcases b with rfl|rfl
 ·obtain⟨x,y,rfl⟩:=v2 a;rw[id2,mv2];simp
 ·obtain⟨x,y,z,rfl⟩:=v3 a;rw[id3,mv3];simp
def smul(k:Int)(T:LI'):LI':=T.map λt=>k*t
theorem dO{k:Int}{T:LI'}:(smul k T).length=T.length:=by unfold smul;rw[zqe]
theorem Jk(c a b:Int):smul c [a,b]=[c*a,c*b]:=rfl
theorem Jj(c a b e:Int):smul c [a,b,e]=[c*a,c*b,c*e]:=rfl
theorem Vl{d:Nat}(i:d=2\/d=3){A:LM}(g:Sq d A){v:LI'}(f:v.length=d)(c:Int):mv A (smul c v)=smul c (mv A v):=by
 rcases i with rfl|rfl
 ·obtain⟨a,b,c,e,rfl⟩:=sq2 g;obtain⟨x,y,rfl⟩:=v2 f;rw[Jk,mv2,mv2,Jk];simp only[List.cons.injEq,and_true];refine⟨?_,?_⟩ <;> grind
 ·obtain⟨j,l,r,k,q,p,o,m,n,rfl⟩:=sq3 g;obtain⟨x,y,z,rfl⟩:=v3 f;rw[Jj,mv3,mv3,Jj];simp only[List.cons.injEq,and_true];refine⟨?_,?_,?_⟩ <;> grind
structure Chg(d:Nat)(P P':LM):Prop where
 p:Sq d P
 q:Sq d P'
 l:mulM d P' P=idM d
 r:mulM d P P'=idM d
theorem Chg.id{d:Nat}(a:d=2\/d=3):Chg d (idM d) (idM d):=⟨jX,jX,(kW a jX).1,(kW a jX).1⟩
theorem Chg.symm{d:Nat}{P a:LM}(h:Chg d P a):Chg d a P:=⟨h.q,h.p,h.r,h.l⟩
theorem Chg.then{d:Nat}(a:d=2\/d=3){P c R b:LM}(h:Chg d P c)(g:Chg d R b):Chg d (mulM d R P) (mulM d c b):=by
 refine⟨g.p.mul,h.q.mul,?_,?_⟩
 ·rw[mul_assoc a h.q g.q g.p.mul,←mul_assoc a g.q g.p h.p,g.l,(kW a h.p).1,h.l]
 ·rw[mul_assoc a g.p h.p h.q.mul,←mul_assoc a h.p h.q g.q,h.r,(kW a g.q).1,g.r]
def cjM(d:Nat)(P P' M:LM):LM:=mulM d (mulM d P M) P'
theorem gD{d:Nat}{P a:LM}(h:Chg d P a)(M:LM):Sq d (cjM d P a M):=h.p.mul.mul
theorem Vk{d:Nat}(c:d=2\/d=3){P b R a M:LM}(h:Chg d P b)(g:Chg d R a)(e:Sq d M):cjM d R a (cjM d P b M)=cjM d (mulM d R P) (mulM d b a) M:=by
 unfold cjM;rw[mul_assoc c g.p h.p e,←mul_assoc c (g.p.mul) h.q g.q,mul_assoc c g.p (h.p.mul) h.q]
theorem Vj{d:Nat}(a:d=2\/d=3){P c M:LM}(h:Chg d P c)(e:Sq d M){v:LI'}(b:v.length=d):mv (cjM d P c M) (mv P v)=mv P (mv M v):=by
 unfold cjM;rw[←Du a (h.p.mul.mul) h.p b,mul_assoc a h.p.mul h.q h.p,h.l,(kW a h.p.mul).2,Du a h.p e b]
def vs(v w:LI'):LI':=List.zipWith (· - ·) v w
theorem vs2(a b c e:Int):vs [a,b] [c,e]=[a-c,b-e]:=rfl
theorem vs3(a b c x y z:Int):vs [a,b,c] [x,y,z]=[a-x,b-y,c-z]:=rfl
theorem Ji{d:Nat}{v w:LI'}(b:v.length=d)(a:w.length=d):(va v w).length=d:=by unfold va;rw[xW,b,a,pV]
theorem Vi{d:Nat}(j:d=2\/d=3){A:LM}(i:Sq d A){v w:LI'}(g:v.length=d)(f:w.length=d):mv A (vs v w)=vs (mv A v) (mv A w):=by
 rcases j with rfl|rfl
 ·obtain⟨a,b,c,e,rfl⟩:=sq2 i;obtain⟨x,y,rfl⟩:=v2 g;obtain⟨p,q,rfl⟩:=v2 f;rw[vs2,mv2,mv2,mv2,vs2];congr 1
  ·grind
  ·congr 1;grind
 ·obtain⟨a,b,c,k,o,l,u,m,n,rfl⟩:=sq3 i;obtain⟨x,y,z,rfl⟩:=v3 g;obtain⟨p,q,r,rfl⟩:=v3 f;rw[vs3,mv3,mv3,mv3,vs3];congr 1
  ·grind
  ·congr 1
   ·grind
   ·congr 1;grind
def cjT(d:Nat)(P P' M:LM)(ts S:LI'):LI':=vs (va (mv P ts) S) (mv (cjM d P P' M) S)
theorem Ds{d:Nat}(a:d=2\/d=3){P c A B:LM}(h:Chg d P c)(b:Sq d A)(e:Sq d B):mulM d (cjM d P c B) (cjM d P c A)=cjM d P c (mulM d B A):=by
 unfold cjM;rw[mul_assoc a h.p.mul h.q h.p.mul.mul,mul_assoc a h.p b h.q,←mul_assoc a h.q h.p b.mul,h.l,(kW a b.mul).1,←mul_assoc a h.p.mul b h.q,mul_assoc a h.p e b]
def stE(i j:Nat)(m:Int)(a b:Nat):Int:=if a=b then 1 else if a=i/\b=j then m else 0
def stM(d i j:Nat)(m:Int):LM:=(List.range d).map λa=>(List.range d).map λb=>if a=b then 1 else if a=i/\b=j then m else 0
def vst(i j:Nat)(m:Int)(v:LI'):LI':=v.set i (v.getD i 0+m*v.getD j 0)
def mixR(d:Nat)(x y:LI')(m:Int):LI':=(List.range d).map λk=>x.getD k 0+m*y.getD k 0
def colR(d i j:Nat)(m:Int)(row:LI'):LI':=(List.range d).map λk=>row.getD k 0-(if k=j then 1 else 0)*m*row.getD i 0
def aV(d i j:Nat)(m:Int)(A:LM):LM:=(A.set i (mixR d (A.getD i []) (A.getD j []) m)).map (colR d i j m)
theorem dP{d i j:Nat}{m:Int}:Sq d (stM d i j m):=⟨by simp[stM],λr hr=>by
 obtain⟨a,_,rfl⟩:=oA.mp hr;simp⟩
theorem dQ{a:Type}{d k:Nat}{f:Nat->a}{z:a}(h:k<d):((List.range d).map f).getD k z=f k:=by
 rw[zqc,zO,xA h];rfl
theorem fV{a:Type}{d:Nat}{l:List a}{z:a}(h:l.length=d):l=(List.range d).map λk=>l.getD k z:=by
 refine tF (by simp[h]) λk b c=>?_;rw[tD,rR,zqc,zqd b];rfl
theorem Dr{b:Type}{d i:Nat}{f:Nat->b}{v:b}:((List.range d).map f).set i v=(List.range d).map λa=>if a=i then v else f a:=by
 refine tF (by simp) λk g c=>?_;rw[tD,rR,List.getElem_set]
 by_cases e:i=k
 ·rw[zF e,zF e.symm]
 ·rw[zD e,zD (zZ e),tD,rR]
theorem kX{a:Type}{d:Nat}{f g:Nat->a}(h:∀k,k<d->f k=g k):(List.range d).map f=(List.range d).map g:=wQ λk b=>h k (oG.mp b)
theorem fW{x y:Int}{r c:LI'}:dotI (x:: r) (y:: c)=x*y+dotI r c:=by simp[dotI]
theorem Dq{n:Int}{a:Nat}:∀{c:LI'}{s:Nat},dotI ((List.range' s c.length).map λb=>if a=b then n else 0) c=if s<=a then n*c.getD (a-s) 0 else 0
 |[],s=>by simp[dotI]
 | x:: c,s=>by
  rw[zY,List.range'_succ,zN,fW,Dq]
  by_cases h:a=s
  ·subst h;rw[zF rfl,zD ⋯,zF (zE _),vK,wY];rfl
  ·rw[zD h,uJ,pU]
   by_cases d:s<=a
   ·rw[zF d,zF ⋯,show a-s=(a-(s+1))+1 by omega];rfl
   ·rw[zD d,zD ⋯]
theorem Jh{f g:Nat->Int}:∀{l:List Nat}{c:LI'},dotI (l.map λb=>f b+g b) c=dotI (l.map f) c+dotI (l.map g) c
 |[],c=>by simp[dotI]
 |b:: l,[]=>by simp[dotI]
 |b:: l,x:: c=>by
  rw[zN,zN,zN,fW,fW,fW,Jh,Int.add_mul];omega
theorem Dp{d a i j:Nat}(l:i≠j){m:Int}{c:LI'}(n:c.length=d):dotI ((List.range d).map (stE i j m a)) c=c.getD a 0+if a=i then m*c.getD j 0 else 0:=by
 have e:stE i j m a=λb=>(if a=b then(1:Int) else 0)+if j=b then(if a=i then m else 0) else 0:=funext λb=>by
  unfold stE
  by_cases k:a=b
  ·subst k;rw[zF rfl,zF rfl]
   by_cases f:j=a
   ·rw[zF f,zD (λz=>l ⋯),wY]
   ·rw[zD f,wY]
  ·rw[zD k,zD k,pU]
   by_cases f:j=b
   ·by_cases g:a=i
    ·rw[zF ⟨g,f.symm⟩,zF f,zF g]
    ·rw[zD (λz=>g z.1),zF f,zD g]
   ·rw[zD (λz=>f z.2.symm),zD f]
 subst n;rw[e,Jh,List.range_eq_range',Dq,Dq,zF (yA _),zF (yA _),pH];show c.getD a 0+_*c.getD j 0=_
 by_cases h:a=i
 ·rw[zF h,zF h]
 ·rw[zD h,zD h,uJ]
theorem Jg{A:LM}{a k:Nat}:(colI k A).getD a 0=(A.getD a []).getD k 0:=by
 unfold colI;rw[zqc,zO,zqc (l:=A)];cases A[a]? <;> rfl
theorem Jf:∀{r c:LI'},dotI r c=dotI c r
 |[],c=>by cases c <;> rfl
 |x:: r,[]=>rfl
 |x:: r,y:: c=>by rw[fW,fW,Jf,vA]
theorem Vh{i j a k:Nat}{n:Int}:stE i j n a k=stE j i n k a:=by
 unfold stE
 by_cases h:a=k
 ·rw[zF h,zF h.symm]
 ·rw[zD h,zD (zZ h)]
  by_cases z:a=i/\k=j
  ·rw[zF z,zF z.symm]
  ·rw[zD z,zD (λw=>z w.symm)]
theorem Je{d i j:Nat}{m:Int}(e:i≠j){A:LM}(b:A.length=d):mulM d (stM d i j m) A=(List.range d).map λa=>(List.range d).map λk=>(A.getD a []).getD k 0+if a=i then m*(A.getD j []).getD k 0 else 0:=by
 unfold mulM stM;rw[xR];refine kX λa _=>kX λk _=>?_;have c:(colI k A).length=d:=by unfold colI;rw[zqe,b]
 have:=Dp (a:=a) (m:=m) e c;rw[Jg,Jg]at this;exact this
theorem Vg{d i j:Nat}{n:Int}(f:i≠j){B:LM}(b:∀r∈B,r.length=d):mulM d B (stM d i j n)=B.map λr=>(List.range d).map λk=>r.getD k 0+if k=j then n*r.getD i 0 else 0:=by
 unfold mulM;refine wQ λr hr=>kX λk c=>?_;have e:colI k (stM d i j n)=(List.range d).map (stE j i n k):=by
  unfold colI stM;rw[xR];refine kX λa _=>?_;show((List.range d).map (stE i j n a)).getD k 0=_;rw[dQ c,Vh]
 rw[e,Jf,Dp (zZ f) (b r hr)]
theorem Jd{d i j:Nat}{m:Int}(n:i≠j)(o:j<d):mulM d (stM d i j m) (stM d i j (-m))=idM d:=by
 rw[Je n dP.1];unfold idM;refine kX λa g=>kX λk l=>?_;have e:∀a,a<d->(((stM d i j (-m)).getD a []).getD k 0)=stE i j (-m) a k:=λa g=>by
  unfold stM;rw[dQ g];exact dQ l
 rw[e a g,e j o];unfold stE
 by_cases f:a=k
 ·rw[zF f,zF f]
  by_cases b:a=i
  ·rw[zF b,zD ⋯,zD ⋯,pR,wY]
  ·rw[zD b,wY]
 ·rw[zD f,zD f]
  by_cases b:a=i
  ·rw[zF b]
   by_cases c:k=j
   ·rw[zF ⟨b,c⟩,zF c.symm,rQ,Int.add_left_neg]
   ·rw[zD (λz=>c z.2),zD (zZ c),zD (λz=>c z.2),pR,wY]
  ·rw[zD (λz=>b z.1),zD b,wY]
theorem Jc{d i j:Nat}{m:Int}(n:d=2\/d=3)(hi:i<d)(g:j<d)(b:i≠j):Chg d (stM d i j m) (stM d i j (-m))/\(∀v:LI',v.length=d->mv (stM d i j m) v=vst i j m v)/\∀A,Sq d A->aV d i j m A=cjM d (stM d i j m) (stM d i j (-m)) A:=by
 refine⟨⟨dP,dP,?_,Jd b g⟩,λv f=>?_,λA c=>?_⟩
 ·have:=Jd (d:=d) (m:=-m) b g;rw[Int.neg_neg]at this;exact this
 ·unfold mv stM vst;rw[xR]
  conv=>rhs;rw[fV (z:=0) f,Dr,←fV f]
  refine kX λa _=>?_;show dotI ((List.range d).map (stE i j m a)) v=_;rw[Dp b f]
  by_cases h:a=i
  ·rw[zF h,zF h,h]
  ·rw[zD h,zD h,wY]
 ·unfold cjM;rw[Vg b dP.mul.2,Je b c.1];unfold aV;have e:A.set i (mixR d (A.getD i []) (A.getD j []) m)=(List.range d).map λa=>(List.range d).map λk=>(A.getD a []).getD k 0+if a=i then m*(A.getD j []).getD k 0 else 0:=by
   conv=>lhs;rw[fV (l:=A) (z:=[]) c.1,Dr,←fV c.1]
   refine kX λa l=>?_
   by_cases h:a=i
   ·rw[zF h];unfold mixR;refine kX λk _=>?_;rw[zF h,h]
   ·rw[zD h];have hr:(A.getD a []).length=d:=c.2 _ (by rw[zqc,zqd (by rw[c.1];exact l)];exact uF _)
    conv=>lhs;rw[fV (z:=0) hr]
    exact kX λk _=>by rw[zD h,wY]
  rw[e];refine wQ λr _=>kX λk _=>?_
  by_cases h:k=j
  ·rw[zF h,zF h,pH,Int.neg_mul,Int.sub_eq_add_neg]
  ·rw[zD h,zD h,uJ,uJ,Int.sub_zero,wY]
structure Stp where
 i:Nat
 j:Nat
 m:Int
structure Stp.Ok(d:Nat)(s:Stp):Prop where
 hi:s.i<d
 hj:s.j<d
 ne:s.i≠s.j
 m2:s.m.natAbs<=1000000
def chP(d:Nat):List Stp->LM
 |[]=>idM d
 |s:: L=>mulM d (stM d s.i s.j s.m) (chP d L)
def chQ(d:Nat):List Stp->LM
 |[]=>idM d
 |s:: L=>mulM d (chQ d L) (stM d s.i s.j (-s.m))
theorem kY{d:Nat}(a:d=2\/d=3):∀{L:List Stp},(∀s∈L,s.Ok d)->Chg d (chP d L) (chQ d L)
 |[],_=>Chg.id a
 |s:: L,h=>by
  have o:=h s (yD ..);exact(kY a λz b=>h z (zT _ b)).then a (Jc a o.hi o.hj o.ne).1
theorem Vf{d:Nat}(a:d=2\/d=3){L:List Stp}(h:∀s∈L,s.Ok d){s:Stp}(o:s.Ok d){A:LM}(b:Sq d A):aV d s.i s.j s.m (cjM d (chP d L) (chQ d L) A)=cjM d (chP d (s:: L)) (chQ d (s:: L)) A:=by
 have g:=(Jc (m:=s.m) a o.hi o.hj o.ne);rw[g.2.2 _ (gD (kY a h) A),Vk a (kY a h) g.1 b];rfl
theorem Ve{d:Nat}(a:d=2\/d=3){A:LM}(b:Sq d A){v:LI'}(c:v.length=d):cjM d (chP d []) (chQ d []) A=A/\mv (chP d []) v=v:=by
 refine⟨?_,Vm a c⟩;unfold chP chQ cjM;rw[(kW a b).1,(kW a b).2]
def LeM(N:Nat)(A:LM):Prop:=∀r∈A,∀z∈r,z.natAbs<=N
theorem Jb{d i j:Nat}{m:Int}{N:Nat}(h:m.natAbs<=N)(c:1<=N):LeM N (stM d i j m):=λr hr z e=>by
 obtain⟨a,_,rfl⟩:=oA.mp hr;obtain⟨b,_,rfl⟩:=oA.mp e;split
 ·exact c
 ·split
  ·exact h
  ·omega
theorem Ja{A B:Nat}:∀(r ns:LI'),(∀z∈r,z.natAbs<=A)->(∀z∈ns,z.natAbs<=B)->(dotI r ns).natAbs<=r.length*(A*B)
 |[],ns,_,_=>by simp[dotI]
 |_:: _,[],_,_=>by simp[dotI]
 |a:: r,b:: ns,e,d=>by
  have f:=Ja r ns (λz c=>e z (zT _ c)) λz c=>d z (zT _ c);unfold dotI at f ⊢;rw[xJ,List.sum_cons,zY,rC];have e1:(a*b).natAbs<=A*B:=by rw[xP];exact vH (e a yD) (d b yD)
  have j:=vS (a*b) (List.zipWith (λi g=>i*g) r ns).sum;omega
theorem Vd{N:Nat}{A:LM}(h:LeM N A)(k:Nat):∀z∈colI k A,z.natAbs<=N:=λz a=>by
 unfold colI at a;obtain⟨r,hr,rfl⟩:=oA.mp a;rw[zqc];cases e:r[k]? with
 |none=>exact yA _
 |some y=>exact h r hr y (zqb e)
theorem dR{d A B:Nat}{M N:LM}(b:Sq d M)(e:LeM A M)(f:LeM B N):LeM (d*(A*B)) (mulM d M N):=λr hr z c=>by
 obtain⟨x,a,rfl⟩:=oA.mp hr;obtain⟨k,_,rfl⟩:=oA.mp c;have:=Ja x (colI k N) (e x a) (Vd f k);rw[b.2 x a]at this;exact this
theorem Kz{c:Int}:∀{r v:LI'},dotI r (smul c v)=c*dotI r v
 |[],v=>by simp[dotI]
 |_:: _,[]=>by simp[dotI,smul]
 |a:: r,x:: v=>by
  have:=Kz (c:=c) (r:=r) (v:=v);unfold dotI smul at this ⊢;simp only[List.map_cons,List.zipWith_cons_cons,List.sum_cons];rw[this];grind
def canD(M:LM)(ts:LI')(U:Int):Dd:=(M,mQ (redU U ts) (redT U ts),redU U ts)
theorem Vc{M:LM}{ts b:LI'}{U:Int}(c:0<U)(h:Cong U ts b):canD M ts U=canD M b U:=by
 obtain⟨a,d⟩:=h.red c;unfold canD;rw[a,←a,d,a]
theorem aW{U:Int}{ts:LI'}(a:0<U):cs U ts=gl U ts/\0<cs U ts:=by
 have:=Cj ts (show U≠0 by omega);unfold cs;rw[zD ⋯];exact⟨rfl,this⟩
theorem Ky{U:Int}{ts:LI'}(b:0<U):∃c,0<c/\ts=smul c (redT U ts)/\U=c*redU U ts/\0<redU U ts:=by
 obtain⟨e,a⟩:=aW (ts:=ts) b;refine⟨cs U ts,a,?_,?_,aP ts ⋯⟩
 ·unfold smul redT;rw[xR]
  conv=>lhs;rw[←List.map_id ts]
  refine wQ λt d=>?_;show t=cs U ts*t.fdiv (cs U ts);rw[vA];exact(hJ ⋯ (jU (aO d))).symm
 ·rw[vA];exact(hJ ⋯ (jU (gl_u U ts))).symm
theorem Vb{U k:Int}{ts:LI'}(b:0<U)(a:0<k):redT (k*U) (smul k ts)=redT U ts/\redU (k*U) (smul k ts)=redU U ts:=by
 have d:0<k*U:=xU a b;have c:cs (k*U) (smul k ts)=k*cs U ts:=by
  rw[(aW d).1,(aW b).1,vA k U,vA k (gl U ts),←Vp a];unfold smul;congr 1;exact wQ λt _=>vA k t
 have e:=(aW (ts:=ts) b).2;refine⟨?_,?_⟩
 ·unfold redT;rw[c];unfold smul;rw[xR];exact wQ λt f=>by
   show(k*t).fdiv (k*cs U ts)=_;exact Int.mul_fdiv_mul_of_pos _ _ a
 ·unfold redU;rw[c];exact Int.mul_fdiv_mul_of_pos _ _ a
theorem dS{M:LM}{U k:Int}{ts:LI'}(b:0<U)(c:0<k):canD M (smul k ts) (k*U)=canD M ts U:=by
 obtain⟨a,d⟩:=Vb (ts:=ts) b c;unfold canD;rw[a,d]
theorem Va{N:LM}{ns ts:LI'}{c e u v:Int}:movT N (smul e ns) (e*v) (smul c ts) (c*u)=smul (e*c) (movT N ns v ts u):=by
 unfold movT
 induction N generalizing ns with
 |nil=>rfl
 | cons r N b =>
  cases ns with
  |nil=>rfl
  |cons n ns =>
   have:=b (ns:=ns);unfold smul at this ⊢;rw[zN,xJ,xJ,zN,this];have a:=Kz (c:=c) (r:=r) (v:=ts);unfold smul at a;rw[a];congr 1;grind
theorem iN{d:Nat}{M N:LM}{ts ns:LI'}{U V:Int}(i:0<U)(j:0<V):nA d (canD M ts U) (canD N ns V)=canD (mulM d N M) (movT N ns V ts U) (V*U):=by
 obtain⟨c,l,e1,f,b⟩:=Ky (ts:=ts) i;obtain⟨e,n,m,g,a⟩:=Ky (ts:=ns) j;have k1:canD (mulM d N M) (movT N ns V ts U) (V*U)=canD (mulM d N M) (movT N (redT V ns) (redU V ns) (redT U ts) (redU U ts)) (redU V ns*redU U ts):=by
  have hh:V*U=(e*c)*(redU V ns*redU U ts):=by
   conv=>lhs;rw[f,g]
   grind
  have k:movT N ns V ts U=smul (e*c) (movT N (redT V ns) (redU V ns) (redT U ts) (redU U ts)):=by
   rw[←Va,←e1,←f,←m,←g]
  rw[hh,k,dS (xU a b) (xU n l)]
 rw[k1];exact Vc (xU a b) (Jm (Cong.rest a _) (Cong.rest b _)) |>.symm
def frD(d:Nat)(P P':LM)(s:LI')(su p:Int)(R:LM)(t:LI'):Dd:=canD (cjM d P P' R) (cjT d P P' R (smul su t) (smul p s)) (p*su)
theorem Wz{d:Nat}(q:d=2\/d=3){A B C D g:LI'}(k:A.length=d)(j:B.length=d)(m:C.length=d)(i:D.length=d)(l:g.length=d):va (vs (va A B) C) (vs (va D g) B)=vs (va (va A D) g) C:=by
 rcases q with rfl|rfl
 ·obtain⟨a,n,rfl⟩:=v2 k;obtain⟨b,u,rfl⟩:=v2 j;obtain⟨c,o,rfl⟩:=v2 m;obtain⟨e,p,rfl⟩:=v2 i;obtain⟨f,r,rfl⟩:=v2 l;simp only[va2,vs2,List.cons.injEq,and_true];omega
 ·obtain⟨a,n,x,rfl⟩:=v3 k;obtain⟨b,u,b2,rfl⟩:=v3 j;obtain⟨c,o,y,rfl⟩:=v3 m;obtain⟨e,p,v,rfl⟩:=v3 i;obtain⟨f,r,z,rfl⟩:=v3 l;simp only[va3,vs3,List.cons.injEq,and_true];omega
theorem Kx{N:LM}{ns ts:LI'}{U:Int}:movT N ns U ts U=smul U (va (mv N ts) ns):=by
 unfold movT va mv
 induction N generalizing ns with
 |nil=>rfl
 | cons r N a =>
  cases ns with
  |nil=>rfl
  |cons n ns =>
   have:=a (ns:=ns);unfold smul at this ⊢;rw[xJ,zN,xJ,zN,this];congr 1;grind
theorem Kw{c:Int}:∀{v w:LI'},smul c (va v w)=va (smul c v) (smul c w)
 |[],_=>by simp[smul,va]
 |_:: _,[]=>by simp[smul,va]
 |a:: v,b:: w=>by
  have:=Kw (c:=c) (v:=v) (w:=w);unfold smul va at this ⊢;simp only[List.map_cons,List.zipWith_cons_cons];rw[this,Int.mul_add]
theorem fr_step{d:Nat}(a:d=2\/d=3){P k:LM}(h:Chg d P k){s:LI'}(v:s.length=d){b p:Int}(u:0<b)(r:0<p){i R2:LM}(m:Sq d i)(c:Sq d R2){l f:LI'}(l1:l.length=d)(l2:f.length=d):
  nA d (frD d P k s b p i l) (frD d P k s b p R2 f)=frD d P k s b p (mulM d R2 i) (va (mv R2 l) f):=by
 have g:0<p*b:=xU r u;have j:(smul p s).length=d:=by rw[dO];exact v
 have q:(smul b l).length=d:=by rw[dO];exact l1
 have o:(smul b f).length=d:=by rw[dO];exact l2
 have n:=gD h i;have e:=gD h R2;unfold frD;rw[iN g g,Kx,dS g g,Ds a h m c];congr 1;unfold cjT;rw[Vi a e (Ji (iM h.p) j) (iM n),Jl a e (iM h.p) j,Vj a h c q,Wz a (iM h.p) (iM e) (iM e) (iM h.p) j,←Du a e n j,Ds a h m c,Kw,Jl a h.p (by rw[dO];exact iM c) o,Vl a c l1]
theorem Kv{d:Nat}{x:Dd}{w:List Nat}{a:Dd->Prop}:∀(l:List (Dd×Nat))(tb:Tb),(∀k∈l,a (nA d x k.1))->(∀y∈tb,a y.1)->∀y∈l.foldl (nxt d x w) tb,a y.1
 |[],_,_,h=>h
 |k:: l,tb,b,h=>Kv l _ (λk' c=>b k' (zT _ c)) (Ug h (b k yD))
theorem Wy{ss:List Dd}{k:Dd×Nat}(h:k∈ss.zipIdx):k.1∈ss/\ss[k.2]?=some k.1:=by
 obtain⟨i,hi⟩:=wI h;rw[rF]at hi;cases e:ss[i]? with
 |none=>rw[e]at hi;cases hi
 |some s =>
  rw[e]at hi;cases hi;exact⟨zqb e,by simpa using e⟩
theorem Wx{d:Nat}{ss:List Dd}{a:Dd->Prop}(c:∀x,a x->∀s∈ss,a (nA d x s)){tb:Tb}{i:Nat}(h:∀y∈tb,a y.1):∀y∈kR d ss tb i,a y.1:=by
 unfold kR;cases e:tb[i]? with
 |none=>exact h
 |some f=>exact Kv _ _ (λk b=>c _ (h _ (zqb e)) _ (Wy b).1) h
theorem Ku{d:Nat}{ss:List Dd}{a:Dd->Prop}(b:∀x,a x->∀s∈ss,a (nA d x s)):∀(n i:Nat)(tb:Tb),(∀y∈tb,a y.1)->∀y∈nR d ss n i tb,a y.1
 |0,_,_,h=>h
 |n+1,i,tb,h=>by
  unfold nR;split
  ·exact Ku b n (i+1) _ (Wx b h)
  ·exact h
theorem Ww{d:Nat}{ss:List Dd}{tb:Tb}{i:Nat}(h:(tb.map (·.1)).Nodup):((kR d ss tb i).map (·.1)).Nodup:=by
 unfold kR;split
 ·exact h
 ·exact Jx _ _ h
theorem Kt{d:Nat}{ss:List Dd}:∀(n i:Nat)(tb:Tb),(tb.map (·.1)).Nodup->((nR d ss n i tb).map (·.1)).Nodup
 |0,_,_,h=>h
 |n+1,i,tb,h=>by
  unfold nR;split
  ·exact Kt n (i+1) _ (Ww h)
  ·exact h
abbrev tab(d:Nat)(ss:List Dd)(N:Nat):Tb:=nR d ss N 0 [(nU d,[])]
theorem Wv{d:Nat}{ss:List Dd}{N:Nat}:((tab d ss N).map (·.1)).Nodup:=Kt N 0 _ (by simp)
theorem Wu{d:Nat}{ss:List Dd}{N:Nat}{a:Dd->Prop}(b:a (nU d))(c:∀x,a x->∀s∈ss,a (nA d x s)):∀y∈tab d ss N,a y.1:=Ku c N 0 _ λy e=>by rw[rW.mp e];exact b
theorem Ks{d:Nat}{x:Dd}{w:List Nat}:∀(l:List (Dd×Nat))(tb:Tb),∀k∈l,nA d x k.1∈(l.foldl (nxt d x w) tb).map (·.1)
 | k:: l,tb,k',a=>by
  rw[vQ];rcases xC.mp a with rfl|a
  ·have h:nA d x k'.1∈(nxt d x w tb k').map (·.1):=by
    unfold nxt;split
    ·assumption
    ·simp
   obtain⟨r,e⟩:=dM d x w l (nxt d x w tb k');rw[e,xB];exact wJ _ h
  ·exact Ks l _ k' a
theorem Ws{d:Nat}{ss:List Dd}{tb:Tb}{i:Nat}{a:Dd×List Nat}(e:tb[i]?=some a){s:Dd}(b:s∈ss):nA d a.1 s∈(kR d ss tb i).map (·.1):=by
 unfold kR;rw[e];obtain⟨j,c⟩:=wI b;exact Ks ss.zipIdx tb (s,j) (zqb (i:=j) (by rw[rF,c];simp))
theorem Kr{d:Nat}{ss:List Dd}:∀(n i:Nat)(tb:Tb),(∀j,j<i->∀a,tb[j]?=some a->∀s∈ss,nA d a.1 s∈tb.map (·.1))->(nR d ss n i tb).length<=n+i->∀a∈nR d ss n i tb,∀s∈ss,nA d a.1 s∈(nR d ss n i tb).map (·.1)
 |0,i,tb,h,hl=>λa f s c=>by
  obtain⟨j,b⟩:=wI f;have:=(zqa b).1;unfold nR at hl this b ⊢;exact h j ⋯ _ b s c
 | n+1,i,tb,h,hl=>by
  unfold nR at hl ⊢;split
  ·next q =>
   rw[zF q]at hl;obtain⟨r,g⟩:=Jz d ss tb i;refine Kr n (i+1) _ (λj b a e s c=>?_) ⋯;rcases uZ j i with l|l
   ·rw[g,yB ⋯]at e;rw[g,xB];exact wJ _ (h j l a e s c)
   ·have:j=i:=⋯
    subst this;rw[g,yB ⋯]at e;exact Ws e c
  ·next q =>
   intro a f s c;obtain⟨j,b⟩:=wI f;have:=(zqa b).1;exact h j ⋯ _ b s c
theorem Wq{d:Nat}{ss:List Dd}{N:Nat}(h:(tab d ss N).length<=N):∀a∈tab d ss N,∀s∈ss,nA d a.1 s∈(tab d ss N).map (·.1):=Kr N 0 _ (λj b=>absurd b (Nat.not_lt_zero j)) h
theorem Kq{d:Nat}{ss:List Dd}{N:Nat}:(nU d,[])∈tab d ss N:=by
 obtain⟨r,e⟩:=Cc d ss N 0 [(nU d,[])];unfold tab;rw[e];simp
def famG:Nat->List LM
 |0=>[[[0,-1],[1,0]],[[-1,0],[0,1]]]
 |1=>[[[1,-1],[1,0]],[[0,1],[1,0]]]
 |2=>[[[0,-1,0],[1,0,0],[0,0,1]],[[0,0,1],[1,0,0],[0,1,0]],[[-1,0,0],[0,-1,0],[0,0,-1]]]
 |_=>[[[1,-1,0],[1,0,0],[0,0,1]],[[0,1,0],[1,0,0],[0,0,1]],[[1,0,0],[0,1,0],[0,0,-1]]]
def famD(k:Nat):Nat:=if k<2 then 2 else 3
def Wp(d:Nat)(gs l:List LM):List LM:=(l.flatMap λA=>gs.map λg=>mulM d g A).foldl (λacc M=>if acc.contains M then acc else acc++[M]) l
def Do(d:Nat)(gs:List LM):Nat->List LM->List LM
 |0,l=>l
 |n+1,l=>Do d gs n (Wp d gs l)
def pgL(k:Nat):List LM:=Do (famD k) (famG k) 10 [idM (famD k)]
def invM(d:Nat)(A:LM):LM:=mulM d A (mulM d (mulM d A A) (mulM d (mulM d (mulM d A A) (mulM d A A)) (mulM d (mulM d A A) (mulM d A A))))
def Kp(k:Nat):Bool:=
 (pgL k).contains (idM (famD k)) && (famG k).all (λg=>(pgL k).contains g) &&
 (pgL k).all (λA=>(famG k).all λg=>(pgL k).contains (mulM (famD k) g A)) &&
 (pgL k).all (λA=>decide (mulM (famD k) A (invM (famD k) A)=idM (famD k)) && decide (mulM (famD k) (invM (famD k) A) A=idM (famD k))) &&
 (pgL k).all (λA=>decide (A.length=famD k) && A.all λr=>decide (r.length=famD k) && r.all λz=>decide (z.natAbs<=1))
theorem Wo:(List.range 4).all Kp=true:=nofun
theorem Wn(k:Nat):famD k=2\/famD k=3:=by unfold famD;split <;> simp
theorem Ko{M:LM}:∀(xs acc:List LM),M∈xs.foldl (λacc M=>if acc.contains M then acc else acc++[M]) acc->M∈acc\/M∈xs
 |[],_,h=>.inl h
 | x:: xs,acc,h=>by
  rcases Ko xs _ h with q|q
  ·dsimp only at q;split at q
   ·exact .inl q
   ·rcases oF.mp q with q|q
    ·exact .inl q
    ·exact .inr (by rw[rW.mp q];exact .head _)
  ·exact .inr (.tail _ q)
theorem Kn{P:LM->Prop}{d:Nat}{gs:List LM}(a:∀A,P A->∀g∈gs,P (mulM d g A)):∀(n:Nat)(l:List LM),(∀A∈l,P A)->∀M∈Do d gs n l,P M
 |0,_,h=>h
 |n+1,l,h=>Kn a n _ λM b=>by
  rcases Ko _ _ b with q|q
  ·exact h M q
  ·obtain⟨A,c,q⟩:=List.mem_flatMap.mp q;obtain⟨g,e,rfl⟩:=oA.mp q;exact a A (h A c) g e
structure Fam(k:Nat):Prop where
 one:idM (famD k)∈pgL k
 gen:∀g∈famG k,g∈pgL k
 mul:∀A∈pgL k,∀B∈pgL k,mulM (famD k) A B∈pgL k
 inv:∀A∈pgL k,∃B∈pgL k,mulM (famD k) A B=idM (famD k)/\mulM (famD k) B A=idM (famD k)
 sq:∀A∈pgL k,Sq (famD k) A
 wee:∀A∈pgL k,∀r∈A,∀z∈r,z.natAbs<=1
theorem aX{k:Nat}(j:k<4):Fam k:=by
 have h:=vI.mp Wo k (oG.mpr j);simp only[Kp,Bool.and_eq_true,List.all_eq_true,decide_eq_true_eq,List.contains_iff_mem]at h;obtain⟨⟨⟨⟨p,e⟩,q⟩,m⟩,f⟩:=h;have i:=Wn k;have c:∀A∈pgL k,Sq (famD k) A:=λA a=>⟨(f A a).1,λr hr=>((f A a).2 r hr).1⟩;have mul:∀A∈pgL k,∀B∈pgL k,mulM (famD k) A B∈pgL k:=λA a=>(Kn (P:=λA=>Sq (famD k) A/\∀B∈pgL k,mulM (famD k) A B∈pgL k) (gs:=famG k) (λA⟨o,n⟩g d=>⟨(c g (e g d)).mul,λB b=>by
  rw[mul_assoc i (c g (e g d)) o (c B b)];exact q _ (n B b) g d⟩) 10 [idM (famD k)] (λA a=>by
   rw[rW.mp a];exact⟨jX,λB b=>by rw[(kW i (c B b)).1];exact b⟩) A a).2
 have sq2:=λA a=>mul A a A a;have sq4:=λA a=>mul _ (sq2 A a) _ (sq2 A a);exact⟨p,e,mul,λA a=>⟨invM (famD k) A,mul A a _ (mul _ (sq2 A a) _ (mul _ (sq4 A a) _ (sq4 A a))),m A a⟩,c,λA a r hr z l=>((f A a).2 r hr).2 z l⟩
theorem Wm{d:Nat}{c:Int}:smul c (List.replicate d 0)=List.replicate d 0:=by
 unfold smul;rw[List.map_replicate,pR]
theorem Km{d:Nat}(b:d=2\/d=3){M:LM}{U:Int}(a:0<U):canD M (List.replicate d 0) U=(M,List.replicate d 0,1):=by
 have h:=dS (M:=M) (ts:=List.replicate d 0) (U:=1) (k:=U) ⋯ a;rw[Wm,rQ]at h;rw[h];have:mQ (redU 1 (List.replicate d 0)) (redT 1 (List.replicate d 0))=List.replicate d 0/\redU 1 (List.replicate d 0)=1:=by
  rcases b with rfl|rfl <;> decide +kernel
 unfold canD;rw[this.1,this.2]
def Rs(d:Nat)(x:Dd):Prop:=∃M ts U,Sq d M/\ts.length=d/\0<U/\x=canD M ts U
theorem Wl{d:Nat}{N:LM}{ns ts:LI'}{u v:Int}(a:Sq d N)(b:ns.length=d):(movT N ns v ts u).length=d:=by
 unfold movT;rw[xW,a.1,b,pV]
theorem Rs.step{d:Nat}{x y:Dd}(e:Rs d x)(g:Rs d y):Rs d (nA d x y):=by
 obtain⟨M,ts,U,i,lt,a,rfl⟩:=e;obtain⟨N,ns,V,b,f,c,rfl⟩:=g;exact⟨_,_,_,b.mul,Wl b f,xU c a,iN a c⟩
theorem Wk{d:Nat}(m:d=2\/d=3){N O:LM}(i:Sq d N)(k:Sq d O){ts ns g:LI'}(lt:ts.length=d)(j:ns.length=d)(lo:g.length=d){U V f:Int}:
  movT O g f (movT N ns V ts U) (V*U)=movT (mulM d O N) (movT O g f ns V) (f*V) ts U:=by
 rcases m with rfl|rfl
 ·obtain⟨a,b,c,e,rfl⟩:=sq2 i;obtain⟨J,W,Y,Z,rfl⟩:=sq2 k;obtain⟨p,n,rfl⟩:=v2 lt;obtain⟨r,o,rfl⟩:=v2 j;obtain⟨q,l,rfl⟩:=v2 lo;rw[mul2];simp only[movT,dotI,List.zipWith_cons_cons,List.zipWith_nil_left,List.sum_cons,List.sum_nil,List.cons.injEq,and_true];refine⟨?_,?_⟩ <;> grind
 ·obtain⟨L,u,X,M,a2,a1,I,x,z,rfl⟩:=sq3 i;obtain⟨b1,b2,a0,T,v,D,C,y,R,rfl⟩:=sq3 k;obtain⟨p,n,S,rfl⟩:=v3 lt;obtain⟨r,o,G,rfl⟩:=v3 j;obtain⟨q,l,F,rfl⟩:=v3 lo;rw[mul3];simp only[movT,dotI,List.zipWith_cons_cons,List.zipWith_nil_left,List.sum_cons,List.sum_nil,List.cons.injEq,and_true];refine⟨?_,?_,?_⟩ <;> grind
theorem Dm{d:Nat}(f:d=2\/d=3){x y z:Dd}(i:Rs d x)(m:Rs d y)(k:Rs d z):nA d (nA d x y) z=nA d x (nA d y z):=by
 obtain⟨M,ts,U,j,lt,b,rfl⟩:=i;obtain⟨N,ns,V,e,l,a,rfl⟩:=m;obtain⟨O,n,o,g,lo,c,rfl⟩:=k;rw[iN b a,iN (xU a b) c,iN a c,iN b (xU c a),mul_assoc f g e j,Wk f e g lt l lo,Int.mul_assoc]
theorem Wj{d:Nat}(a:d=2\/d=3):nU d=canD (idM d) (List.replicate d 0) 1:=(Km a ⋯).symm
theorem Kl{d:Nat}(j:d=2\/d=3){N:LM}(f:Sq d N){ns:LI'}(g:ns.length=d){V:Int}:movT N ns V (List.replicate d 0) 1=ns/\movT (idM d) (List.replicate d 0) 1 ns V=ns:=by
 rcases j with rfl|rfl
 ·obtain⟨a,b,c,e,rfl⟩:=sq2 f;obtain⟨i,k,rfl⟩:=v2 g;rw[id2];simp[movT,dotI,List.replicate]
 ·obtain⟨l,n,x,m,v,u,r,o,p,rfl⟩:=sq3 f;obtain⟨i,k,q,rfl⟩:=v3 g;rw[id3];simp[movT,dotI,List.replicate]
theorem Dl{d:Nat}(a:d=2\/d=3){x:Dd}(e:Rs d x):nA d (nU d) x=x/\nA d x (nU d)=x:=by
 obtain⟨M,ts,U,b,lt,c,rfl⟩:=e;rw[Wj a];refine⟨?_,?_⟩
 ·rw[iN ⋯ c,(Kl a b lt).1,(kW a b).2,rQ]
 ·rw[iN c ⋯,(Kl a b lt).2,(kW a b).1,pH]
structure Grp(d:Nat)(T:List Dd):Prop where
 dim:d=2\/d=3
 nd:T.Nodup
 rs:∀x∈T,Rs d x
 one:nU d∈T
 mul:∀x∈T,∀y∈T,nA d x y∈T
 inv:∀x∈T,∃y∈T,nA d x y=nU d/\nA d y x=nU d
theorem LeM.le{A B:Nat}{M:LM}(h:LeM A M)(a:A<=B):LeM B M:=λr hr z b=>yC (h r hr z b) a
theorem dU{d:Nat}:LeM 1 (idM d):=λr hr z a=>by
 obtain⟨i,_,rfl⟩:=oA.mp hr;obtain⟨j,_,rfl⟩:=oA.mp a;split <;> decide
theorem Kk{U:Int}{ts:LI'}(i:0<U):(∀z∈redT U ts,∃t∈ts,z.natAbs<=t.natAbs)/\0<redU U ts/\redU U ts<=U:=by
 have d:=fS ts (show U≠0 by omega);have g:0<redU U ts:=aP ts ⋯;refine⟨λz b=>?_,g,?_⟩
 ·unfold redT at b;obtain⟨t,c,rfl⟩:=oA.mp b;refine⟨t,c,?_⟩;have e:t.fdiv (cs U ts)*cs U ts=t:=hJ d (jU (aO c));have a:=wD Int.natAbs e;rw[xP]at a;have:1<=(cs U ts).natAbs:=⋯
  rw[←a];exact Nat.le_mul_of_pos_right _ this
 ·have e:redU U ts*cs U ts=U:=hJ d (jU (gl_u U ts));have a:=wD Int.natAbs e;rw[xP]at a;have f:1<=(cs U ts).natAbs:=⋯
  have:=Nat.le_mul_of_pos_right (redU U ts).natAbs f;omega
theorem fms(x y:Int)(h:0<y):0<=x.fmod y/\x.fmod y<y:=⟨sG x h,qB x h⟩
structure Amb(d:Nat)(G:Dd->Prop):Prop where
 dim:d=2\/d=3
 rs:∀x,G x->Rs d x
 fine:∀x,G x->lO d x
 one:G (nU d)
 mul:∀x y,G x->G y->G (nA d x y)
 inv:∀x,G x->∃y,G y/\nA d x y=nU d/\nA d y x=nU d
theorem Kj{d:Nat}(b:d=2\/d=3):∀{L:List Stp},(∀s∈L,s.Ok d)->LeM (3000000^L.length) (chP d L)/\LeM (3000000^L.length) (chQ d L)
 |[],_=>⟨dU,dU⟩
 | s:: L,h=>by
  obtain⟨i,f⟩:=Kj b (L:=L) λz a=>h z (zT _ a);have o:=h s yD;have c:=kY b (L:=L) λz a=>h z (zT _ a);have g:=o.m2;rw[zY,tY];have e:d*(1000000*3000000^L.length)<=3000000^L.length*3000000:=by
   have:d*(1000000*3000000^L.length)<=3*(1000000*3000000^L.length):=wG _ ⋯;omega
  refine⟨(dR dP (Jb g ∅) i).le e,?_⟩;have:=dR c.q f (Jb (d:=d) (i:=s.i) (j:=s.j) (m:=-s.m) (N:=1000000) ⋯ ∅);rw[sW (3000000^L.length) 1000000]at this;exact this.le e
structure Fr4 where
 k:Nat
 L:List Stp
 U:Int
structure Fr4.Ok(F:Fr4):Prop where
 k:F.k<4
 ok:∀s∈F.L,s.Ok (famD F.k)
 l3:F.L.length<=3
 u0:0<F.U
 u1:F.U<2^100
def Fr4.cj(F:Fr4)(R:LM):LM:=cjM (famD F.k) (chP (famD F.k) F.L) (chQ (famD F.k) F.L) R
theorem Wi{C:LM}{ts:LI'}{U:Int}:oY (canD C ts U)=canD C ts U:=by
 unfold canD oY mQ;show(_,_,_)=(_,_,_);rw[xR];congr 2;exact wQ λy _=>Int.fmod_fmod _ _
structure Fr5 where
 d:Nat
 L:List Stp
 U:Int
structure Fr5.Ok(F:Fr5):Prop where
 d:F.d=2\/F.d=3
 ok:∀s∈F.L,s.Ok F.d
 l3:F.L.length<=3
 u0:0<F.U
 u1:F.U<2^100
def Fr5.cj(F:Fr5)(R:LM):LM:=cjM F.d (chP F.d F.L) (chQ F.d F.L) R
def Wr(d:Nat)(R:LM):Prop:=Sq d R/\LeM 27 R
theorem Ki{k:Nat}(a:k<4){R:LM}(h:R∈pgL k):Wr (famD k) R:=⟨(aX a).sq R h,λr hr z b=>yC ((aX a).wee R h r hr z b) ∅⟩
def InN(F:Fr5)(n:Nat)(x:Dd):Prop:=∃R,Sq F.d R/\LeM (81^n) R/\∃ts:LI',ts.length=F.d/\x=canD (F.cj R) ts F.U
theorem ac5(A N:Nat):3*(3*(A*N)*A)=N*(3*(3*A*A)):=by
 rw[sW N,qF 3 (3*A*A) N,qF (3*A) A N,qF 3 A (A*N),qF 3 (A*N) A,sW (A*N) A]
theorem Dk{F:Fr5}(h:F.Ok){R:LM}{N:Nat}(d:LeM N R):LeM (N*2^140) (F.cj R):=by
 have a:=h.d;have c:=kY a h.ok;obtain⟨g,f⟩:=Kj a h.ok;have b:3000000^F.L.length<=3000000^3:=yV ∅ h.l3;have i:=dR c.p (g.le b) d;have j:=dR (c.p.mul (B:=R)) i (f.le b);refine LeM.le j ?_;have e:F.d*(F.d*(3000000^3*N)*3000000^3)<=3*(3*(3000000^3*N)*3000000^3):=vH ⋯ (wG _ (wG _ ⋯));rw[ac5]at e;exact yC e (Nat.mul_le_mul_left N ∅)
theorem Wh{n:Nat}(h:n<=201):81^n*2^140<2^1500 :=
 wF (wG _ (yV ∅ h)) (nofun)
theorem Kh{F:Fr5}(h:F.Ok){R:LM}{n:Nat}(a:n<=201)(b:LeM (81^n) R):nZ 1500 (F.cj R):=λr hr z c=>wF (Dk h b r hr z c) (Wh a)
theorem Wg{d B:Nat}{C:LM}{ts:LI'}{U:Int}(g:B<=200000)(e:Sq d C)(i:nZ B C)(hl:ts.length=d)(f:0<U)(j:U<2^100):lO d (canD C ts U)/\kB 1000 (canD C ts U).2.1/\(canD C ts U).2.2<2^1000:=by
 obtain⟨_,r2,k⟩:=Kk (ts:=ts) f;have b:∀z∈(canD C ts U).2.1,z.natAbs<2^100:=λz a=>by
  obtain⟨y,_,rfl⟩:=oA.mp a;have:=fms y _ r2;omega
 have c:(canD C ts U).2.2<2^100:=by
  show redU U ts<2^100;omega
 refine⟨⟨e,by show(mQ _ (redT _ ts)).length=_;unfold mQ redT;rw[zqe,zqe];exact hl,r2,λr hr z a=>zJ (i r hr z a) (yV ∅ g),λz a=>?_,?_⟩,λz a=>?_,?_⟩
 ·exact zJ (b z a) (yV ∅ ∅)
 ·exact Int.lt_of_lt_of_le c (nofun)
 ·exact zJ (b z a) (yV ∅ ∅)
 ·exact Int.lt_of_lt_of_le c (nofun)
theorem Dj{F:Fr5}(h:F.Ok){n:Nat}{x:Dd}(g:n<=201)(a:InN F n x):lO F.d x/\nZ 1500 x.1/\kB 1000 x.2.1/\x.2.2<2^1000:=by
 obtain⟨R,i,e,ts,hl,rfl⟩:=a;have b:=Kh h g e;obtain⟨c,f,d⟩:=Wg (ts:=ts) ∅ (gD (kY h.d h.ok) R) b hl h.u0 h.u1;exact⟨c,b,f,d⟩
theorem Wf{F:Fr5}(h:F.Ok){a R2:LM}(c:Sq F.d a)(b:Sq F.d R2){ts ns:LI'}:nA F.d (canD (F.cj a) ts F.U) (canD (F.cj R2) ns F.U)=canD (F.cj (mulM F.d R2 a)) (va (mv (F.cj R2) ts) ns) F.U:=by
 rw[iN h.u0 h.u0,Kx,dS h.u0 h.u0];unfold Fr5.cj;rw[Ds h.d (kY h.d h.ok) c b]
theorem We{F:Fr5}(h:F.Ok):InN F 0 (nU F.d):=by
 have c:=kY h.d h.ok;have e:F.cj (idM F.d)=idM F.d:=by
  unfold Fr5.cj cjM;rw[(kW h.d c.p).2,c.r]
 exact⟨_,jX,dU,List.replicate F.d 0,by simp,by rw[e,Km h.d h.u0];rfl⟩
def MkN(F:Fr5)(s:Dd):Prop:=lO F.d s/\∃R,Wr F.d R/\∃ns:LI',ns.length=F.d/\oY s=canD (F.cj R) ns F.U
theorem Wd{F:Fr5}(h:F.Ok){ms:List Dd}(c:∀s∈ms,MkN F s):Cb F.d ms (InN F):=by
 have one:∀s∈ms,InN F 1 (oY s):=λs a=>by
  obtain⟨_,R,⟨i,j⟩,ns,d,e⟩:=c s a;exact⟨R,i,LeM.le j ∅,ns,d,e⟩
 refine⟨λs a=>(c s a).1,λs a=>(Dj h ∅ (one s a)).1,λn x g b=>(Dj h g b).1,We h,λn x s _ b a=>?_⟩;obtain⟨l,k,b1,ts,lt,rfl⟩:=b;obtain⟨_,R2,⟨f,b2⟩,ns,d,e⟩:=c s a;rw[e,Wf h k f];refine⟨_,f.mul,LeM.le (dR f b2 b1) ?_,_,Ji (iM (gD (kY h.d h.ok) R2)) d,rfl⟩;rw[tY];have:=h.d;have e:F.d*(27*81^n)<=3*(27*81^n):=wG _ ⋯;omega
def Mkr(d:Nat)(L:List Stp)(su:Int)(x:Dd):Prop:=∃R,Wr d R/\∃(ts:LI')(u:Int),ts.length=d/\kB 250 ts/\0<u/\u<=200/\x=(cjM d (chP d L) (chQ d L) R,redT (u*su) ts,redU (u*su) ts)
theorem Kg{d:Nat}{L:List Stp}{g:Int}:∀{ms:List Dd},(∀m∈ms,Mkr d L g m)->∃V:Int,0<V/\V<=((200^ms.length:Nat):Int)/\∀m∈ms,∃R,Wr d R/\∃(ts:LI')(u:Int),ts.length=d/\kB 250 ts/\0<u/\u<=200/\u∣V/\m=(cjM d (chP d L) (chQ d L) R,redT (u*g) ts,redU (u*g) ts)
 |[],_=>⟨1,∅,∅,λ_ h=>(by cases h)⟩
 | m:: ms,h=>by
  obtain⟨V,n,o,p⟩:=Kg (ms:=ms) λx c=>h x (.tail _ c);obtain⟨R,i,ts,u,lt,f,j,k,e⟩:=h m (.head _);refine⟨u*V,xU j n,?_,λx c=>?_⟩
  ·rw[zY,tY,Int.natCast_mul,vA];exact rO o k ⋯ ⋯
  ·rcases xC.mp c with rfl|c
   ·exact⟨R,i,ts,u,lt,f,j,k,⟨V,rfl⟩,e⟩
   ·obtain⟨R,i,ts,l,lt,f,a,b,q,e⟩:=p x c;exact⟨R,i,ts,l,lt,f,a,b,Int.dvd_trans q ⟨u,vA _ _⟩,e⟩
theorem Wc{d:Nat}{L:List Stp}{a:Int}{ms:List Dd}(f:d=2\/d=3)(n:∀s∈L,s.Ok d)(x:L.length<=3)(c:0<a)(g:a<=1000)(hl:ms.length<=3)(h:∀m∈ms,Mkr d L a m):∃F:Fr5,F.d=d/\F.Ok/\∀m∈ms,MkN F m/\nZ 1500 m.1/\kB 1000 m.2.1/\m.2.2<2^1000:=by
 obtain⟨V,p,N,D⟩:=Kg (ms:=ms) h;have v2:V<=8000000:=Int.le_trans N (Int.ofNat_le.mpr (yC (yV ∅ hl) ∅));have q:0<V*a:=xU p c;have r:V*a<=8000000*1000:=rO v2 g ⋯ ∅;have G:V*a<2^100:=rX r ∅;have F:(⟨d,L,V*a⟩:Fr5).Ok:=⟨f,n,x,q,G⟩;refine⟨⟨d,L,V*a⟩,rfl,F,λm v=>?_⟩;obtain⟨R,k,ts,u,lt,O,e,J,⟨b,l⟩,rfl⟩:=D m v;have us:0<u*a:=xU e c;obtain⟨r1,r2,U⟩:=Kk (ts:=ts) us;have us2:u*a<=200*1000:=rO J g ⋯ ⋯;have o:nZ 1500 (cjM d (chP d L) (chQ d L) R):=Kh (n:=1) F ∅ (LeM.le k.2 ∅);have j:∀B,250<=B->kB B (redT (u*a) ts):=λB M z C=>by
  obtain⟨t,S,T⟩:=r1 z C;exact wF T (zJ (O t S) (yV ∅ M))
 have i:redU (u*a) ts<=200000:=⋯
 refine⟨⟨⟨gD (kY f n) R,by unfold redT;rw[zqe];exact lt,r2,nZ.le o ∅,j _ ∅,?_⟩,R,k,smul b ts,by rw[dO];exact lt,?_⟩,o,j _ ∅,?_⟩
 ·show redU (u*a) ts<_;exact rX i (nofun)
 ·have y:0<b:=Classical.byContradiction λI=>absurd (l ▸ p:0<u*b) (Int.not_lt.mpr (Int.mul_nonpos_of_nonneg_of_nonpos (uB e) (Int.not_lt.mp I)));show canD _ ts (u*a)=canD _ (smul b ts) (V*a);rw[l,show u*b*a=b*(u*a) by grind,dS (xU e c) y];rfl
 ·show redU (u*a) ts<_;exact rX i (nofun)
structure Rw(H0 H:Hp)(a:Addr)(M:LM):Prop where
 s:Same H0 H
 n:H0 a=none
 m:MatD H0 H a M
theorem Rw.up{b H H':Hp}{a:Addr}{M:LM}(h:Rw b H a M)(s:Same H H'):Rw b H' a M:=⟨h.s.trans s,h.n,h.m.up s⟩
def gS:Nat->Int->Int
 |0,c=>c
 |n+1,c=>(gS n c).fdiv 5+1
def jY(d:Nat)(c:Int):Stp:=⟨((c.fdiv 4).fmod d).toNat,((((c.fdiv 4).fmod d)+1+(c.fdiv 12).fmod (d-1)).fmod d).toNat,if(c.fdiv 3).fmod 4=1 then(c.fdiv 24).fmod (2*10^6+1)-10^6 else(c.fdiv 24+2).fmod 5-2⟩
def stps(d:Nat):Nat->Int->List Stp
 |0,_=>[]
 |n+1,c=>jY d (gS n c):: stps d n c
def jZ(d:Nat)(c:Int):List Stp:=stps d (c.fmod 4).toNat c
def sp_k:Sp:=λvs H Q _=>E1 λ(n:Nat)=>A3 (vs=[.int n]) (n<=4) (∀r H',Rw H H' r (idM n)->Q (.ref r) H')
def sp_i(K:Frag):Sp:=λvs H Q _=>E9 λ(b1 b2 b3 b4:Bool)(a b:Addr)(A B:LM)(d:Nat)=>A9 (vs=[.ref a,.ref b]) (MatB b1 b2 K H a A) (MatB b3 b4 K H b B) (Sq d A) (Sq d B) ((d=2\/d=3)) (nZ 1500 A) (nZ 1500 B) (∀r H',Rw H H' r (mulM d A B)->Q (.ref r) H')
def sp_r:Sp:=λvs H Q _=>E2 λ(c:Int)(d:Nat)=>A3 (vs=[.int c,.int d]) ((d=2\/d=3)) (∀r H' R,Rw H H' r R->R∈pgL (if d=2 then 1 else 3)->Q (.ref r) H')
def sp_g:Sp:=λvs H Q _=>E2 λ(c:Int)(d:Nat)=>A3 (vs=[.int c,.int d]) ((d=2\/d=3)) (∀r H' R,Rw H H' r R->R∈pgL (if d=2 then 0 else 2)->Q (.ref r) H')
def sp_u:Sp:=λvs H Q _=>E2 λ(c:Int)(d:Nat)=>A3 (vs=[.int c,.int d]) ((d=2\/d=3)) (∀r H' R,Rw H H' r R->Wr d R->Q (.ref r) H')
def sp_y:Sp:=λvs H Q _=>E3 λ(so c:Int)(d:Nat)=>A4 (vs=[.int so,.int c,.int d]) ((d=2\/d=3)) (0<=so) (∀r H' R,Rw H H' r R->Wr d R->Q (.ref r) H')
def sp_h:Sp:=λvs H Q _=>E5 λ(a:Addr)(c:Int)(d:Nat)(R:LM)(H0:Hp)=>A5 (vs=[.ref a,.int c]) ((d=2\/d=3)) (Wr d R) (Rw H0 H a R) (∀H',Rw H0 H' a (cjM d (chP d (jZ d c)) (chQ d (jZ d c)) R)->Q (.ref a) H')
def sp_t(K:Frag):Sp:=λvs H Q _=>E8 λ(b1 b2 b3:Bool)(a l:Addr)(M:LM)(ns:LI')(u:Int)=>A8 (vs=[.ref a,.ref l,.int u]) (MatB b1 b2 K H a M) (SqB b3 K H l (ns.map V.int)) (M.length<=100) (ns.length<=100) (0<u) (kH u) (∀r H',Same H H'->DdAt K H' r (canD M ns u)->Q (.ref r) H')
def sp_w(K:Frag):Sp:=λvs H Q _=>E8 λ(b1 b2 b3:Bool)(a l:Addr)(M:LM)(ns:LI')(u:Int)=>A8 (vs=[.ref a,.ref l,.int u]) (MatB b1 b2 K H a M) (SqB b3 K H l (ns.map V.int)) (M.length<=100) (ns.length<=100) (0<u) (kH u) (∀r H',Same H H'->DdAt K H' r (M,redT u ns,redU u ns)->Q (.ref r) H')
def sp_j(K:Frag):Sp:=λvs H Q _=>E9 λ(p q l:Addr)(cs S:LI')(at':Nat)(d:Nat)(su so:Int)=>A11 (vs=[.ref p,.int at',.int d,.ref q,.int so]) (SqL K H p (cs.map V.int)) ((d=2\/d=3)) (H q=some (.tup [.ref l,.int su])) (H l=some (.lst (S.map V.int))) (S.length=d) ((∀z∈S,0<=z/\z<1000)) (0<su) (su<=1000) (0<=so) (∀r H' x,Same H H'->DdAt K H' r x->Mkr d (jZ d (absI (cs.getD 2 0))) su x->Q (.ref r) H')
def sp_b(K:Frag):Sp:=λvs H Q _=>E2 λ(p:Addr)(cs:LI')=>A3 (vs=[.ref p]) (SqL K H p (cs.map V.int)) (∀r l qs ms d L su H',Same H H'->H' r=some (.lst [.int (d:Nat),.ref l])->H' l=some (.lst (qs.map V.ref))->Paired (DdAt K H') qs ms->(d=2\/d=3)->(∀s∈L,Stp.Ok d s)->L.length<=3->0<su->su<=1000->ms.length<=3->(∀m∈ms,Mkr d L su m)->Q (.ref r) H')
def sp_e(K:Frag):Sp:=λvs H Q _=>E5 λ(p q:Addr)(x y:Dd)(d:Nat)=>A17 (vs=[.ref p,.ref q]) (DdS K H p x) (DdS K H q y) ((d=2\/d=3)) (Sq d x.1) (Sq d y.1) (x.2.1.length=d) (y.2.1.length=d) (0<x.2.2) (0<y.2.2) (nZ 1500 x.1) (nZ 1500 y.1) (kB 1000 x.2.1) (kB 1000 y.2.1) (x.2.2<2^1000) (y.2.2<2^1000) (∀r H',Same H H'->DdAt K H' r (nA d x y)->Q (.ref r) H')
theorem dvs(x y:Int)(a:y≠0)(b:y.natAbs<1073741824):jJ x y:=⟨a,zJ ((Nat.log2_lt ⋯).mpr (show y.natAbs<2^30 from b)) ∅⟩
theorem kI{H H':Hp}{b:Addr}(s:Same H H')(h:H' b=none):H b=none:=by
 cases q:H b with
 |none=>rfl
 |some o=>rw[s _ _ q]at h;cases h
theorem MatD.app{c H H1:Hp}{a l:Addr}{M:LM}{r:LI'}(h:MatD c H a M)(s:Same H H1)(hl:H l=none)(u:c l=none)(e:H1 l=some (.lst (r.map V.int))):∃zs,H1 a=some (.lst zs)/\zs.length=M.length/\MatD c (upd H1 a (.lst (zs++[.ref l]))) a (M++[r]):=by
 obtain⟨ps,k,d,D,m⟩:=h;have f:l≠a:=λz=>by rw[z,k]at hl;cases hl
 refine⟨ps.map V.ref,s _ _ k,by rw[zqe,d],ps++[l],by rw[oS,xB];rfl,by simp[d],?_,λi p q e1 b=>?_⟩
 ·rw[qK];refine⟨D,by simp,λz o w n=>?_⟩;rw[rW.mp n];obtain⟨j,x,C⟩:=wP o;exact nY (m j z M[j] (by simp[x,C]) (by simp[show j<M.length by omega])).2.2 hl
 ·by_cases hi:i<ps.length
  ·rw[yB hi]at e1;rw[yB ⋯]at b;obtain⟨g,y,v⟩:=m i p q e1 b;exact⟨g,y,by rw[oV g];exact s _ _ v⟩
  ·have F:i=ps.length:=by have:=(zqa e1).1;simp at this;omega
   subst F;rw[zW (zE _)]at e1;rw[d,zW (zE _)]at b;simp at e1 b;subst e1 b;exact⟨f,u,by rw[oV f];exact e⟩
theorem MatD.nil{b H:Hp}{a:Addr}(e:H a=some (.lst [])):MatD b H a []:=⟨[],e,rfl,uA,λi p r e1=>by simp at e1⟩
theorem Wb{lo:Int}{n:Nat}{H:Hp}{a:Addr}{fr:List (Str×Nat)}{F:St}{te:TE}{Q:VK}(f:Nat->LI')(U:H a=none)(y:n<=1000)
  (X:∀(i:Nat) H1 zs,i<n->Same H H1->H1 a=some (.lst zs)->∀G:VK,(∀p H2,Same H1 H2->H1 p=none->H2 p=some (.lst ((f i).map V.int))->G (.ref p) H2)->te (some (.int (lo+i)):: mX fr F) H1 G)
  (M:∀H1,Same H H1->MatD H H1 a ((List.range n).map f)->Q (.ref a) H1):kF (Itr lo n) (nB 0) (tEl te) 1 fr F a H Q:=by
 refine Bw n (λi zs H1=>∃ps:LA,zs=ps.map V.ref/\ps.length=i/\ps.Nodup/\∀(j:Nat)(p:Addr),ps[j]?=some p->p≠a/\H p=none/\H1 p=some (.lst ((f j).map V.int))) U y ⟨[],rfl,rfl,uA,λj p e=>by simp at e⟩
  (λi zs H1⟨ps,e,l,_⟩=>by rw[e,zqe,l];exact zE _) (λi zs H1 H2⟨ps,e,l,n,q⟩s=>⟨ps,e,l,n,λj p e1=>⟨(q j p e1).1,(q j p e1).2.1,s _ _ (q j p e1).1 (q j p e1).2.2⟩⟩)
  (λi H1 hi s=>hi) (λH1 s=>zE _) ?_ ?_
 ·rintro i H1 zs hi g I ⟨ps,rfl,m,v,k⟩ ys x H3 W T C N _;obtain⟨e1,d⟩:=T;subst e1 d
  match ys,W with
  | [o],_ =>
   refine⟨⟨[_],rfl,rfl⟩,X i H3 _ hi g I _ λp H2 J D e=>N _ _ J ⟨ps++[p],by simp,by simp[m],?_,λj q b=>?_⟩⟩
   ·rw[qK];refine⟨v,by simp,λz y w L=>?_⟩;rw[rW.mp L];obtain⟨j,c,u⟩:=wP y;exact nY (k j z (by simp[c,u])).2.2 D
   ·by_cases c:j<ps.length
    ·rw[yB c]at b;obtain⟨S,R,O⟩:=k j q b;exact⟨S,R,J _ _ O⟩
    ·have u:j=ps.length:=by have:=(zqa b).1;simp at this;omega
     subst u;rw[zW (zE _)]at b;simp at b;subst b;rw[m];exact⟨zZ (nY I D),kI g D,e⟩
 ·rintro H1 ys g e1 ⟨ps,rfl,m,v,k⟩;refine M H1 g ⟨ps,e1,by simp[m],v,λj p r d b=>?_⟩;have c:j<n:=by have:=(zqa d).1;omega
  rw[zO,xA c]at b;cases b;exact k j p d
theorem ok_k(T:Txt K mg t):FnOk P w K mg base CX0 1 t.a_k t.d_k ["_law_d"] sp_k:=by
 apply T.F_k.ok sc_k
 ·obtain⟨n,rfl,L,D⟩:=h;refine⟨_,(oR (oZ (iW (xs:=["_law_i"]) (fr:=[("_law_d",0)]) (g:=(nB 0)) (tt:=(tEl (lY (mF (nO (tVar 1) tNil)) (nB 0) (tEl (tCB (λxs H Q=>(∃i,xs=[.int i]/\Q (.int i) H)\/∃k,xs=[.bl k]/\Q (.int (if k then 1 else 0)) H) (nO (tOp (rI0 λi j=>.bl (decide (i=j))) (tVar 1) (tVar 0)) tNil))) 1 [("_law_i",0)]))) (jD (sc:=oU aG) (N:=N_k) rfl rfl (nofun)) rfl (mT rfl T.z_range (oM (pq 0) oN)) (λ_ _ _ a=>(eO (N:=["_law_i","_law_d"]) (i:=0) a rfl (nofun) rfl)) (λ_ _ _ a=>(jK (mK (N:=["_law_i","_law_d"]) (fr:=[("_law_i",0)]) (te:=(tCB (λxs H Q=>(∃i,xs=[.int i]/\Q (.int i) H)\/∃k,xs=[.bl k]/\Q (.int (if k then 1 else 0)) H) (nO (tOp (rI0 λi j=>.bl (decide (i=j))) (tVar 1) (tVar 0)) tNil))) a rfl (nofun) rfl (nofun) (mT rfl T.z_range (oM (pv 1) oN)) (λ_ _ _ R=>(lF Ek rfl T.z_int (nofun) (oM (iR mZ (pv 1) (pv 0) (nH _)) oN))))))))),?_⟩;show tRet _ _ [some (.int n)] H;ext;refine nW λB eB=>?_;simp only[mF];ext;refine⟨⋯,⋯,λq d=>?_⟩;rw[zS];refine Wb (λi=>(List.range n).map λk=>if i=k then(1:Int) else 0) d ⋯ ?_ λH1 g l=>D q H1 ⟨g,d,l⟩;intro i H2 zs hi O J p G;subst eB;show lY _ _ _ _ _ [some (.int (0+(i:Int))),some (.int n)] H2 p;refine nW λB eB=>?_;simp only[mF];ext;refine⟨⋯,⋯,λI c=>?_⟩;rw[zS];refine kM (λk y _=>k<n/\y=.int (if i=k then 1 else 0)) c ⋯ (λ_ _ _ _ r _=>r) ?_ ?_
  ·intro k H3 M x b N F f;subst eB;show tCB _ _ [some (.int (0+(k:Int))),some (.int (0+(i:Int)))] H3 F;ext;refine .inr (f _ _ (Same.refl _) ⟨x,?_⟩)
   by_cases z:i=k
   ·rw[zF z,zL ⋯];rfl
   ·rw[zD z,zK ⋯];rfl
  ·intro H3 ys b o m C;have u:ys=((List.range n).map λk=>if i=k then(1:Int) else 0).map V.int:=by
    refine lH (by simpa using m) λj y e=>?_;obtain⟨v,rfl⟩:=C j y e;exact⟨_,by rw[zO,xA v];rfl,rfl⟩
   subst u;exact G _ _ b c o
theorem ok_i(T:Txt K mg t):FnOk P w K mg base CX0 1 t.a_i t.d_i pj' (sp_i K):=by
 apply T.F_i.ok sc_i
 ·obtain⟨b1,b2,c9,c4,a,b,f,c,d,rfl,S,b0,z,F,c0,b6,a9,q⟩:=h;refine⟨_,(oQ (oW (i:=2) sc_i.nd rfl (Or.inr rfl) (mO T.z_len (pq 0)))
   (oQ (oW (i:=3) sc_i.nd rfl (Or.inl rfl) (nS oN))
   (oQ (lE yR rfl (mT rfl T.z_range (oM (pq 2) oN)) (mD (i:=4) sc_i.nd rfl (Or.inr rfl))
   (oR (kC (jH yZ xE xF jI (pq 3) (oM (iW (xs:=["_law_k"]) (fr:=[("_law_one",0),("_law_other",1),("_law_d",2),("_law_i",4)]) (g:=(nB 0)) (tt:=(tEl (tCB (λxs H Q=>∃(p:Addr)(ns:LI'),xs=[.ref p]/\SqL K H p (ns.map V.int)/\Q (.int ns.sum) H) (nO (lY (mF (nO (tVar 3) tNil)) (nB 0) (tEl (tOp (rI (λi j=>IntMulOk i j) λi j=>.int (i*j)) (tOp (rIxB K) (tOp (rIxB K) (tVar 2) (tVar 4)) (tVar 0)) (tOp (rIxB K) (tOp (rIxB K) (tVar 3) (tVar 0)) (tVar 1)))) 1 [("_law_k",0),("_law_one",1),("_law_other",2),("_law_i",4)]) tNil)))) (jD (sc:=oU aH) (N:=N_i) rfl rfl (nofun)) rfl (mT rfl T.z_range (oM (pq 2) oN)) (λ_ _ _ D=>(eO (N:=["_law_k","_law_one","_law_other","_law_d","_law_i"]) (i:=0) D rfl (nofun) rfl)) (λ_ _ _ D=>(jK (nQ (bB rfl) rfl T.z_sum (nofun) (oM (mK (N:=["_law_k","_law_one","_law_other","_law_d","_law_i"]) (fr:=[("_law_k",0),("_law_one",1),("_law_other",2),("_law_i",4)]) (te:=(tOp (rI (λi j=>IntMulOk i j) λi j=>.int (i*j)) (tOp (rIxB K) (tOp (rIxB K) (tVar 2) (tVar 4)) (tVar 0)) (tOp (rIxB K) (tOp (rIxB K) (tVar 3) (tVar 0)) (tVar 1)))) D rfl (nofun) rfl (nofun) (mT rfl T.z_range (oM (pv 3) oN)) (λ_ _ _ d0=>(oP mG (nV ix_B (nV ix_B (pv 2) (pv 4) (λ_ _=>rfl)) (pv 0) (λ_ _=>rfl)) (nV ix_B (nV ix_B (pv 3) (pv 0) (λ_ _=>rfl)) (pv 1) (λ_ _=>rfl))))) oN))))) oN)))))
   (oR (oZ (pq 3)))))),?_⟩
  show tSeq _ _ _ [some (.ref a),some (.ref b),none,none,none] H;right;refine gK S ?_
  try ext
  rw[z.1];left;refine⟨yA _,λm G=>?_⟩;subst e1;refine st λN1 e1=>lG λO eB=>?_;simp only[mF];ext;have U:Same H (upd H m (.lst [])):=Same.new G;refine⟨⋯,⋯,?_⟩;rw[zS];refine gJ (n:=d) (g:=nB 4) (tb:=O) (λi I H1=>∃L,I=[some (.ref a),some (.ref b),some (.int d),some (.ref m),L]/\Same H H1/\MatD H H1 m ((mulM d f c).take i)) ⟨_,rfl,U,MatD.nil oS⟩ ?_ ?_
  ·rintro i I H1 hi ⟨L,rfl,g,l⟩;have o:f[i]?=some (f.getD i []):=by have:=z.1;simp[show i<f.length by omega]
   have c1:(f.getD i []).length=d:=z.2 _ (zqb o);have a8:=Qy (w:=d) (B:=c) o;subst eB;show Et _ _ [some (.ref a),some (.ref b),some (.int d),some (.ref m),some (.int (0+(i:Int)))] H1;ext;obtain⟨c8,b8⟩:∃zs,H1 m=some (.lst zs):=let ⟨ps,h,_⟩:=l;⟨_,h⟩
   refine⟨.inl ⟨rfl,_,SqL.of b8⟩,?_⟩;refine nW λO eB=>?_;simp only[mF];ext;refine⟨⋯,⋯,λc2 J=>?_⟩;rw[zS];refine kM (len:=d) (λj y _=>j<d/\y=.int (dotI (f.getD i []) (colI j c))) J ⋯ (λ_ _ _ _ r _=>r) ?_ ?_
   ·intro j H2 zs N n c3 a5 b5;subst eB;show tCB _ _ [some (.int (0+(j:Int))),some (.ref a),some (.ref b),some (.int d),some (.int (0+(i:Int)))] H2 a5;ext;refine nW λO eB=>?_;simp only[mF];ext;refine⟨⋯,⋯,λY a3=>?_⟩;rw[zS];refine kM (len:=d) (λk y _=>∃x,(List.zipWith (·*·) (f.getD i []) (colI j c))[k]?=some x/\y=.int x) a3 ⋯ (λ_ _ _ _ r _=>r) ?_ ?_
    ·intro k H3 c5 c7 u c6 b4 a0;have v:c[k]?=some (c.getD k []):=by have:=F.1;simp[show k<c.length by omega]
     have b9:(c.getD k []).length=d:=F.2 _ (zqb v);have C:k<(f.getD i []).length:=⋯
     subst eB;show tOp _ _ _ [some (.int (0+(k:Int))),some (.int (0+(j:Int))),some (.ref a),some (.ref b),some (.int (0+(i:Int)))] H3 b4;ext;refine iK (((S.up g).up n).up u) o (L2.getD_at C) ⋯ ⋯ ?_;refine iK (((b0.up g).up n).up u) v (getD_at (k:=j) ⋯) ⋯ ⋯ ?_;ext;refine⟨xQ (mE (b6 _ (zqb o) _ (L2.getD_mem C))) (mE (a9 _ (zqb v) _ (L2.getD_mem ⋯))) ∅,a0 _ _ (Same.refl _) ⟨_,?_,rfl⟩⟩;have W:(colI j c)[k]?=some ((c.getD k []).getD j 0):=by unfold colI;rw[zO,v];rfl
     rw[wE,L2.getD_at C,W]
    ·intro H3 ys u a4 R b3;have M:ys=(List.zipWith (·*·) (f.getD i []) (colI j c)).map V.int:=by
      refine lH (by have:=F.1;simp only[zqe,List.length_zipWith,colI];omega) λk y e=>?_;obtain⟨x,a1,rfl⟩:=b3 k y e;exact⟨x,a1,rfl⟩
     subst M;exact⟨Y,rfl,_,SqL.of a4,b5 _ _ u ⟨N,rfl⟩⟩
   ·intro H2 ys n X R b7;have M:ys=((List.range d).map λk=>dotI (f.getD i []) (colI k c)).map V.int:=by
     refine lH (by simpa using R) λj y e=>?_;obtain⟨N,rfl⟩:=b7 j y e;exact⟨_,by rw[zO,xA N];rfl,rfl⟩
    subst M;obtain⟨zs,a2,Z,a7⟩:=MatD.app l n J (kI g J) X;refine⟨m,zs,_,rfl,rfl,a2,iU (by rw[Z,yN];omega),?_⟩;have a6:(mulM d f c).take (i+1)=(mulM d f c).take i++[(List.range d).map λk=>dotI (f.getD i []) (colI k c)]:=by rw[xN,a8];rfl
    refine⟨Same.over G (g.trans n),?_⟩;rw[a6];exact a7
  ·rintro I H1 ⟨L,rfl,g,l⟩;symm;rw[yT (by simp[mulM,z.1])]at l;exact q m H1 ⟨g,G,l⟩
theorem Di{H H1 H2 H3:Hp}{d c p:Addr}{r1 r2:LI'}(o:H d=none)(e1:H1=upd H d (.lst (r1.map V.int)))(j:H1 c=none)(m:H2=upd H1 c (.lst (r2.map V.int)))(f:H2 p=none)(u:H3=upd H2 p (.lst [.ref d,.ref c])):Rw H H3 p [r1,r2]:=by
 have l:Same H H1:=e1 ▸ Same.new o;have e:Same H1 H2:=m ▸ Same.new j;have k:Same H2 H3:=u ▸ Same.new f;have g:H1 d=some (.lst (r1.map V.int)):=by rw[e1,oS]
 have n:H2 c=some (.lst (r2.map V.int)):=by rw[m,oS]
 have v:H3 p=some (.lst [.ref d,.ref c]):=by rw[u,oS]
 refine⟨(l.trans e).trans k,kI (l.trans e) f,[d,c],v,rfl,?_,λi q r a b=>?_⟩
 ·simp only[List.nodup_cons,List.mem_singleton,List.not_mem_nil,not_false_eq_true,List.nodup_nil,and_true];exact nY g j
 ·match i,a,b with
  |0,a,b=>cases a;cases b;exact⟨nY (e _ _ g) f,o,k _ _ (e _ _ g)⟩
  |1,a,b=>cases a;cases b;exact⟨nY n f,kI l j,k _ _ n⟩
  |i+2,a,b=>simp at a
theorem Wa{H H1 H2 H3 l:Hp}{e g j p:Addr}{r1 r2 v:LI'}(m:Same H H1)(C:H e=none)(n:H1 e=some (.lst (r1.map V.int)))(d:Same H1 H2)(x:H1 g=none)(o:H2 g=some (.lst (r2.map V.int)))(c:Same H2 H3)(u:H2 j=none)(y:H3 j=some (.lst (v.map V.int)))(f:H3 p=none)(z:l=upd H3 p (.lst [.ref e,.ref g,.ref j])):Rw H l p [r1,r2,v]:=by
 have k:Same H3 l:=z ▸ Same.new f;have D:l p=some (.lst [.ref e,.ref g,.ref j]):=by rw[z,oS]
 refine⟨((m.trans d).trans c).trans k,kI ((m.trans d).trans c) f,[e,g,j],D,rfl,?_,λi q r a b=>?_⟩
 ·simp only[List.nodup_cons,List.mem_cons,List.mem_singleton,List.not_mem_nil,not_false_eq_true,List.nodup_nil,and_true,not_or];exact⟨⟨nY n x,nY (d _ _ n) u⟩,nY o u⟩
 ·match i,a,b with
  |0,a,b=>cases a;cases b;exact⟨nY (c _ _ (d _ _ n)) f,C,k _ _ (c _ _ (d _ _ n))⟩
  |1,a,b=>cases a;cases b;exact⟨nY (c _ _ o) f,kI m x,k _ _ (c _ _ o)⟩
  |2,a,b=>cases a;cases b;exact⟨nY y f,kI (m.trans d) u,k _ _ y⟩
  |i+3,a,b=>simp at a
theorem aY{k:Nat}(a:k<4){R:LM}(b:R∈pgL k):nZ 1500 R:=λr hr z c=>wF ((aX a).wee R b r hr z c) (Nat.one_lt_two_pow ∅)
theorem Rw.into{b H H':Hp}{a:Addr}{M:LM}(h:Rw H H' a M)(s:Same b H):Rw b H' a M:=⟨s.trans h.s,kI s h.n,let ⟨ps,g,d,k,e⟩:=h.m;⟨ps,g,d,k,λi p r e1 c=>let ⟨f,l,j⟩:=e i p r e1 c;⟨f,kI s l,j⟩⟩⟩
def Dh(R:LM)(z:Int):LM:=[R.getD 0 []++[0],R.getD 1 []++[0],[0,0,z]]
theorem Xz:(pgL 1).all (λR=>(pgL 3).contains (Dh R 1) && (pgL 3).contains (Dh R (-1)))=true:=nofun
theorem Xy{R:LM}(h:R∈pgL 1){z:Int}(a:z=1\/z=-1):Dh R z∈pgL 3:=by
 have:=vI.mp Xz R h;rw[zP,sV,sV]at this;rcases a with rfl|rfl
 ·exact this.1
 ·exact this.2
theorem ok_r(T:Txt K mg t):FnOk P w K mg base CX0 2 t.a_r t.d_r pm' sp_r:=by
 have a9:=@ok_i P w K mg base t T;apply T.F_r.ok sc_r
 ·obtain⟨c,d,rfl,c1,b9⟩:=h;refine⟨_,(oQ (oW (i:=2) sc_r.nd rfl (Or.inl rfl) (nS (oM (nS (oM oO (oM oO oN))) (oM (nS (oM oO (oM oO oN))) oN))))
   (oQ (lE yR rfl (mT rfl T.z_range (oM (oP nP (pq 0) oO) oN)) (mD (i:=3) sc_r.nd rfl (Or.inl rfl))
   (oR (oW (i:=2) sc_r.nd rfl (Or.inl rfl) (nD a9 hr.mo T.F_i (oM (nS (oM (nS (oM oO (oM (gU gW oO) oN))) (oM (nS (oM oO (oM oO oN))) oN))) (oM (pq 2) oN))))))
   (oQ (nK (nI mZ (oP nP (oP mB (pq 0) oO) oO) oO (nH _))
   (oR (oW (i:=2) sc_r.nd rfl (Or.inl rfl) (nD a9 hr.mo T.F_i (oM (nS (oM (nS (oM oO (oM oO oN))) (oM (nS (oM oO (oM oO oN))) oN))) (oM (pq 2) oN)))))
   nJ)
   (oQ (nK (nI mZ (pq 1) oO (nH _))
   (oR (oZ (pq 2)))
   nJ)
   (oR (oZ (nS (oM (oP gZ (nN (pq 2)) (nS (oM oO oN))) (oM (oP gZ (nN (pq 2)) (nS (oM oO oN))) (oM (nS (oM oO (oM oO (oM (oP lV oO (oP mG oO (oP nP (oP mB (pq 0) oO) oO))) oN)))) oN)))))))))),?_⟩
  show tSeq _ _ _ [some (.int c),some (.int d),none,none] H;have g:=aX (show 1<4 by decide);right;refine⟨by show 2<=sizeLine;decide,λa4 l=>⟨by show 2<=sizeLine;decide,λb5 n=>⟨by show 2<=sizeLine;decide,λp m=>?_⟩⟩⟩;have b7:=Di (r1:=[1,0]) (r2:=[0,1]) l rfl n rfl m rfl;generalize hH1:upd (upd (upd H a4 (.lst [.int 1,.int 0])) b5 (.lst [.int 0,.int 1])) p (.lst [.ref a4,.ref b5])=H1;have c3:Rw H H1 p [[1,0],[0,1]]:=hH1 ▸ b7;have c6:[[1,0],[0,1]]∈pgL 1:=by rw[←id2];exact g.one
  clear b7 l n m hH1;subst e1;refine st λN1 e1=>lG λB eB=>?_;simp only[mF];ext;have d2:=fms c 6 ∅;refine⟨∅,⋯,⋯,?_⟩;refine gJ (g:=nB 3) (tb:=B) (λ_ S H2=>∃(r:Addr)(R:LM)(v:Option V),S=[some (.int c),some (.int d),some (.ref r),v]/\Rw H H2 r R/\R∈pgL 1) ⟨p,_,none,rfl,c3,c6⟩ ?_ ?_
  ·rintro k S H2 d1 ⟨r,R,v,rfl,C,i⟩;subst eB;show tAsg _ _ _ [some (.int c),some (.int d),some (.ref r),some (.int (0+(k:Int)))] H2;ext;refine⟨by show 2<=sizeLine;decide,λe l=>⟨by show 2<=sizeLine;decide,λu n=>⟨by show 2<=sizeLine;decide,λq m=>?_⟩⟩⟩;have Z:=Di (r1:=[1,-1]) (r2:=[1,0]) l rfl n rfl m rfl;generalize hH3:upd (upd (upd H2 e (.lst [.int 1,.int (-1)])) u (.lst [.int 1,.int 0])) q (.lst [.ref e,.ref u])=H3;have l1:Rw H2 H3 q [[1,-1],[1,0]]:=hH3 ▸ Z;have mg:[[1,-1],[1,0]]∈pgL 1:=g.gen _ ∅;have f:=C.up l1.s;refine⟨false,false,false,false,q,r,_,_,2,rfl,l1.m.l.b,f.m.l.b,g.sq _ mg,g.sq _ i,.inl rfl,aY ∅ mg,aY ∅ i,λa7 o W=>?_⟩;exact⟨a7,rfl,_,W.into f.s,g.mul _ mg _ i⟩
  ·rintro S H2 ⟨r,R,v,rfl,C,i⟩;subst e1;refine st λb3 L=>?_;have nx:∀H3 f F,Rw H H3 f F->F∈pgL 1->b3 [some (.int c),some (.int d),some (.ref f),v] H3:=by
    intro H3 f F M U;subst L;refine st λb3 L=>?_;ext;rcases c1 with rfl|rfl
    ·rw[zL ∅];refine iteT ?_;exact b9 f H3 F M U
    ·rw[zK ∅];refine iteF ?_;subst L;ext;obtain⟨ps,k1,k2,k3,b6⟩:=M.m;obtain⟨a,b,y,z,rfl⟩:=sq2 (g.sq _ U);obtain⟨j,e,rfl⟩:∃j e,ps=[j,e]:=by
      match ps,k2 with
      |[j,e],_=>exact⟨j,e,rfl⟩
     have c9:H3 j=some (.lst [.int a,.int b]):=(b6 0 j _ rfl rfl).2.2;have c5:H3 e=some (.lst [.int y,.int z]):=(b6 1 e _ rfl rfl).2.2;refine fU (i:=0) k1 rfl rfl ⟨by show 1<=sizeLine;decide,λI c7=>?_⟩;have x:=Same.new (o:=.lst [V.int 0]) c7;have a1:(upd H3 I (.lst [.int 0])) I=some (.lst [V.int 0]):=oS;generalize upd H3 I (.lst [.int 0])=o at x a1;refine⟨j,I,_,_,rfl,rfl,x _ _ c9,a1,by show 3<=sizeLine;decide,λN b4=>?_⟩;have G:=Same.new (o:=.lst ([V.int a,.int b]++[.int 0])) b4;have b1:(upd o N (.lst ([V.int a,.int b]++[.int 0]))) N=some (.lst ([a,b,0].map V.int)):=oS;generalize upd o N (.lst ([V.int a,.int b]++[.int 0]))=O at G b1;refine fU (i:=1) (G _ _ (x _ _ k1)) rfl rfl ⟨by show 1<=sizeLine;decide,λD c4=>?_⟩;have J:=Same.new (o:=.lst [V.int 0]) c4;have a3:(upd O D (.lst [.int 0])) D=some (.lst [V.int 0]):=oS;generalize upd O D (.lst [.int 0])=a8 at J a3;refine⟨e,D,_,_,rfl,rfl,J _ _ (G _ _ (x _ _ c5)),a3,by show 3<=sizeLine;decide,λa0 c0=>?_⟩;have b0:=Same.new (o:=.lst ([V.int y,.int z]++[.int 0])) c0;have a2:(upd a8 a0 (.lst ([V.int y,.int z]++[.int 0]))) a0=some (.lst ([y,z,0].map V.int)):=oS;generalize upd a8 a0 (.lst ([V.int y,.int z]++[.int 0]))=Y at b0 a2;have d0:=fms (c.fdiv 12) 2 ∅;refine⟨dvs _ _ ∅ ∅,∅,wV ∅,by show 3<=sizeLine;decide,λX b8=>⟨by show 3<=sizeLine;decide,λr b2=>?_⟩⟩;have a5:=Same.new (o:=.lst [V.int 0,.int 0,.int (1-2*(c.fdiv 12).fmod 2)]) b8;have a6:(upd Y X (.lst [.int 0,.int 0,.int (1-2*(c.fdiv 12).fmod 2)])) X=some (.lst ([0,0,1-2*(c.fdiv 12).fmod 2].map V.int)):=oS;generalize upd Y X (.lst [.int 0,.int 0,.int (1-2*(c.fdiv 12).fmod 2)])=c8 at a5 a6 b2 ⊢;have c2:=Wa (H:=o) (H1:=O) (H2:=Y) (H3:=c8) G b4 b1 (J.trans b0) (kI J c0) a2 a5 b8 a6 b2 rfl;refine b9 r _ _ (c2.into (M.s.trans x)) ?_;exact Xy U (z:=1-2*(c.fdiv 12).fmod 2) ⋯
   ext;refine⟨dvs _ _ ∅ ∅,∅,ite2 (λ_=>?_) (λ_=>nx _ _ _ C i)⟩;refine⟨by show 2<=sizeLine;decide,λe l=>⟨by show 2<=sizeLine;decide,λu n=>⟨by show 2<=sizeLine;decide,λq m=>?_⟩⟩⟩;have Z:=Di (r1:=[0,1]) (r2:=[1,0]) l rfl n rfl m rfl;generalize hH3:upd (upd (upd H2 e (.lst [.int 0,.int 1])) u (.lst [.int 1,.int 0])) q (.lst [.ref e,.ref u])=H3;have l1:Rw H2 H3 q [[0,1],[1,0]]:=hH3 ▸ Z;have mg:[[0,1],[1,0]]∈pgL 1:=g.gen _ ∅;have f:=C.up l1.s;exact⟨false,false,false,false,q,r,_,_,2,rfl,l1.m.l.b,f.m.l.b,g.sq _ mg,g.sq _ i,.inl rfl,aY ∅ mg,aY ∅ i,λa7 o W=>nx _ _ _ (W.into f.s) (g.mul _ mg _ i)⟩
def dW(d x:Nat)(s:Int):LI':=(List.range d).map λj=>s*(if j=x then 1 else 0)
def sgR(d:Nat):List (Nat×Int)->List Nat->LM
 |[],_=>[]
 |(c,s):: r,l=>dW d (l.getD c 0) s:: sgR d r (l.eraseIdx c)
def sgL:List (Nat×Int)->List Nat->List Nat
 |[],l=>l
 |(c,_):: r,l=>sgL r (l.eraseIdx c)
theorem Kf{d:Nat}{x:Nat×Int}:∀{r:List (Nat×Int)}{l:List Nat},sgR d (r++[x]) l=sgR d r l++[dW d ((sgL r l).getD x.1 0) x.2]/\sgL (r++[x]) l=(sgL r l).eraseIdx x.1
 |[],_=>⟨rfl,rfl⟩
 |(c,s):: r,l=>by
  obtain⟨b,a⟩:=Kf (d:=d) (x:=x) (r:=r) (l:=l.eraseIdx c);exact⟨by show _:: sgR d (r++[x]) _=_;rw[b];rfl,a⟩
theorem Ke{d:Nat}:∀{r:List (Nat×Int)}{l:List Nat},(sgR d r l).length=r.length
 |[],_=>rfl
 |(c,s):: r,l=>by show(sgR d r _).length+1=_;rw[Ke];rfl
def Chs:Nat->List (Nat×Int)->Prop
 |_,[]=>True
 |m,(c,s):: r=>c<m/\(s=1\/s=-1)/\Chs (m-1) r
theorem Kd{x:Nat×Int}:∀{r:List (Nat×Int)}{m:Nat},Chs m r->x.1<m-r.length->(x.2=1\/x.2=-1)->Chs m (r++[x])
 |[],m,_,e,d=>⟨by simpa using e,d,trivial⟩
 |(c,s):: r,m,⟨a,b,k⟩,e,d=>⟨a,b,Kd k (by rw[zY]at e;omega) d⟩
theorem Kc:∀{r:List (Nat×Int)}{l:List Nat},Chs l.length r->r.length<=l.length->(sgL r l).length=l.length-r.length
 |[],_,_,_=>rfl
 |(c,s):: r,l,⟨a,_,k⟩,h=>by
  have e:(l.eraseIdx c).length=l.length-1:=List.length_eraseIdx_of_lt a;rw[zY]at h ⊢;show(sgL r (l.eraseIdx c)).length=_;rw[Kc (by rw[e];exact k) (by rw[e];omega),e];omega
def allC:Nat->Nat->List (List (Nat×Int))
 |0,_=>[[]]
 |n+1,m=>(List.range m).flatMap λc=>[1,-1].flatMap λs=>(allC n (m-1)).map λr=>(c,s):: r
theorem Dg:∀{n m:Nat}{r:List (Nat×Int)},Chs m r->r.length=n->r∈allC n m
 |0,_,[],_,_=>.head _
 |n+1,m,(c,s):: r,⟨a,b,k⟩,h=>List.mem_flatMap.mpr ⟨c,oG.mpr a,List.mem_flatMap.mpr ⟨s,by rcases b with rfl|rfl <;> decide,oA.mpr ⟨r,Dg k (by simpa using h),rfl⟩⟩⟩
theorem Xx:(allC 2 2).all (λr=>(pgL 0).contains (sgR 2 r (List.range 2)))=true:=nofun
theorem Xw:(allC 3 3).all (λr=>(pgL 2).contains (sgR 3 r (List.range 3)))=true:=nofun
theorem Xv{d:Nat}(a:d=2\/d=3){r:List (Nat×Int)}(h:Chs d r)(hl:r.length=d):sgR d r (List.range d)∈pgL (if d=2 then 0 else 2):=by
 rcases a with rfl|rfl
 ·exact sV.mp (vI.mp Xx r (Dg h hl))
 ·exact sV.mp (vI.mp Xw r (Dg h hl))
theorem ok_g(T:Txt K mg t):FnOk P w K mg base CX0 2 t.a_g t.d_g pm' sp_g:=by
 apply T.F_g.ok sc_g
 ·obtain⟨c,d,rfl,b1,c8⟩:=h;refine⟨_,(oQ (oW (i:=2) sc_g.nd rfl (Or.inl rfl) (Qp rfl rfl T.z_list rfl T.z_range (oM (pq 1) oN)))
   (oQ (oW (i:=3) sc_g.nd rfl (Or.inl rfl) (nS oN))
   (oQ (lE yR rfl (mT rfl T.z_range (oM (pq 1) oN)) (mD (i:=4) sc_g.nd rfl (Or.inl rfl))
   (oQ (oW (i:=5) sc_g.nd rfl (Or.inr rfl) (jH yZ PySem.F.slot_list_pop PySem.F.type_list_pop Op (pq 2) (oM (oP nP (pq 0) (mO T.z_len (pq 2))) oN)))
   (oQ (kC (jH yZ xE xF jI (pq 3) (oM (mK (sc:=oU aI) (N:=N_g) (fr:=[("_law_cell",0),("_law_at",5)]) (te:=(tOp (rI (λi j=>IntMulOk i j) λi j=>.int (i*j)) (tOp (rI0 λi j=>.int (i-j)) (tC (.int 1)) (tOp (rI (λi j=>IntMulOk i j) λi j=>.int (i*j)) (tC (.int 2)) (tOp (rI (λ_ j=>j≠0) λi j=>.int (i.fmod j)) (tOp (rI jJ λi j=>.int (i.fdiv j)) (tVar 1) (tC (.int 6))) (tC (.int 2))))) (tCB (λxs H Q=>(∃i,xs=[.int i]/\Q (.int i) H)\/∃k,xs=[.bl k]/\Q (.int (if k then 1 else 0)) H) (nO (tOp (rI0 λi j=>.bl (decide (i=j))) (tVar 0) (tVar 2)) tNil)))) rfl rfl (nofun) rfl (nofun) (mT rfl T.z_range (oM (pq 1) oN)) (λ_ _ _ d1=>(oP mG (oP lV oO (oP mG oO (oP nP (oP mB (pv 1) oO) oO))) (lF Ek rfl T.z_int (nofun) (oM (iR mZ (pv 0) (pv 2) (nH _)) oN))))) oN)))
   (oR (oW (i:=0) sc_g.nd rfl (Or.inr rfl) (oP mB (pq 0) oO))))))
   (oR (oZ (pq 3)))))),?_⟩
  show tSeq _ _ _ [some (.int c),some (.int d),none,none,none,none] H;right;refine⟨d,rfl,⋯,λl hl=>?_⟩;have D:Same H (upd H l (.lst ((List.range d).map λ(i:Nat)=>V.int (i:Int)))):=Same.new hl;have v:(upd H l (.lst ((List.range d).map λ(i:Nat)=>V.int (i:Int)))) l=some (.lst ((List.range d).map λ(i:Nat)=>V.int (i:Int))):=oS;show N1 _ (upd H l (.lst ((List.range d).map λ(i:Nat)=>V.int (i:Int))));generalize upd H l (.lst ((List.range d).map λ(i:Nat)=>V.int (i:Int)))=H1 at D v ⊢;left;refine⟨yA _,λm F=>?_⟩;have a4:Same H1 (upd H1 m (.lst [])):=Same.new F;have b0:(upd H1 m (.lst [])) m=some (.lst []):=oS;have a6:l≠m:=λz=>by rw[z,F]at v;cases v
  generalize upd H1 m (.lst [])=H2 at a4 b0;subst e1;refine st λN1 e1=>lG λB eB=>?_;simp only[mF];ext;refine⟨⋯,⋯,?_⟩;rw[zS];refine gJ (g:=nB 4) (tb:=B) (λi U H3=>∃(x:Int)(r:List (Nat×Int))(X C:Option V),U=[some (.int x),some (.int d),some (.ref l),some (.ref m),X,C]/\(∀b o,b≠l->H1 b=some o->H3 b=some o)/\H3 l=some (.lst ((sgL r (List.range d)).map λ(i:Nat)=>V.int (i:Int)))/\MatD H1 H3 m (sgR d r (List.range d))/\Chs d r/\r.length=i) ⟨c,[],none,none,rfl,λb o _ e=>a4 _ _ e,a4 _ _ v,MatD.nil b0,trivial,rfl⟩ ?_ ?_
  ·rintro i U H3 hi ⟨x,r,X,C,rfl,k3,G,S,M,rfl⟩;have b6:(sgL r (List.range d)).length=d-r.length:=by
    have:=Kc (r:=r) (l:=List.range d) (by rw[uP];exact M) (by rw[uP];omega);rw[uP]at this;exact this
   generalize hL:sgL r (List.range d)=L at*;subst eB;show tSeq _ _ _ [some (.int x),some (.int d),some (.ref l),some (.ref m),some (.int (0+(r.length:Int))),C] H3;refine st λc2 O=>?_;ext;refine⟨.inl ⟨rfl,_,SqL.of G⟩,?_⟩;refine⟨false,l,_,rfl,SqB.lst G,?_⟩;ext;rw[zqe,b6];have c6:(0:Int)<((d-r.length:Nat):Int):=⋯
   have c4:=fms x ((d-r.length:Nat):Int) c6;obtain⟨f,d0⟩:∃f:Nat,x.fmod ((d-r.length:Nat):Int)=f:=⟨_,(Int.toNat_of_nonneg c4.1).symm⟩;have b3:f<L.length:=⋯
   refine⟨⋯,l,_,_,f,.int ((L.getD f 0:Nat):Int),rfl,rfl,G,⋯,⋯,?_,?_,?_⟩
   ·rw[d0,pF ⋯ (by rw[zqe];omega)];rfl
   ·rw[zO,zqc,zqd b3];rfl
   have c7:(L.map λ(i:Nat)=>V.int (i:Int)).eraseIdx f=(L.eraseIdx f).map λ(i:Nat)=>V.int (i:Int):=Ip _ _ _;rw[c7];have u:∀b,b≠l->upd H3 l (.lst ((L.eraseIdx f).map λ(i:Nat)=>V.int (i:Int))) b=H3 b:=λb N=>oV N;have a5:upd H3 l (.lst ((L.eraseIdx f).map λ(i:Nat)=>V.int (i:Int))) l=some (.lst ((L.eraseIdx f).map λ(i:Nat)=>V.int (i:Int))):=oS;generalize upd H3 l (.lst ((L.eraseIdx f).map λ(i:Nat)=>V.int (i:Int)))=a7 at u a5;have a8:MatD H1 a7 m (sgR d r (List.range d)):=by
    obtain⟨ps,R,Z,Y,a3⟩:=S;refine⟨ps,by rw[u m (zZ a6)];exact R,Z,Y,λj p q a b=>?_⟩;obtain⟨a0,n,W⟩:=a3 j p q a b;exact⟨a0,n,by rw[u p (λz=>by rw[z,v]at n;cases n)];exact W⟩
   subst O;refine st λc2 O=>?_;ext;obtain⟨d4,c3⟩:∃zs,a7 m=some (.lst zs):=let ⟨ps,h,_⟩:=a8;⟨_,h⟩
   refine⟨.inl ⟨rfl,_,SqL.of c3⟩,?_⟩;refine nW λB eB=>?_;simp only[mF];ext;refine⟨⋯,⋯,λI g=>?_⟩;rw[zS];have d2:=fms (x.fdiv 6) 2 ∅;refine kM (λj y _=>j<d/\y=.int ((1-2*(x.fdiv 6).fmod 2)*(if j=L.getD f 0 then 1 else 0))) g ⋯ (λ_ _ _ _ r _=>r) ?_ ?_
   ·intro j a9 zs a1 J d3 b9 c9;subst eB;show tOp _ _ _ [some (.int (0+(j:Int))),some (.int x),some (.int ((L.getD f 0:Nat):Int))] a9 b9;ext;refine⟨dvs _ _ ∅ ∅,∅,wV ∅,.inr ⟨(show CMul _ _ from .inl ⟨⋯,⋯⟩).ok,c9 _ _ (Same.refl _) ⟨a1,?_⟩⟩⟩
    by_cases z:j=L.getD f 0
    ·rw[zF z,zL ⋯];rfl
    ·rw[zD z,zK ⋯];rfl
   ·intro a9 ys J c0 b4 b7;have c5:ys=(dW d (L.getD f 0) (1-2*(x.fdiv 6).fmod 2)).map V.int:=by
     refine lH (by simpa [dW]using b4) λj y e=>?_;obtain⟨a1,rfl⟩:=b7 j y e;exact⟨_,by unfold dW;rw[zO,xA a1];rfl,rfl⟩
    subst c5;obtain⟨zs,b5,b2,c1⟩:=MatD.app a8 J g (by
     cases q:H1 I with
     |none=>rfl
     |some o =>
      by_cases z:I=l
      ·rw[z,a5]at g;cases g
      ·rw[u I z,k3 I o z q]at g;cases g) c0
    refine⟨m,zs,_,rfl,rfl,b5,iU (by rw[b2,Ke];omega),?_⟩;subst O;ext;have a2:=Kf (d:=d) (x:=(f,1-2*(x.fdiv 6).fmod 2)) (r:=r) (l:=List.range d);rw[hL]at a2;refine⟨dvs _ _ ∅ ∅,λb o N e=>?_,r++[(f,1-2*(x.fdiv 6).fmod 2)],?_,?_,Kd M (by show f<d-r.length;omega) (by show(1-2*(x.fdiv 6).fmod 2)=1\/_=-1;omega),by simp⟩
    ·have bm:b≠m:=λz=>by rw[z,F]at e;cases e
     rw[oV bm];exact J _ _ (by rw[u b N];exact k3 b o N e)
    ·rw[oV a6,a2.2];exact J _ _ a5
    ·rw[a2.1];exact c1
  ·rintro U H3 ⟨x,r,X,C,rfl,k3,G,S,M,b8⟩;symm;refine c8 m H3 _ ⟨λb o e=>k3 b o (λz=>by rw[z,hl]at e;cases e) (D _ _ e),kI D F,?_⟩ (Xv b1 M b8);obtain⟨ps,R,Z,Y,a3⟩:=S;exact⟨ps,R,Z,Y,λj p q a b=>let ⟨a0,n,W⟩:=a3 j p q a b;⟨a0,kI D n,W⟩⟩
theorem Df{n k:Nat}(h:k<n):ixN n (k:Int)=some k:=by
 unfold ixN;rw[zF ⋯,zF ⋯];simp
theorem fX{c:Int}{d:Nat}(h:0<d):∃n:Nat,c.fmod d=n/\n<d:=by
 have:=fms c d ⋯;exact⟨(c.fmod d).toNat,⋯,⋯⟩
theorem Kb{d:Nat}(e:d=2\/d=3)(c:Int):(jY d c).Ok d:=by
 have e1:((d:Int)-1)=((d-1:Nat):Int):=⋯
 obtain⟨i,b,hi⟩:=fX (c:=c.fdiv 4) (d:=d) ⋯;obtain⟨q,f,j⟩:=fX (c:=c.fdiv 12) (d:=d-1) ⋯;have a:((c.fdiv 4).fmod d+1+(c.fdiv 12).fmod ((d:Int)-1)).fmod d=((i+1+q)%d:Nat):=by
  rw[e1,b,f];have:(i:Int)+1+q=((i+1+q:Nat):Int):=⋯
  rw[this,wB _ ⋯];omega
 refine⟨?_,?_,?_,?_⟩
 ·show((c.fdiv 4).fmod d).toNat<d;omega
 ·show(((c.fdiv 4).fmod d+1+(c.fdiv 12).fmod ((d:Int)-1)).fmod d).toNat<d;rw[a,zS];exact Nat.mod_lt _ ⋯
 ·show((c.fdiv 4).fmod d).toNat≠(((c.fdiv 4).fmod d+1+(c.fdiv 12).fmod ((d:Int)-1)).fmod d).toNat;rw[a,zS,b,zS];rcases e with rfl|rfl <;> omega
 ·show(if(c.fdiv 3).fmod 4=1 then(c.fdiv 24).fmod (2*10^6+1)-10^6 else(c.fdiv 24+2).fmod 5-2:Int).natAbs<=1000000;have g:=fms (c.fdiv 24) (2*10^6+1) ∅;have k:=fms (c.fdiv 24+2) 5 ∅;split <;> omega
theorem fY{d:Nat}(b:d=2\/d=3){c:Int}:∀n,(∀s∈stps d n c,s.Ok d)/\(stps d n c).length=n
 |0=>⟨λ_ h=>(by cases h),rfl⟩
 |n+1=>by
  obtain⟨f,e⟩:=fY b (c:=c) n;refine⟨λs a=>?_,by show(stps d n c).length+1=_;rw[e]⟩;rcases xC.mp a with rfl|a
  ·exact Kb b _
  ·exact f s a
def colU(d i j:Nat)(m:Int)(R:LM)(u:Nat):LM:=(R.take u).map (colR d i j m)++R.drop u
theorem Xu{d i j:Nat}{m:Int}{r:LI'}(hl:r.length=d)(b:j<d):r.set j (r.getD j 0-m*r.getD i 0)=colR d i j m r:=by
 unfold colR
 conv=>lhs;rw[fV (z:=(0:Int)) hl]
 rw[Dr];refine kX λk a=>?_
 by_cases h:k=j
 ·subst h;rw[zF rfl,zF rfl,dQ a,pH]
  by_cases hi:i<d
  ·rw[dQ hi]
  ·congr 1;rw[zqc,vN (by simp;omega),zqc,vN ⋯]
 ·rw[zD h,zD h,uJ,uJ,Int.sub_zero]
theorem Xt{d i j u:Nat}{m:Int}{R:LM}{r:LI'}(e:R[u]?=some r):(colU d i j m R u)[u]?=some r/\(colU d i j m R u).set u (colR d i j m r)=colU d i j m R (u+1):=by
 have b:=(zqa e).1;have a:((R.take u).map (colR d i j m)).length=u:=by rw[zqe,yN];omega
 unfold colU;refine⟨?_,?_⟩
 ·rw[zW ⋯,a,vK,uL,tV];exact e
 ·rw[List.set_append,zD ⋯,a,vK,xN,e,xB,yG,vV b];rfl
theorem Ka{d i:Nat}{A:LM}{r:LI'}(a:Sq d A)(hr:r.length=d):Sq d (A.set i r):=⟨by rw[List.length_set];exact a.1,λz b=>by
 rcases vU b with h|h
 ·exact a.2 z h
 ·rw[h];exact hr⟩
theorem Lz{x:Addr}:∀{l:LA}{i:Nat},l.Nodup->x∉l->(l.set i x).Nodup
 |[],_,_,_=>by simp
 |a:: l,0,nd,h=>tO.mpr ⟨λq=>h (.tail _ q),(tO.mp nd).2⟩
 |a:: l,i+1,nd,h=>by
  have b:=tO.mp nd;refine tO.mpr ⟨λq=>?_,Lz b.2 λq=>h (.tail _ q)⟩;rcases vU q with q|q
  ·exact b.1 q
  ·exact h (q ▸ .head _)
theorem MatD.put{d H H1:Hp}{a l:Addr}{M:LM}{r:LI'}{i:Nat}(h:MatD d H a M)(s:Same H H1)(hl:H l=none)(u:d l=none)(e:H1 l=some (.lst (r.map V.int))):∃zs,H1 a=some (.lst zs)/\zs.length=M.length/\MatD d (upd H1 a (.lst (zs.set i (.ref l)))) a (M.set i r):=by
 obtain⟨ps,m,f,D,n⟩:=h;have g:l≠a:=λz=>by rw[z,m]at hl;cases hl
 have F:l∉ps:=λv=>by
  obtain⟨j,c,C⟩:=wP v;rw[(n j l M[j] (by simp[c,C]) (by simp[show j<M.length by omega])).2.2]at hl;cases hl
 refine⟨ps.map V.ref,s _ _ m,by rw[zqe,f],ps.set i l,by rw[oS,List.map_set],by simp[f],?_,λj p q e1 b=>?_⟩
 ·exact Lz D F
 ·by_cases c:j=i
  ·subst c;have o:j<ps.length:=by have:=(zqa e1).1;simpa using this
   rw[xV o]at e1;rw[xV ⋯]at b;cases e1;cases b;exact⟨g,u,by rw[oV g];exact e⟩
  ·rw[vX (zZ c)]at e1 b;obtain⟨k,y,x⟩:=n j p q e1 b;exact⟨k,y,by rw[oV k];exact s _ _ x⟩
theorem ok_h(T:Txt K mg t):FnOk P w K mg base CX0 2 t.a_h t.d_h pg' sp_h:=by
 apply T.F_h.ok sc_h
 ·obtain⟨a,c,d,R,a6,rfl,v,b6,b3,d2⟩:=h;refine⟨_,(oQ (oW (i:=2) sc_h.nd rfl (Or.inl rfl) (mO T.z_len (pq 0)))
   (oQ (lE yR rfl (mT rfl T.z_range (oM (oP nP (pq 1) oO) oN)) (mD (i:=3) sc_h.nd rfl (Or.inl rfl))
   (oQ (oW (i:=4) sc_h.nd rfl (Or.inr rfl) (oP nP (oP mB (pq 1) oO) (pq 2)))
   (oQ (oW (i:=5) sc_h.nd rfl (Or.inr rfl) (oP nP (oP mC (oP mC (pq 4) oO) (oP nP (oP mB (pq 1) oO) (oP lV (pq 2) oO))) (pq 2)))
   (oQ (oW (i:=6) sc_h.nd rfl (Or.inr rfl) (oP lV (oP nP (oP mC (oP mB (pq 1) oO) oO) oO) oO))
   (oQ (nK (nI mZ (oP nP (oP mB (pq 1) oO) oO) oO (nH _))
   (oR (oW (i:=6) sc_h.nd rfl (Or.inr rfl) (oP lV (oP nP (oP mB (pq 1) oO) (oP mC (oP mG oO (oP Au oO oO)) oO)) (oP Au oO oO))))
   nJ)
   (oQ (gG (mK (sc:=oU aK) (N:=N_h) (fr:=[("_law_rows_here",0),("_law_i",4),("_law_j",5),("_law_by",6)]) (te:=(tOp (rI0 λi j=>.int (i+j)) (tOp (rIxB K) (tOp (rIxB K) (tVar 1) (tVar 2)) (tVar 0)) (tOp (rI (λi j=>IntMulOk i j) λi j=>.int (i*j)) (tVar 4) (tOp (rIxB K) (tOp (rIxB K) (tVar 1) (tVar 3)) (tVar 0))))) rfl rfl (nofun) rfl (nofun) (mT rfl T.z_range (oM (pq 2) oN)) (λ_ _ _ f3=>(oP mC (nV ix_B (nV ix_B (pv 1) (pv 2) (λ_ _=>rfl)) (pv 0) (λ_ _=>rfl)) (oP mG (pv 4) (nV ix_B (nV ix_B (pv 1) (pv 3) (λ_ _=>rfl)) (pv 0) (λ_ _=>rfl)))))) (eE (pq 0) (pq 4) An))
   (oQ (lE yR rfl (mI (pq 0)) (mD (i:=7) sc_h.nd rfl (Or.inl rfl))
   (oR (gG (oP lV (nV ix_B (pq 7) (pq 5) (λ_ _=>rfl)) (oP mG (pq 6) (nV ix_B (pq 7) (pq 4) (λ_ _=>rfl)))) (eE (pq 7) (pq 5) An))))
   (oR (oW (i:=1) sc_h.nd rfl (Or.inl rfl) (oP mC (oP mB (pq 1) oO) oO))))))))))
   (oR (oZ (pq 0))))),?_⟩
  show tSeq _ _ _ [some (.ref a),some (.int c),none,none,none,none,none,none] H;have a5:=b6.1;right;refine gK (b1:=false) (b2:=false) b3.m.l.b ?_
  try ext
  rw[a5.1];subst e1;refine st λN1 e1=>lG λB eB=>?_;simp only[mF];ext;have e3:=fms c 4 ∅;refine⟨∅,⋯,⋯,?_⟩;refine gJ (g:=nB 3) (tb:=B) (λn o H2=>∃v3 S X N l,o=[some (.ref a),some (.int (gS n c)),some (.int (d)),v3,S,X,N,l]/\Rw a6 H2 a (cjM (d) (chP (d) (stps (d) n c)) (chQ (d) (stps (d) n c)) R)) ⟨none,none,none,none,none,rfl,by rw[show stps (d) 0 c=[] from rfl,(Ve v a5 (v:=List.replicate (d) 0) (by simp)).1];exact b3⟩ ?_ ?_
  ·rintro n o H2 f6 ⟨v3,S,X,N,l,rfl,k⟩;obtain⟨ok,e9⟩:=fY v (c:=c) n;generalize hx:gS n c=x;have a8:=Kb v x;have e5:n<=3:=⋯
   have D:=gD (kY v ok) R;have W:nZ 145 (cjM (d) (chP (d) (stps (d) n c)) (chQ (d) (stps (d) n c)) R):=λr hr z F=>wF (Dk (F:=⟨d,stps d n c,1⟩) ⟨v,ok,by show(stps _ n c).length<=3;omega,by show(0:Int)<1;decide,by show(1:Int)<2^100;decide⟩ b6.2 r hr z F) ∅;have nx:=Vf v ok a8 a5;have J:gS (n+1) c=x.fdiv 5+1:=by show(gS n c).fdiv 5+1=_;rw[hx]
   have es:stps (d) (n+1) c=jY (d) x:: stps (d) n c:=by show jY _ (gS n c):: _=_;rw[hx]
   rw[J,es,←nx];generalize cjM (d) (chP (d) (stps (d) n c)) (chQ (d) (stps (d) n c)) R=b at*
   subst eB;show tSeq _ _ _ [some (.ref a),some (.int x),some (.int d),some (.int (0+(n:Int))),S,X,N,l] H2;obtain⟨hi,f4,f2,e4⟩:=a8;have a9:(x.fdiv 4).fmod d=((jY d x).i:Int):=by
    have:=fms (x.fdiv 4) d ⋯;show _=((((x.fdiv 4).fmod d).toNat:Nat):Int);omega
   have b5:((x.fdiv 4).fmod d+1+(x.fdiv 12).fmod ((d:Int)-1)).fmod d=((jY d x).j:Int):=by
    have:=fms ((x.fdiv 4).fmod d+1+(x.fdiv 12).fmod ((d:Int)-1)) d ⋯;show _=(((((x.fdiv 4).fmod d+1+(x.fdiv 12).fmod ((d:Int)-1)).fmod d).toNat:Nat):Int);omega
   have U:(jY d x).m=if(x.fdiv 3).fmod 4=1 then(x.fdiv 24).fmod (2*10^6+1)-10^6 else(x.fdiv 24+2).fmod 5-2:=rfl
   generalize (jY d x).i=i at*;generalize (jY d x).j=j at*
   generalize (jY d x).m=f at*;refine st λq g=>?_;ext;refine⟨dvs _ _ ∅ ∅,⋯,?_⟩;rw[a9];subst g;refine st λq g=>?_;ext;rw[a9]at b5;refine⟨dvs _ _ ∅ ∅,⋯,⋯,?_⟩;rw[b5];subst g;refine st λq g=>?_;ext;refine⟨dvs _ _ ∅ ∅,∅,?_⟩;subst g;refine st λq g=>?_;have Y:q [some (.ref a),some (.int x),some (.int d),some (.int (0+(n:Int))),some (.int i),some (.int j),some (.int f),l] H2:=by
    subst g;refine st λq g=>?_;simp only[tAsg,gSub,cS];refine nW λB eB=>?_;simp only[mF];ext;refine⟨⋯,⋯,λb8 a4=>?_⟩;rw[zS];have a0:b[i]?=some (b.getD i []):=by have:=D.1;simp[show i<b.length by omega]
    have Z:b[j]?=some (b.getD j []):=by have:=D.1;simp[show j<b.length by omega]
    have e8:=D.2 _ (zqb a0);have e6:=D.2 _ (zqb Z);have a1:f.natAbs<2^20:=by
     have:(2:Nat)^20=1048576:=∅
     omega
    refine kM (λu y _=>u<d/\y=.int ((b.getD i []).getD u 0+f*(b.getD j []).getD u 0)) a4 ⋯ (λ_ _ _ _ r _=>r) ?_ ?_
    ·intro u H3 zs m L f5 c4 d9;subst eB;show tOp _ _ _ [some (.int (0+(u:Int))),some (.ref a),some (.int i),some (.int j),some (.int f)] H3 c4;ext;refine iK (b1:=false) (b2:=false) (k.up L).m.l.b a0 (L2.getD_at (k:=u) ⋯) rfl ⋯ ?_;refine iK (b1:=false) (b2:=false) (k.up L).m.l.b Z (L2.getD_at (k:=u) ⋯) rfl ⋯ ?_;ext;exact⟨xQ (mE a1) (mE (W _ (zqb Z) _ (L2.getD_mem ⋯))) ∅,d9 _ _ (Same.refl _) ⟨m,rfl⟩⟩
    ·intro H3 ys L c9 c8 d1;have M:ys=(mixR d (b.getD i []) (b.getD j []) f).map V.int:=by
      refine lH (by simpa [mixR]using c8) λu y e=>?_;obtain⟨m,rfl⟩:=d1 u y e;exact⟨_,by unfold mixR;rw[zO,xA m];rfl,rfl⟩
     subst M;obtain⟨zs,d3,c6,d6⟩:=MatD.put (i:=i) k.m L a4 (kI k.s a4) c9
     try ext
     refine⟨_,d3,i,Df (by rw[c6,D.1];omega),?_⟩;have a2:Rw a6 (upd H3 a (.lst (zs.set i (.ref b8)))) a (b.set i (mixR d (b.getD i []) (b.getD j []) f)):=⟨Same.over k.n (k.s.trans L),k.n,d6⟩;generalize upd H3 a (.lst (zs.set i (.ref b8)))=c7 at a2;have d7:(mixR d (b.getD i []) (b.getD j []) f).length=d:=by simp[mixR]
     have I:=Ka (i:=i) D d7;have d8:nZ 170 (b.set i (mixR d (b.getD i []) (b.getD j []) f)):=λr hr z F=>by
      rcases vU hr with h|h
      ·exact zJ (W r h z F) (yV ∅ ∅)
      ·rw[h]at F;obtain⟨u,m,rfl⟩:=oA.mp F;have m:=oG.mp m;have b1:=W _ (zqb a0) _ (L2.getD_mem (k:=u) ⋯);have b2:=W _ (zqb Z) _ (L2.getD_mem (k:=u) ⋯);have e7:(f*(b.getD j []).getD u 0).natAbs<2^20*2^145:=by rw[xP];exact qR a1 b2
       have f0:=vS ((b.getD i []).getD u 0) (f*(b.getD j []).getD u 0);have f1:(2:Nat)^140+2^20*2^145<=2^170:=∅
       omega
     have c2:aV d i j f b=(b.set i (mixR d (b.getD i []) (b.getD j []) f)).map (colR d i j f):=rfl;generalize b.set i (mixR d (b.getD i []) (b.getD j []) f)=O at*
     obtain⟨zs,b9,c3⟩:∃zs,c7 a=some (.lst zs)/\zs.length=d:=by
      obtain⟨ps,h,hl,_⟩:=a2.m;exact⟨_,h,by rw[zqe,hl,I.1]⟩
     subst g;refine st λq g=>lG λB eB=>?_;simp only[iSeq];ext;refine⟨false,⟨_,SqB.lst b9⟩,?_⟩;refine iJ (g:=nB 7) (tb:=B) (λu o G=>∃l,o=[some (.ref a),some (.int x),some (.int d),some (.int (0+(n:Int))),some (.int i),some (.int j),some (.int f),l]/\Rw a6 G a (colU d i j f O u)/\G a=some (.lst zs)) ⟨_,rfl,by unfold colU;rw[pL];exact a2,b9⟩ (λ_ _ _ _⟨_,_,_,h⟩=>SqB.lst h) ?_ ?_
     ·rintro u y o G M ⟨l,rfl,C,J⟩;have m:u<d:=by have:=(zqa M).1;omega
      obtain⟨rt,a7⟩:∃rt,O[u]?=some rt:=⟨_,zqd (by rw[I.1];exact m)⟩;obtain⟨d5,d0⟩:=Xt (d:=d) (i:=i) (j:=j) (m:=f) a7;have c0:=I.2 _ (zqb a7);obtain⟨e2,p,b0,b7,e0,d4,c5,a3,c1⟩:=C.m.row d5;rw[J]at b0;cases b0;rw[M]at b7;cases b7;subst eB;show tAsg _ _ _ [some (.ref a),some (.int x),some (.int d),some (.int (0+(n:Int))),some (.int i),some (.int j),some (.int f),some (.ref p)] G;simp only[tAsg,gSub,cS];ext;refine⟨false,p,_,_,_,rfl,rfl,SqB.lst a3,lZ (iI (getD_at (k:=j) ⋯)) rfl,false,p,_,_,_,rfl,rfl,SqB.lst a3,lZ (iI (getD_at (k:=i) ⋯)) rfl,?_⟩;ext;refine⟨xQ (mE a1) (mE (d8 rt (zqb a7) _ (L2.getD_mem ⋯))) ∅,?_⟩;refine⟨_,a3,j,Df (by rw[zqe];omega),?_⟩;have b4:=c1 (colR d i j f rt);rw[d0]at b4;have e:(rt.map V.int).set j (.int (rt.getD j 0-f*rt.getD i 0))=(colR d i j f rt).map V.int:=by rw[←Xu c0 ⋯,List.map_set]
      rw[e];refine⟨⟨Same.over c5 C.s,C.n,b4⟩,?_⟩;rw[oV (zZ d4)];exact J
     ·rintro o G ⟨l,rfl,C,J⟩;rw[c3]at C;subst g;ext;refine⟨dvs _ _ ∅ ∅,?_⟩;have e:colU d i j f O d=O.map (colR d i j f):=by
       unfold colU;rw[yT (by rw[I.1];exact zE _),List.drop_of_length_le (by rw[I.1];exact zE _),wO]
      rw[c2,←e];exact C
   ext;refine⟨dvs _ _ ∅ ∅,∅,ite2 (λz=>?_) (λz=>?_)⟩
   ·rw[zF (wN z)]at U;refine⟨dvs _ _ ∅ ∅,⟨∅,∅,∅⟩,wV ∅,∅,⟨∅,∅,∅⟩,?_⟩;rw[U]at Y;exact Y
   ·rw[zD (by simpa using z)]at U;rw[U]at Y;exact Y
  ·rintro o H2 ⟨v3,S,X,N,l,rfl,k⟩;symm;exact d2 H2 k
theorem ok_f(T:Txt K mg t):FnOk P w K mg base CX0 1 t.a_f t.d_f pj' sp_f:=by
 apply T.F_f.ok sc_f
 ·obtain⟨a,b,rfl,k⟩:=h;refine⟨_,(oQ (oW (i:=0) sc_f.nd rfl (Or.inl rfl) (nQ gY rfl T.z_abs (nofun) (oM (pq 0) oN)))
   (oQ (oW (i:=1) sc_f.nd rfl (Or.inl rfl) (nQ gY rfl T.z_abs (nofun) (oM (pq 1) oN)))
   (oQ (Aw yR (nI cH (pq 1) oO (nH _))
   (oR (Mn (i:=0) (j:=1) rfl sc_f.nd rfl rfl ∅ rfl rfl (oM (pq 1) (oM (oP nP (pq 0) (pq 1)) oN)) rfl)))
   (oR (oZ (pq 0)))))),?_⟩
  show tSeq _ _ _ [some (.int a),some (.int b)] H;ext;refine⟨λm c H1=>∃g l,c=[some (.int g),some (.int l)]/\H1=H/\0<=g/\0<=l/\Int.gcd g l=Int.gcd a b/\m=l.toNat,
   ⟨_,_,_,rfl,rfl,aQ a,aQ b,Ii a b,rfl⟩,?_⟩
  rintro m c H1 ⟨g,l,rfl,rfl,f,hl,e,rfl⟩;ext
  by_cases z:0<l
  ·rw[zL z];refine iteT ⟨λd H'=>d=[some (.int l),some (.int (g.fmod l))]/\H'=H1,?_,⋯,rfl,rfl⟩;rintro d H' ⟨rfl,rfl⟩;have l1:=qB g z;have l2:=sG g z;exact⟨(g.fmod l).toNat,⋯,_,_,rfl,rfl,hl,l2,by rw[Ij];exact e,rfl⟩
  ·rw[zK z];refine iteF ?_;rw[Ih e f ⋯];exact k
theorem Ly{u:Int}{ns:LI'}{i:Nat}{x:Int}(e:ns[i]?=some x):gcdI (gl u (ns.take i)) x=gl u (ns.take (i+1)):=by
 unfold gl;rw[xN,e,tZ];rfl
theorem Lx{u:Int}{ns:LI'}(a:0<u):gl u ns=cs u ns:=by
 unfold cs;rw[zD ⋯]
theorem Lw{u:Int}{ns:LI'}(b:0<u)(a:kH u)(x:Int):jJ x (cs u ns):=by
 have h:=fS ns (show u≠0 by omega);exact⟨h,Ig (Ie a ⋯ (jU (gl_u u ns))) h⟩
theorem ok_w(T:Txt K mg t):FnOk P w K mg base CX0 2 t.a_w t.d_w pc' (sp_w K):=by
 have a1:=@ok_f P w K mg base t T;apply T.F_w.ok sc_w
 ·obtain⟨b1,b2,D,a,l,M,ns,u,rfl,p,c,a9,a8,m,a0,a5⟩:=h;refine⟨_,(oQ (oW (i:=3) sc_w.nd rfl (Or.inr rfl) (pq 2))
   (oQ (lE yR rfl (mI (pq 1)) (mD (i:=4) sc_w.nd rfl (Or.inl rfl))
   (oR (oW (i:=3) sc_w.nd rfl (Or.inr rfl) (nD a1 hr.mo T.F_f (oM (pq 3) (oM (pq 4) oN))))))
   (oR (oZ (kD (oM (lF jM rfl T.z_tuple (nofun) (oM (mK (sc:=oU dF) (N:=N_w) (fr:=[]) (te:=(tCB (fF K) (nO (tVar 0) tNil))) rfl rfl (nofun) rfl (nofun) (mI (pq 0)) (λ_ _ _ J=>(lF jM rfl T.z_tuple (nofun) (oM (pv 0) oN)))) oN)) (oM (lF jM rfl T.z_tuple (nofun) (oM (mK (sc:=oU dF) (N:=N_w) (fr:=[("_law_by",3)]) (te:=(tOp (rI jJ λi j=>.int (i.fdiv j)) (tVar 0) (tVar 1))) rfl rfl (nofun) rfl (nofun) (mI (pq 1)) (λ_ _ _ J=>(oP mB (pv 0) (pv 1)))) oN)) (oM (oP mB (pq 2) (pq 3)) oN)))))))),?_⟩
  show tSeq _ _ _ [some (.ref a),some (.ref l),some (.int u),none,none] H;right;subst e1;refine st λN1 e1=>lG λB eB=>?_;simp only[iSeq];ext;refine⟨D,⟨_,c⟩,?_⟩;refine iJ (g:=nB 4) (tb:=B) (λi f H2=>∃v,f=[some (.ref a),some (.ref l),some (.int u),some (.int (gl u (ns.take i))),v]/\H2=H) ⟨none,by rw[pL];show _=[_,_,_,some (V.int (absI u)),_];unfold absI;rw[zD ⋯],rfl⟩ (λ_ _ _ _⟨_,_,e⟩=>e ▸ c) ?_ ?_
  ·rintro i y f H2 k ⟨v,rfl,rfl⟩;obtain⟨x,I,rfl⟩:=jE k;subst eB;show tAsg _ _ _ [some (.ref a),some (.ref l),some (.int u),some (.int (gl u (ns.take i))),some (.int x)] H2;ext;refine⟨_,_,rfl,?_⟩;rw[Ly I];exact⟨rfl,rfl⟩
  ·rintro f H2 ⟨v,rfl,rfl⟩;rw[zqe,yT (zE _),Lx m];have z:=Lw (ns:=ns) m a0;symm;exfalso;obtain⟨xs,U,_⟩:=p.walk;refine⟨b1,⟨_,U⟩,λX N=>?_⟩;subst eB;refine Ce p ⋯ N λH3 zs G Y d=>?_;refine⟨X,_,rfl,.inl ⟨SqL.of Y,λl1 o=>?_⟩⟩;have b:Same H2 (upd H3 l1 (.tup zs)):=G.trans (Same.new o);replace d:=d l1 o;generalize upd H3 l1 (.tup zs)=a7 at b d;exfalso;refine⟨D,⟨_,c.up b⟩,λF O=>?_⟩;refine kG (λj y _=>∃n,ns[j]?=some n/\y=.int (n.fdiv (cs u ns))) O (c.up b) (by rw[zqe];omega) (λ_ _ _ _ r _=>r) ?_ ?_
   ·intro j y q b0 a3 _ _ W a6;obtain⟨n,a2,rfl⟩:=jE a3;subst eB;show tOp _ _ _ [some (.int n),some (.int (cs u ns))] q W;ext;exact⟨z n,a6 _ _ (Same.refl _) ⟨n,a2,rfl⟩⟩
   ·intro q ys a4 Z L S;have k:ys=(redT u ns).map V.int:=by
     unfold redT;rw[xR];exact lH (by simpa using L) S
    subst k;refine⟨F,_,rfl,.inl ⟨SqL.of Z,λl2 R=>?_⟩⟩;refine⟨z u,by show 3<=sizeLine;decide,λr g=>?_⟩;have C:=a4.trans (Same.new (o:=.tup ((redT u ns).map V.int)) R);exact a5 r _ ((b.trans C).trans (Same.new g)) ⟨l1,l2,oS,(d.up C).up (Same.new g),Same.new g _ _ oS⟩
theorem ok_t(T:Txt K mg t):FnOk P w K mg base CX0 2 t.a_t t.d_t pc' (sp_t K):=by
 have a3:=@ok_f P w K mg base t T;apply T.F_t.ok sc_t
 ·obtain⟨b1,b2,D,a,l,M,ns,u,rfl,p,c,b3,b0,m,a2,a7⟩:=h;refine⟨_,(oQ (oW (i:=3) sc_t.nd rfl (Or.inr rfl) (pq 2))
   (oQ (lE yR rfl (mI (pq 1)) (mD (i:=4) sc_t.nd rfl (Or.inl rfl))
   (oR (oW (i:=3) sc_t.nd rfl (Or.inr rfl) (nD a3 hr.mo T.F_f (oM (pq 3) (oM (pq 4) oN))))))
   (oQ (oW (i:=2) sc_t.nd rfl (Or.inr rfl) (oP mB (pq 2) (pq 3)))
   (oR (oZ (kD (oM (lF jM rfl T.z_tuple (nofun) (oM (mK (sc:=oU dH) (N:=N_t) (fr:=[]) (te:=(tCB (fF K) (nO (tVar 0) tNil))) rfl rfl (nofun) rfl (nofun) (mI (pq 0)) (λ_ _ _ L=>(lF jM rfl T.z_tuple (nofun) (oM (pv 0) oN)))) oN)) (oM (lF jM rfl T.z_tuple (nofun) (oM (mK (sc:=oU dH) (N:=N_t) (fr:=[("_law_under",2),("_law_by",3)]) (te:=(tOp (rI (λ_ j=>j≠0) λi j=>.int (i.fmod j)) (tOp (rI jJ λi j=>.int (i.fdiv j)) (tVar 0) (tVar 2)) (tVar 1))) rfl rfl (nofun) rfl (nofun) (mI (pq 1)) (λ_ _ _ L=>(oP nP (oP mB (pv 0) (pv 2)) (pv 1)))) oN)) (oM (pq 2) oN))))))))),?_⟩
  show tSeq _ _ _ [some (.ref a),some (.ref l),some (.int u),none,none] H;right;subst e1;refine st λN1 e1=>lG λB eB=>?_;simp only[iSeq];ext;refine⟨D,⟨_,c⟩,?_⟩;refine iJ (g:=nB 4) (tb:=B) (λi f H2=>∃v,f=[some (.ref a),some (.ref l),some (.int u),some (.int (gl u (ns.take i))),v]/\H2=H) ⟨none,by rw[pL];show _=[_,_,_,some (V.int (absI u)),_];unfold absI;rw[zD ⋯],rfl⟩ (λ_ _ _ _⟨_,_,e⟩=>e ▸ c) ?_ ?_
  ·rintro i y f H2 k ⟨v,rfl,rfl⟩;obtain⟨x,J,rfl⟩:=jE k;subst eB;show tAsg _ _ _ [some (.ref a),some (.ref l),some (.int u),some (.int (gl u (ns.take i))),some (.int x)] H2;ext;refine⟨_,_,rfl,?_⟩;rw[Ly J];exact⟨rfl,rfl⟩
  ·rintro f H2 ⟨v,rfl,rfl⟩;rw[zqe,yT (zE _),Lx m];have z:=Lw (ns:=ns) m a2;have up:0<redU u ns:=aP ns ⋯;subst e1;refine st λa1 F=>?_;ext;refine⟨z u,?_⟩;show a1 [some (.ref a),some (.ref l),some (.int (redU u ns)),some (.int (cs u ns)),v] H2;subst F;ext;exfalso;obtain⟨xs,W,_⟩:=p.walk;refine⟨b1,⟨_,W⟩,λY O=>?_⟩;subst eB;refine Ce p ⋯ O λH3 zs I Z d=>?_;refine⟨Y,_,rfl,.inl ⟨SqL.of Z,λl1 o=>?_⟩⟩;have b:Same H2 (upd H3 l1 (.tup zs)):=I.trans (Same.new o);replace d:=d l1 o;generalize upd H3 l1 (.tup zs)=a9 at b d;exfalso;refine⟨D,⟨_,c.up b⟩,λG R=>?_⟩;refine kG (λj y _=>∃n,ns[j]?=some n/\y=.int ((n.fdiv (cs u ns)).fmod (redU u ns))) R (c.up b) (by rw[zqe];omega) (λ_ _ _ _ r _=>r) ?_ ?_
   ·intro j y q b4 a5 _ _ X a8;obtain⟨n,a4,rfl⟩:=jE a5;subst eB;show tOp _ _ _ [some (.int n),some (.int (redU u ns)),some (.int (cs u ns))] q X;ext;exact⟨z n,⋯,a8 _ _ (Same.refl _) ⟨n,a4,rfl⟩⟩
   ·intro q ys a6 a0 N U;have k:ys=(mQ (redU u ns) (redT u ns)).map V.int:=by
     unfold mQ redT;rw[xR,xR];exact lH (by simpa using N) U
    subst k;refine⟨G,_,rfl,.inl ⟨SqL.of a0,λl2 S=>?_⟩⟩;refine⟨by show 3<=sizeLine;decide,λr g=>?_⟩;have C:=a6.trans (Same.new (o:=.tup ((mQ (redU u ns) (redT u ns)).map V.int)) S);exact a7 r _ ((b.trans C).trans (Same.new g)) ⟨l1,l2,oS,(d.up C).up (Same.new g),Same.new g _ _ oS⟩
theorem Xs{N:LM}{ns ts:LI'}{u v:Int}{i:Nat}{r:LI'}{n:Int}(e1:N[i]?=some r)(a:ns[i]?=some n):(movT N ns v ts u)[i]?=some (dotI r ts*v+n*u):=by
 unfold movT;rw[wE,e1,a]
theorem ok_e(T:Txt K mg t):FnOk P w K mg base CX0 4 t.a_e t.d_e pj' (sp_e K):=by
 have b7:=@ok_i P w K mg base t T;have b8:=@ok_t P w K mg base t T;apply T.F_e.ok sc_e
 ·obtain⟨p,q,x,y,d,rfl,G,D,b0,c7,F,d8,a5,b2,c0,a8,W,a4,ty,d5,d9,c8⟩:=h;refine⟨_,(oQ (oW (i:=2) sc_e.nd rfl (Or.inl rfl) (nD b7 hr.mo T.F_i (oM (nN (pq 1)) (oM (nN (pq 0)) oN))))
   (oQ (oW (i:=3) sc_e.nd rfl (Or.inl rfl) (nS oN))
   (oQ (lE yR rfl (mT rfl T.z_range (oM (mO T.z_len (pq 2)) oN)) (mD (i:=4) sc_e.nd rfl (Or.inr rfl))
   (oQ (oW (i:=5) sc_e.nd rfl (Or.inl rfl) (nQ (bB rfl) rfl T.z_sum (nofun) (oM (mK (sc:=oU aM) (N:=N_e) (fr:=[("_law_one",0),("_law_other",1),("_law_i",4)]) (te:=(tOp (rI (λi j=>IntMulOk i j) λi j=>.int (i*j)) (tOp (rIxB K) (tOp (rIxB K) (tOp (rIxB K) (tVar 2) (tC (.int 0))) (tVar 3)) (tVar 0)) (tOp (rIxB K) (tOp (rIxB K) (tVar 1) (tC (.int 1))) (tVar 0)))) rfl rfl (nofun) rfl (nofun) (mT rfl T.z_range (oM (mO T.z_len (pq 2)) oN)) (λ_ _ _ d3=>(oP mG (nV ix_B (nV ix_B (nN (pv 2)) (pv 3) (λ_ _=>rfl)) (pv 0) (λ_ _=>rfl)) (nV ix_B (nN (pv 1)) (pv 0) (λ_ _=>rfl))))) oN)))
   (oR (kC (jH yZ xE xF jI (pq 3) (oM (oP mC (oP mG (pq 5) (nN (pq 1))) (oP mG (nV ix_B (nN (pq 1)) (pq 4) (λ_ _=>rfl)) (nN (pq 0)))) oN))))))
   (oR (oZ (nD b8 hr.mo T.F_t (oM (pq 2) (oM (pq 3) (oM (oP mG (nN (pq 0)) (nN (pq 1))) oN))))))))),?_⟩
  show tSeq _ _ _ [some (.ref p),some (.ref q),none,none,none,none] H;right;refine hX D λr1 b1=>hX G λr2 c2=>?_;refine⟨true,true,true,true,r1,r2,_,_,d,rfl,b1,c2,F,c7,b0,W,a8,λm H1 a0=>?_⟩;have a1:=a0.s;have N:=a0.m;have M:Sq d (mulM d y.1 x.1):=F.mul;left;refine⟨yA _,λl hl=>?_⟩;have Z:Same H1 (upd H1 l (.lst [])):=Same.new hl;have a6:(upd H1 l (.lst [])) l=some (.lst (([]:LI').map V.int)):=oS;generalize upd H1 l (.lst [])=H2 at Z a6;have X:x.2.2.natAbs<2^1000:=by
   have:((2^1000:Nat):Int)=2^1000:=nofun
   omega
  have R:y.2.2.natAbs<2^1000:=by
   have:((2^1000:Nat):Int)=2^1000:=nofun
   omega
  subst e1;refine st λN1 e1=>lG λB eB=>?_;simp only[mF];ext;refine gK (b1:=false) (b2:=false) (N.up Z).l.b ?_
  try ext
  rw[M.1];refine⟨⋯,⋯,?_⟩;rw[zS];have c4:(movT y.1 y.2.1 y.2.2 x.2.1 x.2.2).length=d:=by unfold movT;rw[xW,F.1,a5,pV]
  refine gJ (g:=nB 4) (tb:=B) (λi O H3=>∃S I,O=[some (.ref p),some (.ref q),some (.ref m),some (.ref l),S,I]/\Same H1 H3/\H3 l=some (.lst (((movT y.1 y.2.1 y.2.2 x.2.1 x.2.2).take i).map V.int))) ⟨none,none,rfl,Z,a6⟩ ?_ ?_
  ·rintro i O H3 hi ⟨S,I,rfl,o,C⟩;obtain⟨r,u⟩:∃r,y.1[i]?=some r:=⟨_,zqd (by rw[F.1];exact hi)⟩;obtain⟨n,U⟩:∃n,y.2.1[i]?=some n:=⟨_,zqd (by rw[a5];exact hi)⟩;have c5:=F.2 _ (zqb u);have b:=a1.trans o;subst eB;show tSeq _ _ _ [some (.ref p),some (.ref q),some (.ref m),some (.ref l),some (.int (0+(i:Int))),I] H3;refine st λc3 a7=>?_;ext;refine nW λB eB=>?_;simp only[mF];ext;refine gK (b1:=false) (b2:=false) (N.up o).l.b ?_
   try ext
   rw[M.1];refine⟨⋯,⋯,λa9 b5=>?_⟩;rw[zS];refine kM (len:=d) (λk z _=>∃v,(List.zipWith (·*·) r x.2.1)[k]?=some v/\z=.int v) b5 ⋯ (λ_ _ _ _ r _=>r) ?_ ?_
   ·intro k c zs d7 a d6 b9 d0;obtain⟨g,L⟩:∃g,r[k]?=some g:=⟨_,zqd ⋯⟩;obtain⟨f,Y⟩:∃f,x.2.1[k]?=some f:=⟨_,zqd ⋯⟩;subst eB;show tOp _ _ _ [some (.int (0+(k:Int))),some (.ref p),some (.ref q),some (.int (0+(i:Int)))] c b9;ext;refine hX (D.up (b.trans a)) λd2 b6=>iK b6 u L ⋯ ⋯ ?_;refine dI (G.up (b.trans a)) λa2 b4=>⟨true,a2,_,_,_,rfl,rfl,(b4:SqB true K c a2 _),lZ (iI Y) ⋯,?_⟩;ext;refine⟨xQ (mE (W _ (zqb u) _ (zqb L))) (mE (a4 _ (zqb Y))) ∅,d0 _ _ (Same.refl _) ⟨_,?_,rfl⟩⟩;rw[wE,L,Y]
   ·intro c ys a d1 d4 J;have c6:ys=(List.zipWith (·*·) r x.2.1).map V.int:=by
     refine lH (by simp only[zqe,List.length_zipWith];omega) λk z e=>?_;obtain⟨v,c1,rfl⟩:=J k z e;exact⟨v,c1,rfl⟩
    subst c6;refine⟨a9,rfl,_,SqL.of d1,?_⟩;show c3 [some (.ref p),some (.ref q),some (.ref m),some (.ref l),some (.int (0+(i:Int))),some (.int (dotI r x.2.1))] c;have b3:(dotI r x.2.1).natAbs<2^2502:=by
     have:=aR r x.2.1 (W r (zqb u)) a4;rw[c5]at this;have e:(2:Nat)^2502=4*2^(1500+1000):=by rw[show 2502=1500+1000+2 by rfl,tK _ (1500+1000) 2,sW]
     have:=pC (1500+1000);omega
    subst a7;ext;refine⟨.inl ⟨rfl,_,SqL.of (a _ _ C)⟩,?_⟩;refine hZ (D.up (b.trans a)) ?_;ext;refine⟨xQ (mE b3) (mE R) ∅,?_⟩;refine dI (D.up (b.trans a)) λa3 c9=>⟨true,a3,_,_,_,rfl,rfl,(c9:SqB true K c a3 _),lZ (iI U) ⋯,?_⟩;refine hZ (G.up (b.trans a)) ?_;ext;refine⟨xQ (mE (ty _ (zqb U))) (mE X) ∅,?_⟩;refine⟨l,_,_,rfl,rfl,a _ _ C,iU (by rw[zqe,yN];omega),?_⟩;refine⟨Same.over hl (o.trans a),?_⟩;rw[oS,xN,Xs u U,xB];rfl
  ·rintro O H3 ⟨S,I,rfl,o,C⟩;rw[yT ⋯]at C;subst e1;have b:=a1.trans o;ext;refine hZ (G.up b) (hZ (D.up b) ?_);ext;refine⟨xQ (mE X) (mE R) ∅,?_⟩;refine⟨false,false,false,m,l,_,_,_,rfl,(N.up o).l.b,SqB.lst C,by rw[M.1];omega,by rw[c4];omega,xU b2 c0,?_,λr c a J=>?_⟩
   ·show(x.2.2*y.2.2).natAbs<2^8990;rw[xP];refine zJ (qR X R) ?_;rw[←tK];exact yV ∅ ∅
   ·refine c8 r c (b.trans a) ?_;rw[vA]at J;exact J
theorem ok_u(T:Txt K mg t):FnOk P w K mg base CX0 2 t.a_u t.d_u pm' sp_u:=by
 have a3:=@ok_k P w K mg base t T;apply T.F_u.ok sc_u
 ·obtain⟨c,d,rfl,a8,a5⟩:=h;refine⟨_,(oQ (oW (i:=2) sc_u.nd rfl (Or.inr rfl) (nD a3 hr.mo T.F_k (oM (pq 1) oN)))
   (oQ (lE yR rfl (mT rfl T.z_range (oM oO oN)) (mD (i:=3) sc_u.nd rfl (Or.inl rfl))
   (oQ (oW (i:=4) sc_u.nd rfl (Or.inr rfl) (oP nP (pq 0) (pq 1)))
   (oQ (oW (i:=5) sc_u.nd rfl (Or.inr rfl) (oP nP (oP mC (oP mC (pq 4) oO) (oP nP (oP mB (pq 0) oO) (oP lV (pq 1) oO))) (pq 1)))
   (oQ (oW (i:=6) sc_u.nd rfl (Or.inr rfl) (oP lV (oP nP (oP mC (oP mB (pq 0) oO) oO) oO) oO))
   (oQ (gG (mK (sc:=oU aJ) (N:=N_u) (fr:=[("_law_rows_here",2),("_law_i",4),("_law_j",5),("_law_by",6)]) (te:=(tOp (rI0 λi j=>.int (i+j)) (tOp (rIxB K) (tOp (rIxB K) (tVar 1) (tVar 2)) (tVar 0)) (tOp (rI (λi j=>IntMulOk i j) λi j=>.int (i*j)) (tVar 4) (tOp (rIxB K) (tOp (rIxB K) (tVar 1) (tVar 3)) (tVar 0))))) rfl rfl (nofun) rfl (nofun) (mT rfl T.z_range (oM (pq 1) oN)) (λ_ _ _ b3=>(oP mC (nV ix_B (nV ix_B (pv 1) (pv 2) (λ_ _=>rfl)) (pv 0) (λ_ _=>rfl)) (oP mG (pv 4) (nV ix_B (nV ix_B (pv 1) (pv 3) (λ_ _=>rfl)) (pv 0) (λ_ _=>rfl)))))) (eE (pq 2) (pq 4) An))
   (oR (oW (i:=0) sc_u.nd rfl (Or.inl rfl) (oP mB (pq 0) oO))))))))
   (oR (oZ (pq 2))))),?_⟩
  show tSeq _ _ _ [some (.int c),some (.int d),none,none,none,none,none] H;right;refine⟨d,rfl,⋯,λa H1 S=>?_⟩;subst e1;refine st λN1 e1=>lG λB eB=>?_;simp only[mF];ext;refine⟨∅,∅,?_⟩;refine gJ (g:=nB 3) (tb:=B) (λk F H2=>∃(x:Int)(b:LM)(v3 v q C:Option V),F=[some (.int x),some (.int d),some (.ref a),v3,v,q,C]/\Rw H H2 a b/\Sq d b/\LeM (3^k) b) ⟨c,_,none,none,none,none,rfl,S,jX,dU⟩ ?_ ?_
  ·rintro k F H2 c0 ⟨x,b,v3,v,q,C,rfl,f,l,p⟩;subst eB;show tSeq _ _ _ [some (.int x),some (.int d),some (.ref a),some (.int (0+(k:Int))),v,q,C] H2;obtain⟨i,a7,hi⟩:=fX (c:=x) (d:=d) ⋯;obtain⟨j,R,b5⟩:=fX (c:=(i:Int)+1+(x.fdiv 3).fmod ((d:Int)-1)) (d:=d) ⋯;refine st λL m=>?_;ext;refine⟨⋯,?_⟩;rw[a7];subst m;refine st λL m=>?_;ext;refine⟨dvs _ _ ∅ ∅,⋯,⋯,?_⟩;rw[R];subst m;refine st λL m=>?_;ext;have b6:=fms (x.fdiv 6+2) 5 ∅;refine⟨dvs _ _ ∅ ∅,∅,?_⟩;have Z:((x.fdiv 6+2).fmod 5-2).natAbs<=2:=⋯
   generalize (x.fdiv 6+2).fmod 5-2=g at*;subst m;refine st λL m=>?_;simp only[tAsg,gSub,cS];refine nW λB eB=>?_;simp only[mF];ext;refine⟨⋯,⋯,λM G=>?_⟩;rw[zS];have D:b[i]?=some (b.getD i []):=by have:=l.1;simp[show i<b.length by omega]
   have I:b[j]?=some (b.getD j []):=by have:=l.1;simp[show j<b.length by omega]
   have a9:=l.2 _ (zqb D);have b4:=l.2 _ (zqb I);have b7:3^k<=3^3:=yV ∅ ⋯;have ok:∀z:Int,IntMulOk g z:=λz=>wV (intBits_le_iff.mpr ⋯);refine kM (λu y _=>u<d/\y=.int ((b.getD i []).getD u 0+g*(b.getD j []).getD u 0)) G ⋯ (λ_ _ _ _ r _=>r) ?_ ?_
   ·intro u H3 zs n o b8 Y a6;subst eB;show tOp _ _ _ [some (.int (0+(u:Int))),some (.ref a),some (.int i),some (.int j),some (.int g)] H3 Y;ext;refine iK (b1:=false) (b2:=false) (f.up o).m.l.b D (L2.getD_at (k:=u) ⋯) rfl ⋯ ?_;refine iK (b1:=false) (b2:=false) (f.up o).m.l.b I (L2.getD_at (k:=u) ⋯) rfl ⋯ ?_;ext;exact⟨ok _,a6 _ _ (Same.refl _) ⟨n,rfl⟩⟩
   ·intro H3 ys o X U a4;have a2:ys=(mixR d (b.getD i []) (b.getD j []) g).map V.int:=by
     refine lH (by simpa [mixR]using U) λu y e=>?_;obtain⟨n,rfl⟩:=a4 u y e;exact⟨_,by unfold mixR;rw[zO,xA n];rfl,rfl⟩
    subst a2;obtain⟨zs,W,O,a0⟩:=MatD.put (i:=i) f.m o G (kI f.s G) X
    try ext
    refine⟨_,W,i,Df (by rw[O,l.1];omega),?_⟩;have N:Rw H (upd H3 a (.lst (zs.set i (.ref M)))) a (b.set i (mixR d (b.getD i []) (b.getD j []) g)):=⟨Same.over f.n (f.s.trans o),f.n,a0⟩;generalize upd H3 a (.lst (zs.set i (.ref M)))=b0 at N;have a1:(mixR d (b.getD i []) (b.getD j []) g).length=d:=by simp[mixR]
    subst m;ext;refine⟨dvs _ _ ∅ ∅,_,N,Ka (i:=i) l a1,λr hr z J=>?_⟩;rw[tY];rcases vU hr with h|h
    ·have:=p r h z J;omega
    ·rw[h]at J;obtain⟨u,n,rfl⟩:=oA.mp J;have n:=oG.mp n;have b1:=p _ (zqb D) _ (L2.getD_mem (k:=u) ⋯);have b2:=p _ (zqb I) _ (L2.getD_mem (k:=u) ⋯);have c1:(g*(b.getD j []).getD u 0).natAbs<=2*3^k:=by rw[xP];exact vH Z b2
     have b9:=vS ((b.getD i []).getD u 0) (g*(b.getD j []).getD u 0);omega
  ·rintro F H2 ⟨x,b,v3,v,q,C,rfl,f,l,p⟩;symm;exact a5 a H2 b f ⟨l,p⟩
theorem ok_y(T:Txt K mg t):FnOk P w K mg base CX0 3 t.a_y t.d_y pf' sp_y:=by
 have o:=@ok_k P w K mg base t T;have j:=@ok_u P w K mg base t T;have l:=@ok_r P w K mg base t T;have g:=@ok_g P w K mg base t T;apply T.F_y.ok sc_y
 ·obtain⟨i,c,d,rfl,e,q,b⟩:=h;refine⟨_,(oQ (nK (nI mZ (pq 0) oO (nH _))
   (oR (oZ (nD o hr.mo T.F_k (oM (pq 2) oN))))
   nJ)
   (oQ (nK (nI mZ (pq 0) oO (nH _))
   (oR (oZ (nD j hr.mo T.F_u (oM (pq 1) (oM (pq 2) oN)))))
   nJ)
   (oQ (nK (nI gX (pq 0) oO (nH _))
   (oR (oZ (nD l hr.mo T.F_r (oM (pq 1) (oM (pq 2) oN)))))
   nJ)
   (oR (oZ (nD g hr.mo T.F_g (oM (pq 1) (oM (pq 2) oN)))))))),?_⟩
  show tSeq _ _ _ [some (.int i),some (.int c),some (.int d)] H;have f:∀{k1 k2:Nat}{R:LM},k1<2->2<=k2->k2<4->R∈pgL (if d=2 then k1 else k2)->Wr d R:=λ{k1 k2 R}k p n h=>by
   rcases e with rfl|rfl
   ·have:=Ki (k:=k1) ⋯ h;rw[show famD k1=2 from zF k]at this;exact this
   ·have:=Ki (k:=k2) n h;rw[show famD k2=3 from zD ⋯]at this;exact this
  ext;refine ite2 (λz=>?_) (λz=>ite2 (λy=>?_) (λy=>ite2 (λx=>?_) (λx=>?_)))
  ·exact⟨d,rfl,⋯,λr H' a=>b r H' _ a ⟨jX,LeM.le dU ∅⟩⟩
  ·exact⟨c,d,rfl,e,λr H' R a m=>b r H' R a m⟩
  ·exact⟨c,d,rfl,e,λr H' R a m=>b r H' R a (f ∅ ∅ ∅ m)⟩
  ·exact⟨c,d,rfl,e,λr H' R a m=>b r H' R a (f ∅ ∅ ∅ m)⟩
theorem aZ{K:Frag}{H H':Hp}{p:Addr}{xs:List V}(h:SqL K H p xs)(s:Same H H'):SqL K H' p xs:=SqB.up (b:=false) h s
theorem ok_j(T:Txt K mg t):FnOk P w K mg base CX0 5 t.a_j t.d_j pa' (sp_j K):=by
 have b4:=@ok_7 P w K mg base t T;have f9:=@ok_y P w K mg base t T;have f3:=@ok_h P w K mg base t T;have e3:=@ok_w P w K mg base t T;apply T.F_j.ok sc_j
 ·obtain⟨p,q,l,cs,D,N,d,G,O,rfl,a7,M,c6,f6,e9,b3,e8,e0,e5,f5⟩:=h;refine⟨_,(oQ (oW (i:=5) sc_j.nd rfl (Or.inl rfl) (nD b4 hr.mo T.F_7 (oM (pq 0) (oM (pq 1) oN))))
   (oQ (oW (i:=6) sc_j.nd rfl (Or.inr rfl) (nD f3 hr.mo T.F_h (oM (nD f9 hr.mo T.F_y (oM (pq 4) (oM (oP mB (pq 5) oO) (oM (pq 2) oN)))) (oM (nQ gY rfl T.z_abs (nofun) (oM (nD b4 hr.mo T.F_7 (oM (pq 0) (oM oO oN))) oN)) oN))))
   (oQ (oW (i:=7) sc_j.nd rfl (Or.inl rfl) (nD b4 hr.mo T.F_7 (oM (pq 0) (oM (oP mC (pq 1) oO) oN))))
   (oQ (oW (i:=8) sc_j.nd rfl (Or.inl rfl) (nV ix_B (nS (oM oO (oM oO (oM oO (oM oO (oM oO (oM oO oN))))))) (oP nP (pq 7) oO) (λ_ _=>rfl)))
   (oQ (nK (PW.pt (lD (nI mZ (pq 4) oO (nH _)) (kK (nI mZ (oP nP (oP mB (pq 7) oO) oO) oO (nH _)))))
   (oR (oW (i:=8) sc_j.nd rfl (Or.inl rfl) (oP mC oO (oP nP (oP mB (pq 7) oO) oO))))
   nJ)
   (oQ (oW (i:=9) sc_j.nd rfl (Or.inl rfl) (nS oN))
   (oQ (lE yR rfl (mT rfl T.z_range (oM (pq 2) oN)) (mD (i:=10) sc_j.nd rfl (Or.inr rfl))
   (oQ (oW (i:=11) sc_j.nd rfl (Or.inl rfl) (oP lV (nV ix_B (nN (pq 3)) (pq 10) (λ_ _=>rfl)) (nQ (bB rfl) rfl T.z_sum (nofun) (oM (mK (sc:=oU aL) (N:=N_j) (fr:=[("_law_spot",3),("_law_rows_here",6),("_law_i",10)]) (te:=(tOp (rI (λi j=>IntMulOk i j) λi j=>.int (i*j)) (tOp (rIxB K) (tOp (rIxB K) (tVar 2) (tVar 3)) (tVar 0)) (tOp (rIxB K) (tOp (rIxB K) (tVar 1) (tC (.int 0))) (tVar 0)))) rfl rfl (nofun) rfl (nofun) (mT rfl T.z_range (oM (pq 2) oN)) (λ_ _ _ h1=>(oP mG (nV ix_B (nV ix_B (pv 2) (pv 3) (λ_ _=>rfl)) (pv 0) (λ_ _=>rfl)) (nV ix_B (nN (pv 1)) (pv 0) (λ_ _=>rfl))))) oN))))
   (oR (kC (jH yZ xE xF jI (pq 9) (oM (oP mC (oP mG (oP nP (oP mB (pq 7) (oP mC oO (oP mG oO (pq 10)))) (pq 8)) (nN (pq 3))) (oP mG (pq 11) (pq 8))) oN))))))
   (oR (oZ (nD e3 hr.mo T.F_w (oM (pq 6) (oM (pq 9) (oM (oP mG (pq 8) (nN (pq 3))) oN))))))))))))),?_⟩
  show tSeq _ _ _ [some (.ref p),some (.int N),some (.int d),some (.ref q),some (.int O),none,none,none,none,none,none,none] H;right;refine⟨p,cs,_,rfl,a7,⋯,?_⟩;generalize cs.getD (Int.toNat (N:Int)) 0=x;left;refine⟨dvs _ _ ∅ ∅,?_⟩;refine⟨O,_,d,rfl,M,e5,λa H1 R b8 b0=>?_⟩;refine⟨p,cs,_,rfl,aZ a7 b8.s,∅,?_⟩;ext;show sp_h [.ref a,.int (absI (cs.getD 2 0))] H1 _ _;refine⟨a,_,d,R,H,rfl,M,b0,b8,λH2 b6=>?_⟩;have d0:∀s∈jZ d (absI (cs.getD 2 0)),s.Ok d:=(fY M _).1;have d5:(jZ d (absI (cs.getD 2 0))).length<=3:=by
   unfold jZ;rw[(fY M _).2];have:=fms (absI (cs.getD 2 0)) 4 ∅;omega
  generalize hLL:jZ d (absI (cs.getD 2 0))=y at*;have b5:Sq d (cjM d (chP d y) (chQ d y) R):=gD (kY M d0) R;have f7:nZ 145 (cjM d (chP d y) (chQ d y) R):=λr hr z I=>wF (Dk (F:=⟨d,y,1⟩) ⟨M,d0,d5,by show(0:Int)<1;decide,by show(1:Int)<2^100;decide⟩ b0.2 r hr z I) ∅;have f4:∀(ts:LI')(u:Int),ts.length=d->kB 250 ts->0<u->u<=200->Mkr d y G (cjM d (chP d y) (chQ d y) R,redT (u*G) ts,redU (u*G) ts):=λts u a b c e=>⟨R,b0,ts,u,a,b,c,e,rfl⟩;generalize cjM d (chP d y) (chQ d y) R=C at*
  left;refine⟨p,cs,_,rfl,aZ a7 b6.s,⋯,?_⟩;generalize cs.getD (Int.toNat ((N:Int)+1)) 0=m;left;have h6:=fms m 6 ∅;refine⟨by show 6<=sizeLine;decide,λz I=>?_⟩;have c9:=Same.new (o:=.lst [V.int 1,.int 2,.int 2,.int 3,.int 4,.int 6]) I;have c3:(upd H2 z (.lst [V.int 1,.int 2,.int 2,.int 3,.int 4,.int 6])) z=some (.lst [V.int 1,.int 2,.int 2,.int 3,.int 4,.int 6]):=oS;generalize upd H2 z (.lst [V.int 1,.int 2,.int 2,.int 3,.int 4,.int 6])=H3 at c9 c3;have c8:=b6.up c9;obtain⟨U,a1,f0,e2,f8,d9⟩:∃(U:Nat)(a1:Int),m.fmod 6=U/\[V.int 1,.int 2,.int 2,.int 3,.int 4,.int 6][U]?=some (.int a1)/\0<a1/\a1<=200:=by
   rcases(show m.fmod 6=0\/m.fmod 6=1\/m.fmod 6=2\/m.fmod 6=3\/m.fmod 6=4\/m.fmod 6=5 by omega) with e|e|e|e|e|e <;> rw[e]
   ·exact⟨0,1,rfl,rfl,∅,∅⟩
   ·exact⟨1,2,rfl,rfl,∅,∅⟩
   ·exact⟨2,2,rfl,rfl,∅,∅⟩
   ·exact⟨3,3,rfl,rfl,∅,∅⟩
   ·exact⟨4,4,rfl,rfl,∅,∅⟩
   ·exact⟨5,6,rfl,rfl,∅,∅⟩
  refine⟨∅,fU (i:=U) c3 e2 f0 ?_⟩;subst e1;refine st λN1 e1=>?_;have a9:∀u:Int,0<u->u<=200->N1 [some (.ref p),some (.int N),some (.int d),some (.ref q),some (.int O),some (.int x),some (.ref a),some (.int m),some (.int u),none,none,none] H3:=by
   intro u a6 c0;left;refine⟨yA _,λF c1=>?_⟩;have c2:Same H3 (upd H3 F (.lst [])):=Same.new c1;have d2:(upd H3 F (.lst [])) F=some (.lst (([]:LI').map V.int)):=oS;generalize upd H3 F (.lst [])=g9 at c2 d2;subst e1;refine st λN1 e1=>lG λB eB=>?_;simp only[mF];ext;refine⟨⋯,⋯,?_⟩;rw[zS];refine gJ (g:=nB 10) (tb:=B) (λi a3 L=>∃(ts:LI')(a2 X:Option V),a3=[some (.ref p),some (.int N),some (.int d),some (.ref q),some (.int O),some (.int x),some (.ref a),some (.int m),some (.int u),some (.ref F),a2,X]/\Same H3 L/\L F=some (.lst (ts.map V.int))/\ts.length=i/\kB 250 ts) ⟨[],none,none,rfl,c2,d2,rfl,λ_ h=>(by cases h)⟩ ?_ ?_
   ·rintro i a3 L hi ⟨ts,a2,X,rfl,Y,a0,lt,a4⟩;have J:=c8.up Y;have S:=J.s _ _ c6;have d1:=J.s _ _ f6;obtain⟨r,a5⟩:∃r,C[i]?=some r:=⟨_,zqd (by rw[b5.1];exact hi)⟩;obtain⟨n,c4⟩:∃n,D[i]?=some n:=⟨_,zqd (by rw[e9];exact hi)⟩;have d3:=b5.2 _ (zqb a5);have h2:=b3 n (zqb c4);subst eB;show tSeq _ _ _ [some (.ref p),some (.int N),some (.int d),some (.ref q),some (.int O),some (.int x),some (.ref a),some (.int m),some (.int u),some (.ref F),some (.int (0+(i:Int))),X] L;refine st λg6 d7=>?_;ext;have b9:∀{H':Hp}{W:VK},Same L H'->W (.ref l) H'->rIxB K (.ref q) (.int 0) H' W:=λs h=>⟨true,q,_,_,_,rfl,rfl,SqB.tup (s _ _ S),rfl,h⟩;refine b9 (Same.refl _) ?_;refine⟨false,l,_,_,_,rfl,rfl,SqB.lst d1,lZ (iI c4) ⋯,?_⟩;refine nW λB eB=>?_;simp only[mF];ext;refine⟨⋯,⋯,λe7 f2=>?_⟩;rw[zS];refine kM (len:=d) (λk z _=>∃v,(List.zipWith (·*·) r D)[k]?=some v/\z=.int v) f2 ⋯ (λ_ _ _ _ r _=>r) ?_ ?_
    ·intro k Z zs h5 o h3 W g2;obtain⟨g,b7⟩:∃g,r[k]?=some g:=⟨_,zqd ⋯⟩;obtain⟨f,a8⟩:∃f,D[k]?=some f:=⟨_,zqd ⋯⟩;have h4:=b3 f (zqb a8);subst eB;show tOp _ _ _ [some (.int (0+(k:Int))),some (.ref q),some (.ref a),some (.int (0+(i:Int)))] Z W;ext;refine iK (b1:=false) (b2:=false) (J.up o).m.l.b a5 b7 ⋯ ⋯ ?_;refine b9 o ⟨false,l,_,_,_,rfl,rfl,SqB.lst (o _ _ d1),lZ (iI a8) ⋯,?_⟩;ext;refine⟨(show CMul _ _ from .inr ⟨⋯,⋯⟩).ok,g2 _ _ (Same.refl _) ⟨_,?_,rfl⟩⟩;rw[wE,b7,a8]
    ·intro Z ys o g1 h0 e6;have d4:ys=(List.zipWith (·*·) r D).map V.int:=by
      refine lH (by simp only[zqe,List.length_zipWith];omega) λk z e=>?_;obtain⟨v,e4,rfl⟩:=e6 k z e;exact⟨v,e4,rfl⟩
     subst d4;refine⟨e7,rfl,_,SqL.of g1,?_⟩
     try ext
     have g3:(dotI r D).natAbs<2^160:=by
      have:=aR r D (f7 r (zqb a5)) (C:=10) λz I=>by have:=b3 z I;show z.natAbs<1024;omega
      rw[d3]at this;have e:(2:Nat)^160=32*2^(145+10):=∅
      omega
     have d6:(List.zipWith (·*·) r D).sum=dotI r D:=rfl;rw[d6];generalize dotI r D=dd at*
     subst d7;ext;have d8:=fms (m.fdiv (6+7*(0+(i:Int)))) u a6;refine⟨.inl ⟨rfl,_,SqL.of (o _ _ a0)⟩,wV ∅,dvs _ _ ⋯ ⋯,⋯,true,q,_,_,_,rfl,rfl,SqB.tup (o _ _ S),rfl,?_⟩;ext;refine⟨(show CMul _ _ from .inl ⟨⋯,⋯⟩).ok,(show CMul _ _ from .inr ⟨⋯,⋯⟩).ok,?_⟩;refine⟨F,_,_,rfl,rfl,o _ _ a0,iU (by rw[zqe,lt];omega),Same.over c1 (Y.trans o),ts++[(m.fdiv (6+7*(0+(i:Int)))).fmod u*G+(n-dd)*u],by rw[oS,xB];rfl,by rw[yE,lt];rfl,λz I=>?_⟩;rcases oF.mp I with h|h
     ·exact a4 z h
     ·rw[rW.mp h];generalize (m.fdiv (6+7*(0+(i:Int)))).fmod u=c5 at d8;have b1:(c5*G).natAbs<=200*1000:=by rw[xP];exact vH ⋯ ⋯
      have b2:((n-dd)*u).natAbs<=(1000+2^160)*200:=by rw[xP];exact vH ⋯ ⋯
      have g7:=vS (c5*G) ((n-dd)*u);have g8:200*1000+(1000+2^160)*200<2^250:=∅
      omega
   ·rintro a3 L ⟨ts,a2,X,rfl,Y,a0,lt,a4⟩;have J:=c8.up Y;have S:=J.s _ _ c6;symm;refine⟨true,q,_,_,_,rfl,rfl,SqB.tup S,rfl,?_⟩;ext;refine⟨(show CMul _ _ from .inl ⟨⋯,⋯⟩).ok,?_⟩;have g0:0<u*G:=xU a6 e8;have g4:u*G<=200*1000:=rO c0 e0 ⋯ ⋯;refine⟨false,false,false,a,F,_,ts,_,rfl,J.m.l.b,SqB.lst a0,by rw[b5.1];omega,⋯,g0,Cf (B:=20) (by show _<1048576;omega) ∅,λr Z o f1=>?_⟩;exact f5 r Z _ (J.s.trans o) f1 (f4 ts u lt a4 a6 c0)
  ext;have g5:=fms (m.fdiv 24) 200 ∅;have c7:jJ m 24:=dvs _ _ ∅ ∅;refine ite2 (λ_=>⟨c7,∅,a9 _ ⋯ ⋯⟩) (λ_=>⟨dvs _ _ ∅ ∅,∅,ite2 (λ_=>⟨c7,∅,a9 _ ⋯ ⋯⟩) (λ_=>a9 _ f8 d9)⟩)
theorem Lv{P:Int->Prop}:∀{ys:List V}{H:Hp},(∀(j:Nat) y,ys[j]?=some y->∃v:Int,y=.int v/\P v)->∃a:LI',ys=a.map V.int/\∀z∈a,P z
 |[],_,_=>⟨[],rfl,λ_ h=>(by cases h)⟩
 |y:: ys,H,h=>by
  obtain⟨v,rfl,p⟩:=h 0 y rfl;obtain⟨a,rfl,k⟩:=Lv (P:=P) (ys:=ys) (H:=H) λj y e=>h (j+1) y (by simpa using e);exact⟨v:: a,rfl,λz b=>by rcases xC.mp b with rfl|b;exact p;exact k z b⟩
theorem Lu{a:Addr}{H:Hp}{F:Dd->Prop}:∀{ys:List V},(∀(j:Nat) y,ys[j]?=some y->∃q m,y=.ref q/\DdAt K (offH a H) q m/\F m)->∃(b:LA)(ms:List Dd),ys=b.map V.ref/\Paired (DdAt K H) b ms/\∀m∈ms,F m
 |[],_=>⟨[],[],rfl,.nil,λ_ h=>(by cases h)⟩
 |y:: ys,h=>by
  obtain⟨q,m,rfl,k,f⟩:=h 0 y rfl;obtain⟨b,ms,rfl,d,g⟩:=Lu (ys:=ys) λj y e=>h (j+1) y (by simpa using e);exact⟨q:: b,m:: ms,rfl,.cons (k.up Ju) d,λz c=>by rcases xC.mp c with rfl|c;exact f;exact g z c⟩
theorem ok_b(T:Txt K mg t):FnOk P w K mg base CX0 6 t.a_b t.d_b pt' (sp_b K):=by
 have R:=@ok_7 P w K mg base t T;have a4:=@ok_j P w K mg base t T;apply T.F_b.ok sc_b
 ·obtain⟨p,cs,rfl,G,c2⟩:=h;refine⟨_,(oQ (oW (i:=1) sc_b.nd rfl (Or.inl rfl) (nD R hr.mo T.F_7 (oM (pq 0) (oM oO oN))))
   (oQ (oW (i:=2) sc_b.nd rfl (Or.inr rfl) (oP mC oO (oP nP (pq 1) oO)))
   (oQ (oW (i:=3) sc_b.nd rfl (Or.inr rfl) (nD R hr.mo T.F_7 (oM (pq 0) (oM oO oN))))
   (oQ (oW (i:=4) sc_b.nd rfl (Or.inr rfl) (oP mC oO (oP nP (pq 3) oO)))
   (oQ (nK (nI mZ (oP nP (oP mB (pq 3) oO) oO) oO (nH _))
   (oR (oW (i:=4) sc_b.nd rfl (Or.inr rfl) (oP mC oO (oP nP (oP mB (pq 3) oO) oO))))
   nJ)
   (oQ (oW (i:=5) sc_b.nd rfl (Or.inr rfl) (kD (oM (mK (sc:=oU dG) (N:=N_b) (fr:=[("_law_cell",3),("_law_under",4)]) (te:=(tOp (rI (λ_ j=>j≠0) λi j=>.int (i.fmod j)) (tOp (rI jJ λi j=>.int (i.fdiv j)) (tVar 1) (tOp (rI0 λi j=>.int (i+j)) (tC (.int 5)) (tOp (rI (λi j=>IntMulOk i j) λi j=>.int (i*j)) (tC (.int 3)) (tVar 0)))) (tVar 2))) rfl rfl (nofun) rfl (nofun) (mT rfl T.z_range (oM (pq 2) oN)) (λ_ _ _ a5=>(oP nP (oP mB (pv 1) (oP mC oO (oP mG oO (pv 0)))) (pv 2)))) (oM (pq 4) oN))))
   (oQ (oW (i:=6) sc_b.nd rfl (Or.inr rfl) (oP nP (oP mB (pq 1) oO) oO))
   (oQ (oW (i:=7) sc_b.nd rfl (Or.inl rfl) (oP nP (oP mB (pq 1) oO) oO))
   (oR (oZ (nS (oM (pq 2) (oM (mK (sc:=oU dG) (N:=N_b) (fr:=[("_law_script",0),("_law_d",2),("_law_spot",5),("_law_sort",6)]) (te:=(kL (sp_j K) [] E0 (nO (tVar 1) (nO (tOp (rI0 λi j=>.int (i+j)) (tC (.int 4)) (tOp (rI (λi j=>IntMulOk i j) λi j=>.int (i*j)) (tC (.int 2)) (tVar 0))) (nO (tVar 2) (nO (tVar 3) (nO (tVar 4) tNil))))))) rfl rfl (nofun) rfl (nofun) (mT rfl T.z_range (oM (pq 7) oN)) (λ_ _ _ a5=>(nD a4 hr.mo T.F_j (oM (pv 1) (oM (oP mC oO (oP mG oO (pv 0))) (oM (pv 2) (oM (pv 3) (oM (pv 4) oN)))))))) oN))))))))))))),?_⟩
  show tSeq _ _ _ [some (.ref p),none,none,none,none,none,none,none] H;right;refine⟨p,cs,_,rfl,G,∅,?_⟩;generalize cs.getD (Int.toNat 0) 0=a;left;have c9:=fms a 2 ∅;obtain⟨d,c3,n⟩:∃d:Nat,2+a.fmod 2=(d:Int)/\(d=2\/d=3):=⟨(2+a.fmod 2).toNat,⋯,⋯⟩;refine⟨∅,?_⟩;rw[c3];left;refine⟨p,cs,_,rfl,G,∅,?_⟩;generalize cs.getD (Int.toNat 3) 0=c;left;have d0:=fms c 12 ∅;refine⟨∅,?_⟩;subst e1;refine st λN1 e1=>?_;have O:∀u:Int,0<u->u<=1000->N1 [some (.ref p),some (.int a),some (.int d),some (.int c),some (.int u),none,none,none] H:=by
   intro u C L;left;refine nW λB eB=>?_;simp only[mF];ext;refine⟨⋯,⋯,λl hl=>?_⟩;rw[zS];refine kM (len:=d) (λk y _=>∃v:Int,y=.int v/\0<=v/\v<u) hl ⋯ (λ_ _ _ _ r _=>r) ?_ ?_
   ·intro k H1 zs b7 M U F I;subst eB;show tOp _ _ _ [some (.int (0+(k:Int))),some (.int c),some (.int u)] H1 F;ext;have Z:=fms (c.fdiv (5+3*(0+(k:Int)))) u C;exact⟨wV ∅,dvs _ _ ⋯ ⋯,⋯,I _ _ (Same.refl _) ⟨_,rfl,Z⟩⟩
   ·intro H1 ys M c4 D b1;obtain⟨g,c1,b0⟩:∃g:LI',ys=g.map V.int/\∀z∈g,0<=z/\z<u:=Lv (H:=H) b1;subst c1;have a2:g.length=d:=by simpa using D
    refine⟨by show 2<=sizeLine;decide,λq a6=>?_⟩;have J:=Same.new (o:=.tup [V.ref l,.int u]) a6;have X:(upd H1 q (.tup [V.ref l,.int u])) q=some (.tup [V.ref l,.int u]):=oS;generalize upd H1 q (.tup [V.ref l,.int u])=H2 at J X;have a8:=J _ _ c4;have W:=M.trans J;left;have S:=fms (a.fdiv 8) 6 ∅;refine⟨dvs _ _ ∅ ∅,∅,?_⟩;generalize (a.fdiv 8).fmod 6=N at S;left;have c7:=fms (a.fdiv 2) 4 ∅;refine⟨dvs _ _ ∅ ∅,∅,?_⟩;obtain⟨b4,b6,c8⟩:∃m:Nat,(a.fdiv 2).fmod 4=(m:Int)/\m<=3:=⟨((a.fdiv 2).fmod 4).toNat,⋯,⋯⟩;rw[b6];symm;refine nW λB eB=>?_;simp only[mF];ext;refine⟨⋯,⋯,λo a7=>?_⟩;rw[zS];refine kM (len:=b4) (λ_ y H3=>∃q m,y=.ref q/\DdAt K (offH o H3) q m/\Mkr d (jZ d (absI (cs.getD 2 0))) u m) a7 ⋯ (λ_ _ _ _⟨q,m,e,h,k⟩b5=>⟨q,m,e,h.up (Jt b5),k⟩) ?_ ?_
    ·intro k H3 zs b7 f U F I;subst eB;show kL _ _ _ _ [some (.int (0+(k:Int))),some (.ref p),some (.int d),some (.ref q),some (.int N)] H3 F;ext;refine⟨wV ∅,?_⟩;refine⟨p,q,l,cs,g,4+2*k,d,u,N,by rw[show((4+2*k:Nat):Int)=4+2*(0+(k:Int)) by omega],aZ G (W.trans f),n,f _ _ X,f _ _ a8,a2,λz b3=>?_,C,L,S.1,λr c6 x b a0 a3=>I _ _ b ⟨r,x,rfl,DdAt.tk a0 (Js (b _ _ U)),a3⟩⟩;have:=b0 z b3;omega
    ·intro H3 ys f a9 D b9;obtain⟨b8,ms,rfl,Y,c0⟩:=Lu b9;refine⟨by show 2<=sizeLine;decide,λr b2=>?_⟩;have b:=Same.new (o:=.lst [V.int d,.ref o]) b2;have a1:ms.length<=3:=by
      have:=lC Y;rw[zqe]at D;omega
     refine c2 r o b8 ms d (jZ d (absI (cs.getD 2 0))) u _ ((W.trans f).trans b) oS (b _ _ a9) (Paired.mapP Y λ_ _ z=>z.up b) n (fY n _).1 ?_ C L a1 c0;unfold jZ;rw[(fY n _).2];have:=fms (absI (cs.getD 2 0)) 4 ∅;omega
  ext;have c5:=fms (c.fdiv 48) 1000 ∅;exact⟨dvs _ _ ∅ ∅,∅,ite2 (λ_=>⟨dvs _ _ ∅ ∅,∅,O _ ⋯ ⋯⟩) (λ_=>O _ ⋯ ⋯)⟩
def excE(t:Adr):Nat->Addr
 |0=>t.a_5
 |1=>t.a_a
 |_=>t.a_2
def Az:Nat->Str
 |0 => "number"
 |1 => "deed"
 |_ => "many"
theorem De{K:Frag}{C:Addr}{v:Value}(h:PySem.W.mroIn K C v=some true):(PySem.W.clsIn K C).isSome=true:=by
 unfold PySem.W.mroIn at h;cases e:PySem.W.clsIn K C with
 |none=>rw[e]at h;cases h
 |some c=>rfl
theorem ecls(T:Txt K mg t):∀n,fC K (excE t n)
 |0=>⟨T.n_ga,T.n_gt,T.n_ca,T.e_cg,T.e_tk,T.n_ob,T.n_bx,De T.n_ob⟩
 |1=>⟨T.d_ga,T.d_gt,T.d_ca,T.e_cg,T.e_tk,T.d_ob,T.d_bx,De T.d_ob⟩
 |_+2=>⟨T.y_ga,T.y_gt,T.y_ca,T.e_cg,T.e_tk,T.y_ob,T.y_bx,De T.y_ob⟩
def othE(t:Adr):LA:=[t.a_17,t.a_1k,t.a_1d,t.a_1g,t.a_1l,t.a_19,t.a_1b,t.a_18,t.a_1c,t.a_1f,t.a_1o,t.a_1j]
theorem Ls(T:Txt K mg t):∀(n:Nat),∀c∈othE t,kitOne K (.ref (excE t n)) (.ref c)=some false:=by
 intro n c a;simp only[othE,List.mem_cons,List.not_mem_nil,or_false]at a
 match n with
 |0 =>
  rcases a with rfl|rfl|rfl|rfl|rfl|rfl|rfl|rfl|rfl|rfl|rfl|rfl
  ·exact T.n_17
  ·exact T.n_1k
  ·exact T.n_1d
  ·exact T.n_1g
  ·exact T.n_1l
  ·exact T.n_19
  ·exact T.n_1b
  ·exact T.n_18
  ·exact T.n_1c
  ·exact T.n_1f
  ·exact T.n_1o
  ·exact T.n_1j
 |1 =>
  rcases a with rfl|rfl|rfl|rfl|rfl|rfl|rfl|rfl|rfl|rfl|rfl|rfl
  ·exact T.d_17
  ·exact T.d_1k
  ·exact T.d_1d
  ·exact T.d_1g
  ·exact T.d_1l
  ·exact T.d_19
  ·exact T.d_1b
  ·exact T.d_18
  ·exact T.d_1c
  ·exact T.d_1f
  ·exact T.d_1o
  ·exact T.d_1j
 |_+2 =>
  rcases a with rfl|rfl|rfl|rfl|rfl|rfl|rfl|rfl|rfl|rfl|rfl|rfl
  ·exact T.y_17
  ·exact T.y_1k
  ·exact T.y_1d
  ·exact T.y_1g
  ·exact T.y_1l
  ·exact T.y_19
  ·exact T.y_1b
  ·exact T.y_18
  ·exact T.y_1c
  ·exact T.y_1f
  ·exact T.y_1o
  ·exact T.y_1j
theorem Db(T:Txt K mg t):∀n:Nat,kitOne K (.ref (excE t n)) (.type "ValueError")=some true
 |0=>T.n_VE
 |1=>T.d_VE
 |_+2=>T.y_VE
theorem Xr(T:Txt K mg t):∀n:Nat,PySem.W.exmOne K (.ref (excE t n)) (.ref t.a_14)=some true
 |0=>T.nm
 |1=>T.dm
 |_+2=>T.ym
def sp_q(t:Adr):Sp:=λvs H Q _=>E3 λ(e:Addr)(n:Nat)(od:Option Addr)=>A3 (vs=[.ref e]) (H e=some (kE e (.ref (excE t n)) od)) (Q (.bl false) H)
def sp_v(t:Adr):Sp:=λvs H Q _=>E3 λ(e:Addr)(n:Nat)(od:Option Addr)=>A3 (vs=[.ref e]) (H e=some (kE e (.ref (excE t n)) od)) (∀H',Same H H'->Q (.str (Az n)) H')
theorem ok_q(T:Txt K mg t):iV P w K mg base 1 t.a_q t.d_q pu' (sp_q t):=by
 refine T.F_q.okA sc_q (λvs H Q E h=>?_) (λcdv A outer s H vs Q E hr h=>?_)
 ·obtain⟨e,n,od,rfl,_⟩:=h;rfl
 ·obtain⟨e,n,od,rfl,f,d⟩:=h;refine⟨_,(oQ (nK (PW.pt (lD (mS (nQ mY rfl T.z_isinstance (nofun) (oM (pq 0) (oM (lP (v:=.ref t.a_1d) rfl T.m_1d rfl) oN)))) (lD (mS (nQ mY rfl T.z_isinstance (nofun) (oM (pq 0) (oM (lP (v:=.ref t.a_1g) rfl T.m_1g rfl) oN)))) (kK (mS (nQ mY rfl T.z_isinstance (nofun) (oM (pq 0) (oM (lP (v:=.ref t.a_1l) rfl T.m_1l rfl) oN))))))))
   (oR (oZ kJ))
   nJ)
   (oQ (nK (PW.pt (lD (mS (nQ mY rfl T.z_isinstance (nofun) (oM (pq 0) (oM (lP (v:=.ref t.a_19) rfl T.m_19 rfl) oN)))) (lD (mS (nQ mY rfl T.z_isinstance (nofun) (oM (pq 0) (oM (lP (v:=.ref t.a_1b) rfl T.m_1b rfl) oN)))) (kK (mS (nQ mY rfl T.z_isinstance (nofun) (oM (pq 0) (oM (lP (v:=.ref t.a_18) rfl T.m_18 rfl) oN))))))))
   (oR (oZ kJ))
   nJ)
   (oQ (nK (PW.pt (lD (mS (nQ mY rfl T.z_isinstance (nofun) (oM (pq 0) (oM (lP (v:=.ref t.a_1c) rfl T.m_1c rfl) oN)))) (kK (mS (nQ mY rfl T.z_isinstance (nofun) (oM (pq 0) (oM (lP (v:=.ref t.a_1f) rfl T.m_1f rfl) oN)))))))
   (oR (oZ kJ))
   nJ)
   (oR (oZ (Mt (nQ mY rfl T.z_isinstance (nofun) (oM (pq 0) (oM (lP (v:=.ref t.a_1o) rfl T.m_1o rfl) oN))) (fZ (nQ mY rfl T.z_isinstance (nofun) (oM (pq 0) (oM (lP (v:=.ref t.a_1j) rfl T.m_1j rfl) oN)))))))))),?_⟩
  show tSeq _ _ _ [some (.ref e)] H;have a:∀{c:Addr}{b:VK},c∈othE t->b (.bl false) H->rIsi K [.ref e,.ref c] H b:=λ{c b}g i=>⟨_,_,_,_,rfl,.exc f (ecls T n),rfl,Ls T n c g,i⟩;right;refine a (by simp[othE]) ⟨_,rfl,iteF (a (by simp[othE]) ⟨_,rfl,iteF (a (by simp[othE]) ⟨_,rfl,iteF ?_⟩)⟩)⟩;left;refine a (by simp[othE]) ⟨_,rfl,iteF (a (by simp[othE]) ⟨_,rfl,iteF (a (by simp[othE]) ⟨_,rfl,iteF ?_⟩)⟩)⟩;left;refine a (by simp[othE]) ⟨_,rfl,iteF (a (by simp[othE]) ⟨_,rfl,iteF ?_⟩)⟩;symm;refine a (by simp[othE]) ⟨_,rfl,iteF (a (by simp[othE]) d)⟩
theorem ok_v(T:Txt K mg t):iV P w K mg base 2 t.a_v t.d_v pu' (sp_v t):=by
 have v:iV P w K mg base 1 t.a_q t.d_q pu' (sp_q t):=ok_q T;refine T.F_v.okA sc_v (λvs H Q E h=>?_) (λcdv A outer s H vs Q E r h=>?_)
 ·obtain⟨e,n,od,rfl,_⟩:=h;rfl
 ·obtain⟨e,n,od,rfl,i,j⟩:=h;refine⟨_,(oQ (oW (i:=1) sc_v.nd rfl (Or.inl rfl) (nS oN))
   (oQ (nK (mS (nQ mY rfl T.z_isinstance (nofun) (oM (pq 0) (oM (lP (v:=.ref t.a_5) rfl T.m_5 rfl) oN))))
   (oR (kC (jH yZ xE xF jI (pq 1) (oM mJ oN))))
   nJ)
   (oQ (nK (mS (nQ mY rfl T.z_isinstance (nofun) (oM (pq 0) (oM (lP (v:=.ref t.a_a) rfl T.m_a rfl) oN))))
   (oR (kC (jH yZ xE xF jI (pq 1) (oM mJ oN))))
   nJ)
   (oQ (nK (mS (nQ mY rfl T.z_isinstance (nofun) (oM (pq 0) (oM (lP (v:=.ref t.a_2) rfl T.m_2 rfl) oN))))
   (oR (kC (jH yZ xE xF jI (pq 1) (oM mJ oN))))
   nJ)
   (oQ (nK (PW.pt (lD (mS (nQ mY rfl T.z_isinstance (nofun) (oM (pq 0) (oM (lP (v:=.ref t.a_17) rfl T.m_17 rfl) oN)))) (lD (mS (nQ mY rfl T.z_isinstance (nofun) (oM (pq 0) (oM (lP (v:=.ref t.a_1k) rfl T.m_1k rfl) oN)))) (kK (mS (Gz v (r.mono ⋯) rfl T.F_q.m T.F_q.kp T.F_q.b .nil (oM (pq 0) oN)))))))
   (oR (kC (jH yZ xE xF jI (pq 1) (oM mJ oN))))
   nJ)
   (oQ (nK (PW.pt (lD (nI gI (mO T.z_len (pq 1)) oO (nH _)) (kK (cD (mS (nQ mY rfl T.z_isinstance (nofun) (oM (pq 0) (oM (iP (v:=.ty "ValueError") rfl T.z_ValueError (nofun) rfl) oN))))))))
   (oR (oZ mJ))
   nJ)
   (oR (oZ (nN (pq 1)))))))))),?_⟩
  show tSeq _ _ _ [some (.ref e),none] H;right;refine⟨yA _,λp l=>?_⟩;have g:Same H (upd H p (.lst [])):=Same.new l;have ep:(upd H p (.lst [])) p=some (.lst []):=oS;generalize upd H p (.lst [])=H1 at g ep;have b:∀{H':Hp}{c:V}{m:Bool}{k:VK},Same H H'->Fa c=true->kitOne K (.ref (excE t n)) (clsV c)=some m->k (.bl m) H'->rIsi K [.ref e,c] H' k:=λy u o C=>⟨_,_,_,_,rfl,.exc (y _ _ i) (ecls T n),u,o,C⟩;left;have app:∀(z:Str){k:VK},k .non (upd H1 p (.lst [.str z]))->Fm (.ref p) [.str z] H1 k:=λz k q=>⟨p,_,_,rfl,rfl,ep,iU (yA _),q⟩;have f:∀{c:Addr},c∈othE t->kitOne K (.ref (excE t n)) (.ref c)=some false:=λ{c}x=>Ls T n c x
  revert i j b f
  match n with
  |0 =>
   intro i j b f;refine b g rfl T.n_5 ⟨_,rfl,iteT ⟨.inl ⟨rfl,_,SqL.of ep⟩,app _ ?_⟩⟩;have a:=Same.over (o:=.lst [.str (Str.ofString "number")]) l g;have d:(upd H1 p (.lst [.str (Str.ofString "number")])) p=some (.lst [.str (Str.ofString "number")]):=oS;show N1 _ (upd H1 p (.lst [.str (Str.ofString "number")]));generalize upd H1 p (.lst [.str (Str.ofString "number")])=H2 at a d ⊢;left;refine b a rfl T.n_a ⟨_,rfl,iteF ?_⟩;left;refine b a rfl T.n_2 ⟨_,rfl,iteF ?_⟩;left;refine b a rfl (f (by simp[othE])) ⟨_,rfl,iteF (b a rfl (f (by simp[othE])) ⟨_,rfl,iteF ⟨e,0,od,rfl,a _ _ i,⟨_,rfl,iteF ?_⟩⟩⟩)⟩;left;refine⟨false,p,_,rfl,SqB.lst d,?_⟩;refine⟨_,_,rfl,rfl,_,rfl,iteF (b a rfl (Db T _) ⟨_,rfl,iteF ?_⟩)⟩;symm;exact⟨false,p,_,_,_,rfl,rfl,SqB.lst d,rfl,j H2 a⟩
  |1 =>
   intro i j b f;refine b g rfl T.d_5 ⟨_,rfl,iteF ?_⟩;left;refine b g rfl T.d_a ⟨_,rfl,iteT ⟨.inl ⟨rfl,_,SqL.of ep⟩,app _ ?_⟩⟩;have a:=Same.over (o:=.lst [.str (Str.ofString "deed")]) l g;have d:(upd H1 p (.lst [.str (Str.ofString "deed")])) p=some (.lst [.str (Str.ofString "deed")]):=oS;show N1 _ (upd H1 p (.lst [.str (Str.ofString "deed")]));generalize upd H1 p (.lst [.str (Str.ofString "deed")])=H2 at a d ⊢;left;refine b a rfl T.d_2 ⟨_,rfl,iteF ?_⟩;left;refine b a rfl (f (by simp[othE])) ⟨_,rfl,iteF (b a rfl (f (by simp[othE])) ⟨_,rfl,iteF ⟨e,1,od,rfl,a _ _ i,⟨_,rfl,iteF ?_⟩⟩⟩)⟩;left;refine⟨false,p,_,rfl,SqB.lst d,?_⟩;refine⟨_,_,rfl,rfl,_,rfl,iteF (b a rfl (Db T _) ⟨_,rfl,iteF ?_⟩)⟩;symm;exact⟨false,p,_,_,_,rfl,rfl,SqB.lst d,rfl,j H2 a⟩
  |_+2 =>
   intro i j b f;refine b g rfl T.y_5 ⟨_,rfl,iteF ?_⟩;left;refine b g rfl T.y_a ⟨_,rfl,iteF ?_⟩;left;refine b g rfl T.y_2 ⟨_,rfl,iteT ⟨.inl ⟨rfl,_,SqL.of ep⟩,app _ ?_⟩⟩;have a:=Same.over (o:=.lst [.str (Str.ofString "many")]) l g;have d:(upd H1 p (.lst [.str (Str.ofString "many")])) p=some (.lst [.str (Str.ofString "many")]):=oS;show N1 _ (upd H1 p (.lst [.str (Str.ofString "many")]));generalize upd H1 p (.lst [.str (Str.ofString "many")])=H2 at a d ⊢;left;refine b a rfl (f (by simp[othE])) ⟨_,rfl,iteF (b a rfl (f (by simp[othE])) ⟨_,rfl,iteF ⟨e,2,od,rfl,a _ _ i,⟨_,rfl,iteF ?_⟩⟩⟩)⟩;left;refine⟨false,p,_,rfl,SqB.lst d,?_⟩;refine⟨_,_,rfl,rfl,_,rfl,iteF (b a rfl (Db T _) ⟨_,rfl,iteF ?_⟩)⟩;symm;exact⟨false,p,_,_,_,rfl,rfl,SqB.lst d,rfl,j H2 a⟩
theorem Lr{K:Frag}{H:Hp}{ns:LI'}{xs:List V}(h:Dts K H xs (ns.map PyData.int)):xs=ns.map V.int:=by
 induction ns generalizing xs with
 |nil=>cases h;rfl
 |cons n ns b=>cases h with|cons a h=>cases a;rw[b h];rfl
theorem Lq{K:Frag}{H:Hp}:∀{M:LM}{xs:List V},Dts K H xs (M.map λr=>PyData.tuple (r.map PyData.int))->∃ps:LA,xs=ps.map V.ref/\ps.length=M.length/\∀(i:Nat) p r,ps[i]?=some p->M[i]?=some r->SqT K H p (r.map V.int)
 |[],_,.nil=>⟨[],rfl,rfl,λi p r e=>by cases e⟩
 | r:: M,_,.cons (x:=x) d f=>by
  obtain⟨ps,e,l,h⟩:=Lq f;cases d with
  |tup a b =>
   rename_i q ys;rw[Lr b]at a;refine⟨q:: ps,by rw[e];rfl,by rw[zY,zY,l],λi p s e1 c=>?_⟩;cases i with
   |zero=>cases e1;cases c;exact a
   |succ i=>exact h i p s e1 c
theorem Xq{K:Frag}{H:Hp}{p:Addr}{x:Dd}(h:Dt K H (.ref p) (dat x)):DdS K H p x:=by
 obtain⟨M,ts,u⟩:=x;have h':Dt K H (.ref p) (.tuple [.tuple (M.map λr=>.tuple (r.map PyData.int)),.tuple (ts.map PyData.int),.int u]):=h;cases h' with
 | tup a b =>
  cases b with
  | cons b1 b =>
   cases b with
   | cons b2 b =>
    cases b with
    | cons f b =>
     cases b;cases f;cases b1 with
     | tup c e =>
      cases b2 with
      |tup e1 d =>
       rw[Lr d]at e1;obtain⟨ps,rfl,l,g⟩:=Lq e;exact⟨_,_,a,⟨ps,c,l,g⟩,e1⟩
theorem Xp{a b:LI'}(h:lx a b=true):lx b a=false:=by
 cases h2:lx b a with
 |false=>rfl
 |true =>
  have:=Hc _ _ _ h h2;rw[aA]at this;cases this
theorem Da{k:Type}{f:k->LI'}:∀{l d:List k},(l.Pairwise λp q=>lx (f p) (f q)=true)->(d.Pairwise λp q=>lx (f p) (f q)=true)->(∀x,x∈l↔x∈d)->l=d
 |[],[],_,_,_=>rfl
 |[],b:: _,_,_,h=>absurd ((h b).mpr (.head _)) (by simp)
 |a:: _,[],_,_,h=>absurd ((h a).mp (.head _)) (by simp)
 | a:: l,b:: d,o,n,h=>by
  have i:=pZ.mp o;have g:=pZ.mp n;have e:a=b:=by
   rcases xC.mp ((h a).mp (.head _)) with q|q
   ·exact q
   rcases xC.mp ((h b).mpr (.head _)) with r|r
   ·exact r.symm
   have m:=g.1 a q;have j:=i.1 b r;rw[Xp m]at j;cases j
  subst e;rw[Da (f:=f) i.2 g.2 λx=>?_];constructor
  ·intro c;rcases xC.mp ((h x).mp (.tail _ c)) with q|q
   ·subst q;have:=i.1 _ c;rw[aA]at this;cases this
   ·exact q
  ·intro c;rcases xC.mp ((h x).mpr (.tail _ c)) with q|q
   ·subst q;have:=g.1 _ c;rw[aA]at this;cases this
   ·exact q
theorem Lp{e:Type}{f:e->PyData}{l:List e}(nd:l.Nodup)(inj:∀x∈l,∀y∈l,f x=f y->x=y)(i:∀x∈l,∀y∈l,sm (f x) (f y)=true)(h:l.Pairwise λp q=>lx (fl (f q)) (fl (f p))=false):l.Pairwise λp q=>lx (fl (f p)) (fl (f q))=true:=by
 have g:=List.Pairwise.and nd h;refine List.Pairwise.imp_of_mem (λ{a b}c d h=>?_) g;cases z:lx (fl (f a)) (fl (f b)) with
 |true=>rfl
 |false=>exact absurd (inj a c b d (bZ _ _ (i a c b d) (Hb _ _ z h.2))) h.1
structure Told(d:Nat)(ss:List Dd)(srt:Tb):Prop where
 p:srt.Perm (tab d ss 201)
 o:srt.Pairwise λp q=>lx (fl (dat q.1)) (fl (dat p.1))=false
 l:(tab d ss 201).length<=200
section
variable {d:Nat} {G:Dd->Prop} {ss ss':List Dd} {srt srt':Tb}
theorem Told.mem(h:Told d ss srt){x:Dd}:x∈srt.map (·.1)↔x∈(tab d ss 201).map (·.1):=(h.p.map _).mem_iff
theorem Told.nd(h:Told d ss srt):(srt.map (·.1)).Nodup:=(h.p.map _).nodup_iff.mpr Wv
theorem Told.len(h:Told d ss srt):srt.length<=200:=by rw[h.p.length_eq];exact h.l
theorem Told.good(A:Amb d G)(b:∀s∈ss,G s)(h:Told d ss srt):∀x∈srt.map (·.1),G x:=λx a=>by
 obtain⟨y,c,rfl⟩:=oA.mp (h.mem.mp a);exact Wu A.one (λx a s h=>A.mul x s a (b s h)) y c
theorem Told.rise(A:Amb d G)(a:∀s∈ss,G s)(h:Told d ss srt):(srt.map (·.1)).Pairwise λp q=>lx (fl (dat p)) (fl (dat q))=true:=
 Lp (f:=dat) h.nd (λx _ y _ e=>dL.mp e) (λx b y c=>Dw (A.fine x (h.good A a x b)) (A.fine y (h.good A a y c))) (oE.mpr h.o)
theorem Told.same(A:Amb d G)(b:∀s∈ss,G s)(a:∀s∈ss',G s)(h:Told d ss srt)(h':Told d ss' srt')(e:∀x,x∈(tab d ss 201).map (·.1)↔x∈(tab d ss' 201).map (·.1)):srt.map (·.1)=srt'.map (·.1):=
 Da (f:=λx=>fl (dat x)) (h.rise A b) (h'.rise A a) λx=>h.mem.trans ((e x).trans h'.mem.symm)
theorem Grp.perm{T b:List Dd}(g:Grp d T)(p:b.Perm T):Grp d b:=by
 have m:∀{x},x∈b↔x∈T:=p.mem_iff;exact⟨g.dim,p.nodup_iff.mpr g.nd,λx a=>g.rs x (m.mp a),m.mpr g.one,λx a y c=>m.mpr (g.mul x (m.mp a) y (m.mp c)),λx a=>let ⟨y,c,e⟩:=g.inv x (m.mp a);⟨y,m.mpr c,e⟩⟩
end
section
variable {d:Nat} {T L:List Dd}
def cut(d:Nat)(L R:List Dd)(y:Dd)(n:Nat):List Dd:=R.filter λx=>decide (x∉(L.take n).map λl=>nA d l y)
structure Cos(d:Nat)(T L R:List Dd)(c:Nat):Prop where
 nd:R.Nodup
 sub:∀x∈R,x∈T
 cl:∀x∈R,∀l∈L,nA d l x∈R
 len:c*L.length+R.length=T.length
theorem Xo{R:List Dd}{y:Dd}:cut d L R y 0=R:=by
 unfold cut;exact List.filter_eq_self.mpr λx _=>by simp
theorem Ez{R:List Dd}{y x:Dd}{n:Nat}:x∈cut d L R y n↔x∈R/\∀l∈L.take n,nA d l y≠x:=by
 unfold cut;rw[List.mem_filter,wC,oA];exact⟨λ⟨h,k⟩=>⟨h,λl hl e=>k ⟨l,hl,e⟩⟩,λ⟨h,k⟩=>⟨h,λ⟨l,hl,e⟩=>k l hl e⟩⟩
theorem Xn{R:List Dd}{y l:Dd}{n:Nat}(e:L[n]?=some l):cut d L R y (n+1)=(cut d L R y n).filter λx=>decide (x≠nA d l y):=by
 unfold cut;rw[List.filter_filter];refine List.filter_congr λx _=>?_;rw[xN,e,xB,tP,zP,wC,wC,wC];simp;exact⟨λ⟨h,k⟩=>⟨λq=>k q,h⟩,λ⟨h,k⟩=>⟨k,λq=>h q⟩⟩
theorem Xm(g:Grp d T){x b y:Dd}(a:x∈T)(i:b∈T)(c:y∈T)(e:nA d x y=nA d b y):x=b:=by
 obtain⟨z,f,e1,_⟩:=g.inv y c;have k:∀x∈T,nA d (nA d x y) z=x:=λx a=>by rw[Dm g.dim (g.rs x a) (g.rs y c) (g.rs z f),e1,(Dl g.dim (g.rs x a)).2]
 rw[←k x a,←k b i,e]
theorem Xl(g:Grp d T)(k:Grp d L)(b:∀l∈L,l∈T){R:List Dd}{c:Nat}(h:Cos d T L R c){y l:Dd}(i:y∈R){n:Nat}(e:L[n]?=some l):nA d l y∈cut d L R y n:=by
 refine Ez.mpr ⟨h.cl y i l (zqb e),λo f q=>?_⟩;have:=Xm g (b o (List.mem_of_mem_take f)) (b l (zqb e)) (h.sub y i) q;subst this;obtain⟨j,a⟩:=wI f;have m:j<n:=by
  have:=(zqa a).1;rw[yN]at this;omega
 rw[tW m]at a;have hl:=(zqa a).1;have:=(List.getElem?_inj hl k.nd).mp (a.trans e.symm);omega
theorem Lo(g:Grp d T)(b:Grp d L)(a:∀l∈L,l∈T){R:List Dd}{c:Nat}(h:Cos d T L R c){y:Dd}(i:y∈R):∀n,n<=L.length->(cut d L R y n).length+n=R.length
 |0,_=>by rw[Xo];rfl
 | n+1,m=>by
  have k:=Lo g b a h i n ⋯;obtain⟨l,e⟩:∃l,L[n]?=some l:=⟨_,zqd ⋯⟩;have f:=Xl g b a h i e;have nd:(cut d L R y n).Nodup:=h.nd.filter _;rw[Xn e];have j:((cut d L R y n).filter λx=>decide (x≠nA d l y))=(cut d L R y n).erase (nA d l y):=by
   rw[nd.erase_eq_filter];exact List.filter_congr λx _=>tP.mpr (by rw[wC,bne_iff_ne])
  rw[j,List.length_erase_of_mem f];have:=sH f;omega
theorem Cos.next(g:Grp d T)(a:Grp d L)(p:∀l∈L,l∈T){R:List Dd}{c:Nat}(h:Cos d T L R c){y:Dd}(n:y∈R):Cos d T L (cut d L R y L.length) (c+1):=by
 have f:∀x,x∈cut d L R y L.length↔x∈R/\∀l∈L,nA d l y≠x:=λx=>by rw[Ez,uC]
 refine⟨h.nd.filter _,λx b=>h.sub x ((f x).mp b).1,λx b l hl=>?_,?_⟩
 ·obtain⟨b,k⟩:=(f x).mp b;refine(f _).mpr ⟨h.cl x b l hl,λi m q=>?_⟩;obtain⟨z,e,_,o⟩:=a.inv l hl;refine k (nA d z i) (a.mul z e i m) ?_;have j:=g.rs x (h.sub x b);rw[Dm g.dim (a.rs z e) (a.rs i m) (g.rs y (h.sub y n)),q,←Dm g.dim (a.rs z e) (a.rs l hl) j,o,(Dl g.dim j).1]
 ·have:=Lo g a p h n L.length (zE _);have:=h.len;rw[rC];omega
theorem Cos.start(g:Grp d T)(b:∀l∈L,l∈T):Cos d T L T 0:=⟨g.nd,λ_ h=>h,λx a l hl=>g.mul l (b l hl) x a,⋯⟩
theorem Cos.out(a:Grp d L)(g:Grp d T){R:List Dd}{c:Nat}(h:Cos d T L R c){y:Dd}(b:y∈R):y∉cut d L R y L.length:=λq=>(Ez.mp q).2 (nU d) (by rw[uC];exact a.one) (Dl g.dim (g.rs y (h.sub y b))).1
def run(d:Nat)(L:List Dd):List Dd->List Dd×Nat->List Dd×Nat
 |[],s=>s
 |y:: ys,(R,c)=>if y∈R then run d L ys (cut d L R y L.length,c+1) else run d L ys (R,c)
end
theorem Ln{K:Frag}{H:Hp}{p:Addr}{x:Dd}(h:DdS K H p x):Dt K H (.ref p) (dat x):=by
 obtain⟨e,d,b,a,c⟩:=h;exact .tup b (.cons (Dt.matB a) (.cons (Dt.intsB (b:=true) c) (.cons (.int _) .nil)))
theorem Xk{K:Frag}{H:Hp}{b:LA}{ms:List Dd}(h:Paired (DdS K H) b ms):Dts K H (b.map V.ref) (ms.map dat):=by
 induction h with
 |nil=>exact .nil
 |cons a _ c=>exact .cons (Ln a) c
theorem dX{K:Frag}{H:Hp}{b:LA}{srt:Tb}(h:Paired (λp(x:Dd×List Nat)=>Dt K H (.ref p) (dat x.1)) b srt):Paired (DdS K H) b (srt.map (·.1)):=by
 induction h with
 |nil=>exact .nil
 |cons a _ c=>exact .cons (Xq a) c
theorem Ay{K:Frag}{H H':Hp}{a:LA}{srt:Tb}(h:Paired (λp(x:Dd×List Nat)=>Dt K H (.ref p) (dat x.1)) a srt)(s:Same H H'):Paired (λp(x:Dd×List Nat)=>Dt K H' (.ref p) (dat x.1)) a srt:=Paired.mapP h λ_ x z=>kO (lK s) 4 (jG x.1) z
def dlD(l:List Dd):PyData:=.list (l.map dat)
theorem Lm(l:List Dd):iT 5 (dlD l)=true:=by
 show(l.map dat).all (iT 4)=true;rw[vI];intro d a;obtain⟨x,_,rfl⟩:=oA.mp a;exact gM 4 _ (jG x)
theorem Ll{K:Frag}{H:Hp}{a:Addr}{b:LA}{ms:List Dd}(e:H a=some (.lst (b.map V.ref)))(h:Paired (DdS K H) b ms):Dt K H (.ref a) (dlD ms):=.lst (SqL.of e) (Xk h)
theorem Ey{K:Frag}{H:Hp}{a b:Addr}{c d:LA}{ms ms':List Dd}{Q:VK}(e:H a=some (.lst (c.map V.ref)))(h:Paired (DdS K H) c ms)(f:H b=some (.lst (d.map V.ref)))(h':Paired (DdS K H) d ms')(g:ms=ms')(q:Q (.bl false) H):rNeD K (.ref a) (.ref b) H Q:=
 Pd 5 ∅ (Ll e h) (Ll f h') (Lm _) (Lm _) (b:=true) (by simp only[true_iff];rw[g]) q
theorem Ex(h:GrpF K t H g d ms srt)(k:∀l b H',Same H H'->H l=none->H' l=some (.lst (b.map V.ref))->Paired (λp(x:Dd×List Nat)=>Dt K H' (.ref p) (dat x.1)) b srt->Q (.ref l) H'):∃a fs,H g=some (.ins t.a_c a fs)/\fs.lookup (Str.ofString "members")=none/\sp_1 K t [.ref g] H Q E0:=by
 obtain⟨a,i,lo,e,f,c,_⟩:=id h.ex;exact⟨a,_,c,rfl,g,d,ms,srt,rfl,h,k⟩
theorem Xj(h:GrpF K t H g d ms srt)(k:∀l gs H',Same H H'->H l=none->H' l=some (.lst (gs.map V.ref))->Paired (DdS K H') gs ms->Q (.ref l) H'):∃a fs,H g=some (.ins t.a_c a fs)/\fs.lookup (Str.ofString "makers")=none/\sp_8 K t [.ref g] H Q E0:=by
 obtain⟨a,f,lo,c,e,b,_⟩:=id h.ex;exact⟨a,_,b,rfl,g,d,ms,srt,rfl,h,k⟩
theorem dY{H:Hp}{C x a:Addr}(nx:H x=none)(c:H a=none)(b:a≠x):Same H (upd (upd H a (.own x)) x (.ins C a []))/\(upd (upd H a (.own x)) x (.ins C a [])) x=some (.ins C a []):=
 ⟨(Same.new c).trans (Same.new (by rw[oV (zZ b)];exact nx)),oS⟩
theorem Lk{k:PyData}{v:V}{k':PyData}:∀{kvs:List (PyData×V)},vT (kvs.map λa=>if a.1=k then(a.1,v) else a) k'=if k'=k then(if(vT kvs k').isSome then some v else none) else vT kvs k'
 |[]=>by simp[vT]
 | p:: r=>by
  have b:=Lk (k:=k) (v:=v) (k':=k') (kvs:=r);rw[zN]
  by_cases e:p.1=k'
  ·rw[jP e]
   by_cases h:k'=k
   ·rw[zF h,zF (e.trans h),jP (show((p.1,v):PyData×V).1=k' from e)];rfl
   ·rw[zD h,zD (λq=>h (e.symm.trans q)),jP e]
  ·have c:¬ (if p.1=k then(p.1,v) else p).1=k':=by split <;> exact e
   rw[jQ c,jQ e,b]
theorem Lj{k:PyData}{v:V}{k':PyData}:∀{kvs:List (PyData×V)},vT (kvs++[(k,v)]) k'=if(vT kvs k').isSome then vT kvs k' else if k'=k then some v else none
 |[]=>by
  rw[rB]
  by_cases h:k'=k
  ·rw[jP h.symm,zD (by simp[vT]),zF h]
  ·rw[jQ (λq=>h q.symm),zD (by simp[vT]),zD h];simp[vT]
 |p:: r=>by
  have a:=Lj (k:=k) (v:=v) (k':=k') (kvs:=r);rw[List.cons_append]
  by_cases e:p.1=k'
  ·rw[jP e,jP e];rfl
  ·rw[jQ e,jQ e,a]
theorem Xi{kvs:List (PyData×V)}{k k':PyData}{v:V}:vT (pT kvs k v) k'=if k'=k then some v else vT kvs k':=by
 unfold pT;split
 ·rename_i h;rw[Lk]
  by_cases e:k'=k
  ·rw[zF e,zF e,zF (by rw[e];exact h)]
  ·rw[zD e,zD e]
 ·rename_i h;rw[Lj]
  by_cases e:k'=k
  ·rw[zF e,zF e,zD (by rw[e];exact h)]
  ·rw[zD e,zD e];split
   ·rfl
   ·rename_i q;cases hv:vT kvs k' with
    |none=>rfl
    |some w=>rw[hv]at q;simp at q
theorem Li{K:Frag}{H H':Hp}{a:Addr}{kvs:List (PyData×V)}(d:DTr K H a kvs)(k:KX a H H'):TK K H H':=by
 obtain⟨xs,e,_⟩:=d.ex;have b:∀c ys,H c=some (.tup ys)->H' c=some (.tup ys):=λc ys q=>k c _ (λw=>by rw[w,e]at q;cases q) q;refine⟨b,λc ys q=>?_⟩;rcases q with(q|⟨f,q⟩)|q
 ·exact .inl (.inl (b _ _ q))
 ·exact .inl (.inr ⟨f,k c _ (λw=>by rw[w,e]at q;cases q) q⟩)
 ·exact .inr q
structure Pr(d:Nat)(x:Dd):Prop where
 sq:Sq d x.1
 len:x.2.1.length=d
 pos:0<x.2.2
 bm:nZ 1500 x.1
 bt:kB 1000 x.2.1
 bu:x.2.2<2^1000
def sp_l(K:Frag):Sp:=λvs H Q _=>E7 λ(a b:Addr)(os ps:LA)(TT ms:List Dd)(d:Nat)=>A11 (vs=[.ref a,.ref b]) (H a=some (.lst (os.map V.ref))) (Paired (DdS K H) os TT) (H b=some (.lst (ps.map V.ref))) (Paired (DdS K H) ps ms) ((d=2\/d=3)) ((∀x∈TT,Pr d x)) ((∀x∈ms,Pr d x)) (TT.length<=200) ((∀x∈TT,∀m∈ms,nA d x m∈TT)) (∀H',Same H H'->Q (.bl true) H')
theorem ok_l(T:Txt K mg t):FnOk P w K mg base CX0 5 t.a_l t.d_l pe' (sp_l K):=by
 have c5:=@ok_e P w K mg base t T;apply T.F_l.ok sc_l
 ·have X:=hr.units;obtain⟨a,b,c2,ps,TT,ms,d,rfl,S,a6,a4,b4,a9,b1,b6,c6,b0,c3⟩:=h;refine⟨_,(oQ (oW (i:=2) sc_l.nd rfl (Or.inl rfl) Qh)
   (oQ (lE yR rfl (mI (pq 0)) (mD (i:=3) sc_l.nd rfl (Or.inl rfl))
   (oR (gG kJ (eE (pq 2) (pq 3) (Hy X)))))
   (oQ (lE yR rfl (mI (pq 0)) (mD (i:=3) sc_l.nd rfl (Or.inl rfl))
   (oR (lE yR rfl (mI (pq 1)) (mD (i:=4) sc_l.nd rfl (Or.inl rfl))
   (oR (nK (nI (Ga X) (nD c5 hr.mo T.F_e (oM (pq 3) (oM (pq 4) oN))) (pq 2) rfl)
   (oR (oZ kJ))
   nJ)))))
   (oR (oZ kJ))))),?_⟩
  show tSeq _ _ _ [some (.ref a),some (.ref b),none,none,none] H;refine st λN1 e1=>?_;simp only[Hv];ext;intro f a5 R;have F:Same H (upd H f (mP f [])):=Same.new a5;generalize upd H f (mP f [])=H1 at*
  have J:∀{b o},H b=some o->b≠f:=λ{b o}e w=>by rw[w,a5]at e;cases e
  have lo:c2.length=TT.length:=lC a6;subst e1;refine st λN1 e1=>lG λB eB=>?_;simp only[iSeq];ext;have O:=F _ _ S;have c0:=F _ _ a4;have Z:=Paired.mapP a6 λ_ _ z=>DdS.up z F;have b2:=Paired.mapP b4 λ_ _ z=>DdS.up z F;refine⟨false,⟨_,SqB.lst O⟩,?_⟩;refine iJ (g:=nB 3) (tb:=B) (λi g H2=>∃(v3:Option V)(kvs:List (PyData×V)),g=[some (.ref a),some (.ref b),some (.ref f),v3,none]/\KX f H1 H2/\DTr K H2 f kvs/\kvs.length<=i/\∀x∈TT.take i,(vT kvs (dat x)).isSome) ⟨none,[],rfl,λ_ _ _ e=>e,R,zE _,λx D=>by simp at D⟩ (λ_ _ _ _⟨_,_,_,k,_⟩=>SqB.lst (k _ _ (J S) O)) ?_ ?_
  ·rintro i y g H2 I ⟨v3,kvs,rfl,k2,N,l2,M⟩;obtain⟨q,U,rfl⟩:=gC I;obtain⟨x,G,D⟩:=jW Z U;have hi:i<200:=by have:=(zqa G).1;omega
   subst eB;show tAsg _ _ _ [some (.ref a),some (.ref b),some (.ref f),some (.ref q),none] H2;simp only[tAsg,gSub];ext;have b5:=DdS.tk D (Li R k2);refine⟨f,kvs,q,dat x,rfl,rfl,N,jG x,Ln b5,wF l2 (zJ hi (by show 200<=sizeLine;decide)),λH3 b7 _ b9=>?_⟩;refine⟨λc o a2 e=>b7 c o a2 (k2 c o a2 e),_,b9,yC (Hz _ _ _) ⋯,λz v=>?_⟩;rw[Xi]
   by_cases e:dat z=dat x
   ·rw[zF e];rfl
   ·rw[zD e];rw[xN,G]at v;rcases oF.mp v with v|v
    ·exact M z v
    ·exact absurd (by rw[show z=x by simpa using v]) e
  ·rintro g H2 ⟨v3,kvs,rfl,k2,N,l2,M⟩;rw[zqe,lo,uC]at M;have Y:=k2 _ _ (J S) O;have W:=k2 _ _ (J a4) c0;have tk:=Li (K:=K) R k2;have a7:=Paired.mapP Z λ_ _ z=>DdS.tk z tk;have a8:=Paired.mapP b2 λ_ _ z=>DdS.tk z tk;clear eB B;subst e1;refine st λN1 e1=>lG λB eB=>?_;simp only[iSeq];ext;refine⟨false,⟨_,SqB.lst Y⟩,?_⟩;refine iJ (g:=nB 3) (tb:=B) (λi g H3=>∃(v3 l:Option V),g=[some (.ref a),some (.ref b),some (.ref f),v3,l]/\Same H2 H3) ⟨_,_,rfl,Same.refl _⟩ (λ_ _ _ _⟨_,_,_,p⟩=>SqB.lst (p _ _ Y)) ?_ ?_
   ·rintro i y g H3 I ⟨v3,l,rfl,p⟩;obtain⟨q,U,rfl⟩:=gC I;obtain⟨x,G,D⟩:=jW a7 U;have u:=b1 x (zqb G);subst eB;show tFor _ _ _ _ [some (.ref a),some (.ref b),some (.ref f),some (.ref q),l] H3;refine lG λB eB=>?_;simp only[iSeq];ext;refine⟨false,⟨_,SqB.lst (p _ _ W)⟩,?_⟩;refine iJ (g:=nB 4) (tb:=B) (λj g L=>∃(l:Option V),g=[some (.ref a),some (.ref b),some (.ref f),some (.ref q),l]/\Same H2 L) ⟨_,rfl,p⟩ (λ_ _ _ _⟨_,_,n⟩=>SqB.lst (n _ _ W)) ?_ ?_
    ·rintro j y g L I ⟨l,rfl,n⟩;obtain⟨a1,c4,rfl⟩:=gC I;obtain⟨m,a0,b3⟩:=jW a8 c4;have C:=b6 m (zqb a0);subst eB;show tIfS _ _ _ _ [some (.ref a),some (.ref b),some (.ref f),some (.ref q),some (.ref a1)] L;ext;refine⟨q,a1,x,m,d,rfl,DdS.up D n,DdS.up b3 n,a9,u.sq,C.sq,u.len,C.len,u.pos,C.pos,u.bm,C.bm,u.bt,C.bt,u.bu,C.bu,λr c7 c1 b8=>?_⟩;have a3:=n.trans c1;refine⟨f,kvs,r,_,rfl,rfl,N.up a3,jG _,b8.dt,?_⟩;have:=M _ (b0 x (zqb G) m (zqb a0));rw[zF rfl,this];exact⟨_,rfl,iteF a3⟩
    ·rintro g L ⟨l,rfl,n⟩;exact⟨_,_,rfl,n⟩
   ·rintro g H3 ⟨v3,l,rfl,p⟩;symm;exact c3 H3 λc o e=>p _ _ (k2 c o (J e) (F _ _ e))
theorem Lh(T:Txt K mg t):XGt K t.a_2 "apart" := ⟨ecls T 2,T.h_1m,T.h_r⟩
section
open PySem.Spec PyProof.Rows
variable {X:Cx} {e:Expr} {f:Str} {pos:Pos} {te:TE} {C:Addr}
def tXg(C:Addr)(f:Str)(te:TE):TE:=λσ H Q=>te σ H λy H1=>∃p dx v,y=.ref p/\H1 p=some (kE p (.ref C) (some dx))/\H1 dx=some (XDct dx f v)/\Q v H1
theorem Lg(g:XGt X.K C f)(r:PE X e te)(z:attributeBase e f X.env (eval e X.env)=eval e X.env):PE X (.Attribute e f pos) (tXg C f te):=by
 intro j s m H Q I h;refine Ef z (thn (r j s m H _ I h) λu c⟨x,H1,a,d,p,y,v,i,ep,l,q⟩=>?_);subst i;obtain rfl:u=Value.ref p:=d;obtain⟨⟨o,k1,k2,k3,F⟩,_⟩:=(show nM X.prog X.w H1 c.heap _ (kE _ _ _) from a.hok _ _ ep);obtain⟨⟨G,u,n,k,b⟩,_⟩:=(show nM X.prog X.w H1 c.heap _ (XDct _ _ _) from a.hok _ _ l);obtain⟨od,D,hl⟩:=Ej n;exact Tn g.F g.na g.hd a.kIn ⟨k1,k2,k3,by rw[F y rfl];exact D⟩ (by rw[hl,k]) (Eg b) ⟨v,H1,a.tok _,b,q⟩
end
def iA(d:Nat)(ms:List Dd):Prop:=(d=2\/d=3)/\ms.length<=3/\∃F:Fr5,F.d=d/\F.Ok/\∀m∈ms,MkN F m/\nZ 1500 m.1/\kB 1000 m.2.1/\m.2.2<2^1000
theorem iA.pr{d:Nat}{ms:List Dd}(h:iA d ms):∀m∈ms,Pr d m:=by
 obtain⟨_,_,F,rfl,_,g⟩:=h;exactλm f=>let ⟨a,b,c,e⟩:=g m f;⟨a.1.sq,a.1.len,a.1.pos,b,c,e⟩
theorem iA.ax{d:Nat}{ms:List Dd}(h:iA d ms):AxOk d ms:=⟨by have:=h.1;omega,λs a=>by rw[(h.pr s a).sq.1]⟩
theorem Pr.up{d:Nat}{x:Dd}(f:lO d x)(b:nZ 1500 x.1)(c:kB 1000 x.2.1)(e:x.2.2<2^1000):Pr d x:=⟨f.sq,f.len,f.pos,b,c,e⟩
theorem dZ{K:Frag}{t:Adr}{d most:Nat}{ms:List Dd}{H H1:Hp}{a x m:Addr}{b:Bool}{ps:LA}{Q:VK}{E:XK}(D:iA d ms)(q:H1 x=some (.ins t.a_c m []))(c:Same H H1)(I:SqB b K H a (ps.map V.ref))(W:Paired (DdS K H) ps ms)(Y:1<=most)(O:most<=200)(J:H x=none)
  (N:most<(tab d (ms.map oY) 201).length->∀i H',Same H H'->Apt H' i (most+1)->E (.ref t.a_2) (some i) H')
  (S:(tab d (ms.map oY) 201).length<=most->∀srt H',Same H H'->GrpF K t H' x d ms srt->Told d (ms.map oY) srt->(∀y∈srt.map (·.1),lO d y/\Pr d y/\oY y=y)->Q .non H'):
  Dv K t [.ref x,.int d,.ref a,.int most] H1 Q E:=by
 have ax:=D.ax;obtain⟨X,Z,F,rfl,j,v⟩:=D;have G:=Wd j (λs U=>(v s U).1);refine⟨b,F.d,most,a,x,m,ps,ms,rfl,q,I.up c,Paired.mapP W λ_ _ z=>DdS.up z c,λh=>absurd ⟨⋯,⋯⟩ h,λ_ h=>absurd ax h,λ_ _=>⟨InN F,F.d,most,rfl,rfl,⋯,G,λhl M srt H' k g p o=>?_,λhl i H' r u=>N hl i H' (c.trans r) u⟩⟩;have n:Told F.d (ms.map oY) srt:=⟨p,o,yC hl O⟩;refine S hl srt H' (λb o e=>k b o (λz=>by rw[z,J]at e;cases e) (c _ _ e)) g n λy L=>?_;obtain⟨z,C,rfl⟩:=oA.mp (n.mem.mp L);obtain⟨l,a0⟩:=M.2 z C;obtain⟨f,b1,b2,T⟩:=Dj j ⋯ l;refine⟨f,Pr.up f b1 b2 T,?_⟩;obtain⟨R,_,_,ts,_,e⟩:=l;rw[e];exact Wi
def Ref(d bound:Int)(ms:List Dd)(n:Nat):Prop:=(n=0/\¬ (1<=bound/\bound<=200))\/(n=1/\(1<=bound/\bound<=200)/\¬ AxOk d ms)\/(n=2/\∃d' m':Nat,d=d'/\bound=m'/\1<=m'/\m'<=200/\iA d' ms/\m'<(tab d' (ms.map oY) 201).length)
def sp_4(K:Frag)(t:Adr):Sp:=λvs H Q _=>E7 λ(b:Bool)(d bound:Int)(a:Addr)(ps:LA)(ms:List Dd)(n:Nat)=>A5 (vs=[.int d,.ref a,.int bound]) (SqB b K H a (ps.map V.ref)) (Paired (DdS K H) ps ms) (Ref d bound ms n) (∀H',Same H H'->Q (.str (Az n)) H')
def sp_s(K:Frag)(t:Adr):Sp:=λvs H Q _=>E6 λ(b:Bool)(d bound:Nat)(a:Addr)(ps:LA)(ms:List Dd)=>A8 (vs=[.int d,.ref a,.int bound]) (SqB b K H a (ps.map V.ref)) (Paired (DdS K H) ps ms) (1<=bound) (bound<=200) (iA d ms) (bound<(tab d (ms.map oY) 201).length) (∀H',Same H H'->Q (.bl true) H')
theorem Xh{K:Frag}{t:Adr}{d f:Int}{n:Nat}{ms:List Dd}{H H1:Hp}{a x o:Addr}{b:Bool}{ps:LA}{Q:VK}{E:XK}(r:Ref d f ms n)(g:H1 x=some (.ins t.a_c o []))(c:Same H H1)(m:SqB b K H a (ps.map V.ref))(l:Paired (DdS K H) ps ms)(p:H x=none)
  (j:∀od H',Same H H'->E (.ref (excE t n)) od H'):Dv K t [.ref x,.int d,.ref a,.int f] H1 Q E:=by
 rcases r with⟨rfl,h⟩|⟨rfl,k,i⟩|⟨rfl,d',v,rfl,rfl,k,i,D,u⟩
 ·exact⟨b,d,f,a,x,o,ps,ms,rfl,g,m.up c,Paired.mapP l λ_ _ z=>DdS.up z c,λ_ H' e=>j none H' (c.trans e),λz=>absurd z h,λz=>absurd z h⟩
 ·exact⟨b,d,f,a,x,o,ps,ms,rfl,g,m.up c,Paired.mapP l λ_ _ z=>DdS.up z c,λz=>absurd k z,λ_ _ H' e=>j none H' (c.trans e),λ_ z=>absurd z i⟩
 ·exact dZ D g c m l k i p (λ_ q H' e _=>j (some q) H' e) λhl=>absurd u ⋯
theorem ok_4(T:Txt K mg t):FnOk P w K mg base CX0 14 t.a_4 t.d_4 pd' (sp_4 K t):=by
 have l:=@ok_0 P w K mg base t T;have q:iV P w K mg base 2 t.a_v t.d_v pu' (sp_v t):=ok_v T;apply T.F_4.ok sc_4
 ·obtain⟨b,d,j,a,ps,ms,n,rfl,p,o,r,i⟩:=h;refine⟨_,(oQ (oW (i:=3) sc_4.nd rfl (Or.inl rfl) mJ)
   (oQ (Ae (i:=4) rfl rfl rfl sc_4.nd rfl rfl rfl T.m_14 (λ_ _ _ f =>
   (oR (kC (Cy (C:=t.a_c) (T.mk_c) l hr.mo rfl T.m_c T.b_0 .nil f (oM (pq 0) (oM (pq 1) (oM (pq 2) oN))))))) (λ_ =>
   (oR (oW (i:=3) sc_4.nd rfl (Or.inl rfl) (Gz q ((hr.a.mark _).mono ⋯) rfl T.F_v.m T.F_v.kp T.F_v.b .nil (oM (pq 4) oN))))))
   (oR (oZ (pq 3))))),?_⟩
  show tSeq _ _ _ [some (.int d),some (.ref a),some (.int j),none,none] H;right;subst e1;refine st λN1 e1=>?_;simp only[tTry,aD];ext;intro x C nx k y;obtain⟨z,c⟩:=dY (C:=t.a_c) nx k y;refine Xh r c z p o nx λod H1 u=>⟨Xr T n,λe v=>⟨e,n,od,rfl,oS,λH2 m=>?_⟩⟩;have g:=(u.trans (Same.new v)).trans m;symm;exact i H2 g
theorem ok_s(T:Txt K mg t):FnOk P w K mg base CX0 14 t.a_s t.d_s pd' (sp_s K t):=by
 have k:=@ok_0 P w K mg base t T;apply T.F_s.ok sc_s
 ·obtain⟨b,d,c,a,ps,ms,rfl,y,I,b1,b2,D,hl,C⟩:=h;refine⟨_,(oQ (oW (i:=3) sc_s.nd rfl (Or.inl rfl) cC)
   (oQ (Ae (i:=4) rfl rfl rfl sc_s.nd rfl rfl rfl T.m_2 (λ_ _ _ u =>
   (oR (kC (Cy (C:=t.a_c) (T.mk_c) k hr.mo rfl T.m_c T.b_0 .nil u (oM (pq 0) (oM (pq 1) (oM (pq 2) oN))))))) (λ_ =>
   (oR (oW (i:=3) sc_s.nd rfl (Or.inl rfl) (Lg (Lh T) (pv 4) rfl)))))
   (oR (oZ (cE (nQ mY rfl T.z_isinstance (nofun) (oM (pq 3) (oM (iP (v:=.ty "list") rfl T.z_list (nofun) rfl) oN))) (fZ (iR mZ (mO T.z_len (pq 3)) (oP mC (pq 2) oO) (nH _)))))))),?_⟩
  show tSeq _ _ _ [some (.int d),some (.ref a),some (.int c),none,none] H;right;subst e1;refine st λN1 e1=>?_;simp only[tTry,aD,tXg];ext;intro x J nx j z;obtain⟨p,q⟩:=dY (C:=t.a_c) nx j z;refine dZ D q p y I b1 b2 nx (λ_ f H1 G o=>?_) λh=>absurd hl ⋯;obtain⟨l,ys,m,v,L⟩:=o;refine⟨T.h_t,λe F=>?_⟩;have g:=Same.new (o:=kE e (.ref t.a_2) (some f)) F;refine⟨_,rfl,e,f,.ref l,rfl,oS,g _ _ m,?_⟩;have i:=g _ _ v;show N1 [some (.int d),some (.ref a),some (.int c),some (.ref l),none] (upd H1 e (kE e (.ref t.a_2) (some f)));have n:=G.trans g;generalize upd H1 e (kE e (.ref t.a_2) (some f))=H2 at*
  symm;refine⟨_,_,_,true,rfl,.ty (.lst i),rfl,T.k_ll,true,rfl,iteT ?_⟩;refine⟨false,l,_,rfl,SqB.lst i,_,_,rfl,rfl,?_⟩;have r:decide ((ys.length:Int)=(c:Int)+1)=true:=zL ⋯;show Q (.bl (decide ((ys.length:Int)=(c:Int)+1))) H2;rw[r];exact C H2 n
def MemL(K:Frag)(H:Hp)(l:Addr)(d:Nat)(ms:List Dd)(srt:Tb):Prop:=Told d (ms.map oY) srt/\(∀y∈srt.map (·.1),lO d y/\Pr d y/\oY y=y)/\∃os:LA,H l=some (.lst (os.map V.ref))/\Paired (λp(x:Dd×List Nat)=>Dt K H (.ref p) (dat x.1)) os srt
def sp_9(K:Frag)(t:Adr):Sp:=λvs H Q _=>E4 λ(d:Nat)(a:Addr)(ps:LA)(ms:List Dd)=>A6 (vs=[.int d,.ref a]) (H a=some (.lst (ps.map V.ref))) (Paired (DdS K H) ps ms) (iA d ms) ((∀r l H',Same H H'->H' r=some (.lst [.bl true,.ref l])->H' l=some (.lst [])->Q (.ref r) H')) ((∀srt r l H',Same H H'->H' r=some (.lst [.bl true,.ref l])->MemL K H' l d ms srt->Q (.ref r) H'))
theorem Xg{d:Nat}{x m:Dd}(a:0<x.2.2)(b:0<m.2.2)(e:oY x=x):nA d x m=nA d x (oY m):=by
 have:=Vn (d:=d) a b;rw[e]at this;exact this
theorem ok_9(T:Txt K mg t):FnOk P w K mg base CX0 14 t.a_9 t.d_9 ph' (sp_9 K t):=by
 have M:=@ok_0 P w K mg base t T;have X:=@ok_1 P w K mg base t T;have a0:=@ok_l P w K mg base t T;apply T.F_9.ok sc_9
 ·obtain⟨d,a,ps,ms,rfl,J,k,D,a5,a7⟩:=h;refine⟨_,(oQ (oW (i:=2) sc_9.nd rfl (Or.inl rfl) cC)
   (oQ (oW (i:=3) sc_9.nd rfl (Or.inl rfl) cC)
   (oQ (Ae (i:=4) rfl rfl rfl sc_9.nd rfl rfl rfl T.m_2 (λ_ _ _ a1 =>
   (oR (oW (i:=2) sc_9.nd rfl (Or.inl rfl) (Cy (C:=t.a_c) (T.mk_c) M hr.mo rfl T.m_c T.bd_Group___init__ (dvs:=[.int 200]) (.cons ⟨_,rfl⟩ .nil) a1 (oM (pq 0) (oM (pq 1) oN)))))) (λ_ =>
   (oR (oW (i:=3) sc_9.nd rfl (Or.inl rfl) (Lg (Lh T) (pv 4) rfl)))))
   (oQ (nK (nI Md (pq 2) cC (nH _))
   (oR (oZ (nS (oM (cE (nQ mY rfl T.z_isinstance (nofun) (oM (pq 3) (oM (iP (v:=.ty "list") rfl T.z_list (nofun) rfl) oN))) (fZ (iR mZ (mO T.z_len (pq 3)) oO (nH _)))) (oM (nS oN) oN)))))
   nJ)
   (oQ (oW (i:=5) sc_9.nd rfl (Or.inl rfl) (cN (C:=t.a_c) (pq 2) T.cl_c T.me_1 X hr.mo T.b_1 .nil fA))
   (oQ (nK (PW.pt (lD (cD (mS (nQ mY rfl T.z_isinstance (nofun) (oM (pq 5) (oM (iP (v:=.ty "list") rfl T.z_list (nofun) rfl) oN))))) (lD (nI gX (mO T.z_len (pq 5)) oO (nH _)) (kK (nI cH (mO T.z_len (pq 5)) oO (nH _))))))
   (oR (oZ (nS (oM kJ (oM (nS oN) oN)))))
   nJ)
   (oR (oZ (nS (oM (nD a0 hr.mo T.F_l (oM (pq 5) (oM (pq 1) oN))) (oM (pq 5) oN))))))))))),?_⟩
  show tSeq _ _ _ [some (.int d),some (.ref a),none,none,none,none] H;right;left;subst e1;refine st λN1 e1=>?_;simp only[tTry,aD,tXg];ext;intro x a9 nx L a6;obtain⟨S,U⟩:=dY (C:=t.a_c) nx L a6;refine dZ (most:=200) D U S (SqB.lst J) k ∅ ∅ nx (λ_ j H1 C R=>?_) λhl srt H1 C W o pr=>⟨rfl,?_⟩
  ·obtain⟨l,ys,N,a3,b2⟩:=R;refine⟨T.h_t,λe a8=>?_⟩;have b:=Same.new (o:=kE e (.ref t.a_2) (some j)) a8;refine⟨_,rfl,e,j,.ref l,rfl,oS,b _ _ N,?_⟩;have G:=b _ _ a3;show N1 [some (.int d),some (.ref a),some .non,some (.ref l),none,none] (upd H1 e (kE e (.ref t.a_2) (some j)));have O:=C.trans b;generalize upd H1 e (kE e (.ref t.a_2) (some j))=H2 at*
   left;refine⟨_,_,_,true,rfl,.ty (.lst G),rfl,T.k_ll,true,rfl,iteT ?_⟩;refine⟨false,l,_,rfl,SqB.lst G,_,_,rfl,rfl,?_⟩
   try ext
   have Y:decide ((ys.length:Int)=201)=true:=zL ⋯;rw[Y];exact⟨yA _,λp k=>⟨by show 2<=sizeLine;decide,λr hr=>a5 r p _ ((O.trans (Same.new k)).trans (Same.new hr)) oS (Same.new hr _ _ oS)⟩⟩
  ·left;rw[zK (show¬ (V.ref x=V.non) by intro z;cases z)];refine iteF ?_;left;simp only[Aq];ext;refine Ex W λg u H2 b b0 c q=>?_;have b1:0<srt.length:=by rw[o.p.length_eq];exact sH Kq
   have F:u.length=srt.length:=lC q;have Z:=o.len;have v:=C.trans b;left;refine⟨_,_,_,true,rfl,.ty (.lst c),rfl,T.k_ll,true,rfl,iteF ?_⟩;refine⟨false,g,_,rfl,SqB.lst c,?_⟩
   try ext
   rw[zqe,F,zK ⋯];refine iteF ⟨false,g,_,rfl,SqB.lst c,?_⟩
   try ext
   rw[zqe,F,zK ⋯];refine iteF ?_;symm;refine⟨g,a,u,ps,srt.map (·.1),ms,d,rfl,c,dX q,v _ _ J,Paired.mapP k λ_ _ z=>DdS.up z v,D.1,λy i=>(pr y i).2.1,D.pr,by rw[zqe];exact Z,λy i m I=>?_,λH3 n=>?_⟩
   ·obtain⟨f,a4,e⟩:=pr y i;rw[Xg a4.pos (D.pr m I).pos e];obtain⟨z,a2,rfl⟩:=oA.mp (o.mem.mp i);exact o.mem.mpr (Wq (yC o.l ∅) z a2 _ (oA.mpr ⟨m,I,rfl⟩))
   ·exact⟨by show 2<=sizeLine;decide,λr hr=>a7 srt r g _ ((v.trans n).trans (Same.new hr)) oS ⟨o,pr,u,Same.new hr _ _ (n _ _ c),Ay (Ay q n) (Same.new hr)⟩⟩
theorem Told.rise1{d:Nat}{ss:List Dd}{srt:Tb}(h:Told d ss srt)(f:∀x∈srt.map (·.1),lO d x):(srt.map (·.1)).Pairwise λp q=>lx (fl (dat p)) (fl (dat q))=true:=
 Lp (f:=dat) h.nd (λx _ y _ e=>dL.mp e) (λx a y b=>Dw (f x a) (f y b)) (oE.mpr h.o)
theorem Told.same1{d:Nat}{ss:List Dd}{srt a:Tb}(h:Told d ss srt)(h':Told d ss a)(f:∀x∈srt.map (·.1),lO d x)(b:∀x∈a.map (·.1),lO d x):srt.map (·.1)=a.map (·.1):=
 Da (f:=λx=>fl (dat x)) (h.rise1 f) (h'.rise1 b) λx=>h.mem.trans h'.mem.symm
def sp_d(K:Frag)(t:Adr):Sp:=λvs H Q _=>E6 λ(d:Nat)(a lm:Addr)(ps:LA)(ms:List Dd)(c:Int)=>A6 (vs=[.int d,.ref a,.ref lm,.int c]) (H a=some (.lst (ps.map V.ref))) (Paired (DdS K H) ps ms) (iA d ms) ((H lm=some (.lst [])\/∃srt,MemL K H lm d ms srt)) (∀H',Same H H'->Q (.bl true) H')
theorem ok_d(T:Txt K mg t):FnOk P w K mg base CX0 15 t.a_d t.d_d pb' (sp_d K t):=by
 have G:=@ok_0 P w K mg base t T;have L:=@ok_1 P w K mg base t T;have b0:=@ok_8 P w K mg base t T;have W:=@ok_4 P w K mg base t T;have a3:=@ok_s P w K mg base t T;apply T.F_d.ok sc_d
 ·have p:=hr.units;obtain⟨d,a,n,ps,ms,c,rfl,k,l,D,hl,C⟩:=h;refine⟨_,(oQ (oW (i:=4) sc_d.nd rfl (Or.inl rfl) (mO T.z_len (pq 2)))
   (oQ (nK (nI mZ (pq 4) oO (nH _))
   (oR (oZ kJ))
   nJ)
   (oQ (oW (i:=5) sc_d.nd rfl (Or.inl rfl) (Tk (C:=t.a_c) (T.mk_c) G hr.mo rfl T.m_c T.bk_Group___init__ eI (oM (pq 0) (oM (pq 1) oN)) (pq 4)))
   (oQ (oW (i:=6) sc_d.nd rfl (Or.inl rfl) (Np (C:=t.a_c) (T.mk_c) G hr.mo rfl T.m_c T.b_0 .nil eI (oM (pq 0) (oM (pq 1) (oM (nQ (Mb rfl) rfl T.z_min (nofun) (oM oO (oM (oP mC (pq 4) (oP nP (pq 3) oO)) oN))) oN)))))
   (oQ (nK (PW.pt (lD (nI (Ad p) (cN (C:=t.a_c) (pq 5) T.cl_c T.me_1 L hr.mo T.b_1 .nil fA) (pq 2) (nH _)) (lD (nI (Ad p) (cN (C:=t.a_c) (pq 6) T.cl_c T.me_1 L hr.mo T.b_1 .nil fA) (pq 2) (nH _)) (kK (nI (Ad p) (cN (C:=t.a_c) (pq 5) T.cl_c T.me_8 b0 hr.mo T.b_8 .nil fA) (pq 1) (nH _))))))
   (oR (oZ kJ))
   nJ)
   (oQ (nK (nI mZ (pq 4) oO (nH _))
   (oR (oZ kJ))
   nJ)
   (oR (oZ (cE (iR At (nD W hr.mo T.F_4 (oM (pq 0) (oM (pq 1) (oM (oP lV (pq 4) oO) oN)))) mJ (nH _)) (fZ (nD a3 hr.mo T.F_s (oM (pq 0) (oM (pq 1) (oM (oP lV (pq 4) oO) oN)))))))))))))),?_⟩
  show tSeq _ _ _ [some (.int d),some (.ref a),some (.ref n),some (.int c),none,none,none] H;right;rcases hl with hl|⟨srt,o,pr,b4,hl,v⟩
  ·refine⟨false,n,_,rfl,SqB.lst hl,?_⟩;left;exact iteT (C H (Same.refl _))
  ·refine⟨false,n,_,rfl,SqB.lst hl,?_⟩
   try ext
   have U:b4.length=srt.length:=lC v;have lt:srt.length=(tab d (ms.map oY) 201).length:=o.p.length_eq;have c4:0<srt.length:=by rw[lt];exact sH Kq
   have M:=o.len;rw[zqe,U];generalize srt.length=N at*
   left;rw[zK ⋯];refine iteF ?_;left;simp only[Im];ext;intro x c2 nx f j;obtain⟨g,i⟩:=dY (C:=t.a_c) nx f j;refine dZ (most:=N) D i g (SqB.lst k) l ⋯ M nx (λh=>absurd h ⋯) λ_ d1 H1 F a6 a9 c0=>⟨rfl,?_⟩;have a0:=F _ _ k;have b2:=Paired.mapP l λ_ _ z=>DdS.up z F;clear nx f j i g;left;simp only[Ee];ext;refine⟨∅,?_⟩;have c7:=fms c 200 ∅;obtain⟨mo,I,c1,a8⟩:∃mo:Nat,(if(N:Int)+c.fmod 200<200 then(N:Int)+c.fmod 200 else 200)=(mo:Int)/\N<=mo/\mo<=200:=by
    split
    ·exact⟨((N:Int)+c.fmod 200).toNat,⋯,⋯,⋯⟩
    ·exact⟨200,rfl,M,∅⟩
   rw[I];intro c9 d4 nx f j;obtain⟨g,i⟩:=dY (C:=t.a_c) nx f j;refine dZ (most:=mo) D i g (SqB.lst a0) b2 ⋯ a8 nx (λh=>absurd h ⋯) λ_ d2 H2 J a7 S a4=>⟨rfl,?_⟩;clear nx f j i g I;have b6:=F.trans J;have O:=a6.up J;left;simp only[Aq];ext;refine Ex O λl1 d3 H3 m c5 b9 b1=>?_;have q:=b6.trans m;refine Ey b9 (dX b1) (q _ _ hl) (dX (Ay v q)) (a9.same1 o (λy b=>(c0 y b).1) λy b=>(pr y b).1) ⟨_,rfl,iteF ?_⟩;refine Ex (a7.up m) λl2 d0 c3 R d6 a1 b5=>?_;have r:=q.trans R;refine Ey a1 (dX b5) (r _ _ hl) (dX (Ay v r)) (S.same1 o (λy b=>(a4 y b).1) λy b=>(pr y b).1) ⟨_,rfl,iteF ?_⟩;refine Xj ((O.up m).up R) λc8 gs Z b3 d5 X Y=>?_;have e:=r.trans b3;refine Ey X Y (e _ _ k) (Paired.mapP l λ_ _ z=>DdS.up z e) rfl ⟨_,rfl,iteF ?_⟩;left;refine ite2 (λ_=>C Z e) (λz=>?_);have z:¬ (N:Int)=1:=by simpa using z
   symm;have a5:(N:Int)-1=((N-1:Nat):Int):=⋯
   rw[a5];refine⟨false,d,(N-1:Nat),a,ps,ms,2,rfl,SqB.lst (e _ _ k),Paired.mapP l λ_ _ z=>DdS.up z e,.inr (.inr ⟨rfl,d,N-1,rfl,rfl,⋯,⋯,D,⋯⟩),λc6 b8=>?_⟩;have u:=e.trans b8;refine⟨rfl,true,by rw[zL (show V.str (Az 2)=V.str (Str.ofString "many") from rfl)],iteT ?_⟩;exact⟨false,d,N-1,a,ps,ms,rfl,SqB.lst (u _ _ k),Paired.mapP l λ_ _ z=>DdS.up z u,⋯,⋯,D,⋯,λb7 a2=>C b7 (u.trans a2)⟩
theorem Xf{xs:List V}{k:Nat}(h:k<=xs.length):cutV xs none (some (k:Int))=xs.take k:=by
 unfold cutV;rw[HT.sIx_none,HT.sIx_nat,rG h];simp
theorem Xe{xs:List V}{k:Nat}(h:k<=xs.length):cutV xs (some (k:Int)) none=xs.drop k:=by
 unfold cutV;rw[HT.sIx_none,HT.sIx_nat,rG h,yT (by simp)]
theorem Lf{b d:Type}{F:b->d->Prop}{xs:List b}{ys:List d}(h:Paired F xs ys):∀k:Nat,Paired F (xs.take k) (ys.take k)/\Paired F (xs.drop k) (ys.drop k):=by
 induction h with
 |nil=>intro k;rw[List.take_nil,List.take_nil,List.drop_nil,List.drop_nil];exact⟨.nil,.nil⟩
 |cons a h c =>
  intro k;cases k with
  |zero=>exact⟨.nil,.cons a h⟩
  |succ k=>exact⟨.cons a (c k).1,(c k).2⟩
theorem Le{e d:Type}{F:e->d->Prop}{xs b:List e}{ys c:List d}(h:Paired F xs ys)(h':Paired F b c):Paired F (xs++b) (ys++c):=by
 induction h with
 |nil=>exact h'
 |cons a _ f=>exact .cons a f
theorem ok_1m(T:Txt K mg t):FnOk P w K mg base CX0 17 t.a_1m t.d_1m pt' (Gx K):=by
 have i5:=@ok_b P w K mg base t T;have j5:=@ok_7 P w K mg base t T;have j1:=@ok_9 P w K mg base t T;have h0:=@ok_d P w K mg base t T;have J:=@ok_4 P w K mg base t T;have h4:=@ok_k P w K mg base t T;have h7:=@ok_w P w K mg base t T;apply T.F_1m.ok sc_1m
 ·have k8:=hr.units;obtain⟨a,ns,rfl,e7,k1,k5,i9⟩:=h;refine⟨_,(oQ (gG (nD i5 hr.mo T.F_b (oM (pq 0) oN)) (Ge rfl (lQ (mD (i:=1) sc_1m.nd rfl (Or.inl rfl)) (lQ (mD (i:=2) sc_1m.nd rfl (Or.inl rfl)) iQ))))
   (oQ (oW (i:=3) sc_1m.nd rfl (Or.inl rfl) (nD j5 hr.mo T.F_7 (oM (pq 0) (oM oO oN))))
   (oQ (gG (nD j1 hr.mo T.F_9 (oM (pq 1) (oM (pq 2) oN))) (Ge rfl (lQ (mD (i:=4) sc_1m.nd rfl (Or.inl rfl)) (lQ (mD (i:=5) sc_1m.nd rfl (Or.inl rfl)) iQ))))
   (oQ (nK (PW.pt (lD (cD (mS (pq 4))) (kK (cD (mS (nD h0 hr.mo T.F_d (oM (pq 1) (oM (pq 2) (oM (pq 5) (oM (pq 3) oN))))))))))
   (oR (oZ kJ))
   nJ)
   (oQ (oW (i:=6) sc_1m.nd rfl (Or.inl rfl) (oP nP (pq 3) (oP Au oO oO)))
   (oQ (lE yR rfl (mI (nS (oM oO (oM oO (oM (oP lV (gU gW oO) (pq 6)) (oM (oP mC oO (pq 6)) oN)))))) (mD (i:=7) sc_1m.nd rfl (Or.inl rfl))
   (oR (nK (PW.pt (lD (nI cG (nD J hr.mo T.F_4 (oM (pq 1) (oM (pq 2) (oM (pq 7) oN)))) mJ (nH _)) (kK (nI cG (nD J hr.mo T.F_4 (oM (oP lV oO (pq 1)) (oM (pq 2) (oM (pq 7) oN)))) mJ (nH _)))))
   (oR (oZ kJ))
   nJ)))
   (oQ (oW (i:=8) sc_1m.nd rfl (Or.inl rfl) (nV ix_B (nS (oM oO (oM oO (oM oO (oM (oP mC oO (pq 6)) (oM (gU gW (pq 6)) oN)))))) (oP nP (pq 3) oO) (λ_ _=>rfl)))
   (oQ (nK (PW.pt (lD (nI cG (nD J hr.mo T.F_4 (oM (pq 8) (oM (nS oN) (oM oO oN)))) mJ (nH _)) (kK (nI cG (nD J hr.mo T.F_4 (oM (pq 8) (oM (pq 2) (oM oO oN)))) mJ (nH _)))))
   (oR (oZ kJ))
   nJ)
   (oQ (oW (i:=9) sc_1m.nd rfl (Or.inl rfl) (oP nP (oP mB (pq 3) oO) (oP mC (mO T.z_len (pq 2)) oO)))
   (oQ (oW (i:=10) sc_1m.nd rfl (Or.inl rfl) (nD h7 hr.mo T.F_w (oM (nD h4 hr.mo T.F_k (oM (oP lV oO (pq 1)) oN)) (oM (oP Fl (nS (oM oO oN)) (oP lV oO (pq 1))) (oM oO oN)))))
   (oQ (oW (i:=11) sc_1m.nd rfl (Or.inl rfl) (oP gZ (oP gZ (cR sl_B (pq 2) cP (cQ (pq 9))) (nS (oM (pq 10) oN))) (cR sl_B (pq 2) (cQ (pq 9)) cP)))
   (oR (oZ (cE (iR At (nD J hr.mo T.F_4 (oM (pq 1) (oM (pq 11) (oM oO oN)))) mJ (nH _)) (fZ (iR At (nD J hr.mo T.F_4 (oM (pq 1) (oM (pq 11) (oM oO oN)))) mJ (nH _))))))))))))))))),?_⟩
  show tSeq _ _ _ [some (.ref a),none,none,none,none,none,none,none,none,none,none,none] H;right;refine⟨a,ns,rfl,e7,λr l f ms d L k6 H1 j2 i1 b7 o e3 g0 f8 e2 d6 e4 c6=>?_⟩;obtain⟨F,d4,f2,d2⟩:=Wc e3 g0 f8 e2 d6 e4 c6;have D:iA d ms:=⟨e3,e4,F,d4,f2,d2⟩;clear c6 g0 f8 e2 d6 d2 f2 d4 F;refine⟨false,r,_,rfl,SqB.lst i1,rfl,_,_,rfl,_,_,rfl,rfl,?_⟩;have c0:=Paired.mapP o λ_ _ z=>DdAt.s z;clear o;left;refine⟨a,ns,_,rfl,aZ e7 j2,∅,?_⟩;generalize ns.getD (Int.toNat 1) 0=c;left;have f7:∀r2 l2 H2,Same H1 H2->H2 r2=some (.lst [.bl true,.ref l2])->(H2 l2=some (.lst [])\/∃srt,MemL K H2 l2 d ms srt)->Gf K 2 (mW (nB 4) (mW (nB 5) gNil)) (.ref r2) [some (.ref a),some (.int d),some (.ref l),some (.int c),none,none,none,none,none,none,none,none] H2 N1:=by
   intro r2 l2 H2 v I c8;refine⟨false,r2,_,rfl,SqB.lst I,rfl,_,_,rfl,_,_,rfl,rfl,?_⟩;left;refine⟨d,l,l2,f,ms,c,rfl,v _ _ b7,Paired.mapP c0 λ_ _ z=>DdS.up z v,D,c8,λH3 f3=>⟨_,rfl,iteF ?_⟩⟩;have G:=v.trans f3;have b2:=G _ _ b7;have M:=Paired.mapP c0 λ_ _ z=>DdS.up z G;clear v f3 G I c8;left;refine⟨⟨∅,∅,∅⟩,nofun,?_⟩;have l0:0<=c.fmod (10^Int.toNat 40):=(fms c _ (nofun)).1;generalize c.fmod (10^Int.toNat 40)=g at*
   have b0:∀{d' j:Int}{H':Hp}{x:VK},Same H3 H'->¬ (1<=j/\j<=200)->(∀u,Same H' u->x (.bl false) u)->sp_4 K t [.int d',.ref l,.int j] H' (λy u=>rNe y (.str (Str.ofString "number")) u x) E0:=λ{d' j H' x}f4 U q=>⟨false,d',j,l,f,ms,0,rfl,SqB.lst (f4 _ _ b2),Paired.mapP M λ_ _ z=>DdS.up z f4,.inl ⟨rfl,U⟩,λu S=>⟨rfl,by
    rw[zL (show V.str (Az 0)=V.str (Str.ofString "number") from rfl)];exact q u S⟩⟩
   subst e1;refine st λN1 e1=>lG λB eB=>?_;simp only[iSeq];ext;refine⟨by show 4<=sizeLine;decide,λp o=>?_⟩;have S:=Same.new (o:=.lst [V.int 0,V.int 201,V.int (-1-g),V.int (201+g)]) o;have ep:(upd H3 p (.lst [V.int 0,V.int 201,V.int (-1-g),V.int (201+g)])) p=some (.lst [V.int 0,V.int 201,V.int (-1-g),V.int (201+g)]):=oS;generalize upd H3 p (.lst [V.int 0,V.int 201,V.int (-1-g),V.int (201+g)])=u at*
   have d0:∀(i:Nat) y,[V.int 0,V.int 201,V.int (-1-g),V.int (201+g)][i]?=some y->∃j:Int,y=.int j/\¬ (1<=j/\j<=200):=by
    intro i y e
    match i,e with
    |0,e=>cases e;exact⟨_,rfl,⋯⟩
    |1,e=>cases e;exact⟨_,rfl,⋯⟩
    |2,e=>cases e;exact⟨_,rfl,⋯⟩
    |3,e=>cases e;exact⟨_,rfl,⋯⟩
    |i+4,e=>simp at e
   refine⟨false,⟨_,SqB.lst ep⟩,?_⟩;refine iJ (g:=nB 7) (tb:=B) (λi a8 R=>∃b5,a8=[some (.ref a),some (.int d),some (.ref l),some (.int c),some (.bl true),some (.ref l2),some (.int g),b5,none,none,none,none]/\Same u R) ⟨_,rfl,Same.refl _⟩ (λ_ _ _ _⟨_,_,C⟩=>SqB.lst (C _ _ ep)) ?_ ?_
   ·rintro i y a8 R h2 ⟨b5,rfl,C⟩;obtain⟨j,rfl,U⟩:=d0 i y h2;subst eB;show tIfS _ _ _ _ [some (.ref a),some (.int d),some (.ref l),some (.int c),some (.bl true),some (.ref l2),some (.int g),some (.int j),none,none,none,none] R;ext;have N:=S.trans C;refine b0 N U λb3 O=>⟨_,rfl,iteF ?_⟩;refine b0 (N.trans O) U λk0 a3=>⟨_,rfl,iteF ?_⟩;exact(C.trans O).trans a3
   ·rintro a8 R ⟨b5,rfl,C⟩;have N:=S.trans C;clear eB B d0 ep o b0;left;obtain⟨k,c3,j9⟩:=fX (c:=c) (d:=5) ∅;obtain⟨a4,c7,f9⟩:∃a4:Int,[V.int 0,V.int 1,V.int 4,V.int (4+g),V.int (-g)][k]?=some (.int a4)/\¬ (a4=2\/a4=3):=by
     match k,j9 with
     |0,_=>exact⟨_,rfl,⋯⟩
     |1,_=>exact⟨_,rfl,⋯⟩
     |2,_=>exact⟨_,rfl,⋯⟩
     |3,_=>exact⟨_,rfl,⋯⟩
     |4,_=>exact⟨_,rfl,⋯⟩
    refine⟨by show 5<=sizeLine;decide,λp o=>⟨∅,false,p,_,_,_,rfl,rfl,SqB.lst oS,lZ c7 c3,?_⟩⟩;have O:=N.trans (Same.new (o:=.lst [V.int 0,V.int 1,V.int 4,V.int (4+g),V.int (-g)]) o);generalize upd R p (.lst [V.int 0,V.int 1,V.int 4,V.int (4+g),V.int (-g)])=b3 at*
    clear c7 c3 o N C S;have Z:∀{a9:Bool}{d' j:Int}{W:Addr}{ps':LA}{ms':List Dd}{H':Hp}{x:VK},SqB a9 K H' W (ps'.map V.ref)->Paired (DdS K H') ps' ms'->(1<=j/\j<=200)->¬ AxOk d' ms'->(∀u,Same H' u->x (.str (Str.ofString "deed")) u)->sp_4 K t [.int d',.ref W,.int j] H' x E0:=λ{a9 d' j W ps' ms' H' x}h5 i6 i4 h6 q=>⟨a9,d',j,W,ps',ms',1,rfl,h5,i6,.inr (.inl ⟨rfl,i4,h6⟩),q⟩;left;refine⟨yA _,λp o=>?_⟩;have a3:=O.trans (Same.new (o:=.lst []) o);have ep:(upd b3 p (.lst [])) p=some (.lst (([]:LA).map V.ref)):=oS;generalize upd b3 p (.lst [])=k0 at*
    refine Z (ps':=[]) (ms':=[]) (SqB.lst ep) .nil ⟨∅,∅⟩ (λz=>f9 z.1) λk2 c9=>⟨rfl,false,by rw[zL rfl];rfl,iteF ?_⟩;have Y:=a3.trans c9;refine Z (SqB.lst (Y _ _ b2)) (Paired.mapP M λ_ _ z=>DdS.up z Y) ⟨∅,∅⟩ (λz=>f9 z.1) λk4 g2=>⟨rfl,false,by rw[zL rfl];rfl,iteF ?_⟩;have b4:=Y.trans g2;have b6:=b4 _ _ b2;have e8:=Paired.mapP M λ_ _ z=>DdS.up z b4;clear Y b4 g2 c9 a3 O ep o;have lq:f.length=ms.length:=lC M;left;refine⟨dvs _ _ ∅ ∅,false,l,_,rfl,SqB.lst b6,?_⟩
    try ext
    rw[zqe,lq];obtain⟨b,j0,l3⟩:=fX (c:=c.fdiv 5) (d:=ms.length+1) ⋯;refine⟨⋯,?_⟩;rw[show((ms.length:Int)+1)=((ms.length+1:Nat):Int) by omega,j0];left;rw[show(5:Int)-(d:Int)=((5-d:Nat):Int) by omega];refine⟨5-d,rfl,⋯,λg5 g3 a7=>?_⟩
    try ext
    refine⟨by show 1<=sizeLine;decide,λp o=>?_⟩;have b1:=Same.new (o:=.lst [V.int 0]) o;have ep:(upd g3 p (.lst [V.int 0])) p=some (.lst [V.int 0]):=oS;generalize upd g3 p (.lst [V.int 0])=d3 at*
    refine⟨p,_,_,rfl,rfl,ep,⋯,⋯,?_,λa5 e6=>?_⟩
    ·rw[zS];show 1*(5-d)<=sizeLine;have:3<=sizeLine:=∅
     omega
    have b8:=Same.new (o:=.lst (List.replicate ((5-d:Nat):Int).toNat [V.int 0]).flatten) e6;have c4:(upd d3 a5 (.lst (List.replicate ((5-d:Nat):Int).toNat [V.int 0]).flatten)) a5=some (.lst ((List.replicate (5-d) (0:Int)).map V.int)):=by
     rw[oS,zS,List.map_replicate];congr 2;generalize 5-d=n
     induction n with
     |zero=>rfl
     |succ n j3=>rw[wR,uR,j3,wR];rfl
    generalize upd d3 a5 (.lst (List.replicate ((5-d:Nat):Int).toNat [V.int 0]).flatten)=k7 at*;refine⟨false,false,false,g5,a5,idM (5-d),List.replicate (5-d) 0,1,rfl,((a7.up b1).up b8).m.l.b,SqB.lst c4,by rw[jX.1];omega,by simp;omega,∅,?_,λm f1 G g4=>?_⟩
    ·unfold kH
     decide +kernel
    have b9:=((a7.s.trans b1).trans b8).trans G;have d8:=b9 _ _ b6;have e5:=Paired.mapP e8 λ_ _ z=>DdS.up z b9;have j6:((idM (5-d),redT 1 (List.replicate (5-d) 0),redU 1 (List.replicate (5-d) 0)):Dd).1.length=5-d:=jX.1;generalize ((idM (5-d),redT 1 (List.replicate (5-d) 0),redU 1 (List.replicate (5-d) 0)):Dd)=X at*
    clear b9 G b8 b1 a7 e8 b6 c4 e6 ep o;left;have d7:b<=(f.map V.ref).length:=by rw[zqe];omega
    refine⟨false,l,_,rfl,SqB.lst d8,(by intro z;cases z),λa2 i3=>?_⟩;rw[Xf d7];have h3:=Same.new (o:=seqO false ((f.map V.ref).take b)) i3;have h9:(upd f1 a2 (seqO false ((f.map V.ref).take b))) a2=some (.lst ((f.map V.ref).take b)):=oS;generalize upd f1 a2 (seqO false ((f.map V.ref).take b))=d5 at*
    refine⟨by show 1<=sizeLine;decide,λa0 i2=>?_⟩;have e9:=Same.new (o:=.lst [V.ref m]) i2;have g9:(upd d5 a0 (.lst [V.ref m])) a0=some (.lst [V.ref m]):=oS;generalize upd d5 a0 (.lst [V.ref m])=f0 at*
    have l1:10<=sizeLine:=∅
    refine⟨a2,a0,_,_,rfl,rfl,e9 _ _ h9,g9,by rw[yN,zqe];show _+1<=sizeLine;omega,λa1 M=>?_⟩;have g7:=Same.new (o:=.lst ((f.map V.ref).take b++[V.ref m])) M;have i8:(upd f0 a1 (.lst ((f.map V.ref).take b++[V.ref m]))) a1=some (.lst ((f.map V.ref).take b++[V.ref m])):=oS;generalize upd f0 a1 (.lst ((f.map V.ref).take b++[V.ref m]))=c2 at*
    have e0:=(h3.trans e9).trans g7;refine⟨false,l,_,rfl,SqB.lst (e0 _ _ d8),(by intro z;cases z),λa6 j4=>?_⟩;rw[Xe d7];have f6:=Same.new (o:=seqO false ((f.map V.ref).drop b)) j4;have i7:(upd c2 a6 (seqO false ((f.map V.ref).drop b))) a6=some (.lst ((f.map V.ref).drop b)):=oS;generalize upd c2 a6 (seqO false ((f.map V.ref).drop b))=f5 at*
    refine⟨a1,a6,_,_,rfl,rfl,f6 _ _ i8,i7,by rw[yE,yN,uI,zqe];show _+1+_<=sizeLine;omega,λc1 j7=>?_⟩;have i0:=Same.new (o:=.lst (((f.take b++[m])++f.drop b).map V.ref)) j7;have d9:(upd f5 c1 (.lst (((f.take b++[m])++f.drop b).map V.ref))) c1=some (.lst (((f.take b++[m])++f.drop b).map V.ref)):=oS;rw[show(f.map V.ref).take b++[V.ref m]++(f.map V.ref).drop b=((f.take b++[m])++f.drop b).map V.ref by rw[xB,xB,List.map_take,List.map_drop];rfl];generalize upd f5 c1 (.lst (((f.take b++[m])++f.drop b).map V.ref))=g8 at*
    have j8:=(e0.trans f6).trans i0;have d1:Paired (DdS K g8) ((f.take b++[m])++f.drop b) ((ms.take b++[X])++ms.drop b):=Paired.mapP (Le (Le (Lf e5 b).1 (.cons (DdAt.s g4) .nil)) (Lf e5 b).2) λ_ _ z=>DdS.up z j8;have c5:¬ AxOk d ((ms.take b++[X])++ms.drop b):=λz=>by
     have:=z.2 X (by simp);rw[j6]at this;omega
    generalize (f.take b++[m])++f.drop b=l4 at*;generalize (ms.take b++[X])++ms.drop b=k3 at*
    symm;refine Z (SqB.lst d9) d1 ⟨∅,∅⟩ c5 λl5 g1=>⟨rfl,true,by rw[zL rfl],iteT ?_⟩;refine Z (SqB.lst (g1 _ _ d9)) (Paired.mapP d1 λ_ _ z=>DdS.up z g1) ⟨∅,∅⟩ c5 λg6 k9=>⟨rfl,by rw[zL rfl];exact i9 g6⟩
  refine⟨d,l,f,ms,rfl,b7,c0,D,λr2 l2 H2 v I h8=>f7 r2 l2 H2 v I (.inl h8),λsrt r2 l2 H2 v I h1=>f7 r2 l2 H2 v I (.inr ⟨srt,h1⟩)⟩
end
theorem us1{a:Type}{us:List a}(h:us.length=1):∃a0,us=[a0]:=match us,h with|[a0],_=>⟨a0,rfl⟩
theorem us2{b:Type}{us:List b}(h:us.length=2):∃a0 a,us=[a0,a]:=match us,h with|[a0,a],_=>⟨a0,a,rfl⟩
theorem us3{c:Type}{us:List c}(h:us.length=3):∃a0 b a,us=[a0,b,a]:=match us,h with|[a0,b,a],_=>⟨a0,b,a,rfl⟩
theorem us4{d:Type}{us:List d}(h:us.length=4):∃a0 c a b,us=[a0,c,a,b]:=match us,h with|[a0,c,a,b],_=>⟨a0,c,a,b,rfl⟩
theorem us5{e:Type}{us:List e}(h:us.length=5):∃a0 a c d b,us=[a0,a,c,d,b]:=match us,h with|[a0,a,c,d,b],_=>⟨a0,a,c,d,b,rfl⟩
abbrev caG(K:Frag)(C:Addr):Prop:=findIn K (.ref C) "__class__"=some (some (.builtin "object.__class__"))
abbrev nG(K:Frag)(x:Str)(f:Addr):Prop:=nsIn K mainGlobals x=some (some (.ref f))
local macro_rules | `(tactic| walk_at "1")=>`(tactic| (intro _ _ _ _ _ _ us hl; obtain ⟨_,hh⟩:=us1 hl; subst hh; rfl))
local macro_rules | `(tactic| walk_at "2")=>`(tactic| (intro _ _ _ _ _ _ us hl; obtain ⟨_,_,hh⟩:=us2 hl; subst hh; rfl))
theorem txt_mk{K:Frag}{h:Heap}{g5:MT}(X:K.In h)(a:h.Ns mainGlobals g5)
  {f g d c o b w i q r j t p m l k e F x T O b8 a0 a7 b6 a8 a9 b5 V Y b9 c3 P b4 c0 U y C N b3 a3 L R I a1 a5 b2 D c2 J a4 W G b1 Z c1 a2 b0 S b7:Addr}{x0 k0 m6 i4 y8 z8 o2 w0 am bd n4 bq ao y5 h2 az z4 br ag m5 bo s5 t8 t0 w6 ap m1 bc p9 m4 k7 o1 i6 bm n1 x2 h4 l2 v8 p3 s0 k4 l9:FuncData}
  {n:Addr}{q8 o8:Option Addr}{z2:Array (Option Value)}{h8 bf h1 m0 e9 j1:Value}
  {d4:Addr}{h9:Value}{bn:Option Addr}{r3:Nat}{j4:Array (Option Value)}{a6:Tok}
  {t7:Tok}
  (s9:nG K "CrystalError" f)
  (l1:nG K "NoPlace" g)
  (z9:nG K "NoDeed" d)
  (x4:nG K "NoNumber" c)
  (v0:nG K "NoText" o)
  (r4:nG K "TooMany" b)
  (k5:nG K "NoChange" w)
  (s2:nG K "NotKept" i)
  (r7:nG K "NoForm" q)
  (i5:nG K "NotWithin" r)
  (aq:nG K "NotLeast" j)
  (m2:nG K "NoDrawing" t)
  (k6:nG K "OffSheet" p)
  (bb:nG K "NoSheet" m)
  (h5:nG K "NoRow" l)
  (x6:nG K "NoName" k)
  (ac:nG K "Group" e)
  (m7:nG K "copied" F)
  (g9:Fun K "copied" "copied" s_12 F x0)
  (bw:findIn K (.ref b) "__init__"=some (some (.ref x)))
  (e7:Fun K "__init__" "TooMany.__init__" s_3 x k0)
  (p8:nG K "divisor" T)
  (g4:Fun K "divisor" "divisor" Cu T m6)
  (w9:nG K "place" O)
  (d1:Fun K "place" "place" s_13 O i4)
  (h7:nG K "rest_place" b8)
  (e4:Fun K "rest_place" "rest_place" aE b8 y8)
  (m9:nG K "still_rows" a0)
  (f5:Fun K "still_rows" "still_rows" aF a0 z8)
  (r9:nG K "dot" a7)
  (d9:Fun K "dot" "dot" s_1n a7 o2)
  (bg:nG K "turned" b6)
  (f9:Fun K "turned" "turned" s_16 b6 w0)
  (al:nG K "without" a8)
  (c4:Fun K "without" "without" s_11 a8 am)
  (r0:nG K "determinant" a9)
  (c6:Fun K "determinant" "determinant" s_6 a9 bd)
  (z5:nG K "joined" b5)
  (g6:Fun K "joined" "joined" s_10 b5 n4)
  (af:nG K "deed" V)
  (c8:Fun K "deed" "deed" s_1h V bq)
  (q9:nG K "still" Y)
  (e2:Fun K "still" "still" s_1e Y ao)
  (n5:nG K "moved" b9)
  (g0:Fun K "moved" "moved" s_1a b9 y5)
  (u4:nG K "behind" c3)
  (f0:Fun K "behind" "behind" s_15 c3 h2)
  (t2:nG K "rest" P)
  (f8:Fun K "rest" "rest" s_1i P az)
  (q0:nG K "check_most" b4)
  (d6:Fun K "check_most" "check_most" Ct b4 z4)
  (k9:nG K "check_axes" c0)
  (g2:Fun K "check_axes" "check_axes" Cs c0 br)
  (i9:nG K "closed" U)
  (g8:Fun K "closed" "closed" dE U ag)
  (bu:findIn K (.ref e) "__init__"=some (some (.ref n)))
  (t4:K.lookup n=some ⟨h8,q8,.func (fnOf "__init__" "Group.__init__" (jB s_0) (lR s_0) (oU s_0) (.ref d4) bf h1 m0 o8 e9 j1),z2⟩)
  (n6:K.lookup d4=some ⟨h9,bn,.seq #[.int 200 a6] r3,j4⟩)
  (s3:codeIn K e9 "Group.__init__"=true)
  (r1:keepIn K (.ref n)=true)
  (bv:findIn K (.ref e) "makers"=some (some (.ref y)))
  (f6:Fun K "makers" "Group.makers" s_8 y m5)
  (bt:findIn K (.ref e) "members"=some (some (.ref C)))
  (c7:Fun K "members" "Group.members" s_1 C bo)
  (aw:nG K "_law_cell_at" N)
  (e0:Fun K "_law_cell_at" "_law_cell_at" s_7 N s5)
  (s7:nG K "_law_common" b3)
  (d7:Fun K "_law_common" "_law_common" Cr b3 t8)
  (t5:nG K "_law_still" a3)
  (e8:Fun K "_law_still" "_law_still" aG a3 t0)
  (z3:nG K "_law_times" L)
  (d0:Fun K "_law_times" "_law_times" aH L w6)
  (as:nG K "_law_sixty" R)
  (f4:Fun K "_law_sixty" "_law_sixty" Cq R ap)
  (p2:nG K "_law_signed" I)
  (g3:Fun K "_law_signed" "_law_signed" aI I m1)
  (l5:nG K "_law_free" a1)
  (f1:Fun K "_law_free" "_law_free" aJ a1 bc)
  (l0:nG K "_law_rows" a5)
  (e3:Fun K "_law_rows" "_law_rows" Cp a5 p9)
  (s6:nG K "_law_based" b2)
  (d8:Fun K "_law_based" "_law_based" aK b2 m4)
  (w7:nG K "_law_low" D)
  (g1:Fun K "_law_low" "_law_low" dF D k7)
  (ar:nG K "_law_maker" c2)
  (f3:Fun K "_law_maker" "_law_maker" aL c2 o1)
  (h0:nG K "_law_makers" J)
  (e6:Fun K "_law_makers" "_law_makers" dG J i6)
  (q7:nG K "_law_rest" a4)
  (f2:Fun K "_law_rest" "_law_rest" dH a4 bm)
  (be:nG K "_law_product" W)
  (f7:Fun K "_law_product" "_law_product" aM W n1)
  (s4:nG K "_law_closed" G)
  (c9:Fun K "_law_closed" "_law_closed" Co G x2)
  (j3:nG K "_law_later" b1)
  (d5:Fun K "_law_later" "_law_later" Cn b1 h4)
  (v7:nG K "_law_word" Z)
  (g7:Fun K "_law_word" "_law_word" Cm Z l2)
  (u5:nG K "_law_refused" c1)
  (d2:Fun K "_law_refused" "_law_refused" s_4 c1 v8)
  (u2:nG K "_law_apart" a2)
  (c5:Fun K "_law_apart" "_law_apart" Cl a2 p3)
  (w4:nG K "_law_left_out" b0)
  (e5:Fun K "_law_left_out" "_law_left_out" s_9 b0 s0)
  (w1:nG K "_law_by_count" S)
  (d3:Fun K "_law_by_count" "_law_by_count" Ck S k4)
  (n3:nG K "law" b7)
  (M:Fun K "law" "law" s_1m b7 l9)
  (k8:nsIn K mainGlobals "MOST_MEMBERS"=some (some (.int 200 t7)))
  (r8:nsIn K mainGlobals "any"=some none)
  (x9:nsIn K mainGlobals "sum"=some none)
  (v1:nsIn K mainGlobals "zip"=some none)
  (ab:nsIn K mainGlobals "enumerate"=some none)
  (j9:nsIn K mainGlobals "range"=some none)
  (x1:nsIn K mainGlobals "len"=some none)
  (p1:nsIn K mainGlobals "abs"=some none)
  (q3:nsIn K mainGlobals "isinstance"=some none)
  (ba:nsIn K mainGlobals "int"=some none)
  (o6:nsIn K mainGlobals "list"=some none)
  (i8:nsIn K mainGlobals "tuple"=some none)
  (u8:nsIn K mainGlobals "sorted"=some none)
  (x3:nsIn K mainGlobals "dict"=some none)
  (i2:nsIn K mainGlobals "min"=some none)
  (x8:nsIn K mainGlobals "ValueError"=some none)
  (n9:kitOne K (.type "list") (.type "list")=some true)
  (bj:PySem.W.excIn K g [.type "ValueError",.type "Exception",.type "BaseException",.type "object"] "ValueError.__new__"=true)
  (y2:PySem.W.excIn K d [.type "ValueError",.type "Exception",.type "BaseException",.type "object"] "ValueError.__new__"=true)
  (j6:L2.Cls K e)
  (z6:L2.Mk K e n)
  (m3:L2.Meth K e "members" C)
  (o3:findIn K (.ref e) "dimension"=some none)
  (r2:findIn K (.ref e) "given"=some none)
  (q2:findIn K (.ref e) "ordered"=some none)
  (p6:findIn K (.ref e) "shortest"=some none)
  (v5:findIn K (.ref e) "numbers"=some none)
  (i1:L2.Meth K e "makers" y)
  (w8:kitOne K (.type "int") (.type "list")=some false)
  (t9:kitOne K (.type "int") (.type "tuple")=some false)
  (q6:L2.XIn K b f x)
  (o4:L2.XSt K b "apart")
  (w2:PySem.W.exmOne K (.ref b) (.ref b)=some true)
  (o5:PySem.W.excIn K c [.type "ValueError",.type "Exception",.type "BaseException",.type "object"] "ValueError.__new__"=true)
  (z0:PySem.W.exmOne K (.ref c) (.ref f)=some true)
  (x5:findIn K (.ref c) "__getattribute__"=some (some (.builtin "BaseException.__getattribute__")))
  (p4:findIn K (.ref c) "__getattr__"=some none)
  (y7:caG K c)
  (r5:PySem.W.mroIn K c (.type "object")=some true)
  (y9:PySem.W.mroIn K c (.type "BaseException")=some true)
  (ai:kitOne K (.ref c) (.type "ValueError")=some true)
  (l3:kitOne K (.ref c) (.ref c)=some true)
  (an:kitOne K (.ref c) (.ref d)=some false)
  (bh:kitOne K (.ref c) (.ref b)=some false)
  (t3:kitOne K (.ref c) (.ref g)=some false)
  (m8:kitOne K (.ref c) (.ref o)=some false)
  (u1:kitOne K (.ref c) (.ref w)=some false)
  (j0:kitOne K (.ref c) (.ref i)=some false)
  (j2:kitOne K (.ref c) (.ref q)=some false)
  (ak:kitOne K (.ref c) (.ref r)=some false)
  (v6:kitOne K (.ref c) (.ref j)=some false)
  (p5:kitOne K (.ref c) (.ref t)=some false)
  (y4:kitOne K (.ref c) (.ref p)=some false)
  (w5:kitOne K (.ref c) (.ref m)=some false)
  (z7:kitOne K (.ref c) (.ref l)=some false)
  (u6:kitOne K (.ref c) (.ref k)=some false)
  (u3:PySem.W.exmOne K (.ref d) (.ref f)=some true)
  (u0:findIn K (.ref d) "__getattribute__"=some (some (.builtin "BaseException.__getattribute__")))
  (h6:findIn K (.ref d) "__getattr__"=some none)
  (i7:caG K d)
  (x7:PySem.W.mroIn K d (.type "object")=some true)
  (z1:PySem.W.mroIn K d (.type "BaseException")=some true)
  (o7:kitOne K (.ref d) (.type "ValueError")=some true)
  (n2:kitOne K (.ref d) (.ref c)=some false)
  (s1:kitOne K (.ref d) (.ref d)=some true)
  (j8:kitOne K (.ref d) (.ref b)=some false)
  (i0:kitOne K (.ref d) (.ref g)=some false)
  (au:kitOne K (.ref d) (.ref o)=some false)
  (l4:kitOne K (.ref d) (.ref w)=some false)
  (ay:kitOne K (.ref d) (.ref i)=some false)
  (k2:kitOne K (.ref d) (.ref q)=some false)
  (u9:kitOne K (.ref d) (.ref r)=some false)
  (r6:kitOne K (.ref d) (.ref j)=some false)
  (i3:kitOne K (.ref d) (.ref t)=some false)
  (p7:kitOne K (.ref d) (.ref p)=some false)
  (q4:kitOne K (.ref d) (.ref m)=some false)
  (o0:kitOne K (.ref d) (.ref l)=some false)
  (y6:kitOne K (.ref d) (.ref k)=some false)
  (bi:PySem.W.exmOne K (.ref b) (.ref f)=some true)
  (y3:findIn K (.ref b) "__getattribute__"=some (some (.builtin "BaseException.__getattribute__")))
  (n8:findIn K (.ref b) "__getattr__"=some none)
  (aj:caG K b)
  (y0:PySem.W.mroIn K b (.type "object")=some true)
  (v4:PySem.W.mroIn K b (.type "BaseException")=some true)
  (h3:kitOne K (.ref b) (.type "ValueError")=some true)
  (u7:kitOne K (.ref b) (.ref c)=some false)
  (s8:kitOne K (.ref b) (.ref d)=some false)
  (aa:kitOne K (.ref b) (.ref b)=some true)
  (t6:kitOne K (.ref b) (.ref g)=some false)
  (ah:kitOne K (.ref b) (.ref o)=some false)
  (l8:kitOne K (.ref b) (.ref w)=some false)
  (j5:kitOne K (.ref b) (.ref i)=some false)
  (l6:kitOne K (.ref b) (.ref q)=some false)
  (l7:kitOne K (.ref b) (.ref r)=some false)
  (t1:kitOne K (.ref b) (.ref j)=some false)
  (w3:kitOne K (.ref b) (.ref t)=some false)
  (q5:kitOne K (.ref b) (.ref p)=some false)
  (bp:kitOne K (.ref b) (.ref m)=some false)
  (ad:kitOne K (.ref b) (.ref l)=some false)
  (y1:kitOne K (.ref b) (.ref k)=some false)
  (o9:PySem.W.specialIn K (.builtin "object.__class__") "__get__"=some (some (.builtin "getset_descriptor.__get__")))
  (n0:PySem.W.takesIn K (.builtin "object.__class__")=some true)
  (av:findIn K (.ref b) "apart"=some none)
  (k1:PySem.W.hasDictIn K b=true)
  :∃q1,Txt K g5 q1:=by
 have j7:=e7.binds (ps:=po') (by walk_at "2");have z:=Sc (st:=s_0) (ds:=[.int 200 a6]) t4 s3 r1 n6;have n7:=z.bindsA (ps:=pi') λ_ _ _ _ _ _ _ us hl=>by obtain⟨_,_,_,_,rfl⟩:=us4 hl;exact⟨_,rfl,rfl⟩
 have v9:=z.binds (ps:=pi') λ_ _ _ _ _ _ _ us hl=>by obtain⟨_,_,_,rfl⟩:=us3 (rE hl);exact⟨_,rfl,rfl⟩
 have k3:=z.kb (nm:= "most") (ps:=pi') λ_ _ _ _ _ _ _ us u hl=>by obtain⟨_,_,_,rfl⟩:=us3 (rE hl);exact⟨_,rfl,rfl⟩
 have p0:=f6.binds (ps:=pw') (by walk_at "1");have ae:=c7.binds (ps:=pw') (by walk_at "1");obtain⟨_,_,_,_,_,_,_,_,_,rfl,_,_⟩:=id M.ex;exact⟨⟨F,x,T,O,b8,a0,a7,b6,a8,a9,b5,V,Y,b9,c3,P,b4,c0,U,n,y,C,N,b3,a3,L,R,I,a1,a5,b2,D,c2,J,a4,W,G,b1,Z,c1,a2,b0,S,b7,_,_,_,_,_,_,_,_,_,_,_,_,_,_,_,_,_,_,_,_,_,_,_,_,_,_,_,_,_,_,_,_,_,_,_,_,_,_,_,_,_,_,_,_,f,g,d,c,o,b,w,i,q,r,j,t,p,m,l,k,e,a6⟩,⟨⟨g9,yL X a m7,g9.binds (λ_ _ _ _ _ _ us hl=>by obtain⟨_,rfl⟩:=us1 hl;rfl)⟩,e7,j7,⟨g4,yL X a p8,g4.binds (λ_ _ _ _ _ _ us hl=>by obtain⟨_,_,rfl⟩:=us2 hl;rfl)⟩,⟨d1,yL X a w9,d1.binds (λ_ _ _ _ _ _ us hl=>by obtain⟨_,_,rfl⟩:=us2 hl;rfl)⟩,⟨e4,yL X a h7,e4.binds (λ_ _ _ _ _ _ us hl=>by obtain⟨_,rfl⟩:=us1 hl;rfl)⟩,⟨f5,yL X a m9,f5.binds (λ_ _ _ _ _ _ us hl=>by obtain⟨_,rfl⟩:=us1 hl;rfl)⟩,⟨d9,yL X a r9,d9.binds (λ_ _ _ _ _ _ us hl=>by obtain⟨_,_,rfl⟩:=us2 hl;rfl)⟩,⟨f9,yL X a bg,f9.binds (λ_ _ _ _ _ _ us hl=>by obtain⟨_,rfl⟩:=us1 hl;rfl)⟩,⟨c4,yL X a al,c4.binds (λ_ _ _ _ _ _ us hl=>by obtain⟨_,_,_,rfl⟩:=us3 hl;rfl)⟩,⟨c6,yL X a r0,c6.binds (λ_ _ _ _ _ _ us hl=>by obtain⟨_,rfl⟩:=us1 hl;rfl)⟩,⟨g6,yL X a z5,g6.binds (λ_ _ _ _ _ _ us hl=>by obtain⟨_,_,rfl⟩:=us2 hl;rfl)⟩,⟨c8,yL X a af,c8.binds (λ_ _ _ _ _ _ us hl=>by obtain⟨_,_,_,rfl⟩:=us3 hl;rfl)⟩,⟨e2,yL X a q9,e2.binds (λ_ _ _ _ _ _ us hl=>by obtain⟨_,rfl⟩:=us1 hl;rfl)⟩,⟨g0,yL X a n5,g0.binds (λ_ _ _ _ _ _ us hl=>by obtain⟨_,_,rfl⟩:=us2 hl;rfl)⟩,⟨f0,yL X a u4,f0.binds (λ_ _ _ _ _ _ us hl=>by obtain⟨_,_,rfl⟩:=us2 hl;rfl)⟩,⟨f8,yL X a t2,f8.binds (λ_ _ _ _ _ _ us hl=>by obtain⟨_,rfl⟩:=us1 hl;rfl)⟩,⟨d6,yL X a q0,d6.binds (λ_ _ _ _ _ _ us hl=>by obtain⟨_,rfl⟩:=us1 hl;rfl)⟩,⟨g2,yL X a k9,g2.binds (λ_ _ _ _ _ _ us hl=>by obtain⟨_,_,rfl⟩:=us2 hl;rfl)⟩,⟨g8,yL X a i9,g8.binds (λ_ _ _ _ _ _ us hl=>by obtain⟨_,_,_,rfl⟩:=us3 hl;rfl)⟩,z,v9,k3,n7,f6,p0,c7,ae,⟨e0,yL X a aw,e0.binds (λ_ _ _ _ _ _ us hl=>by obtain⟨_,_,rfl⟩:=us2 hl;rfl)⟩,⟨d7,yL X a s7,d7.binds (λ_ _ _ _ _ _ us hl=>by obtain⟨_,_,rfl⟩:=us2 hl;rfl)⟩,⟨e8,yL X a t5,e8.binds (λ_ _ _ _ _ _ us hl=>by obtain⟨_,rfl⟩:=us1 hl;rfl)⟩,⟨d0,yL X a z3,d0.binds (λ_ _ _ _ _ _ us hl=>by obtain⟨_,_,rfl⟩:=us2 hl;rfl)⟩,⟨f4,yL X a as,f4.binds (λ_ _ _ _ _ _ us hl=>by obtain⟨_,_,rfl⟩:=us2 hl;rfl)⟩,⟨g3,yL X a p2,g3.binds (λ_ _ _ _ _ _ us hl=>by obtain⟨_,_,rfl⟩:=us2 hl;rfl)⟩,⟨f1,yL X a l5,f1.binds (λ_ _ _ _ _ _ us hl=>by obtain⟨_,_,rfl⟩:=us2 hl;rfl)⟩,⟨e3,yL X a l0,e3.binds (λ_ _ _ _ _ _ us hl=>by obtain⟨_,_,_,rfl⟩:=us3 hl;rfl)⟩,⟨d8,yL X a s6,d8.binds (λ_ _ _ _ _ _ us hl=>by obtain⟨_,_,rfl⟩:=us2 hl;rfl)⟩,⟨g1,yL X a w7,g1.binds (λ_ _ _ _ _ _ us hl=>by obtain⟨_,_,_,rfl⟩:=us3 hl;rfl)⟩,⟨f3,yL X a ar,f3.binds (λ_ _ _ _ _ _ us hl=>by obtain⟨_,_,_,_,_,rfl⟩:=us5 hl;rfl)⟩,⟨e6,yL X a h0,e6.binds (λ_ _ _ _ _ _ us hl=>by obtain⟨_,rfl⟩:=us1 hl;rfl)⟩,⟨f2,yL X a q7,f2.binds (λ_ _ _ _ _ _ us hl=>by obtain⟨_,_,_,rfl⟩:=us3 hl;rfl)⟩,⟨f7,yL X a be,f7.binds (λ_ _ _ _ _ _ us hl=>by obtain⟨_,_,rfl⟩:=us2 hl;rfl)⟩,⟨c9,yL X a s4,c9.binds (λ_ _ _ _ _ _ us hl=>by obtain⟨_,_,rfl⟩:=us2 hl;rfl)⟩,⟨d5,yL X a j3,d5.binds (λ_ _ _ _ _ _ us hl=>by obtain⟨_,rfl⟩:=us1 hl;rfl)⟩,⟨g7,yL X a v7,g7.binds (λ_ _ _ _ _ _ us hl=>by obtain⟨_,rfl⟩:=us1 hl;rfl)⟩,⟨d2,yL X a u5,d2.binds (λ_ _ _ _ _ _ us hl=>by obtain⟨_,_,_,rfl⟩:=us3 hl;rfl)⟩,⟨c5,yL X a u2,c5.binds (λ_ _ _ _ _ _ us hl=>by obtain⟨_,_,_,rfl⟩:=us3 hl;rfl)⟩,⟨e5,yL X a w4,e5.binds (λ_ _ _ _ _ _ us hl=>by obtain⟨_,_,rfl⟩:=us2 hl;rfl)⟩,⟨d3,yL X a w1,d3.binds (λ_ _ _ _ _ _ us hl=>by obtain⟨_,_,_,_,rfl⟩:=us4 hl;rfl)⟩,⟨M,yL X a n3,M.binds (λ_ _ _ _ _ _ us hl=>by obtain⟨_,rfl⟩:=us1 hl;rfl)⟩,yS X a r8,yS X a x9,yS X a v1,yS X a ab,yS X a j9,yS X a x1,yS X a p1,yS X a q3,yS X a ba,yS X a o6,yS X a i8,yS X a u8,yS X a x3,yS X a i2,yS X a x8,yL X a s9,yL X a l1,yL X a z9,yL X a x4,yL X a v0,yL X a r4,yL X a k5,yL X a s2,yL X a r7,yL X a i5,yL X a aq,yL X a m2,yL X a k6,yL X a bb,yL X a h5,yL X a x6,yL X a ac,⟨_,yL X a k8,_,rfl⟩,n9,bj,y2,j6,z6,m3,o3,r2,q2,p6,v5,i1,w8,t9,q6,o4,w2,o5,z0,x5,p4,y7,r5,y9,ai,l3,an,bh,t3,m8,u1,j0,j2,ak,v6,p5,y4,w5,z7,u6,u3,u0,h6,i7,x7,z1,o7,n2,s1,j8,i0,au,l4,ay,k2,u9,r6,i3,p7,q4,o0,y6,bi,y3,n8,aj,y0,v4,h3,u7,s8,aa,t6,ah,l8,j5,l6,l7,t1,w3,q5,bp,ad,y1,o9,n0,av,k1,λs v=>.of_eq rfl⟩⟩
end Cw
end
open PySem PySem.W PyProof.Rows
/-! Names that the head would else lay equations under: the proof wants none of them. -/
namespace PySem.W.Fast
local macro_rules|`(command|include $x)=>`(def $x:ident:=Nat)|`(command|include $x $y $z*)=>`(def $x:ident:=Nat
include $y $z*)
include tw16591639329213173475 tw4891306620494870130 tw1439888812800798626 tw2939571744842509508 tw5477255802129569251 tw4874981803920314807 tw7432066039092075597 tw3558557250979621377 tw12488614533763254336 tw6556293382606242424 tw9518122301566948140 tw11192974199761450405 tw478199209628714214 tw14751217573445338877 tw4849500101031660192 tw1269181557387549120 tw14095439215292134984 tw3186225325250514189 tw10926170789724107684 tw11817337727697860318 tw4640919036036422440 tw4371861296712854909 tw12854392272808343005 tw17789830340943593300 tw13210117891297010830 tw1142674354383458466 tw14147664198394234130 tw9315740209454354587 tw2640684743533190435 tw9324791837409530624 tw7588976168144446273 tw2935392077260990534 tw14059397468457491320 tw16795261808128073794 tw15804425592319456507 tw17397891182857766703 tw17983150968934821406 tw14172855146897157255 tw4745575834614356184 tw4894736259191701246 tw15313264483658946225 tw14180960708315721446 tw5604813597980058715 tw13045031668477726284 tw367535053769059542 tw13382551244859001796 tw9684869876141182507 tw18202564970973159689 tw3613555618833592034 tw665831388314933439 tw9433372460135924292 tw6085773594285208701 tw6702939630413805177 tw16914596186970888434 tw3004111666126125096 tw17838579305549945860 tw16964207998272363247 tw13451136263550643986 tw6945446731386472509 tw16053579208936134919 tw13083290720124929324 tw16589381183461269681 tw3396895319705990914 tw1787551728892063469 tw5237706214503026638 tw15227663849686461098 tw6304342587513548663 tw3607748887630751282 tw5789716818488170621 tw12869527390394581260 tw2264047016172783171 tw13244009976298828414 tw338954995662191486 tw8089018721815509211 tw3556283252656717795 tw8071889191651340543 tw13681241483689808857 tw7592631170711679238 tw4559453789999540991 tw4011309446214569848 tw9627374077167157400 tw14144171724416625772 tw17914860840485013005 tw4083342921203146934 tw10071955443502360999 tw3241778196767995306 tw9120075184531091199 tw17829802590731554646 tw16563296226543572839 tw10922098457409794625 tw4687692403551316082 tw16372895821124791571 tw5286047681989685083 tw13571575332485577538 tw15488339464813462998 tw10051694119393118593 tw15380421323852468702 tw6293967003935085744 tw421080709980618604 tw8516651504408529192 tw9323037774039594396 tw18158571158892531108 tw9076033736554781200 tw2035487850225097387 tw219280996045791765 tw17280377898093620674 tw12014379483178426830 tw3421261279620007222 tw10526328012690928022 tw9618881773353748800 tw1977813083124972996 tw5839428443384374439 tw5050014945428553013 tw13905052723131640642 tw14773464440214914725 tw17587756680588363804 tw13528088066822185217 tw4744024775456171495 tw1388430761526570226 tw15373465503255823217 tw181822812838990928 tw6465820728744287706 tw13709895930146739137 tw439047643427684121 tw10281992439922368439 tw17598006384454076438 tw7517554892322477202 tw17373995086890874486 tw4221124266227522022 tw9763569624896737461 tw1762560637053055676 tw6749513955419240615 tw3089098550686861872 tw7576502304004015672 tw12262171520787125727 tw4677401321491003875 tw11747196585784733587 tw2197392774611453593 tw9182569157902725900 tw8602175589774705593 tw18237226377165684370 tw15184921518088329345 tw5174423794808987293 tw75600258962822808 tw14500856640418780343 tw18258872114333585534 tw17395557291054563629 tw190080236185498794 tw17685673366007350979 tw9537569007788384519 tw1071214131276249516 tw10550736342748188295 tw18353799533737894569 tw18364964504015626076 tw11791474527656194328 tw4004310285256783289 tw12417431688697455548 tw5043376389068977601 tw11060496496770785944 tw12486273097650845507 tw3964185410569910323 tw15449479229414029024 tw4208676750393967484 tw2897417888482640329 tw4642452241169193857 tw6724126513956656776 tw4148464062405373152 tw10810347669500456459 tw4441791645735659347 tw734869459224677716 tw10024616695158154333 tw2039538014190831006 tw7668402879862661767 tw3974521765801803940 tw11840448919007019597 tw17132105678093975493 tw87834820927895356 tw16189520823021752170 tw13741628263851706580 tw9626019526133279697 tw1490264906039011010 tw1192034120220828864 tw3573157057092529221 tw13789512821198525147 tw4801984776403842962 tw11754578378225537794 tw15075111408740661012 tw3662894406839794854 tw314252013987637246 tw11383554285721783183 tw17304863003325138141 tw6540618697721993733 tw9555078570621440161 tw8760827746031601578 tw15634379566061882472 tw15357202077353066192 tw16427724694264981713 tw11737362321275355623 tw877393230539940198 tw15484264415009413874 tw10348601577584895406 tw2103127269487698773 tw849730323221961552 tw13256493782400196976 tw9711745096017387018 tw5409507893208229220 tw750943986150956962 tw16266951323440313415 tw4058052655833163996 tw2702483366645262542 tw55950339276507390 tw7475195505274134812 tw15635048902061162484 tw10361234750401187756 tw15339053480344295897 tw2624770156693950587 tw3768897113859747276 tw3419600887948021782 tw7079177821599598981 tw6975254965008347380 tw18109559118229697647 tw2655934758500343618 tw4760753257849041001 tw4770859492421926407 tw8266017880351137238 tw4090674618435727845 tw14078728141890573751 tw12556415057116268000 tw7064324758637769927 tw1187345012782785418 tw8490605624982765971 tw274786736187407670 tw9192202443718530680 tw10793430915093720524 tw15449056853297805128 tw2678790034428255852 tw17993542048507250313 tw4619029881518903850 tw18444351070841360824 tw4732475819200787890 tw17513873030967458077 tw13211330620126794115 tw1972473707563610805 tw3732946128393913556 tw18108335517165328608 tw12400364918149078818 tw9110789445147199279 tw817020540430449753 tw3371228464445824132 tw6527271536288339536 tw15910195429807625842 tw5752283943388904185 tw601216602434060303 tw2435692776913902161 tw13401020155722739451 tw10521679219310814802 tw5504169209077325302 tw466896664807316607 tw8604421549032762974 tw16497249659041691851 tw16677155362766113262 tw16271670773508629567 tw13635441600477221975 tw7218240970918437702 tw16889448772500253903 tw11086605073046849870 tw16715491206100617168 tw12155177774025398066 tw2244794907692190580 tw16600247205879755109 tw12990465365856705670 tw13468295045035421303 tw16104204868626190705 tw12854886666166995322 tw5244272535858016030 tw13331368099701219282 tw13556205272455104417 tw16450064657903060325 tw13496158697414434459 tw500206963611300214 tw8054547860075914748 tw15754093936483358290 tw14055697540600169702 tw9834697005186978140 tw12015694025389334370 tw3722476423470141236 tw3481778328840795786 tw15430345074657041689 tw2076086305574424101 tw11513303047607324305 tw15805550830687156533 tw2078760781811289293 tw2601553198016849839 tw3514854481967711394 tw530721713657323308 tw1088632664617577482 tw14185825601803422014 tw15948463702340411622 tw7387350758118465433 tw14652485924233691968 tw8831090560771113843 tw13967982159083378390 tw1724476353926045376 tw15379721579070892893 tw16010508918540042235 tw11893796029447701375 tw1372114435534813888 tw680190612289443201 tw17142516779943573038 tw839914379503331374 tw16347657443110184538 tw8075543374086430100 tw9773296305609771712 tw5127061841922268627 tw16318467143804384812 tw9893484840613372025 tw11689433640070595802 tw8747013770026455335 tw1458124418243769250 tw8153054190155011464 tw14310095209886358955 tw11138085511356800635 tw7826535210409321147 tw14047115989821646149 tw8325086975855325571 tw15465894402578401993 tw8350350950024737434 tw9234833070453472738 tw15052660672910675181 tw16877148639722645339 tw10116198039744013218 tw475053771292740740 tw17184398145410460464 tw7235522254819962075 tw18227385147946201966 tw7923364920458604218 tw3088032684218734816 tw7354279146487220247 tw8729667126080649916 tw9337635458530317426 tw6844461030920510568 tw15765541646822505789 tw9256732518065423903 tw14688253617182319895 tw15386369896730495041 tw13042321250591923930 tw7926353835369422323 tw14708910731877677706 tw7920795869433827121 tw11735973569862732358 tw6585240935028812116 tw2103263960577378587 tw6625552190076709925 tw16393142359076584577 tw13419793284223144849 tw14892218561735673259 tw12755320232868471423 tw6670937090515541776 tw17110328974492880767 tw8438068518797545028 tw11729305473125546402 tw15702772392692725372 tw14116635704859904430 tw5396547746107352924 tw840239823191670808 tw18289129574577340126 tw12186029479578497018 tw1755972034388601153
end PySem.W.Fast
set_option maxRecDepth 100000 in
set_option maxHeartbeats 0 in
theorem PySem.Challenge.cw_crystalwords_k42_bounds_holds : PySem.Challenge.rw_crystalwords_k42_bounds.Holds := by
 w_on; o_law; k_head; (case hw=>w_witness2)
 k_fill
 refine L2.walkB (l:=PySem.Challenge.rw_crystalwords_k42_bounds) (k:=17) (x := "_law_script") rfl rfl ⟨rfl,by decide,by decide⟩ (λ w h Y=>PySem.W.kIn_of Y) ?F
 case F =>
  intro w mg fa h KX G hmg
  have T:∃ t,Cw.Txt (L2.KOf KX) mg t:=by
   dsimp only [L2.KOf]
   refine' Cw.txt_mk KX G ?n_14 ?n_17 ?n_a ?n_5 ?n_1k ?n_2 ?n_1d ?n_1g ?n_1l ?n_19 ?n_1b ?n_18 ?n_1c ?n_1f ?n_1o ?n_1j ?n_c ?n_12 ?F_12 ?n_3 ?F_3 ?n_z ?F_z ?n_13 ?F_13 ?n_m ?F_m ?n_o ?F_o ?n_1n ?F_1n ?n_16 ?F_16 ?n_11 ?F_11 ?n_6 ?F_6 ?n_10 ?F_10 ?n_1h ?F_1h ?n_1e ?F_1e ?n_1a ?F_1a ?n_15 ?F_15 ?n_1i ?F_1i ?n_p ?F_p ?n_n ?F_n ?n_x ?F_x ?n_0 ?l_0 ?t_Group___init__ ?c_0 ?k_0 ?n_8 ?F_8 ?n_1 ?F_1 ?n_7 ?F_7 ?n_f ?F_f ?n_k ?F_k ?n_i ?F_i ?n_r ?F_r ?n_g ?F_g ?n_u ?F_u ?n_y ?F_y ?n_h ?F_h ?n_w ?F_w ?n_j ?F_j ?n_b ?F_b ?n_t ?F_t ?n_e ?F_e ?n_l ?F_l ?n_q ?F_q ?n_v ?F_v ?n_4 ?F_4 ?n_s ?F_s ?n_9 ?F_9 ?n_d ?F_d ?n_1m ?F_1m ?n_MOST_MEMBERS ?y_any ?y_sum ?y_zip ?y_enumerate ?y_range ?y_len ?y_abs ?y_isinstance ?y_int ?y_list ?y_tuple ?y_sorted ?y_dict ?y_min ?y_ValueError ?q_1q ?q_s ?q_16 ?q_17 ?q_18 ?q_0 ?q_2 ?q_19 ?q_a ?q_3 ?q_b ?q_1 ?q_1r ?q_1s ?q_c ?q_d ?q_t ?q_e ?q_nm ?q_1t ?q_1u ?q_1v ?q_1w ?q_1x ?q_1y ?q_f ?q_1a ?q_u ?q_v ?q_1b ?q_g ?q_w ?q_1c ?q_4 ?q_h ?q_5 ?q_i ?q_x ?q_1n ?q_1d ?q_dm ?q_1z ?q_20 ?q_21 ?q_22 ?q_23 ?q_24 ?q_j ?q_1e ?q_y ?q_z ?q_1f ?q_k ?q_10 ?q_1g ?q_6 ?q_l ?q_7 ?q_m ?q_11 ?q_1o ?q_1h ?q_ym ?q_25 ?q_26 ?q_27 ?q_28 ?q_29 ?q_2a ?q_n ?q_1i ?q_12 ?q_13 ?q_1j ?q_o ?q_14 ?q_1k ?q_8 ?q_p ?q_9 ?q_q ?q_15 ?q_1p ?q_1l ?q_2b ?q_2c ?q_1m ?q_r
   (case n_14 | n_17 | n_a | n_5 | n_1k | n_2 | n_1d | n_1g | n_1l | n_19 | n_1b | n_18 | n_1c | n_1f | n_1o | n_1j | n_c | n_12 | n_z | n_13 | n_m | n_o | n_1n | n_16 | n_11 | n_6 | n_10 | n_1h | n_1e | n_1a | n_15 | n_1i | n_p | n_n | n_x | n_7 | n_f | n_k | n_i | n_r | n_g | n_u | n_y | n_h | n_w | n_j | n_b | n_t | n_e | n_l | n_q | n_v | n_4 | n_s | n_9 | n_d | n_1m=>show _=_; k_is)
   (case n_3 | n_0 | l_0 | t_Group___init__ | c_0 | k_0 | n_8 | n_1 | n_MOST_MEMBERS | y_any | y_sum | y_zip | y_enumerate | y_range | y_len | y_abs | y_isinstance | y_int | y_list | y_tuple | y_sorted | y_dict | y_min | y_ValueError | q_2 | q_19 | q_a | q_3 | q_b | q_1t | q_1u | q_1v | q_1w | q_1x | q_1z | q_20 | q_21 | q_22 | q_23 | q_25 | q_26 | q_27 | q_28 | q_29 | q_2b | q_2c | q_1m | q_r=>show _=_; k_is)
   (case F_12 | F_3 | F_z | F_13 | F_m | F_o | F_1n | F_16 | F_11 | F_6 | F_10 | F_1h | F_1e | F_1a | F_15 | F_1i | F_p | F_n | F_x | F_8 | F_1 | F_7 | F_f | F_k | F_i | F_r | F_g | F_u | F_y | F_h | F_w | F_j | F_b | F_t | F_e | F_l | F_q | F_v | F_4 | F_s | F_9 | F_d | F_1m=>refine' L2.fun_mk ?l ?c ?k; (case l=>k_is); (case c=>k_is); (case k=>k_is))
   (case q_1q | q_1r | q_1s | q_1y | q_f | q_1a | q_u | q_v | q_1b | q_g | q_w | q_1c | q_4 | q_h | q_5 | q_i | q_x | q_1n | q_1d | q_24 | q_j | q_1e | q_y | q_z | q_1f | q_k | q_10 | q_1g | q_6 | q_l | q_7 | q_m | q_11 | q_1o | q_1h | q_2a | q_n | q_1i | q_12 | q_13 | q_1j | q_o | q_14 | q_1k | q_8 | q_p | q_9 | q_q | q_15 | q_1p | q_1l=>kit_is)
   (case q_s | q_16 | q_e=>k_exc)
   (case q_17 | q_18=>exact ⟨by k_is,by k_is,by k_is,by k_is⟩)
   (case q_0 | q_1=>exact ⟨by k_is,by k_is,by k_is⟩)
   (case q_c=>exact ⟨by kernel_rfl,by k_is,by kernel_rfl,by kernel_rfl⟩)
   (case q_d=>exact ⟨by k_is,by kernel_rfl,by k_is⟩)
   (case q_t | q_nm | q_dm | q_ym=>kts_exm)
  obtain ⟨t,T⟩:=T
  have e0:=hmg.symm.trans T.F_1m.m
  cases e0
  exact ⟨t.d_1m,T.bl,λ base kb nb=>Cw.ok_1m T⟩
#print axioms PySem.Challenge.cw_crystalwords_k42_bounds_holds