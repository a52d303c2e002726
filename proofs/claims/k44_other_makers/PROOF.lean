import PyProof.Rows.All
import Wide.All
import OpenK.AllK
import Wide.FinOn
import Lean
import PyProof.EqAt
import PyProof.EqKinds
import PyProof.TupleCall
import PySem.Challenge.RW_crystalwords_k44_other_makers
set_option Elab.async false
set_option linter.all false
set_option compiler.extract_closed false
set_option genSizeOf false
set_option bootstrap.genMatcherCode false
set_option maxRecDepth 100000
local macro_rules | `(⋯)=>`(by omega)
local macro_rules | `(∅)=>`(by decide)
local macro_rules | `(nofun)=>`(by decide +kernel)
local macro_rules | `(tactic| ext)=>`(tactic| walk_at "r")
noncomputable section
theorem dLe{d k:Nat}(h:d=2\/d=3)(g:3≤k):d≤k:=by
 rcases h with h|h<;>rw[h]
 ·exact Nat.le_trans (by decide) g
 ·exact g
theorem eLe{x d k:Nat}(e:x=d)(h:d=2\/d=3)(g:3≤k):x≤k:=by rw[e];exact dLe h g
theorem eLt{x y k:Nat}(e:x=y)(g:k<y):k<x:=by rw[e];exact g
theorem iNn{x:Int}(h:0<x):¬x<0:=Int.not_lt.mpr (Int.le_of_lt h)
local macro_rules | `(tactic| omega)=>`(tactic| first | (with_reducible first | assumption | exact Int.ne_of_gt (by assumption) | exact iNn (by assumption) | exact Int.le_of_lt (by assumption) | exact eLt (by assumption) (by assumption) | exact dLe (by assumption) (by decide) | exact eLe (by assumption) (by assumption) (by decide) | exact Nat.le_trans (by assumption) (by decide) | exact Nat.lt_of_lt_of_le (by assumption) (by decide) | exact Nat.lt_of_le_of_lt (by assumption) (by decide) | exact Nat.le_trans (Nat.le_of_lt (by assumption)) (by decide) | exact Nat.le_of_lt (by assumption)) | decide | lia | omega +splitDisjunctions)
abbrev SP':=List Int×Int
abbrev LI':=List Int
abbrev PN:=List (PySem.Addr×PySem.Obj)
abbrev VP:=PySem.Value->PySem.Shared->Prop
abbrev LW:=List PySem.Value
abbrev LA:=List PySem.Addr
abbrev MT:=PySem.Str->Option PySem.Value
def zA:=@PySem.wpAny_bind
def zB:=@PySem.wpAny_pure
def zC:=@PySem.Heap.get?_push_of_some
def zD:=@if_neg
def zE:=@if_pos
def zF:=@Nat.le_refl
def zG:=@PyProof.Rows.wpS_bind
def zH:=@PyProof.Rows.wpS_pure
def zI:=@List.map_cons
def zJ:=@Nat.lt_of_lt_of_le
def zK:=@Array.length_toList
def zL:=@PySem.Heap.lt_size
def zM:=@List.getElem?_map
def zN:=@List.mem_cons_of_mem
def zO:=@decide_eq_false
def zP:=@PySem.Heap.get?_push_size
def zQ:=@decide_eq_true
def zR:=@Bool.and_eq_true
def zS:=@Int.toNat_natCast
def zT:=@List.getElem?_append_right
def zU:=@Option.some.inj
def zV:=@List.length_cons
def zW:=@List.size_toArray
def zX:=@List.length_append
def zY:=@List.mem_cons_self
def zZ:=@Nat.ne_of_lt
def yA:=@List.getElem?_append_left
def yB:=@Nat.zero_le
def yC:=@Nat.le_trans
def yD:=@List.mem_of_getElem?
def yE:=@List.append_assoc
def yF:=@Ne.symm
def yG:=@PySem.PassesOwn.never
def yH:=@Bool.false_ne_true
def yI:=@List.length_take
def yJ:=@List.cons.injEq
def yK:=@Array.toList_append
def yL:=@LawfulBEq.eq_of_beq
def yM:=@Array.getElem?_toList
def yN:=@List.mem_append_right
def yO:=@List.length_map
def yP:=@Nat.pow_le_pow_right
def yQ:=@PySem.wpAny_mono
def yR:=@List.take_of_length_le
def yS:=@PySem.W.mg_none_of
def yT:=@PySem.wpAny_holding
def yU:=@List.zipWith_cons_cons
def yV:=@List.map_append
def yW:=@Nat.lt_irrefl
def yX:=@List.getElem?_of_mem
def yY:=@PySem.W.mg_of
def yZ:=@List.getElem?_eq_getElem
def xA:=@List.getElem?_range
def xB:=@PySem.F.excBase_ValueError
def xC:=@List.mem_cons
def xD:=@List.lookup_cons
def xE:=@List.all_cons
def xF:=@PyProof.Rows.wpS_forRange
def xG:=@PySem.wpAny_newObj_type
def xH:=@PySem.W.kia_one
def xI:=@PyProof.Rows.callWith_type1
def xJ:=@List.take_add_one
def xK:=@PySem.F.plainAttrs_list
def xL:=@PyProof.Rows.mulOk_of_bits
def xM:=@PySem.Heap.size_push
def xN:=@Int.natAbs_mul
def xO:=@List.map_map
def xP:=@List.mem_append_left
def xQ:=@List.append_nil
def xR:=@PySem.wpAny_field
def xS:=@PySem.wpAny_call_entry
def xT:=@Int.mul_pos
def xU:=@List.length_zipWith
def xV:=@decide_eq_true_eq
def xW:=@of_decide_eq_true
def xX:=@List.take_append_drop
def xY:=@PySem.F.type_list_append
def xZ:=@PySem.F.slot_list_append
def wA:=@PySem.Heap.get?_update_self
def wB:=@PySem.wpAny_callSpecial?_slot
def wC:=@Int.fmod_eq_emod_of_nonneg
def wD:=@List.map_congr_left
def wE:=@List.foldl_cons
def wF:=@List.getElem?_zipWith
def wG:=@PySem.wpAny_Call_Name_kw
def wH:=@List.mem_of_mem_eraseIdx
def wI:=@PySem.wpAny_seqItems
def wJ:=@PyProof.Rows.wpS_mono
def wK:=@PySem.F.slot_dict_keyiterator_next
def wL:=@List.getElem_of_mem
def wM:=@PySem.Heap.SameBut.update
def wN:=@List.getElem?_set_self
def wO:=@Nat.le_of_lt
def wP:=@Nat.zero_add
def wQ:=@PyProof.Rows.wpS_modify
def wR:=@PySem.wpAny_rule
def wS:=@PySem.wpAny_standAt
def wT:=@PySem.W.Looks.here
def wU:=@List.nodup_cons
def wV:=@Int.mul_comm
def wW:=@Int.add_zero
def wX:=@Nat.sub_self
def wY:=@congrArg
def wZ:=@PySem.wpAny_typeNameOfWhole_keyiter
def vA:=@List.eq_nil_of_length_eq_zero
def vB:=@List.replicate_succ
def vC:=@PySem.mem_of_lookup
def vD:=@List.getElem_mem
def vE:=@Nat.lt_succ_self
def vF:=@Nat.mul_le_mul
def vG:=@PySem.IntMulOk.of_left
def vH:=@List.all_eq_true
def vI:=@PySem.Heap.get?_update_other
def vJ:=@PySem.wpAny_setField_rec
def vK:=@PySem.wpAny_passesOwn
def vL:=@List.getElem?_eq_none
def vM:=@List.perm_append_comm
def vN:=@PySem.wpAny_attempt
def vO:=@PySem.F.slot_tuple_iterator_next
def vP:=@Int.natAbs_add_le
def vQ:=@PySem.W.looks_findIn
def vR:=@Nat.mul_le_mul_right
def vS:=@PySem.codeAny_call_builtin
def vU:=@PySem.Calls.evalArgs_plain
def vV:=@List.drop_eq_getElem_cons
def vW:=@List.eraseIdx_append_of_length_le
def vX:=@List.nodup_nil
def vY:=@Int.zero_mul
def vZ:=@List.zipIdx_cons
def uA:=@List.getElem?_take_of_lt
def uB:=@PySem.wpAny_isInstance
def uC:=@Int.le_of_lt
def uD:=@PySem.wpAny_typeNameOf_keyiter
def uE:=@List.filter_cons
def uF:=@List.take_length
def uG:=@List.length_drop
def uH:=@PySem.wpAny_typeOf
def uI:=@List.ext_getElem
def uJ:=@PySem.codeAny_mono
def uK:=@List.getElem_map
def uL:=@List.forIn_cons
def uM:=@of_decide_eq_false
def uN:=@List.getElem?_drop
def uO:=@PySem.wpAny_call
def uP:=@PySem.wpAny_loadPart'
def uQ:=@PySem.wpAny_pyIter_tuple
def uR:=@Nat.le_succ
def uS:=@Nat.pow_add
def uT:=@PySem.wpAny_loadPart_at
def uU:=@List.length_range
def uV:=@PySem.wpAny_dictEntries
def uW:=@Array.toList_push
def uX:=@List.foldl_append
def uY:=@Nat.lt_or_ge
def uZ:=@List.cons_lt_cons_iff
def tD:=@List.Pairwise.sublist
def tE:=@PyProof.Rows.wpS_get
def tF:=@List.getElem?_set_ne
def tG:=@PySem.Around.under_plainId
def tH:=@Array.toList_reverse
def tI:=@List.eraseIdx_of_length_le
def tJ:=@List.getD_eq_getElem?_getD
def tK:=@List.filterMap_cons
def tL:=@PySem.wpAny_execs_nil
def tM:=@PySem.codeAny_builtin
def tN:=@List.mem_or_eq_of_mem_set
def tO:=@Nat.add_zero
def tP:=@PySem.Obj.data_mapFields
def tQ:=@PySem.W.callWith_K
def tR:=@Nat.lt_of_le_of_lt
def tS:=@PySem.wpAny_setField
def tU:=@Int.mul_le_mul
def tV:=@Nat.le_mul_of_pos_right
def tW:=@List.flatten_cons
def tX:=@PySem.wpAny_pyIter_list
def tY:=@List.drop_sublist
def tZ:=@List.length_pos_of_mem
def sD:=@PySem.Calls.callWith_builtin
def sE:=@List.drop_eq_nil_of_le
def sF:=@PyProof.Rows.subscriptTail_builtinR
def sG:=@Int.fmod_nonneg_of_pos
def sH:=@Nat.add_assoc
def sI:=@PySem.W.any_some
def sJ:=@List.Perm.append_left
def sK:=@List.getElem?_reverse
def sL:=@List.contains_iff_mem
def sQ:=@PySem.F.slot_zip_next
def sT:=@Nat.le_of_eq
def sU:=@Int.natCast_mul
def sV:=@Nat.min_eq_left
def sW:=@PySem.wpAny_updateSeq_pair
def sZ:=@Nat.ne_of_gt
def rA:=@List.getElem?_zipIdx
def rB:=@Nat.two_pow_pos
def rC:=@Nat.succ_mul
def rD:=@List.length_eraseIdx
def rE:=@List.of_mem_zip
def rF:=@PySem.W.hideAll_none
def rG:=@PySem.W.looks_clsIn
def rH:=@PySem.W.plainGet_of
def rJ:=@PySem.W.hideAll_get
def rK:=@PySem.W.looks_mroIn
def rL:=@PyProof.Rows.wpS_lift
def rM:=@PySem.wpAny_letGo
def rN:=@Int.mul_one
def rO:=@PySem.wpAny_tupleItemsOf
def rP:=@PySem.Code.quiet_builtin
def rQ:=@PyProof.Rows.assignInOrder_cons
def rR:=@Int.lt_of_le_of_lt
def rS:=@PySem.W.isNs_of_in
def rT:=@Array.size_extract
def rV:=@PySem.W.of_hideAll
def rW:=@Int.fmod_lt_of_pos
def rX:=@List.mem_singleton
def rY:=@List.getElem_range
def rZ:=@List.zip_cons_cons
def qB:=@PySem.wpAny_onRaise
def qC:=@List.any_cons
def qD:=@List.take_add
def qE:=@PySem.plainId_quiet
def qF:=@List.nodup_append
def qG:=@List.getElem?_inj
def qH:=@PySem.wpAny_truthy_bool
def qI:=@List.reverse_perm
def qJ:=@PySem.W.kitx_list
def qK:=@Nat.le_of_succ_le
def qL:=@Option.isSome_map
def qM:=@Nat.lt_succ_of_lt
def qN:=@PySem.W.Looks.ld
def qO:=@List.map_nil
def qP:=@Nat.le_add_right
def qQ:=@Nat.succ.inj
def qR:=@Nat.mul_comm
def qT:=@PySem.wpAny_pyHash_int
def qU:=@Nat.pow_succ
def qV:=@Nat.mul_lt_mul''
def qW:=@Int.dvd_refl
def qX:=@PySem.wpAny_dictEpoch
def qZ:=@PySem.Heap.Ns.of_isNs
def pC:=@PySem.pushCells_keeps
def pE:=@PySem.seqIndex_of
def pF:=@Int.one_mul
def pG:=@PySem.wpAny_loadPart
def pH:=@List.drop_drop
def pI:=@PySem.isSubtype_stop
def pJ:=@PySem.wpAny_newTuple
def pK:=@List.take_zero
def pL:=@PySem.call_meets
def pM:=@PySem.Paired.length
def pN:=@Nat.min_self
def pO:=@Int.zero_add
def pQ:=@Int.mul_zero
def pR:=@not_false
def pS:=@PySem.seqIndex_neg
def pU:=@List.map_id
def pV:=@beq_iff_eq
def pW:=@beq_eq_false_iff_ne
def pY:=@List.pairwise_cons
def pZ:=@List.mem_map
def oA:=@List.mem_filterMap
def oB:=@List.mem_append
def oC:=@List.pairwise_append
def oE:=@List.getElem?_eq_some_iff
def oF:=@List.not_lt
def oG:=@List.mem_range
namespace L2
open PySem PySem.Spec PyProof.Rows
open PySem.W (Frag)
abbrev Key:=Sum Int Str
def Da:Key->Value->Bool
 |.inl k,v=>Value.isInt k v
 |.inr x,v=>Value.isStrOf x v
def keyH(w:World):Key->Int
 |.inl k=>hashInt k
 |.inr x=>hashStr w x
theorem jK:∀{k:Key}{v:Value},Da k v=true->(∃i t,k=Sum.inl i/\v=Value.int i t)\/(∃x t,k=Sum.inr x/\v=Value.str x t)
 |.inl i,v,h=>by
  obtain⟨t,e⟩:=Value.isInt_shape (k:=i) (v:=v) h;exact .inl ⟨i,t,rfl,e⟩
 |.inr x,v,h=>by
  obtain⟨t,e⟩:=Value.isStrOf_shape (x:=x) (v:=v) h;exact .inr ⟨x,t,rfl,e⟩
theorem Lm(a b:Int):decide ((Sum.inl a:Key)=Sum.inl b)=(a == b):=by
 by_cases e:a=b
 ·subst e;simp
 ·have h:¬ (Sum.inl a:Key)=Sum.inl b:=λq=>e (Sum.inl.inj q);rw[zO h];exact(pW.mpr e).symm
theorem Ll(a b:Str):decide ((Sum.inr a:Key)=Sum.inr b)=decide (a=b):=by
 by_cases e:a=b
 ·subst e;simp
 ·have h:¬ (Sum.inr a:Key)=Sum.inr b:=λq=>e (Sum.inr.inj q);rw[zO h,zO e]
theorem Lk(a:Int)(b:Str):decide ((Sum.inl a:Key)=Sum.inr b)=false:=zO (λq=>nomatch q)
theorem Lj(a:Str)(b:Int):decide ((Sum.inr a:Key)=Sum.inl b)=false:=zO (λq=>nomatch q)
def Ez(prog:Program)(w:World):PySem.KeyKind prog w Key where
 is:=Da
 hash:=keyH w
 inj:=λv a b ha hb=>by
  rcases jK ha with⟨i,t,rfl,rfl⟩|⟨x,t,rfl,rfl⟩
  ·rcases jK hb with⟨j,u,rfl,e⟩|⟨y,u,rfl,e⟩
   ·injection e with e1 _;rw[e1]
   ·exact nomatch e
  ·rcases jK hb with⟨j,u,rfl,e⟩|⟨y,u,rfl,e⟩
   ·exact nomatch e
   ·injection e with e1 _;rw[e1]
 byValue:=λk v h=>by
  rcases jK h with⟨i,t,rfl,rfl⟩|⟨x,t,rfl,rfl⟩ <;> rfl
 pyHash:=λhv h=>by
  rcases jK hv with⟨i,t,rfl,rfl⟩|⟨x,t,rfl,rfl⟩
  ·exact qT h
  ·exact wpAny_pyHash_str h
 eqBool:=λhu hv h=>by
  rcases jK hu with⟨i,t,rfl,rfl⟩|⟨x,t,rfl,rfl⟩
  ·rcases jK hv with⟨j,u,rfl,rfl⟩|⟨y,u,rfl,rfl⟩
   ·rw[Lm]at h;exact wpAny_eqBool_int h
   ·rw[Lk]at h;exact SeqAt.EqAt.int_str i t y u _ _ _ _ h
  ·rcases jK hv with⟨j,u,rfl,rfl⟩|⟨y,u,rfl,rfl⟩
   ·rw[Lj]at h;exact SeqAt.EqAt.str_int x t j u _ _ _ _ h
   ·rw[Ll]at h;exact wpAny_eqBool_str h
 «strs»:=λk x t v h=>by
  rcases jK h with⟨i,u,rfl,e⟩|⟨y,u,rfl,e⟩
  ·exact nomatch e
  ·injection e with e1 _;subst e1;cases v <;> rfl
inductive V where
 |non|bl(b:Bool)|int(i:Int)|str(x:Str)|byt(b:Array UInt8)|flt(b:UInt64)|ref(a:Addr)|ty(n:String)
 deriving DecidableEq
def RelV:V->Value->Prop
 |.non,u=>u=Value.none
 |.bl b,u=>u=Value.bool b
 |.int i,u=>∃t,u=Value.int i t
 |.str x,u=>∃t,u=Value.str x t
 |.byt b,u=>∃t,u=Value.bytes b t
 |.flt b,u=>∃t,u=Value.float b t
 |.ref a,u=>u=Value.ref a
 |.ty n,u=>u=Value.type n
abbrev Vals:List V->LW->Prop:=Paired RelV
theorem Vals.length{xs:List V}{us:LW}(r:Vals xs us):xs.length=us.length:=pM r
theorem Vals.get:∀{xs:List V}{us:LW}{i:Nat}{x:V},Vals xs us->xs[i]?=some x->∃u,us[i]?=some u/\RelV x u
 |_,_,_,_,.nil,e=>by simp at e
 |_,_,0,_,.cons r _,e=>by simp at e;subst e;exact⟨_,rfl,r⟩
 |_,_,i+1,x,.cons _ c,e=>by
  obtain⟨u,b,a⟩:=Vals.get (i:=i) (x:=x) c (by simpa using e);exact⟨u,by simpa using b,a⟩
theorem Vals.set{x:V}{u:Value}(r:RelV x u):∀{xs:List V}{us:LW}(i:Nat),Vals xs us->Vals (xs.set i x) (us.set i u)
 |_,_,_,.nil=>.nil
 |_,_,0,.cons _ t=>.cons r t
 |_,_,i+1,.cons q t=>.cons q (Vals.set r i t)
theorem Vals.append:∀{xs ys:List V}{us a:LW},Vals xs us->Vals ys a->Vals (xs++ys) (us++a)
 |_,_,_,_,.nil,s=>s
 |_,_,_,_,.cons r b,s=>.cons r (Vals.append b s)
theorem Vals.take:∀{xs:List V}{us:LW}(n:Nat),Vals xs us->Vals (xs.take n) (us.take n)
 |_,_,0,_=>.nil
 |_,_,_+1,.nil=>.nil
 |_,_,n+1,.cons r t=>.cons r (Vals.take n t)
theorem Vals.drop:∀{xs:List V}{us:LW}(n:Nat),Vals xs us->Vals (xs.drop n) (us.drop n)
 |_,_,0,r=>r
 |_,_,_+1,.nil=>.nil
 |_,_,n+1,.cons _ t=>Vals.drop n t
theorem Vals.none_of:∀{xs:List V}{us:LW}{i:Nat},Vals xs us->xs[i]?=none->us[i]?=none:=λ{xs us i}r e=>by
 have b:=r.length;have a:xs.length<=i:=List.getElem?_eq_none_iff.mp e;exact List.getElem?_eq_none_iff.mpr ⋯
def RelO:Option V->Option Value->Prop
 |some v,some u=>RelV v u
 |none,none=>True
 |_,_=>False
def KV{κ:Type}:List (κ×V)->List (κ×Value)->Prop:=Paired λ(p:κ×V)(q:κ×Value)=>p.1=q.1/\RelV p.2 q.2
def kV:Key->V
 |.inl i=>.int i
 |.inr x=>.str x
inductive HO where
  |lst(xs:List V)
  |tup(xs:List V)
  |dK(kvs:List (Key×V))|dT(kvs:List (List Key×V))
  |set(S:Int->Bool)(n:Nat)
  |ins(C dx:Addr)(fs:List (Str×V))
  |own(x:Addr)
  |xd(fs:List (Str×V))
  |met(f x:Addr)
  |rng(lo hi:Int)
  |frz(o:Obj)(u:HO)
  |tbl(ps:Array Value)
  |ext(φ:Heap->Prop)
abbrev Hp:=Addr->Option HO
def upd(H:Hp)(a:Addr)(o:HO):Hp:=λb=>if b=a then some o else H b
theorem oP{H:Hp}{a:Addr}{o:HO}:upd H a o a=some o:=by unfold upd;rw[zE rfl]
theorem oR{H:Hp}{a b:Addr}{o:HO}(h:b≠a):upd H a o b=H b:=by unfold upd;rw[zD h]
theorem nN{H:Hp}{a b:Addr}{o:HO}(h:H a=some o)(h':H b=none):a≠b:=by
 intro e;subst e;rw[h]at h';cases h'
section
variable (P:Program) (w:World)
def nI(H:Hp)(h:Heap)(a:Addr):HO->Prop
 |.lst xs=>xs.length<=sizeLine/\∃(its:LW)(n:Nat),Vals xs its/\h.get? a=some {cls:=.type "list",data:=.seq its.toArray n}
 |.tup xs=>xs.length<=sizeLine/\∃its:LW,Vals xs its/\IsTup h a its.toArray
 |.dK kvs=>kvs.length<=sizeLine/\(a == sysModules)=false/\∃vs,KV kvs vs/\h.DictOf (Ez P w) a vs
 | .dT kvs=>kvs.length<=sizeLine/\(a == sysModules)=false/\∃xs:List (List Key×Addr×Value),
   Paired (λ(p:List Key×V)(q:List Key×Addr×Value)=>p.1=q.1/\H q.2.1=some (.tup (p.1.map kV))/\RelV p.2 q.2.2) kvs xs /\
   ∃o es ep,h.get? a=some o/\o.ExactDict/\o.data=.dict es ep/\es.toList=xs.map (entryOfKey (tupleKind (Ez P w)))/\(xs.map (·.1)).Nodup
 |.set S n=>h.SetOf (intKind P w) a S n
 | .ins C dx fs=>H dx=some (.own a)/\fs.length<=1000/\dx≠a/\h.get? a=some (PySem.W.instObj C dx) /\
   ∃mA,h.Ns1 dx mA/\(∀f,RelO (fs.lookup f) (mA f))/\PySem.Within mA (fs.map (·.1))
 |.own _=>∃o,h.get? a=some o
 |.xd fs=>∃mA,h.Ns1 a mA/\∀f,RelO (fs.lookup f) (mA f)
 |.rng lo hi=>∃t u v,h.get? a=some {cls:=.type "range",data:=.fields #[.int lo t,.int hi u,.int 1 v]}
 |.frz o u=>h.get? a=some o/\nI H h a u
 |.tbl ps=>h.get? a=some {cls:=.none,data:=.fields ps}
 |.met f x=>h.get? a=some (PySem.W.methodObj (.ref f) (.ref x))
 |.ext φ=>φ h/\(∃o,h.get? a=some o)/\∀h1 h2:Heap,φ h1->(∀o,h1.get? a=some o->h2.get? a=some o)->φ h2
def HOk(H:Hp)(h:Heap):Prop:=∀a o,H a=some o->nI P w H h a o
end
section
variable {P:Program} {w:World} {H H':Hp} {h h':Heap} {a:Addr} {o:HO}
theorem nI.lt(x:nI P w H h a o):a<h.objs.size:=by
 cases o with
 |lst xs=>obtain⟨_,_,_,_,e⟩:=x;exact zL e
 |tup xs=>obtain⟨_,_,_,p⟩:=x;exact p.lt
 |dK kvs=>obtain⟨_,_,_,_,o,_,_,e,_⟩:=x;exact zL e
 |dT kvs=>obtain⟨_,_,_,_,o,_,_,e,_⟩:=x;exact zL e
 |set g n=>obtain⟨o,_,_,_,e,_⟩:=x;exact zL e
 |ins C d fs=>obtain⟨_,_,_,e,_⟩:=x;exact zL e
 |own y=>obtain⟨_,e⟩:=x;exact zL e
 |xd fs=>obtain⟨_,⟨_,_,_,e,_⟩,_⟩:=x;exact zL e
 |rng lo hi=>obtain⟨_,_,_,e⟩:=x;exact zL e
 |frz b u=>obtain⟨e,_⟩:=x;exact zL e
 |tbl ps=>exact zL (show h.get? a=some _ from x)
 |met f y=>exact zL (show h.get? a=some _ from x)
 |ext c=>obtain⟨_,⟨_,e⟩,_⟩:=x;exact zL e
theorem Paired.mapP{c e:Type}{F G:c->e->Prop}:∀{l₁:List c}{d:List e},Paired F l₁ d->(∀a b,F a b->G a b)->Paired G l₁ d
 |_,_,.nil,_=>.nil
 |_,_,.cons r g,f=>.cons (f _ _ r) (Paired.mapP g f)
theorem nI.stay(x:nI P w H h a o)(k:∀b u,(b=a\/H b=some (.own a))->h.get? b=some u->h'.get? b=some u)
  (G:∀b,H b=some (.own a)->H' b=some (.own a))(F:∀b xs,H b=some (.tup xs)->H' b=some (.tup xs)):nI P w H' h' a o:=by
 induction o with
 |lst xs=>obtain⟨z,its,n,r,e⟩:=x;exact⟨z,its,n,r,k _ _ (.inl rfl) e⟩
 |tup xs=>obtain⟨z,its,r,g,e,c⟩:=x;exact⟨z,its,r,g,k _ _ (.inl rfl) e,c⟩
 |dK kvs=>obtain⟨z,y,vs,r,g,es,ep,e,c⟩:=x;exact⟨z,y,vs,r,g,es,ep,k _ _ (.inl rfl) e,c⟩
 |dT kvs =>
  obtain⟨z,y,xs,r,g,es,ep,e,c⟩:=x;exact⟨z,y,xs,Paired.mapP r λp q z=>⟨z.1,F _ _ z.2.1,z.2.2⟩,g,es,ep,k _ _ (.inl rfl) e,c⟩
 |set K n=>obtain⟨g,es,ep,i,e,c⟩:=x;exact⟨g,es,ep,i,k _ _ (.inl rfl) e,c⟩
 |ins C I fs =>
  obtain⟨d,z,D,e,l,⟨j,es,ep,t,c⟩,r⟩:=x;exact⟨G _ d,z,D,k _ _ (.inl rfl) e,l,⟨j,es,ep,k _ _ (.inr d) t,c⟩,r⟩
 |own y=>obtain⟨g,e⟩:=x;exact⟨g,k _ _ (.inl rfl) e⟩
 |xd fs=>obtain⟨l,⟨j,es,ep,e,c⟩,r⟩:=x;exact⟨l,⟨j,es,ep,k _ _ (.inl rfl) e,c⟩,r⟩
 |rng lo hi=>obtain⟨i,u,v,e⟩:=x;exact⟨i,u,v,k _ _ (.inl rfl) e⟩
 |frz g u m=>obtain⟨e,q⟩:=x;exact⟨k _ _ (.inl rfl) e,m q⟩
 |tbl ps =>
  have e:h.get? a=some {cls:=.none,data:=.fields ps}:=x;show h'.get? a=some {cls:=.none,data:=.fields ps};exact k a _ (.inl rfl) e
 |met f y =>
  have e:h.get? a=some (PySem.W.methodObj (.ref f) (.ref y)):=x;show h'.get? a=some (PySem.W.methodObj (.ref f) (.ref y));exact k a _ (.inl rfl) e
 |ext J=>obtain⟨p,⟨o,e⟩,st⟩:=x;exact⟨st _ _ p λo q=>k _ _ (.inl rfl) q,⟨o,k _ _ (.inl rfl) e⟩,st⟩
theorem HOk.lt(x:HOk P w H h)(e:H a=some o):a<h.objs.size:=(x a o e).lt
theorem HOk.fresh(x:HOk P w H h)(e:h.objs.size<=a):H a=none:=by
 cases q:H a with
 |none=>rfl
 |some u=>exact absurd (zJ (x.lt q) e) (yW _)
theorem HOk.kept(x:HOk P w H h)(k:∀b u,h.get? b=some u->h'.get? b=some u):HOk P w H h':=λa o e =>
 (x a o e).stay (λb u _ q=>k b u q) (λ_ q=>q) λ_ _ q=>q
theorem HOk.laid(x:HOk P w H h)(k:∀b u,h.get? b=some u->h'.get? b=some u)(g:h.objs.size<=a)(new:nI P w (upd H a o) h' a o):HOk P w (upd H a o) h':=λb u e=>by
 have f:=x.fresh g
 by_cases d:b=a
 ·subst d;rw[oP]at e;cases e;exact new
 ·rw[oR d]at e;exact(x b u e).stay (λc v _ q=>k c v q) (λc q=>by rw[oR (nN q f)];exact q) λc xs q=>by rw[oR (nN q f)];exact q
end
def Rd(H:Hp)(a:Addr)(u:HO):Prop:=H a=some u\/∃o,H a=some (.frz o u)
theorem Rd.ok{P:Program}{w:World}{H:Hp}{h:Heap}{a:Addr}{u:HO}(r:Rd H a u)(x:HOk P w H h):nI P w H h a u:=by
 rcases r with r|⟨o,r⟩
 ·exact x a u r
 ·obtain⟨_,q⟩:=x a _ r;exact q
def Mut:Option HO->Prop
 |some (.lst _)=>True
 |some (.dK _)=>True
 |some (.dT _)=>True
 |some (.set _ _)=>True
 |some (.ins _ _ _)=>True
 |some (.ext _)=>True
 |_=>False
section
variable {P:Program} {w:World} {H:Hp} {h h':Heap} {x e:Addr} {o':HO}
theorem HOk.write(ok:HOk P w H h)(d:Mut (H x))(j:e=x\/H e=some (.own x))(k:∀b u,b≠e->h.get? b=some u->h'.get? b=some u)(n:∃u,h'.get? e=some u)
  (new:nI P w (upd H x o') h' x o'):HOk P w (upd H x o') h':=λb u q=>by
 have i:∀c y,H c=some (.own y)->c≠x:=λc y r z=>by subst z;rw[r]at d;exact d
 have m:∀c xs,H c=some (.tup xs)->c≠x:=λc xs r z=>by subst z;rw[r]at d;exact d
 by_cases f:b=x
 ·subst f;rw[oP]at q;cases q;exact new
 ·rw[oR f]at q
  by_cases g:b=e
  ·have l:H b=some (.own x):=by
    rcases j with z|z
    ·exact absurd (g.trans z) f
    ·rw[g];exact z
   rw[q]at l;cases l;obtain⟨v,o⟩:=n;exact⟨v,by rw[g];exact o⟩
  ·refine(ok b u q).stay (λc v a r=>k c v ?_ r) (λc r=>by rw[oR (i c b r)];exact r) λc xs r=>by rw[oR (m c xs r)];exact r
   rcases a with rfl|a
   ·exact g
   ·rintro rfl;rcases j with z|z
    ·exact i c b a z
    ·rw[a]at z;cases z;exact f rfl
end
structure Un(fs ex:LA)(H H':Hp)(h h':Heap):Prop where
 keep:∀b o,h.get? b=some o->H b=none->b∉fs->b∉ex->h'.get? b=some o
 slot:∀b o,h.get? b=some o->H b=none->b∈fs->b∉ex->∃sl,h'.get? b=some {o with slots:=sl}
 free:∀b o,h.get? b=some o->H b=none->b∉ex->H' b=none
 there:∀b o,h.get? b=some o->b∉ex->∃o',h'.get? b=some o'
 tups:∀b xs,H b=some (.tup xs)->H' b=some (.tup xs)
 frzs:∀b o u,H b=some (.frz o u)->H' b=some (.frz o u)
 tbls:∀b ps,H b=some (.tbl ps)->∃more,H' b=some (.tbl (ps++more))
section
variable {fs fs' ex ex':LA} {H H1 H2:Hp} {h h1 h2 h':Heap} {a x e:Addr} {o:HO}
theorem Un.any(u:Un fs ex H H1 h h1){b:Addr}{c:Obj}(q:h.get? b=some c)(n:H b=none)(f:b∉ex):∃g,h1.get? b=some {c with slots:=g}:=by
 by_cases d:b∈fs
 ·exact u.slot b c q n d f
 ·exact⟨c.slots,u.keep b c q n d f⟩
theorem Un.trans(a:Un fs ex H H1 h h1)(b:Un fs ex H1 H2 h1 h2):Un fs ex H H2 h h2 where
 keep:=λc d q n g f=>b.keep c d (a.keep c d q n g f) (a.free c d q n f) g f
 slot:=λc d q n g f=>by
  obtain⟨p,e1⟩:=a.slot c d q n g f;obtain⟨l,i⟩:=b.slot c _ e1 (a.free c d q n f) g f;exact⟨l,i⟩
 free:=λc d q n f=>by
  obtain⟨j,e1⟩:=a.there c d q f;exact b.free c j e1 (a.free c d q n f) f
 there:=λc d q f=>by
  obtain⟨j,e1⟩:=a.there c d q f;exact b.there c j e1 f
 tups:=λc xs q=>b.tups c xs (a.tups c xs q)
 frzs:=λc d xs q=>b.frzs c d xs (a.frzs c d xs q)
 tbls:=λc ps q=>by
  obtain⟨k,e1⟩:=a.tbls c ps q;obtain⟨m,i⟩:=b.tbls c _ e1;exact⟨k++m,by rw[i,Array.append_assoc]⟩
theorem Un.kept(k:∀b u,h.get? b=some u->h'.get? b=some u):Un fs ex H H h h':=
 ⟨λb c q _ _ _=>k b c q,λb c q _ _ _=>⟨c.slots,k b c q⟩,λ_ _ _ n _=>n,λb c q _=>⟨c,k b c q⟩,λ_ _ q=>q,λ_ _ _ q=>q,λ_ ps q=>⟨#[],by rw[q];simp⟩⟩
theorem Un.refl:Un fs ex H H h h:=Un.kept λ_ _ q=>q
theorem Un.laid(k:∀b u,h.get? b=some u->h'.get? b=some u)(d:h.objs.size<=a)(c:H a=none):Un fs ex H (upd H a o) h h' where
 keep:=λb u q _ _ _=>k b u q
 slot:=λb u q _ _ _=>⟨u.slots,k b u q⟩
 free:=λb u q n _=>by rw[oR (zZ (zJ (zL q) d))];exact n
 there:=λb u q _=>⟨u,k b u q⟩
 tups:=λb xs q=>by rw[oR (nN q c)];exact q
 frzs:=λb u xs q=>by rw[oR (nN q c)];exact q
 tbls:=λb ps q=>⟨#[],by rw[oR (nN q c),q];simp⟩
theorem Un.write(c:Mut (H x))(l:e=x\/H e=some (.own x))(k:∀b u,b≠e->h.get? b=some u->h'.get? b=some u)(j:∃u,h'.get? e=some u):Un fs ex H (upd H x o) h h':=by
 have f:∀b,H b=none->b≠x:=λb n z=>by subst z;rw[n]at c;exact c
 have g:∀b,H b=none->b≠e:=λb n z=>by
  subst z;rcases l with r|r
  ·exact f b n r
  ·rw[n]at r;cases r
 have d:∀b u,H b=some u->¬ Mut (some u)->b≠x:=λb u q nm z=>by subst z;rw[q]at c;exact nm c
 refine⟨λb u q n _ _=>k b u (g b n) q,λb u q n _ _=>⟨u.slots,k b u (g b n) q⟩,λb u q n _=>by rw[oR (f b n)];exact n,λb u q _=>?_,
  λb xs q=>by rw[oR (d b _ q λz=>z)];exact q,λb u xs q=>by rw[oR (d b _ q λz=>z)];exact q,λb ps q=>⟨#[],by rw[oR (d b _ q λz=>z),q];simp⟩⟩
 by_cases i:b=e
 ·subst i;exact j
 ·exact⟨u,k b u i q⟩
theorem Un.mono(u:Un fs ex H H1 h h1)(g:∀b∈fs,b∈fs')(f:∀b∈ex,b∈ex'):Un fs' ex' H H1 h h1:=
 ⟨λb d q n i c=>u.keep b d q n (λz=>i (g b z)) λz=>c (f b z),λ_ _ q n _ c=>u.any q n λz=>c (f _ z),λb d q n c=>u.free b d q n λz=>c (f b z),λb d q c=>u.there b d q λz=>c (f b z),u.tups,u.frzs,u.tbls⟩
end
def trk(h:Heap)(H:Hp):LA:=(List.range h.objs.size).filter λa=>(H a).isSome
def hidT(h:Heap)(H:Hp):Heap:=PySem.W.hideAll h (trk h H)
theorem Li(h:Heap)(H:Hp):(hidT h H).objs.size=h.objs.size:=PySem.W.hideAll_size _ _
theorem Lh{h:Heap}{H:Hp}{b:Addr}{o:Obj}(e:h.get? b=some o)(n:H b=none):(hidT h H).get? b=some o:=
 rJ _ e λa=>by
  have q:(H b).isSome=true:=(List.mem_filter.mp a).2;rw[n]at q;simp at q
theorem Lg{h:Heap}{H:Hp}{b:Addr}{o:Obj}(e:(hidT h H).get? b=some o):h.get? b=some o/\H b=none:=by
 have a:h.get? b=some o:=rV (trk h H) e;refine⟨a,?_⟩;cases q:H b with
 |none=>rfl
 |some x =>
  have c:b∈trk h H:=List.mem_filter.mpr ⟨oG.mpr (zL a),by simp[q]⟩;have z:(hidT h H).get? b=none:=rF (trk h H) c;rw[z]at e;cases e
def Lf(g h:Heap)(L:Addr):PN:=(List.range h.objs.size).filterMap λa=>if a=L\/(g.get? a).isSome=true then none else(h.get? a).map λo=>(a,o)
def rest(g h:Heap)(L d:Addr):PN:=(Lf g h L).filter λp=>decide (p.1≠d)
structure Mod(K:Frag)(mg:MT)(base:Heap):Prop where
 kin:K.In base
 glob:base.Ns mainGlobals mg
 blt:∃mb,base.Ns builtinsNs mb/\∀x:Str,x≠"__name__" -> mb x=bootBuiltins x
 nolimit:base.NoLimit
structure Cx where
 prog:Program
 w:World
 K:Frag
 mg:MT
 base:Heap
 A:Around
 N:List Str
 s₀:Shared
 H₀:Hp
 env:Env
 outer:List Env
 stack:List Env
 ex:LA
 fn:Str->Bool
 calm:Bool
 pn:PN
 xe:VP
def frs(l:List Env):LA:=l.filterMap (·.frame)
abbrev Cx.fs(X:Cx):LA:=frs X.outer
def Vis(sc:Scope)(x:Str):Prop:=sc.names.lookup x=some .local\/sc.names.lookup x=some .cell\/sc.names.lookup x=some .free
def Loc(sc:Scope)(x:Str):Prop:=sc.names.lookup x=some .local\/sc.names.lookup x=some .cell
def Look(env:Env)(h:Heap)(m:MT)(x:Str)(u:Value):Prop:=
 (env.kindOf x=some .local/\m x=some u)\/((env.kindOf x=some .cell\/env.kindOf x=some .free)/\∃c,env.cells.lookup x=some c/\h.IsCell c (some u))
structure Cx.Ok(X:Cx):Prop where
 mod:Mod X.K X.mg X.base
 kind:X.env.scope.kind=.function
 glob:X.env.globals=mainGlobals
 blt:X.env.builtins=builtinsNs
 above:X.s₀.heap.objs.size<=X.env.locals
 inj:∀x y c,X.env.cells.lookup x=some c->X.env.cells.lookup y=some c->x=y
 has:∀x,(X.env.kindOf x=some .cell\/X.env.kindOf x=some .free)->∃c,X.env.cells.lookup x=some c
 cab:∀x c,X.fn x=true->X.env.cells.lookup x=some c->X.s₀.heap.objs.size<=c
 hd:X.calm=true->X.A.handled=none
 frames:X.A.frames=some X.stack
 stk:X.stack=X.outer\/(X.stack=X.env:: X.outer/\X.env.frame=some X.env.locals)
 exf:∀b∈X.ex,b≠X.env.locals/\∀x c,X.env.cells.lookup x=some c->c≠b
 bs:∀b o,X.base.get? b=some o->X.s₀.heap.get? b=some o/\X.H₀ b=none
 bsz:X.base.objs.size<=X.s₀.heap.objs.size
 noex:∀b o,X.base.get? b=some o->b∉X.ex
 exfs:∀b∈X.ex,b∉X.fs
 funs:X.s₀.heap.FunFrames X.base X.outer
 frf:∀b∈X.fs,X.H₀ b=none
structure Inv(X:Cx)(pins:PN)(σ:List (Option V))(H:Hp)(s:Shared):Prop where
 ok:X.Ok
 os:s.os=X.s₀.os
 bare:AllBare s.gens
 base:Un X.fs X.ex X.H₀ H X.s₀.heap s.heap
 loc:∃m,s.heap.Ns X.env.locals m/\∀(i:Nat)(x:Str)(v:V),X.N[i]?=some x->σ[i]?=some (some v)->Vis X.env.scope x->∃u,RelV v u/\Look X.env s.heap m x u
 cell:∀x c,X.env.cells.lookup x=some c->∃v,s.heap.IsCell c v
 free:H X.env.locals=none
 freeC:∀x c,X.env.cells.lookup x=some c->H c=none
 pin:∀p∈X.pn++pins,s.heap.get? p.1=some p.2/\H p.1=none/\p.1≠X.env.locals/\p.1∉X.fs/\∀v,p.2.data≠.cell v
 hok:HOk X.prog X.w H s.heap
 len:σ.length=X.N.length
section
variable {X:Cx} {pins:PN} {σ:List (Option V)} {H H':Hp} {s:Shared} {h':Heap}
theorem Cx.Ok.nofr(ok:X.Ok){b:Addr}{o:Obj}(e:X.base.get? b=some o):b∉X.fs:=λa=>by
 have:=(ok.funs.mem a).1;rw[e]at this;cases this
theorem Inv.bs(I:Inv X pins σ H s):∀b o,X.base.get? b=some o->s.heap.get? b=some o/\H b=none:=λb o e =>
 ⟨I.base.keep b o (I.ok.bs b o e).1 (I.ok.bs b o e).2 (I.ok.nofr e) (I.ok.noex b o e),I.base.free b o (I.ok.bs b o e).1 (I.ok.bs b o e).2 (I.ok.noex b o e)⟩
theorem Inv.bk(I:Inv X pins σ H s):∀b o,X.base.get? b=some o->s.heap.get? b=some o:=λb o e=>(I.bs b o e).1
theorem Inv.mod(I:Inv X pins σ H s):Mod X.K X.mg X.base:=I.ok.mod
theorem Inv.kIn(I:Inv X pins σ H s):X.K.In s.heap:=I.ok.mod.kin.keeps I.bk
theorem Inv.nolimit(I:Inv X pins σ H s):s.heap.NoLimit:=I.ok.mod.nolimit.keeps I.bk
theorem Inv.fr(I:Inv X pins σ H s):∃m,Fr X.base X.env.locals s.heap m:=
 let ⟨m,a,_⟩:=I.loc
 ⟨m,a,I.bk,yC I.ok.bsz I.ok.above⟩
theorem Inv.lt(I:Inv X pins σ H s):X.env.locals<s.heap.objs.size:=let ⟨_,a,_⟩:=I.loc;a.lt
theorem Inv.sz(I:Inv X pins σ H s):X.s₀.heap.objs.size<=s.heap.objs.size:=yC I.ok.above (wO I.lt)
theorem Inv.nofs(I:Inv X pins σ H s){a:Addr}(h:s.heap.objs.size<=a):a∉X.fs:=λb=>by
 obtain⟨_,o,c,_⟩:=I.ok.funs.mem b;exact absurd (zJ (zL c) (yC I.sz h)) (yW _)
theorem Inv.cne(I:Inv X pins σ H s):∀x c,X.env.cells.lookup x=some c->c≠X.env.locals:=λx c e z=>by
 obtain⟨v,o,b,a⟩:=I.cell x c e;obtain⟨m,⟨g,es,ep,f,d,_⟩,_⟩:=I.loc;rw[z,f]at b;cases b;rw[d]at a;cases a
theorem Inv.funs(I:Inv X pins σ H s):s.heap.FunFrames X.base X.outer:=by
 have all:∀(l:List Env),(∀b∈frs l,b∈X.fs)->X.s₀.heap.FunFrames X.base l->s.heap.FunFrames X.base l:=by
  intro l
  induction l with
  |nil=>intro _ _;trivial
  |cons env r f =>
   intro d hl;obtain⟨i,⟨L,o,hf,j,k,g⟩,hr⟩:=hl;have a:L∈X.fs:=d L (by unfold frs;rw[tK,hf];exact zY);obtain⟨m,e⟩:=I.base.slot L o k (I.ok.frf L a) a λz=>I.ok.exfs L z a;exact⟨i,⟨L,_,hf,j,e,g⟩,f (λb c=>d b (by unfold frs;rw[tK,hf];exact zN _ c)) hr⟩
 exact all X.outer (λ_ c=>c) I.ok.funs
theorem Inv.stack(I:Inv X pins σ H s):s.heap.FunFrames X.base X.stack:=by
 rcases I.ok.stk with e|⟨e,hf⟩
 ·rw[e];exact I.funs
 ·rw[e];obtain⟨m,a,_⟩:=I.loc;refine .cons (by rw[I.ok.kind];decide) hf a ?_ I.funs;exact Heap.get?_none_of_le (yC I.ok.bsz I.ok.above)
theorem Inv.stkSub(I:Inv X pins σ H s):∀b∈frs X.stack,b∈X.env.locals:: X.fs:=λb a=>by
 rcases I.ok.stk with e|⟨e,hf⟩
 ·rw[e]at a;exact zN _ a
 ·rw[e]at a;unfold frs at a;rw[tK,hf]at a;exact a
theorem Inv.stkFree(I:Inv X pins σ H s):∀b∈frs X.stack,H b=none:=λb a=>by
 rcases xC.mp (I.stkSub b a) with e|a
 ·rw[e];exact I.free
 ·obtain⟨_,o,c,_⟩:=I.ok.funs.mem a;exact I.base.free b o c (I.ok.frf b a) λz=>I.ok.exfs b z a
theorem Inv.step{g':Array GenState}{t':Nat}{d':Drawn}{ch:LA}(I:Inv X pins σ H s)
  (w:∀b∈ch,(b∈X.ex\/X.s₀.heap.objs.size<=b)/\b≠X.env.locals/\(∀x c,X.env.cells.lookup x=some c->c≠b)/\∀p∈X.pn++pins,p.1≠b)
  (F:∀b o,b≠X.env.locals->b∉X.fs->b∉ch->s.heap.get? b=some o->H b=none->h'.get? b=some o)
  (L:∀b o,b≠X.env.locals->b∈X.fs->b∉ch->s.heap.get? b=some o->H b=none->∃D,h'.get? b=some {o with slots:=D})(free:∀b o,b∉ch->s.heap.get? b=some o->H b=none->H' b=none)
  (there:∀b o,b∉ch->s.heap.get? b=some o->∃y,h'.get? b=some y)
  (Y:∀b xs,H b=some (.tup xs)->H' b=some (.tup xs))(W:∀b o u,H b=some (.frz o u)->H' b=some (.frz o u))(a0:∀b ps,H b=some (.tbl ps)->∃more,H' b=some (.tbl (ps++more)))
  (ns:∀m,s.heap.Ns X.env.locals m->h'.Ns X.env.locals m)(S:HOk X.prog X.w H' h')(T:AllBare g'):
  Inv X pins σ H' {s with heap:=h',gens:=g',drawn:=d',toks:=t'}:=by
 have K:∀b o,X.s₀.heap.get? b=some o->b≠X.env.locals:=λb o e=>zZ (zJ (zL e) I.ok.above);have C:∀b o,X.s₀.heap.get? b=some o->b∉X.ex->b∉ch:=λb o e a f=>by
  rcases(w b f).1 with z|z
  ·exact a z
  ·exact absurd (zJ (zL e) z) (yW _)
 have M:∀x c,X.env.cells.lookup x=some c->∀v,s.heap.IsCell c v->h'.IsCell c v:=λx c e v⟨o,g,G⟩=>by
  have j:c∉ch:=λz=>(w c z).2.2.1 x c e rfl
  by_cases J:c∈X.fs
  ·obtain⟨D,q⟩:=L c o (I.cne x c e) J j g (I.freeC x c e);exact⟨_,q,G⟩
  ·exact⟨o,F c o (I.cne x c e) J j g (I.freeC x c e),G⟩
 refine⟨I.ok,I.os,T,⟨λb o e n f a=>?_,λb o e n f a=>?_,λb o e n a=>?_,λb o e a=>?_,λb xs e=>Y b xs (I.base.tups b xs e),λb o xs e=>W b o xs (I.base.frzs b o xs e),λb ps e=>?_⟩,?_,λx c e=>?_,?_,λx c e=>?_,λp N=>?_,S,I.len⟩
 ·exact F b o (K b o e) f (C b o e a) (I.base.keep b o e n f a) (I.base.free b o e n a)
 ·obtain⟨D,e1⟩:=I.base.slot b o e n f a;obtain⟨a1,t⟩:=L b _ (K b o e) f (C b o e a) e1 (I.base.free b o e n a);exact⟨a1,t⟩
 ·obtain⟨y,e1⟩:=I.base.there b o e a;exact free b y (C b o e a) e1 (I.base.free b o e n a)
 ·obtain⟨y,e1⟩:=I.base.there b o e a;exact there b y (C b o e a) e1
 ·obtain⟨U,e1⟩:=I.base.tbls b ps e;obtain⟨Z,t⟩:=a0 b _ e1;exact⟨U++Z,by rw[t,Array.append_assoc]⟩
 ·obtain⟨m,a2,hl⟩:=I.loc;refine⟨m,ns m a2,λi x v e1 t R=>?_⟩;obtain⟨u,r,l⟩:=hl i x v e1 t R;refine⟨u,r,?_⟩;rcases l with l|⟨k,c,e,z⟩
  ·exact .inl l
  ·exact .inr ⟨k,c,e,M x c e _ z⟩
 ·obtain⟨v,z⟩:=I.cell x c e;exact⟨v,M x c e v z⟩
 ·obtain⟨m,⟨o,_,_,g,_⟩,_⟩:=I.loc;exact free _ o (λz=>(w _ z).2.1 rfl) g I.free
 ·obtain⟨v,o,g,G⟩:=I.cell x c e;exact free c o (λz=>(w c z).2.2.1 x c e rfl) g (I.freeC x c e)
 ·obtain⟨e,n,P,O,d⟩:=I.pin p N;have j:p.1∉ch:=λz=>(w p.1 z).2.2.2 p N rfl;exact⟨F p.1 p.2 P O j e n,free p.1 p.2 j e n,P,O,d⟩
theorem Inv.un{t':Nat}(I:Inv X pins σ H s)(u:Un X.fs [] H H' s.heap h')(l:HOk X.prog X.w H' h'):Inv X pins σ H' {s with heap:=h',toks:=t'}:=by
 obtain⟨m,⟨o,es,ep,d,r⟩,_⟩:=id I.loc;obtain⟨p,f⟩:=u.any d I.free (by simp);exact I.step (g':=s.gens) (d':=s.drawn) (ch:=[]) (λ_ z=>nomatch z) (λb o _ a _ e n=>u.keep b o e n a (by simp)) (λb o _ a _ e n=>u.slot b o e n a (by simp)) (λb o _ e n=>u.free b o e n (by simp)) (λb o _ e=>u.there b o e (by simp)) u.tups u.frzs u.tbls (λt j=>by
  obtain⟨q,g,i,c,k⟩:=j;rw[d]at c;cases c;exact⟨_,g,i,f,k⟩) l I.bare
theorem Inv.call{g':Array GenState}{t':Nat}{d':Drawn}{ch:LA}(I:Inv X pins σ H s)(u:Un (frs X.stack) ch H H' s.heap h')(v:HOk X.prog X.w H' h')(j:AllBare g')
  (f:∀b∈ch,(b∈X.ex\/X.s₀.heap.objs.size<=b)/\b≠X.env.locals/\(∀x c,X.env.cells.lookup x=some c->c≠b)/\∀p∈X.pn++pins,p.1≠b):
  Inv X pins σ H' {s with heap:=h',gens:=g',drawn:=d',toks:=t'}:=by
 obtain⟨m,⟨o,es,ep,i,r⟩,_⟩:=id I.loc;obtain⟨y,d⟩:=u.any i I.free λz=>(f _ z).2.1 rfl;exact I.step (ch:=ch) f (λb o d w a e n=>u.keep b o e n (λz=>(xC.mp (I.stkSub b z)).elim d w) a) (λb o _ _ a e n=>u.any e n a) (λb o a e n=>u.free b o e n a) (λb o a e=>u.there b o e a) u.tups u.frzs u.tbls (λD q=>by
  obtain⟨C,k,l,g,t⟩:=q;rw[i]at g;cases g;exact⟨_,k,l,d,t⟩) v j
theorem Inv.turned{t':Nat}{a:Addr}(I:Inv X pins σ H s)(k:∀b o,b≠a->s.heap.get? b=some o->h'.get? b=some o)(y:H a=none)(f:a≠X.env.locals)
  (i:a∈X.ex\/X.s₀.heap.objs.size<=a)(w:∀x c,X.env.cells.lookup x=some c->c≠a)(l:∀p∈X.pn++pins,p.1≠a):Inv X pins σ H {s with heap:=h',toks:=t'}:=by
 have g:∀b u,H b=some u->b≠a:=λb u e z=>by rw[z,y]at e;cases e
 refine I.step (g':=s.gens) (d':=s.drawn) (ch:=[a]) (λb t=>?_) (λb o _ _ d e _=>k b o (λz=>d (by simp[z])) e) (λb o _ _ d e _=>⟨o.slots,k b o (λz=>d (by simp[z])) e⟩) (λ_ _ _ _ n=>n)
  (λb o d e=>⟨o,k b o (λz=>d (by simp[z])) e⟩) (λ_ _ e=>e) (λ_ _ _ e=>e) (λb ps e=>⟨#[],by rw[e];simp⟩) (λm j=>?_) (λb u e=>?_) I.bare
 ·have e:b=a:=by simpa using t
  subst e;exact⟨i,f,w,l⟩
 ·obtain⟨o,es,ep,C,r⟩:=j;exact⟨o,es,ep,k _ o (yF f) C,r⟩
 ·refine(I.hok b u e).stay (λc v d q=>k c v ?_ q) (λ_ q=>q) λ_ _ q=>q;rcases d with z|z
  ·rw[z];exact g b u e
  ·exact g c _ z
theorem Inv.tok(I:Inv X pins σ H s)(t:Nat):Inv X pins σ H {s with toks:=t}:=I.un (h':=s.heap) (t':=t) Un.refl I.hok
theorem Inv.kept{t':Nat}(I:Inv X pins σ H s)(k:∀b u,s.heap.get? b=some u->h'.get? b=some u):Inv X pins σ H {s with heap:=h',toks:=t'}:=I.un (Un.kept k) (I.hok.kept k)
theorem Inv.laid{a:Addr}{o:HO}{t':Nat}(I:Inv X pins σ H s)(k:∀b u,s.heap.get? b=some u->h'.get? b=some u)(c:s.heap.objs.size<=a)(new:nI X.prog X.w (upd H a o) h' a o):
  Inv X pins σ (upd H a o) {s with heap:=h',toks:=t'}:=I.un (Un.laid k c (I.hok.fresh c)) (I.hok.laid k c new)
theorem Inv.write{x e:Addr}{o:HO}{t':Nat}(I:Inv X pins σ H s)(a:Mut (H x))(c:e=x\/H e=some (.own x))(k:∀b u,b≠e->s.heap.get? b=some u->h'.get? b=some u)(d:∃u,h'.get? e=some u)
  (new:nI X.prog X.w (upd H x o) h' x o):Inv X pins σ (upd H x o) {s with heap:=h',toks:=t'}:=I.un (Un.write a c k d) (I.hok.write a c k d new)
theorem Inv.pins_of{a:PN}(I:Inv X pins σ H s)(h:∀p∈a,s.heap.get? p.1=some p.2/\H p.1=none/\p.1≠X.env.locals/\p.1∉X.fs/\∀v,p.2.data≠.cell v):Inv X a σ H s:=
 ⟨I.ok,I.os,I.bare,I.base,I.loc,I.cell,I.free,I.freeC,λp b=>(oB.mp b).elim (λz=>I.pin p (xP _ z)) (h p),I.hok,I.len⟩
theorem Ey{N:List Str}(d:N.Nodup){i j:Nat}{x:Str}(a:N[i]?=some x)(b:N[j]?=some x):i=j:=by
 obtain⟨f,e1⟩:=oE.mp a;obtain⟨e,c⟩:=oE.mp b;exact(List.getElem_inj d).mp (e1.trans c.symm)
theorem Ex{M:Model}{A:Around}{E:VP}{i:Nat}{x:Str}{v:V}{u:Value}{Q:Unit->Shared->Prop}(I:Inv X pins σ H s)(a4:X.N.Nodup)(hi:X.N[i]?=some x)(l:Loc X.env.scope x)(r:RelV v u)
  (h:∀L,Inv X pins (σ.set i (some v)) H L->(∃a,Heap.SameBut a s.heap L.heap/\(a=X.env.locals\/X.env.cells.lookup x=some a))->Q () L)(hf:X.fn x=true\/X.env.scope.names.lookup x=some .local:=by first|exact .inl rfl|exact .inr rfl|assumption):wpAny M A (storeName X.env x u) Q E s:=by
 obtain⟨m,Y,hl⟩:=id I.loc;have b6:(X.env.scope.kind == .class || (X.env.scope.kind == .module && X.env.locals != X.env.globals))=false:=by rw[I.ok.kind];rfl
 have a0:i<σ.length:=by rw[I.len];exact(oE.mp hi).1
 have cne:=I.cne;have a6:∀{a:Addr}{h':Heap},(∃o,s.heap.get? a=some o/\H a=none)->Heap.SameBut a s.heap h'->HOk X.prog X.w H h':=λ{a h'}a8 f b b0 e=>by
  obtain⟨_,_,a1⟩:=a8;refine(I.hok b b0 e).stay (λc G g q=>(f.2 c ?_).trans q) (λ_ q=>q) λ_ _ q=>q;rintro rfl;rcases g with rfl|g
  ·rw[a1]at e;cases e
  ·rw[a1]at g;cases g
 rcases l with w|w
 ·refine wpAny_storeName_local w Y (λh' b3 f=>?_) b6;obtain⟨b4,_,_,a7,_⟩:=id Y;refine h _ ⟨I.ok,I.os,I.bare,⟨λb o e n C l=>?_,λb o e n C l=>?_,I.base.free,λb o e l=>?_,I.base.tups,I.base.frzs,I.base.tbls⟩,⟨_,b3,λj y R e1 t N=>?_⟩,λy c e=>?_,I.free,I.freeC,λp T=>?_,a6 ⟨b4,a7,I.free⟩ f,by simpa using I.len⟩ ⟨_,f,.inl rfl⟩
  ·exact(f.2 b (zZ (zJ (zL e) I.ok.above))).trans (I.base.keep b o e n C l)
  ·obtain⟨K,e1⟩:=I.base.slot b o e n C l;exact⟨K,(f.2 b (zZ (zJ (zL e) I.ok.above))).trans e1⟩
  ·obtain⟨P,e1⟩:=I.base.there b o e l;exact⟨P,(f.2 b (zZ (zJ (zL e) I.ok.above))).trans e1⟩
  ·by_cases D:j=i
   ·subst D;rw[hi]at e1;cases e1;rw[wN a0]at t;cases t;exact⟨u,r,.inl ⟨w,by simp⟩⟩
   ·rw[tF (yF D)]at t;obtain⟨S,O,q⟩:=hl j y R e1 t N;refine⟨S,O,?_⟩;rcases q with⟨k,e⟩|⟨k,c,e,z⟩
    ·refine .inl ⟨k,?_⟩;have:y≠x:=λe=>D (Ey a4 e1 (e ▸ hi));simp[this,e]
    ·exact .inr ⟨k,c,e,z.sameBut f (cne y c e)⟩
  ·obtain⟨G,z⟩:=I.cell y c e;exact⟨G,z.sameBut f (cne y c e)⟩
  ·obtain⟨e,n,J,U,d⟩:=I.pin p T;exact⟨(f.2 p.1 J).trans e,n,J,U,d⟩
 ·have W:X.fn x=true:=by
   rcases hf with z|z
   ·exact z
   ·rw[z]at w;cases w
  obtain⟨c,g⟩:=I.ok.has x (.inl w);obtain⟨G,z⟩:=I.cell x c g;refine wpAny_storeName_cell I.ok.kind w g z (λh' a2 f=>?_);obtain⟨a5,Z,b5⟩:=id z;refine h {s with heap:=h'} ⟨I.ok,I.os,I.bare,⟨λb o e n C l=>?_,λb o e n C l=>?_,I.base.free,λb o e l=>?_,I.base.tups,I.base.frzs,I.base.tbls⟩,⟨m,Y.sameBut f (yF (cne x c g)),λj y R e1 t N=>?_⟩,λy F e=>?_,I.free,I.freeC,λp T=>?_,a6 ⟨a5,Z,I.freeC x c g⟩ f,by simpa using I.len⟩ ⟨c,f,.inr g⟩
  ·exact(f.2 b (zZ (zJ (zL e) (I.ok.cab x c W g)))).trans (I.base.keep b o e n C l)
  ·obtain⟨K,e1⟩:=I.base.slot b o e n C l;exact⟨K,(f.2 b (zZ (zJ (zL e) (I.ok.cab x c W g)))).trans e1⟩
  ·obtain⟨P,e1⟩:=I.base.there b o e l;exact⟨P,(f.2 b (zZ (zJ (zL e) (I.ok.cab x c W g)))).trans e1⟩
  ·by_cases D:j=i
   ·subst D;rw[hi]at e1;cases e1;rw[wN a0]at t;cases t;exact⟨u,r,.inr ⟨.inl w,c,g,a2⟩⟩
   ·rw[tF (yF D)]at t;obtain⟨S,O,q⟩:=hl j y R e1 t N;refine⟨S,O,?_⟩;rcases q with q|⟨k,F,e,b7⟩
    ·exact .inl q
    ·refine .inr ⟨k,F,e,b7.sameBut f ?_⟩;rintro rfl;exact D (Ey a4 e1 (I.ok.inj _ _ _ e g ▸ hi))
  ·by_cases a3:F=c
   ·subst a3;exact⟨_,a2⟩
   ·obtain⟨b2,b1⟩:=I.cell y F e;exact⟨b2,b1.sameBut f a3⟩
  ·obtain⟨e,n,J,U,d⟩:=I.pin p T;refine⟨(f.2 p.1 ?_).trans e,n,J,U,d⟩;intro q;rw[q,Z]at e;have a9:a5=p.2:=zU e;exact d G (by rw[←a9];exact b5)
theorem fQ{M:Model}{A:Around}{E:VP}{i:Nat}{x:Str}{v:V}{u:Value}{Q:Unit->Shared->Prop}(I:Inv X pins σ H s)(d:X.N.Nodup)(hi:X.N[i]?=some x)(c:Loc X.env.scope x)(r:RelV v u)
  (h:∀a,Inv X pins (σ.set i (some v)) H a->Q () a)(hf:X.fn x=true\/X.env.scope.names.lookup x=some .local:=by first|exact .inl rfl|exact .inr rfl|assumption):wpAny M A (storeName X.env x u) Q E s:=
 Ex I d hi c r (λa b _=>h a b) hf
theorem Inv.call'{a:Shared}{ch:LA}(I:Inv X pins σ H s)(j:a.os=s.os)(u:Un (frs X.stack) ch H H' s.heap a.heap)(i:HOk X.prog X.w H' a.heap)(d:AllBare a.gens)
  (f:∀b∈ch,(b∈X.ex\/X.s₀.heap.objs.size<=b)/\b≠X.env.locals/\(∀x c,X.env.cells.lookup x=some c->c≠b)/\∀p∈X.pn++pins,p.1≠b):Inv X pins σ H' a:=by
 obtain⟨h',g',d',t',g⟩:=a;have e:g=s.os:=j;subst e;exact I.call (g':=g') (t':=t') (d':=d') u i d f
end
abbrev XK:=Value->Option Addr->Hp->Prop
abbrev St:=List (Option V)
abbrev VK:=V->Hp->Prop
abbrev TE:=St->Hp->VK->Prop
abbrev TT:=St->Hp->(Bool->Hp->Prop)->Prop
abbrev TA:=St->Hp->(List V->Hp->Prop)->Prop
structure Ends where
 nx:St->Hp->Prop
 rt:VK
 bk:St->Hp->Prop:=λ_ _=>False
 ct:St->Hp->Prop:=λ_ _=>False
abbrev TS:=Ends->St->Hp->Prop
def EP(X:Cx)(pins:PN)(σ:St)(Q:VK)(u:Value)(s':Shared):Prop:=∃v H',Inv X pins σ H' s'/\RelV v u/\Q v H'
def TP(X:Cx)(pins:PN)(σ:St)(Q:Bool->Hp->Prop)(b:Bool)(s':Shared):Prop:=∃H',Inv X pins σ H' s'/\Q b H'
def AP(X:Cx)(pins:PN)(σ:St)(Q:List V->Hp->Prop)(us:LW)(s':Shared):Prop:=∃vs H',Inv X pins σ H' s'/\Vals vs us/\Q vs H'
def SP(X:Cx)(pins:PN)(D:Ends)(f:Flow)(s':Shared):Prop:=
 match f with
 |.next=>∃σ' H',Inv X pins σ' H' s'/\D.nx σ' H'
 |.brk=>∃σ' H',Inv X pins σ' H' s'/\D.bk σ' H'
 |.cont=>∃σ' H',Inv X pins σ' H' s'/\D.ct σ' H'
 |.ret u=>∃v σ' H',Inv X pins σ' H' s'/\RelV v u/\D.rt v H'
def PE(X:Cx)(e:Expr)(t:TE):Prop:=
 ∀(pins:PN)(s:Shared)(σ:St)(H:Hp)(Q:VK),Inv X pins σ H s->t σ H Q->wpAny (model X.prog X.w) X.A (eval e X.env) (EP X pins σ Q) X.xe s
def PT(X:Cx)(e:Expr)(t:TT):Prop:=
 ∀(pins:PN)(s:Shared)(σ:St)(H:Hp)(Q:Bool->Hp->Prop),Inv X pins σ H s->t σ H Q->wpAny (model X.prog X.w) X.A (isTrue e X.env (eval e X.env)) (TP X pins σ Q) X.xe s
def PW(X:Cx)(e:Expr)(t:TT):Prop:=
 ∀(whole:Sem Value)(pins:PN)(s:Shared)(σ:St)(H:Hp)(Q:Bool->Hp->Prop),Inv X pins σ H s->t σ H Q->wpAny (model X.prog X.w) X.A (isTrue e X.env whole) (TP X pins σ Q) X.xe s
theorem PW.pt{X:Cx}{e:Expr}{t:TT}(h:PW X e t):PT X e t:=h _
def PA(X:Cx)(es:List Expr)(t:TA):Prop:=
 ∀(pos:Pos)(pins:PN)(s:Shared)(σ:St)(H:Hp)(Q:List V->Hp->Prop),Inv X pins σ H s->t σ H Q->wpAny (model X.prog X.w) X.A (spliced (backTo pos (starEach es X.env))) (AP X pins σ Q) X.xe s
def PS(X:Cx)(st:Stmt)(t:TS):Prop:=
 ∀(pins:PN)(s:Shared)(σ:St)(H:Hp)(D:Ends),Inv X pins σ H s->t D σ H->wpAny (model X.prog X.w) X.A (exec st X.env) (SP X pins D) X.xe s
def PSs(X:Cx)(st:List Stmt)(t:TS):Prop:=
 ∀(pins:PN)(s:Shared)(σ:St)(H:Hp)(D:Ends),Inv X pins σ H s->t D σ H->wpAny (model X.prog X.w) X.A (execs st X.env) (SP X pins D) X.xe s
theorem thn{c:Type}{d:Sem c}{Q b:c->Shared->Prop}{M:Model}{A:Around}{E:VP}{s:Shared}(h:wpAny M A d Q E s)(e:∀a s,Q a s->b a s):wpAny M A d b E s:=yQ h e λ_ _ x=>x
section
variable {X:Cx}
def tVar(i:Nat):TE:=λσ H Q=>∃v,σ[i]?=some (some v)/\Q v H
def tC(v:V):TE:=λ_ H Q=>Q v H
theorem Le{i:Nat}{x:Str}{pos:Pos}(k:X.N[i]?=some x)(n:Vis X.env.scope x)(d:(x == ("__debug__" :Str))=false:=by decide)(q:(x == ("__classdict__" :Str))=false:=by decide):PE X (.Name x pos) (tVar i):=by
 intro p s j H Q I h;obtain⟨v,e,h⟩:=h;obtain⟨m,t,hl⟩:=I.loc;obtain⟨u,r,l⟩:=hl i x v k e n;have b:EP X p j Q u s:=⟨v,H,I,r,h⟩;rcases l with⟨a,o⟩|⟨a,c,f,g⟩
 ·exact wpAny_Name (wpAny_loadName_local I.ok.kind a t o b) d
 ·rcases a with a|a
  ·exact wpAny_Name (wpAny_loadName_cell I.ok.kind a f g b) d
  ·exact wpAny_Name (wpAny_loadName_free I.ok.kind a f g b q) d
theorem oK{i j pos}:PE X (.Constant (.int i) j pos) (tC (.int i)):=λ_ _ _ H _ I h=>wpAny_Constant_int ⟨.int i,H,I.tok _,⟨_,rfl⟩,h⟩
theorem kJ{b j pos}:PE X (.Constant (.bool b) j pos) (tC (.bl b)):=λ_ _ _ H _ I h=>Constant_bool ⟨.bl b,H,I,rfl,h⟩
theorem Ao{j pos}:PE X (.Constant .none j pos) (tC .non):=λ_ _ _ H _ I h=>Constant_none ⟨.non,H,I,rfl,h⟩
theorem iL{x j pos}:PE X (.Constant (.str x) j pos) (tC (.str x)):=λ_ _ _ H _ I h=>Calls.Constant_str ⟨.str x,H,I.tok _,⟨_,rfl⟩,h⟩
def Gl(X:Cx)(x:Str):Prop:=X.env.kindOf x=some .globalImplicit
theorem jL{E:VP}{e:PN}{s:Shared}{b:St}{H:Hp}{x:Str}{u:Value}{pos:Pos}{Q:VP}(I:Inv X e b H s)(a:Gl X x)(c:X.mg x=some u)(h:Q u s)
  (d:(x == ("__debug__" :Str))=false:=by decide):wpAny (model X.prog X.w) X.A (eval (.Name x pos) X.env) Q E s:=
 Calls.Name_function_global I.ok.kind a (Calls.loadGlobal_global (by rw[I.ok.glob];exact I.mod.glob.keeps I.bk) c h) d
theorem jM{E:VP}{i:PN}{s:Shared}{b:St}{H:Hp}{x:Str}{u:Value}{pos:Pos}{Q:VP}(I:Inv X i b H s)(a:Gl X x)(e:X.mg x=none)(d:bootBuiltins x=some u)(h:Q u s)
  (j:x≠"__name__" := by decide)(f:(x == ("__debug__" :Str))=false:=by decide):wpAny (model X.prog X.w) X.A (eval (.Name x pos) X.env) Q E s:=by
 obtain⟨k,c,g⟩:=I.mod.blt;exact Calls.Name_function_global I.ok.kind a (Calls.loadGlobal_builtin (by rw[I.ok.glob];exact I.mod.glob.keeps I.bk) e (by rw[I.ok.blt];exact c.keeps I.bk) ((g x j).trans d) h) f
theorem Ld{x:Str}{v:V}{u:Value}{pos:Pos}(b:Gl X x)(a:X.mg x=some u)(r:RelV v u)(c:(x == ("__debug__" :Str))=false:=by decide):PE X (.Name x pos) (tC v):=
 λ_ _ _ H _ I h=>jL I b a ⟨v,H,I,r,h⟩ c
theorem fR{x:Str}{v:V}{u:Value}{pos:Pos}(a:Gl X x)(c:X.mg x=none)(b:bootBuiltins x=some u)(r:RelV v u)(e:x≠"__name__" := by decide)(d:(x == ("__debug__" :Str))=false:=by decide):PE X (.Name x pos) (tC v):=
 λ_ _ _ H _ I h=>jM I a c b ⟨v,H,I,r,h⟩ e d
variable {a b:Expr} {ta tb:TE} {pos:Pos}
def tB(t:TE):TT:=λσ H Q=>t σ H λx H1=>∃c,x=.bl c/\Q c H1
theorem fS{e:Expr}{c:TE}(h:PE X e c)(k:∀f,isTrue e X.env f=(do let v ←f;standAt e.pos;holding [v] (truthy v)):=by intro _;rfl):PT X e (tB c):=by
 intro m s i H Q I g;refine isTrue_plain (thn (h m s i H _ I g) λv n⟨x,H1,l,r1,j⟩=>?_) (k _);obtain⟨d,rfl,q⟩:=j;cases r1;exact qH ⟨H1,l,q⟩
variable {tA tB':TT} {rest:List Expr}
def tAnd(t u:TT):TT:=λσ H Q=>t σ H λc H1=>if c=true then u σ H1 Q else Q false H1
def tOr(t u:TT):TT:=λσ H Q=>t σ H λc H1=>if c=true then Q true H1 else u σ H1 Q
def tNot(t:TT):TT:=λσ H Q=>t σ H λc H1=>Q (!c) H1
theorem fT(g:PT X a tA):PW X (.BoolOp .Or [a] pos) tA:=by
 intro j f s d H Q I h;refine isTrue_or (thn (g f s d H Q I h) λc i e=>?_);cases c with
 |false=>exact isTrue_or_nil e
 |true=>exact e
theorem fU(l:PT X a tA)(k:PW X (.BoolOp .Or (b:: rest) pos) tB'):PW X (.BoolOp .Or (a:: b:: rest) pos) (tOr tA tB'):=by
 intro j f s d H Q I h;refine isTrue_or (thn (l f s d H _ I h) λc i⟨H1,g,e⟩=>?_);cases c with
 |true=>exact⟨H1,g,e⟩
 |false=>exact k j f i d H1 Q g e
theorem Ew(f:PT X a tA):PT X (.UnaryOp .Not a pos) (tNot tA):=by
 intro e s d H Q I h;exact isTrue_not (f e s d H (λc H1=>Q (!c) H1) I h)
def t_l(ta tb:TE):TE:=λσ H Q=>ta σ H λx H1=>∃c,x=.bl c/\if c=true then tb σ H1 Q else Q (.bl false) H1
def tOrV(ta tb:TE):TE:=λσ H Q=>ta σ H λx H1=>∃c,x=.bl c/\if c=true then Q (.bl true) H1 else tb σ H1 Q
def t_m(ta:TE):TE:=λσ H Q=>ta σ H λx H1=>∃c,x=.bl c/\Q (.bl (!c)) H1
def tIf(t:TT)(ta tb:TE):TE:=λσ H Q=>t σ H λc H1=>if c=true then ta σ H1 Q else tb σ H1 Q
theorem Lc{c:Expr}(k:PT X c tA)(m:PE X a ta)(l:PE X b tb):PE X (.IfExp c a b pos) (tIf tA ta tb):=by
 intro f s e H Q I h;refine wpAny_IfExp (thn (k f s e H _ I h) λd i⟨H1,j,g⟩=>?_);cases d with
 |true=>exact m f i e H1 Q j g
 |false=>exact l f i e H1 Q j g
end
def SqL(K:Frag)(H:Hp)(a:Addr)(xs:List V):Prop:=
 Rd H a (.lst xs) \/
  ∃(o:Obj)(its:Array Value)(n:Nat),K.lookup a=some o/\o.cls=.type "list" /\ o.dict=none/\o.data=.seq its n/\its.size<=sizeLine/\Vals xs its.toList
def SqT(K:Frag)(H:Hp)(a:Addr)(xs:List V):Prop:=
 Rd H a (.tup xs) \/
  ∃(o:Obj)(its:Array Value)(n:Nat),K.lookup a=some o/\o.cls=.type "tuple" /\ o.data=.seq its n/\its.size<=sizeLine/\Vals xs its.toList
def absV:Value->Option V
 |.none=>some .non
 |.bool b=>some (.bl b)
 |.int i _=>some (.int i)
 |.str x _=>some (.str x)
 |.bytes b _=>some (.byt b)
 |.float b _=>some (.flt b)
 |.ref a=>some (.ref a)
 |.type n=>some (.ty n)
 |_=>none
theorem RelV.abs{x:V}{u:Value}(r:RelV x u):absV u=some x:=by
 cases x with
 |non=>cases r;rfl
 |bl _=>cases r;rfl
 |int _=>obtain⟨t,rfl⟩:=r;rfl
 |str _=>obtain⟨t,rfl⟩:=r;rfl
 |byt _=>obtain⟨t,rfl⟩:=r;rfl
 |flt _=>obtain⟨t,rfl⟩:=r;rfl
 |ref _=>cases r;rfl
 |ty _=>cases r;rfl
theorem RelV.inj{x y:V}{u:Value}(r:RelV x u)(q:RelV y u):x=y:=zU (r.abs.symm.trans q.abs)
theorem Vals.inj:∀{xs ys:List V}{us:LW},Vals xs us->Vals ys us->xs=ys
 |_,_,_,.nil,.nil=>rfl
 |_,_,_,.cons r b,.cons a t'=>by rw[r.inj a,Vals.inj b t']
section
variable {X:Cx} {pins:PN} {σ:St} {H:Hp} {s:Shared} {a:Addr} {xs ys:List V}
theorem SqL.of{K:Frag}(h:H a=some (.lst xs)):SqL K H a xs:=.inl (.inl h)
theorem SqT.of{K:Frag}(h:H a=some (.tup xs)):SqT K H a xs:=.inl (.inl h)
theorem Inv.list(I:Inv X pins σ H s)(h:SqL X.K H a xs):∃its:LW,Vals xs its/\PlainL s.heap a its.toArray/\xs.length<=sizeLine:=by
 rcases h with h|⟨o,its,n,c,d,b,f,hz,r⟩
 ·obtain⟨z,its,n,r,e⟩:=h.ok I.hok;exact⟨its,r,⟨_,n,e,rfl,rfl,rfl⟩,z⟩
 ·refine⟨its.toList,r,⟨o,n,I.kIn a o c,d,b,by simpa using f⟩,?_⟩;have e:=r.length;simp only[Array.length_toList]at e;omega
theorem Inv.tuple(I:Inv X pins σ H s)(h:SqT X.K H a xs):∃its:LW,Vals xs its/\IsTup s.heap a its.toArray/\xs.length<=sizeLine:=by
 rcases h with h|⟨o,its,n,b,c,d,hz,r⟩
 ·obtain⟨z,its,r,p⟩:=h.ok I.hok;exact⟨its,r,p,z⟩
 ·refine⟨its.toList,r,⟨o,I.kIn a o b,c,n,by simpa using d⟩,?_⟩;have e:=r.length;simp only[Array.length_toList]at e;omega
theorem Inv.list_inj(I:Inv X pins σ H s)(h:SqL X.K H a xs)(h':SqL X.K H a ys):xs=ys:=by
 obtain⟨its,r,⟨o,n,e,_,_,d⟩,_⟩:=I.list h;obtain⟨its',f,⟨i,g,b,_,_,d'⟩,_⟩:=I.list h';rw[e]at b;cases b;rw[d]at d';injection d' with c _;have:its=its':=by simpa using wY Array.toList c
 subst this;exact r.inj f
theorem Inv.tuple_inj(I:Inv X pins σ H s)(h:SqT X.K H a xs)(h':SqT X.K H a ys):xs=ys:=by
 obtain⟨its,r,⟨o,e,_,n,d⟩,_⟩:=I.tuple h;obtain⟨its',f,⟨i,b,_,g,d'⟩,_⟩:=I.tuple h';rw[e]at b;cases b;rw[d]at d';injection d' with c _;have:its=its':=by simpa using wY Array.toList c
 subst this;exact r.inj f
end
abbrev Cx.wish(X:Cx)(E:VP):Cx:={X with xe:=E}
abbrev Cx.nox(X:Cx):Cx:=X.wish λ_ _=>False
theorem Cx.Ok.wish{X:Cx}(ok:X.Ok)(E:VP):(X.wish E).Ok:=
 ⟨ok.mod,ok.kind,ok.glob,ok.blt,ok.above,ok.inj,ok.has,ok.cab,ok.hd,ok.frames,ok.stk,ok.exf,ok.bs,ok.bsz,ok.noex,ok.exfs,ok.funs,ok.frf⟩
theorem Cx.Ok.unwish{X:Cx}{E:VP}(ok:(X.wish E).Ok):X.Ok:=
 ⟨ok.mod,ok.kind,ok.glob,ok.blt,ok.above,ok.inj,ok.has,ok.cab,ok.hd,ok.frames,ok.stk,ok.exf,ok.bs,ok.bsz,ok.noex,ok.exfs,ok.funs,ok.frf⟩
section
variable {X:Cx} {pins:PN} {σ:St} {H:Hp} {s:Shared} {E:VP}
theorem Inv.wish(I:Inv X pins σ H s)(E:VP):Inv (X.wish E) pins σ H s:=⟨I.ok.wish E,I.os,I.bare,I.base,I.loc,I.cell,I.free,I.freeC,I.pin,I.hok,I.len⟩
theorem Inv.unwish(I:Inv (X.wish E) pins σ H s):Inv X pins σ H s:=⟨I.ok.unwish,I.os,I.bare,I.base,I.loc,I.cell,I.free,I.freeC,I.pin,I.hok,I.len⟩
theorem SP.unwish{D:Ends}{f:Flow}{b:Shared}(h:SP (X.wish E) pins D f b):SP X pins D f b:=by
 cases f with
 |next=>obtain⟨a,H',I,q⟩:=h;exact⟨a,H',I.unwish,q⟩
 |brk=>obtain⟨a,H',I,q⟩:=h;exact⟨a,H',I.unwish,q⟩
 |cont=>obtain⟨a,H',I,q⟩:=h;exact⟨a,H',I.unwish,q⟩
 |ret u=>obtain⟨v,a,H',I,r,q⟩:=h;exact⟨v,a,H',I.unwish,r,q⟩
theorem PE.nox{e:Expr}{a:TE}(h:PE X.nox e a):PE X e a:=λpins s σ H Q I c =>
 yQ (h pins s σ H Q (I.wish _) c) (λ_ _⟨v,H',b,r,q⟩=>⟨v,H',b.unwish,r,q⟩) λ_ _ z=>False.elim z
theorem PT.nox{e:Expr}{a:TT}(h:PT X.nox e a):PT X e a:=λpins s σ H Q I c =>
 yQ (h pins s σ H Q (I.wish _) c) (λ_ _⟨H',b,q⟩=>⟨H',b.unwish,q⟩) λ_ _ z=>False.elim z
theorem PSs.nox{st:List Stmt}{a:TS}(h:PSs X.nox st a):PSs X st a:=λpins s σ H D I b =>
 yQ (h pins s σ H D (I.wish _) b) (λ_ _ q=>q.unwish) λ_ _ z=>False.elim z
end
section
variable {X:Cx} {st:Stmt} {rest:List Stmt} {t u:TS} {e:Expr} {te:TE} {pos:Pos}
def Lb:TS:=λD σ H=>D.nx σ H
def tSeq(t u:TS):TS:=λD σ H=>t {D with nx:=u D} σ H
theorem nJ:PSs X [] Lb:=λ_ _ a H _ I h=>tL ⟨a,H,I,h⟩
theorem oM(d:PS X st t)(j:PSs X rest u):PSs X (st:: rest) (tSeq t u):=by
 intro a s c H D I h;refine wpAny_execs_cons (thn (d a s c H {D with nx:=u D} I h) λf g q=>?_);cases f with
 |next =>
  obtain⟨b,H',i,q⟩:=q;exact j a g b H' D i q
 |ret v=>exact q
 |brk=>exact q
 |cont=>exact q
theorem oO(a:PS X st t):PSs X [st] t:=by
 intro c s b H D I h;refine wpAny_execs_cons (thn (a c s b H D I h) λf d q=>?_);cases f with
 |next=>exact tL q
 |ret v=>exact q
 |brk=>exact q
 |cont=>exact q
theorem Inv.quiet{b:PN}{a:St}{H:Hp}{s:Shared}(I:Inv X b a H s):interactive X.env=false:=by simp[interactive,I.ok.kind]
def fV(te:TE):TS:=λD σ H=>te σ H λ_ H1=>D.nx σ H1
theorem kK(d:PE X e te)(c:swapsWith e none pos.line X.env=pure false:=by rfl):PS X (.Expr e pos) (fV te):=by
 intro g s a H D I h;exact wpAny_Expr_any (thn (d g s a H _ I h) λv i⟨x,H1,f,r1,b⟩=>⟨a,H1,f,b⟩) I.quiet c
def tRet(te:TE):TS:=λD σ H=>te σ H D.rt
theorem oY(c:PE X e te):PS X (.Return (some e) pos) (tRet te):=by
 intro f s a H D I h;exact wpAny_Return_some (thn (c f s a H _ I h) λv g⟨x,H1,d,r1,b⟩=>⟨x,a,H1,d,r1,b⟩)
def t_n:TS:=λD _ H=>D.rt .non H
def tIfS(c:TT)(t u:TS):TS:=λD σ H=>c σ H λb H1=>if b=true then t D σ H1 else u D σ H1
theorem nK{c:Expr}{a b:List Stmt}{j:TT}(m:PT X c j)(o:PSs X a t)(n:PSs X b u):PS X (.If c a b pos) (tIfS j t u):=by
 intro g s f H D I h;refine wpAny_If (thn (m g s f H _ I h) λd k⟨H1,l,i⟩=>?_);cases d with
 |true=>exact o g k f H1 D l i
 |false=>exact n g k f H1 D l i
def Ev:TS:=λ_ _ _=>False
theorem An:PS X st Ev:=λ_ _ _ _ _ _ h=>h.elim
theorem La{a:List Stmt}:PSs X a Ev:=λ_ _ _ _ _ _ h=>h.elim
end
abbrev TG:=V->St->Hp->(St->Hp->Prop)->Prop
abbrev TGs:=List V->St->Hp->(St->Hp->Prop)->Prop
def PG(X:Cx)(target:Expr)(t:TG):Prop:=
 ∀(pins:PN)(s:Shared)(σ:St)(H:Hp)(v:V)(u:Value)(Q:St->Hp->Prop),Inv X pins σ H s->RelV v u->t v σ H Q ->
  wpAny (model X.prog X.w) X.A (assign target X.env u) (λ_ s'=>∃σ' H',Inv X pins σ' H' s'/\Q σ' H') X.xe s
def PGs(X:Cx)(ts:List Expr)(t:TGs):Prop:=
 ∀(pins:PN)(s:Shared)(σ:St)(H:Hp)(vs:List V)(us:LW)(Q:St->Hp->Prop),Inv X pins σ H s->Vals vs us->t vs σ H Q ->
  wpAny (model X.prog X.w) X.A (assignInOrder ((assignEach ts X.env).map (·.2)) us) (λ_ s'=>∃σ' H',Inv X pins σ' H' s'/\Q σ' H') X.xe s
abbrev TSet:=V->V->V->Hp->(Hp->Prop)->Prop
def PSet(X:Cx)(t:TSet):Prop:=
 ∀(pins:PN)(s:Shared)(σ:St)(H:Hp)(o i v:V)(ov iv u:Value)(Q:Hp->Prop),Inv X pins σ H s->RelV o ov->RelV i iv->RelV v u->t o i v H Q ->
  wpAny (model X.prog X.w) X.A (setItem ov iv u) (λ_ s'=>∃H',Inv X pins σ H' s'/\Q H') X.xe s
abbrev TIp:=V->V->Hp->VK->Prop
def PIp(X:Cx)(op:Operator)(t:TIp):Prop:=
 ∀(pins:PN)(s:Shared)(σ:St)(H:Hp)(x y:V)(v u:Value)(Q:VK),Inv X pins σ H s->RelV x v->RelV y u->t x y H Q ->
  wpAny (model X.prog X.w) X.A (inplaceOp op v u) (EP X pins σ Q) X.xe s
section
variable {X:Cx} {pos:Pos}
def oW(i:Nat):TG:=λv σ H Q=>Q (σ.set i (some v)) H
theorem nS{i:Nat}{x:Str}(c:X.N.Nodup)(hi:X.N[i]?=some x)(a:Loc X.env.scope x)(hf:X.fn x=true\/X.env.scope.names.lookup x=some .local:=by first|exact .inl rfl|exact .inr rfl|assumption):PG X (.Name x pos) (oW i):=by
 intro f s d H v u Q I r h;exact wpAny_assign_Name (fQ I c hi a r (λe b=>⟨_,H,b,h⟩) hf)
def gNil:TGs:=λvs σ H Q=>vs=[]/\Q σ H
def mU(t:TG)(u:TGs):TGs:=λvs σ H Q=>∃v r,vs=v:: r/\t v σ H λσ' H'=>u r σ' H' Q
theorem iM:PGs X [] gNil:=by
 intro b s a H vs us Q I r h;obtain⟨e,h⟩:=h;subst e;cases r;exact assignInOrder_nil ⟨a,H,I,h⟩
theorem lQ{e:Expr}{es:List Expr}{a:TG}{u:TGs}(f:PG X e a)(m:PGs X es u)
  (i:(assignEach (e:: es) X.env).map (·.2)=assign e X.env:: (assignEach es X.env).map (·.2):=by rfl):PGs X (e:: es) (mU a u):=by
 intro b s d H vs us Q I r h;obtain⟨v,n,e1,h⟩:=h;subst e1;cases r with
 |cons r c =>
  rw[i];refine rQ (thn (f b s d H _ _ _ I r h) λ_ k⟨j,H1,l,g⟩=>?_);exact m b k j H1 _ _ Q l c g
def gTup(K:Frag)(n:Nat)(t:TGs):TG:=λv σ H Q=>∃a xs,v=.ref a/\SqT K H a xs/\xs.length=n/\t xs σ H Q
theorem iN{es:List Expr}{k:Nat}{f:TGs}{n:Nat}(j:X.calm=true)(h:PGs X es f)
  (w:(assignEach es X.env).length=n:=by rfl)(p:(assignEach es X.env).findIdx? (·.1)=none:=by rfl):PG X (.Tuple es k pos) (gTup X.K n f):=by
 intro i s d H v u Q I r c;obtain⟨a,xs,e1,m,hl,c⟩:=c;subst e1;cases r;obtain⟨its,g,t,hz⟩:=I.tuple m;refine assign_Tuple_tuple (I.ok.hd j) t (by simp[w,←hl,g.length]) p λh' l=>?_;have q:Inv X i d H {s with heap:=h'}:=I.kept (t':=s.toks) λb o e=>l b o (zZ (zL e)) e;exact h i _ d H xs _ Q q (by simpa using g) c
def gSub(to ti:TE)(t:TSet):TG:=λv σ H Q=>to σ H λo H1=>ti σ H1 λi H2=>t o i v H2 λH3=>Q σ H3
theorem cD{o i:Expr}{f g:TE}{e:TSet}(z:PE X o f)(hi:PE X i g)(t:PSet X e)
  (k:∀v,assign (.Subscript o i pos) X.env v=(do
   let a ←holding [v] (eval o X.env)
   let b ←holding [v,a] (eval i X.env)
   standAt pos
   holding [v,a,b] (setItem a b v)
   release [v,a,b] []):=by intro _;rfl):PG X (.Subscript o i pos) (gSub f g e):=by
 intro d s c H v u Q I r h;rw[k];refine zA (yT (thn (z d s c H _ I h) λa n⟨x,H1,C,r1,q⟩=>?_));refine zA (yT (thn (hi d n c H1 _ C q) λb j⟨y,H2,l,r2,p⟩=>?_));refine zA (wS (zA (yT (thn (t d j c H2 x y v a b u _ l r1 r2 r p) λ_ D⟨H3,w,m⟩=>?_))));exact wpAny_release ⟨c,H3,w,m⟩
def tAsg(te:TE)(g:TG):TS:=λD σ H=>te σ H λx H1=>g x σ H1 D.nx
theorem fW{a e:Expr}{te:TE}{g:TG}(m:PE X e te)(d:PG X a g)(k:swapsWithSole [a] e pos.line X.env=pure false:=by rfl)(f:swappedStores [a] e X.env=pure none:=by rfl)
  (i:(assignEach [a] X.env).map (·.2)=[assign a X.env]:=by rfl):PS X (.Assign [a] e pos) (tAsg te g):=by
 intro c s b H D I h;refine wpAny_Assign_stores (thn (m c s b H _ I h) λv l⟨x,H1,n,r1,j⟩=>?_) k f;rw[i];exact thn (d c l b H1 x v _ n r1 j) λ_ o q=>q
theorem oT{i:Nat}{x:Str}{e:Expr}{te:TE}{a:Pos}(m:X.N.Nodup)(hi:X.N[i]?=some x)(b:Loc X.env.scope x)(j:PE X e te)(g:swapsWith e (some (.Name x a)) pos.line X.env=pure false:=by rfl)(hf:X.fn x=true\/X.env.scope.names.lookup x=some .local:=by first|exact .inl rfl|exact .inr rfl|assumption):
  PS X (.Assign [.Name x a] e pos) (tAsg te (oW i)):=by
 intro l s c H D I h;refine wpAny_Assign_Name (thn (j l s c H _ I h) λv o⟨y,H1,k,r1,f⟩=>?_) g;exact fQ k m hi b r1 (λn d=>⟨_,H1,d,f⟩) hf
def tPar(i j:Nat)(ta:TA):TS:=λD σ H=>ta σ H λvs H1=>∃v w,vs=[v,w]/\D.nx ((σ.set i (some v)).set j (some w)) H1
theorem Mz{i j:Nat}{x y:Str}{a b:Expr}{G:TA}{m k pt:Pos}{g k2 n}(K:X.calm=true)(C:X.N.Nodup)(hi:X.N[i]?=some x)(R:X.N[j]?=some y)(Z:i≠j)
  (t:X.env.scope.names.lookup x=some .local)(F:X.env.scope.names.lookup y=some .local)(N:PA X [a,b] G)
  (J:swappedStores [.Tuple [.Name x m,.Name y k] g pt] (.Tuple [a,b] k2 n) X.env=pure (some [x,y]))
  (U:swapsWithSole [.Tuple [.Name x m,.Name y k] g pt] (.Tuple [a,b] k2 n) pos.line X.env=pure false:=by rfl):
  PS X (.Assign [.Tuple [.Name x m,.Name y k] g pt] (.Tuple [a,b] k2 n) pos) (tPar i j G):=by
 intro r s u H D I h;rw[exec_Assign_arm];refine zA (wS ?_);rw[U];refine zA (zB ?_);rw[zD ∅];refine zA (Tuple_ (thn (N _ r s u H _ I h) λus d⟨vs,H1,Y,r1,l⟩=>?_));obtain⟨v,w,e1,l⟩:=l;subst e1;obtain⟨f,c,rfl,M,L⟩:∃f c,us=[f,c]/\RelV v f/\RelV w c:=by
  cases r1 with
  | cons p q =>
   cases q with
   |cons W O =>
    cases O;exact⟨_,_,rfl,p,W⟩
 refine xG ?_ (by show 2<=sizeLine;decide);have S:Inv X r u H1 {d with heap:=d.heap.push {cls:=.type "tuple",data:=.seq [f,c].toArray}}:=Y.kept (t':=d.toks) λb o e=>zC _ e;rw[J];refine zA (zB ?_);show wpAny (model X.prog X.w) X.A (do rule "assign.swapped-stores";let items ←unpackItems (.ref d.heap.objs.size) 2 none;assignInOrder [λv=>bindName X.env y v,λv=>bindName X.env x v] items.reverse;pure Flow.next) _ _ _;refine zA (wR (zA (unpackItems_tuple (items:=#[f,c]) (I.ok.hd K) (IsTup.new d.heap _) λh' T=>?_)));have V:=S.kept (h':=h') (t':=d.toks) λb o e=>T b o (zZ (zL e)) e;show wpAny _ _ (assignInOrder [λv=>bindName X.env y v,λv=>bindName X.env x v] [c,f] >>= λ_=>pure Flow.next) _ _ _;refine zA (rQ (wpAny_bindName (fQ V C R (.inl F) L (λa0 P=>?_) (.inr F))));refine rQ (wpAny_bindName (fQ P C hi (.inl t) M (λa1 z=>assignInOrder_nil (zB ?_)) (.inr t)));rw[List.set_comm _ _ (yF Z)]at z;exact⟨_,H1,z,l⟩
def tAug(i:Nat)(te:TE)(ti:TIp):TS:=λD σ H=>∃x,σ[i]?=some (some x)/\te σ H λy H1=>ti x y H1 λz H2=>D.nx (σ.set i (some z)) H2
theorem Eu{i:Nat}{x:Str}{e:Expr}{te:TE}{op:Operator}{g:TIp}{t:Pos}(N:X.N.Nodup)(hi:X.N[i]?=some x)(d:Loc X.env.scope x)(J:PE X e te)(M:PIp X op g)(hf:X.fn x=true\/X.env.scope.names.lookup x=some .local:=by first|exact .inl rfl|exact .inr rfl|assumption):
  PS X (.AugAssign (.Name x t) op e pos) (tAug i te g):=by
 intro b s f H D I h;obtain⟨v,e1,h⟩:=h;obtain⟨m,P,hl⟩:=I.loc;have o:Vis X.env.scope x:=by rcases d with k|k;exact .inl k;exact .inr (.inl k)
 obtain⟨u,r,l⟩:=hl i x v hi e1 o;refine wpAny_AugAssign_Name ?_;have go:wpAny (model X.prog X.w) X.A (eval e X.env) (λw C=>wpAny (model X.prog X.w) X.A (inplaceOp op u w) (λr p=>wpAny (model X.prog X.w) X.A (storeName X.env x r) (λ_=>SP X b D .next) X.xe p) X.xe C) X.xe s:=by
  refine thn (J b s f H _ I h) λw F⟨y,H1,O,r1,K⟩=>?_;refine thn (M b F f H1 v y u w _ O r r1 K) λz S⟨T,H2,q,r2,G⟩=>?_;exact fQ q N hi d r2 (λU L=>⟨_,H2,L,G⟩) hf
 rcases l with⟨a,n⟩|⟨a,c,j,R⟩
 ·exact wpAny_loadName_local I.ok.kind a P n go
 ·rcases a with a|a
  ·exact wpAny_loadName_cell I.ok.kind a j R go
  ·rcases d with k|k
   ·have:X.env.scope.names.lookup x=some .free:=a;rw[k]at this;cases this
   ·have:X.env.scope.names.lookup x=some .free:=a;rw[k]at this;cases this
def ipI(f:Int->Int->Int):TIp:=λx y H Q=>∃i j,x=.int i/\y=.int j/\Q (.int (f i j)) H
theorem Et:PIp X .Add (ipI λi j=>i+j):=by
 intro b s c H x y v u Q I r1 r2 h;obtain⟨i,j,e1,a,q⟩:=h;subst e1;subst a;obtain⟨d,rfl⟩:=r1;obtain⟨t',rfl⟩:=r2;exact iadd_int ⟨.int _,H,I.tok _,⟨_,rfl⟩,q⟩
def Es(c:TT)(tb:TS):TS:=λD σ H=>∃W:Nat->St->Hp->Prop,(∃m,W m σ H)/\∀m σ H,W m σ H ->
 c σ H λb H1=>if b=true then∃N:St->Hp->Prop,(∀σ' H',N σ' H'->∃m',m'<m/\W m' σ' H')/\tb {D with nx:=N,ct:=N,bk:=D.nx} σ H1 else D.nx σ H1
theorem cE{c:Expr}{body:List Stmt}{r:TT}{tb:TS}(t:PassesOwn (model X.prog X.w) X.A X.env X.xe)(w:PT X c r)(z:PSs X body tb):PS X (.While c body [] pos) (Es r tb):=by
 intro j s F H D I h;obtain⟨C,⟨M,K⟩,G⟩:=h;refine wpAny_While (codeAny_whileLoop (λn x=>∃q H',Inv X j q H' x/\C n q H') ?_ M ⟨F,H,I,K⟩);rintro n J ⟨d,H1,O,L⟩;refine vK t (thn (w j J d H1 _ O (G n d H1 L)) λb y⟨H2,p,g⟩=>?_);cases b with
 | true =>
  obtain⟨N,u,g⟩:=g;rw[zE rfl];refine vK t (thn (z j y d H2 _ p g) λf P e=>?_);cases f with
  |next =>
   obtain⟨a,H3,m,o⟩:=e;obtain⟨k,i,l⟩:=u a H3 o;exact⟨k,i,a,H3,m,l⟩
  |cont =>
   obtain⟨a,H3,m,o⟩:=e;obtain⟨k,i,l⟩:=u a H3 o;exact⟨k,i,a,H3,m,l⟩
  |brk=>exact e
  |ret v=>exact e
 |false =>
  rw[zD yH];exact tL ⟨d,H2,p,g⟩
end
structure It where
 go:Nat->Hp->Prop
 yld:Nat->Hp->V->Hp->Prop
 stop:Nat->Hp->Prop
def FpOk(X:Cx)(pins:PN)(H:Hp)(b:Addr):Prop:=
 H b=none/\b≠X.env.locals/\b∉X.fs/\(b∈X.ex\/X.s₀.heap.objs.size<=b)/\(∀x c,X.env.cells.lookup x=some c->c≠b)/\∀p∈X.pn++pins,p.1≠b
theorem Inv.fpOk{X:Cx}{d:PN}{f:St}{H H':Hp}{s:Shared}{b:Addr}(I:Inv X d f H s)(a:s.heap.objs.size<=b)(i:H' b=none):FpOk X d H' b:=by
 refine⟨i,sZ (zJ I.lt a),I.nofs a,.inr (yC I.sz a),λx c e z=>?_,λp g z=>?_⟩
 ·obtain⟨v,q⟩:=I.cell x c e;exact absurd (zJ q.lt (by rw[z];exact a)) (yW _)
 ·exact absurd (zJ (zL (I.pin p g).1) (by rw[z];exact a)) (yW _)
structure Turn(P:Program)(w:World)(K:Frag)(tg:Expr)(J:It)(fp:LA)(it:Addr)(tn:Nat->Heap->Prop):Prop where
 mem:it∈fp
 obj:∀i h,tn i h->∀b∈fp,∃o,h.get? b=some o/\∀v,o.data≠.cell v
 keep:∀i h h',tn i h->(∀b∈fp,∀o,h.get? b=some o->h'.get? b=some o)->tn i h'
 item:∀(X:Cx),X.prog=P->X.w=w->X.K=K->X.calm=true->∀(i:Nat)(pins:PN)(s:Shared)(σ:St)(H:Hp)(E:VP),Inv X pins σ H s->(∀b∈fp,FpOk X pins H b)->tn i s.heap->J.go i H ->
  wpAny (model P w) X.A (pyNext (.ref it)) (λr s1=>∃u,r=some u /\
   wpAny (model P w) X.A (letOwnedTupleGo tg (.ref it) u) (λ_ s2=>∃x H',Inv X pins σ H' s2/\RelV x u/\J.yld i H x H'/\tn (i+1) s2.heap/\∀b∈fp,H' b=none) E s1) E s
 done:∀(X:Cx),X.prog=P->X.w=w->X.K=K->X.calm=true->∀(i:Nat)(pins:PN)(s:Shared)(σ:St)(H:Hp)(E:VP),Inv X pins σ H s->(∀b∈fp,FpOk X pins H b)->tn i s.heap->J.stop i H ->
  wpAny (model P w) X.A (pyNext (.ref it)) (λr s1=>r=none/\Inv X pins σ H s1) E s
 self:∀(A:Around)(i:Nat)(s:Shared)(Q:VP)(E:VP),tn i s.heap->Q (.ref it) s->wpAny (model P w) A (pyIter (.ref it)) Q E s
abbrev TI:=St->Hp->(It->Hp->Prop)->Prop
def PIE(X:Cx)(pins:PN)(σ:St)(tg:Expr)(R:It->Hp->Prop)(itv:Value)(s2:Shared):Prop:=
 ∃(it:Addr)(fp:LA)(tn:Nat->Heap->Prop)(J:It)(H':Hp),itv=.ref it/\Inv X pins σ H' s2/\Turn X.prog X.w X.K tg J fp it tn/\tn 0 s2.heap/\(∀b∈fp,FpOk X pins H' b)/\R J H'
def PI(X:Cx)(tg iter:Expr)(wi:TI):Prop:=
 ∀(pins:PN)(s:Shared)(σ:St)(H:Hp)(R:It->Hp->Prop),Inv X pins σ H s->wi σ H R ->
  wpAny (model X.prog X.w) X.A (eval iter X.env) (λv s1=>wpAny (model X.prog X.w) X.A (pyIter v) (PIE X pins σ tg R) X.xe s1) X.xe s
theorem cF {M:Model}{A:Around}{E:VP}{s:Shared}{b:Expr}{c:Addr}{u:Value}{o:Obj}{n:String}{vs:Array Value}{Q:Unit->Shared->Prop}(g:s.heap.get? c=some o)(d:o.cls=.type n)(e:o.data=.fields vs)
    (f:["enumerate","zip","dict_itemiterator","dict_reverseitemiterator","odict_iterator","itertools.zip_longest","itertools.pairwise"].contains n=false)(a:Q () s):wpAny M A (letOwnedTupleGo b (.ref c) u) Q E s:=by
  unfold letOwnedTupleGo;cases b <;> first
    |exact zB a
    |(cases u <;> first
        |exact zB a
        | (refine zA (wpAny_load g ?_)
           rw[d,e];show wpAny M A (if(["enumerate","zip","dict_itemiterator","dict_reverseitemiterator","odict_iterator","itertools.zip_longest","itertools.pairwise"].contains n && vs[0]? == some (rawInt _))=true then _ else _) Q E s;rw[zD (by intro h;rw[f,Bool.false_and]at h;cases h)];exact zB a))
def Itl(K:Frag)(a:Addr):It:=
 ⟨λi H=>∃xs x,SqL K H a xs/\xs[i]?=some x,λi H x H'=>H'=H/\∀xs,SqL K H a xs->xs[i]?=some x,λi H=>∃xs,SqL K H a xs/\xs.length<=i⟩
def Itt(K:Frag)(a:Addr):It:=
 ⟨λi H=>∃xs x,SqT K H a xs/\xs[i]?=some x,λi H x H'=>H'=H/\∀xs,SqT K H a xs->xs[i]?=some x,λi H=>∃xs,SqT K H a xs/\xs.length<=i⟩
def Itr(lo:Int)(n:Nat):It:=⟨λi _=>i<n,λi H x H'=>H'=H/\x=.int (lo+i),λi _=>n<=i⟩
theorem My{P:Program}{w:World}{K:Frag}{T:Expr}(a g:Addr):Turn P w K T (Itl K a) [g] g (λi h=>h.IsListIter g a i) where
 mem:=by simp
 obj:=λi h st b f=>by
  have e:b=g:=by simpa using f
  subst e;obtain⟨o,e,c,d⟩:=st;exact⟨o,e,λv z=>by rw[d]at z;cases z⟩
 keep:=λi h h' st k=>st.at λo e=>k g (by simp) o e
 item:=by
  intro X q l C J i L s N H E I hf st r;subst q l C;obtain⟨xs,x,j,t⟩:=r;obtain⟨its,n,p,hz⟩:=I.list j;obtain⟨u,V,R⟩:=n.get t;obtain⟨F,D,U,G,m,y⟩:=hf g (by simp);refine wpAny_pyNext_list_item st p.isList (x:=u) (by simpa using V) λh' M S=>?_;have Y:Inv X L N H {s with heap:=h'}:=I.turned (t':=s.toks) (λb o f e=>(S.2 b f).trans e) F D G m y;obtain⟨o,e,c,d⟩:=id M;exact⟨u,rfl,cF (s:={s with heap:=h'}) e c d ∅ ⟨x,H,Y,R,⟨rfl,λys W=>by rw[I.list_inj W j];exact t⟩,M,λb f=>(hf b f).1⟩⟩
 done:=by
  intro X q l C J i L s N H E I hf st r;subst q l C;obtain⟨xs,j,t⟩:=r;obtain⟨its,n,p,hz⟩:=I.list j;obtain⟨F,D,U,G,m,y⟩:=hf g (by simp);have hl:=n.length;exact wpAny_pyNext_list_end (I.ok.hd J) st p.isList (by simp;omega) λh' O=>⟨rfl,I.turned (t':=s.toks) (λb o f e=>O b o f e) F D G m y⟩
 self:=λ_ _ _ _ _ st h=>wpAny_pyIter_listiter st h
theorem Mx{P:Program}{w:World}{K:Frag}{T:Expr}(a g:Addr):Turn P w K T (Itt K a) [g] g (λi h=>h.IsTupleIter g a i) where
 mem:=by simp
 obj:=λi h st b f=>by
  have e:b=g:=by simpa using f
  subst e;obtain⟨o,e,c,d⟩:=st;exact⟨o,e,λv z=>by rw[d]at z;cases z⟩
 keep:=λi h h' st k=>st.at λo e=>k g (by simp) o e
 item:=by
  intro X q l C J i L s N H E I hf st r;subst q l C;obtain⟨xs,x,j,t⟩:=r;obtain⟨its,n,p,hz⟩:=I.tuple j;obtain⟨u,V,R⟩:=n.get t;obtain⟨F,D,U,G,m,y⟩:=hf g (by simp);refine wpAny_pyNext_tuple_item st (show s.heap.IsTuple a its.toArray from p) (x:=u) (by simpa using V) λh' M S=>?_;have Y:Inv X L N H {s with heap:=h'}:=I.turned (t':=s.toks) (λb o f e=>(S.2 b f).trans e) F D G m y;obtain⟨o,e,c,d⟩:=id M;exact⟨u,rfl,cF (s:={s with heap:=h'}) e c d ∅ ⟨x,H,Y,R,⟨rfl,λys W=>by rw[I.tuple_inj W j];exact t⟩,M,λb f=>(hf b f).1⟩⟩
 done:=by
  intro X q l C J i L s N H E I hf st r;subst q l C;obtain⟨xs,j,t⟩:=r;obtain⟨its,n,p,hz⟩:=I.tuple j;obtain⟨F,D,U,G,m,y⟩:=hf g (by simp);have hl:=n.length;exact wpAny_pyNext_tuple_end (I.ok.hd J) st (show s.heap.IsTuple a its.toArray from p) (by simp;omega) λh' O=>⟨rfl,I.turned (t':=s.toks) (λb o f e=>O b o f e) F D G m y⟩
 self:=λ_ _ _ _ _ st h=>wpAny_pyIter_tupleiter st h
theorem Mw{P:Program}{w:World}{K:Frag}{J:Expr}(a:Addr)(lo:Int)(n:Nat):Turn P w K J (Itr lo n) [a] a (λi h=>IsRangeIter h a (lo+(i:Nat)*1) ((n:Int)-(i:Nat)) 1) where
 mem:=by simp
 obj:=λi h st b c=>by
  have e:b=a:=by simpa using c
  subst e;exact⟨_,st,λv z=>by
   have O:Data.fields _=Data.cell v:=z;cases O⟩
 keep:=λi h h' st k=>k a (by simp) _ st
 item:=by
  intro X j d p f i u s y H E I hf st l;subst j d p;obtain⟨r,q,M,t,g,m⟩:=hf a (by simp);have G:=Walks.range (prog:=X.prog) (w:=X.w) (I.ok.hd f) a lo 1 n;refine G.item i s _ _ l st λv h' tk L x C=>?_;obtain⟨D,rfl⟩:=L;have N:Inv X u y H {s with heap:=h',toks:=tk}:=I.turned (λb o c e=>C b o (by simpa using c) e) r q t g m;refine⟨_,rfl,cF (s:={s with heap:=h',toks:=tk}) (n:= "range_iterator") x rfl rfl ∅ ⟨.int (lo+i),H,N,⟨D,?_⟩,⟨rfl,rfl⟩,x,λb c=>(hf b c).1⟩⟩;rw[rN]
 done:=by
  intro X j d p f i u s y H E I hf st l;subst j d p;obtain⟨r,q,M,t,g,m⟩:=hf a (by simp);exact wpAny_pyNext_range_end (I.ok.hd f) st (by have:n<=i:=l;omega) λh' F=>⟨rfl,I.turned (t':=s.toks) (λb o c e=>F b o c e) r q t g m⟩
 self:=λ_ _ _ _ _ st h=>wpAny_pyIter_rangeiter st h
section
variable {X:Cx} {tg:Expr}
theorem Mv{d:PN}{c:St}{H:Hp}{s:Shared}{R:It->Hp->Prop}{E:VP}{lo hi:Int}{a u v:Tok}{tk:Nat}(I:Inv X d c H s)(i:-(2^62)<=lo)(m:lo<2^62)(k:-(2^62)<=hi)(g:hi<2^62)
  (q:R (Itr lo (hi-lo).toNat) H):wpAny (model X.prog X.w) X.A (pyIter (.ref s.heap.objs.size)) (PIE X d c tg R) E {s with heap:=s.heap.push {cls:=.type "range",data:=.fields #[.int lo a,.int hi u,.int 1 v]},toks:=tk}:=by
 refine wpAny_pyIter_range (IsRange.new ..) (small_one i m k g) ?_;have f:Inv X d c H {s with heap:=s.heap.push {cls:=.type "range",data:=.fields #[.int lo a,.int hi u,.int 1 v]},toks:=tk}:=I.kept λb o e=>zC _ e;refine⟨(s.heap.push {cls:=.type "range",data:=.fields #[.int lo a,.int hi u,.int 1 v]}).objs.size,[(s.heap.push {cls:=.type "range",data:=.fields #[.int lo a,.int hi u,.int 1 v]}).objs.size],_,_,H,rfl,
  f.kept (t':=tk) λb o e=>zC _ e,Mw _ lo (hi-lo).toNat,?_,λb l=>?_,q⟩
 ·have e1:lo+((0:Nat):Int)*1=lo:=by simp
  have j:(((hi-lo).toNat:Nat):Int)-((0:Nat):Int)=Builtin.Range.rangeSize lo hi 1:=by rw[rangeSize_one];split <;> omega
  show IsRangeIter _ _ (lo+((0:Nat):Int)*1) ((((hi-lo).toNat:Nat):Int)-((0:Nat):Int)) 1;rw[e1,j];exact zP _ rfl
 ·have e:b=(s.heap.push {cls:=.type "range",data:=.fields #[.int lo a,.int hi u,.int 1 v]}).objs.size:=by simpa using l
  subst e;exact f.fpOk (zF _) (f.hok.fresh (zF _))
def nZ(ta:TA):TI:=λσ H R=>ta σ H λvs H1=>∃j:Int,vs=[.int j]/\-(2^62)<=j/\j<2^62/\R (Itr 0 j.toNat) H1
theorem mH{a:Expr}{c:TA}{p pos:Pos}(d:Gl X "range")(k:X.mg "range"=none)(o:PA X [a] c)(i:starEach [a] X.env=[(false,eval a X.env)]:=by rfl):PI X tg (.Call (.Name "range" p) [a] [] pos) (nZ c):=by
 intro m s g H R I h;refine Call_ (jM I d k boot_range (xI (thn (o pos m s g H _ I h) λus u⟨vs,H1,n,r1,b⟩=>?_) i rfl));obtain⟨j,e,b,l,q⟩:=b;subst e;cases r1 with
 |cons r f =>
  cases f;obtain⟨t,rfl⟩:=r;exact call_range_1 (Mv n ⋯ ⋯ b l (by simpa using q))
def tFor(wi:TI)(g:TG)(tb:TS):TS:=λD σ H=>wi σ H λJ H1=>∃W:Nat->Nat->St->Hp->Prop,(∃m,W 0 m σ H1)/\∀i m σ H,W i m σ H ->
 (J.stop i H/\D.nx σ H)\/(J.go i H/\∃N:St->Hp->Prop,(∀σ' H',N σ' H'->∃m',m'<m/\W (i+1) m' σ' H')/\∀x H',J.yld i H x H'->g x σ H' λσ2 H2=>tb {D with nx:=N,ct:=N,bk:=D.nx} σ2 H2)
def fX(fp:LA)(h:Heap):PN:=fp.filterMap λb=>(h.get? b).map λo=>(b,o)
theorem cG{a:LA}{h:Heap}{b:Addr}{o:Obj}(c:b∈a)(e:h.get? b=some o):(b,o)∈fX a h:=oA.mpr ⟨b,c,by rw[e];rfl⟩
theorem Mu{a:LA}{h:Heap}{p:Addr×Obj}(f:p∈fX a h):p.1∈a/\h.get? p.1=some p.2:=by
 obtain⟨b,c,e⟩:=oA.mp f;cases q:h.get? b with
 |none=>rw[q]at e;cases e
 |some o =>
  rw[q]at e;have d:(b,o)=p:=zU e;subst d;exact⟨c,q⟩
theorem Inv.pinned{c:PN}{f:St}{H:Hp}{s:Shared}{a:LA}(I:Inv X c f H s)(hf:∀b∈a,FpOk X c H b)(n:∀b∈a,∃o,s.heap.get? b=some o/\∀v,o.data≠.cell v):Inv X (c++fX a s.heap) f H s:=
 I.pins_of λp l=>(oB.mp l).elim (λz=>I.pin p (yN _ z)) λz=>by
  obtain⟨i,e⟩:=Mu z;obtain⟨k,j,m,_⟩:=hf p.1 i;obtain⟨o,g,d⟩:=n p.1 i;rw[e]at g;cases g;exact⟨e,k,j,m,d⟩
theorem Inv.unpinned{b pl:PN}{a:St}{H:Hp}{s:Shared}(I:Inv X (b++pl) a H s):Inv X b a H s:=I.pins_of λp c=>I.pin p (yN _ (xP _ c))
theorem mI{J:Expr}{body:List Stmt}{a1:TI}{g:TG}{tb:TS}{pos:Pos}(y:PassesOwn (model X.prog X.w) X.A X.env X.xe)(K:X.calm=true)(hi:PI X tg J a1)(a6:PG X tg g)(a:PSs X body tb)
  (c1:∀x,foldedSetIterable J X.env x=pure x:=by intro _;rfl):PS X (.For tg J body [] pos) (tFor a1 g tb):=by
 intro p s S H D I h;refine wpAny_For (thn (hi p s S H _ I h) λv d5 a3=>thn a3 λd6 d3 c3=>?_) c1;obtain⟨d4,q,V,d7,H2,e,b0,T,b3,a0,R,⟨c2,b7⟩,a9⟩:=c3;subst e
 -- what stays true of the iterator's objects through the loop
 have F:∀{H':Hp},(∀b∈q,H' b=none)->∀b∈q,FpOk X p H' b:=λd1 b a=>⟨d1 b a,(a0 b a).2⟩;refine codeAny_forLoop_any (λn O=>∃i w H',Inv X p w H' O/\V i O.heap/\(∀b∈q,H' b=none)/\R i n w H') ?_ c2 ⟨0,S,H2,b0,b3,λb a=>(a0 b a).1,b7⟩;rintro n Z ⟨i,z,H3,Y,U,P,b9⟩;rcases a9 i n z H3 b9 with⟨stop,b8⟩|⟨go,N,c4,step⟩
 ·refine vK y (thn (T.done X rfl rfl rfl K i p Z z H3 X.xe Y (F P) U stop) λr a2⟨hr,a8⟩=>?_);subst hr;exact tL ⟨z,H3,a8,b8⟩
 ·refine vK y (thn (T.item X rfl rfl rfl K i p Z z H3 X.xe Y (F P) U go) λr a2⟨u,hr,c7⟩=>?_);subst hr;refine vK y (thn c7 λ_ M⟨x,L,b1,c9,c6,G,b5⟩=>?_);have c5:=b1.pinned (F b5) (T.obj _ _ G);refine vK y (thn (a6 _ M z L x u _ c5 c9 (step x L c6)) λ_ a5⟨b6,a7,c8,c0⟩=>?_);refine vK y (thn (a _ a5 b6 a7 _ c8 c0) λf C l=>?_);have W:∀{c:St}{k:Hp},Inv X (p++fX q M.heap) c k C->N c k->∃m,m<n/\∃i w H',Inv X p w H' C/\V i C.heap/\(∀b∈q,H' b=none)/\R i m w H':=λ{c k}j t=>by
   obtain⟨b4,a4,d2⟩:=c4 c k t;refine⟨b4,a4,i+1,c,k,j.unpinned,T.keep _ _ _ G λb a o e=>(j.pin (b,o) (yN _ (yN _ (cG a e)))).1,λb a=>?_,d2⟩;obtain⟨o,e,d⟩:=T.obj _ _ G b a;exact(j.pin (b,o) (yN _ (yN _ (cG a e)))).2.1
  cases f with
  |next=>obtain⟨c,k,j,t⟩:=l;exact W j t
  |cont=>obtain⟨c,k,j,t⟩:=l;exact W j t
  |brk=>obtain⟨c,k,j,l⟩:=l;exact⟨c,k,j.unpinned,l⟩
  |ret v=>obtain⟨d0,c,k,j,b2,l⟩:=l;exact⟨d0,c,k,j.unpinned,b2,l⟩
end
theorem Mt{K:Frag}{a:Addr}{xs:List V}{g:TG}{tb:TS}{D:Ends}{b:St}{H:Hp}(c:Nat->St->Hp->Prop)(n:c 0 b H)(hl:∀i b H,i<=xs.length->c i b H->SqL K H a xs)
  (o:∀i x b H,xs[i]?=some x->c i b H->g x b H λj H2=>tb {D with nx:=c (i+1),ct:=c (i+1),bk:=D.nx} j H2)(r:∀b H,c xs.length b H->D.nx b H):
  ∃f:Nat->Nat->St->Hp->Prop,(∃m,f 0 m b H)/\∀i m b H,f i m b H ->
   ((Itl K a).stop i H/\D.nx b H)\/((Itl K a).go i H/\∃N:St->Hp->Prop,(∀d H',N d H'->∃l,l<m/\f (i+1) l d H')/\∀x H',(Itl K a).yld i H x H'->g x b H' λj H2=>tb {D with nx:=N,ct:=N,bk:=D.nx} j H2):=by
 refine⟨λi m b H=>m=xs.length-i/\i<=xs.length/\c i b H,⟨xs.length,by simp,yB _,n⟩,?_⟩;rintro i m b H ⟨rfl,hi,p⟩;have q:=hl i b H hi p
 by_cases k:i<xs.length
 ·refine .inr ⟨⟨xs,xs[i],q,by simp[k]⟩,c (i+1),λd H' t=>⟨xs.length-(i+1),⋯,rfl,k,t⟩,λx H' y=>?_⟩;obtain⟨e,y⟩:=y;subst e;exact o i x b _ (y xs q) p
 ·have e:i=xs.length:=⋯
  subst e;exact .inl ⟨⟨xs,q,zF _⟩,r b H p⟩
theorem Mr{K:Frag}{a:Addr}{xs:List V}{g:TG}{tb:TS}{D:Ends}{b:St}{H:Hp}(c:Nat->St->Hp->Prop)(n:c 0 b H)(hl:∀i b H,i<=xs.length->c i b H->SqT K H a xs)
  (o:∀i x b H,xs[i]?=some x->c i b H->g x b H λj H2=>tb {D with nx:=c (i+1),ct:=c (i+1),bk:=D.nx} j H2)(r:∀b H,c xs.length b H->D.nx b H):
  ∃f:Nat->Nat->St->Hp->Prop,(∃m,f 0 m b H)/\∀i m b H,f i m b H ->
   ((Itt K a).stop i H/\D.nx b H)\/((Itt K a).go i H/\∃N:St->Hp->Prop,(∀d H',N d H'->∃l,l<m/\f (i+1) l d H')/\∀x H',(Itt K a).yld i H x H'->g x b H' λj H2=>tb {D with nx:=N,ct:=N,bk:=D.nx} j H2):=by
 refine⟨λi m b H=>m=xs.length-i/\i<=xs.length/\c i b H,⟨xs.length,by simp,yB _,n⟩,?_⟩;rintro i m b H ⟨rfl,hi,p⟩;have q:=hl i b H hi p
 by_cases k:i<xs.length
 ·refine .inr ⟨⟨xs,xs[i],q,by simp[k]⟩,c (i+1),λd H' t=>⟨xs.length-(i+1),⋯,rfl,k,t⟩,λx H' y=>?_⟩;obtain⟨e,y⟩:=y;subst e;exact o i x b _ (y xs q) p
 ·have e:i=xs.length:=⋯
  subst e;exact .inl ⟨⟨xs,q,zF _⟩,r b H p⟩
theorem Mq{lo:Int}{n:Nat}{g:TG}{tb:TS}{D:Ends}{a:St}{H:Hp}(b:Nat->St->Hp->Prop)(l:b 0 a H)
  (o:∀i a H,i<n->b i a H->g (.int (lo+i)) a H λf H2=>tb {D with nx:=b (i+1),ct:=b (i+1),bk:=D.nx} f H2)(q:∀a H,b n a H->D.nx a H):
  ∃d:Nat->Nat->St->Hp->Prop,(∃m,d 0 m a H)/\∀i m a H,d i m a H ->
   ((Itr lo n).stop i H/\D.nx a H)\/((Itr lo n).go i H/\∃N:St->Hp->Prop,(∀c H',N c H'->∃k,k<m/\d (i+1) k c H')/\∀x H',(Itr lo n).yld i H x H'->g x a H' λf H2=>tb {D with nx:=N,ct:=N,bk:=D.nx} f H2):=by
 refine⟨λi m a H=>m=n-i/\i<=n/\b i a H,⟨n,by simp,yB _,l⟩,?_⟩;rintro i m a H ⟨rfl,hi,p⟩
 by_cases j:i<n
 ·refine .inr ⟨j,b (i+1),λc H' r=>⟨n-(i+1),⋯,rfl,j,r⟩,λx H' y=>?_⟩;obtain⟨e,y⟩:=y;subst e y;exact o i a _ j p
 ·have e:i=n:=⋯
  subst e;exact .inl ⟨zF _,q a H p⟩
abbrev R2:=V->V->Hp->VK->Prop
def OpR(X:Cx)(f:Value->Value->Sem Value)(r:R2):Prop:=
 ∀(pins:PN)(s:Shared)(σ:St)(H:Hp)(x y:V)(v u:Value)(Q:VK),Inv X pins σ H s->RelV x v->RelV y u->r x y H Q ->
  wpAny (model X.prog X.w) X.A (f v u) (EP X pins σ Q) X.xe s
def UnR(X:Cx)(f:Value->Sem Value)(r:V->Hp->VK->Prop):Prop:=
 ∀(pins:PN)(s:Shared)(σ:St)(H:Hp)(x:V)(v:Value)(Q:VK),Inv X pins σ H s->RelV x v->r x H Q ->
  wpAny (model X.prog X.w) X.A (f v) (EP X pins σ Q) X.xe s
def mJ(X:Cx)(f:Value)(r:List V->Hp->VK->Prop):Prop:=
 ∀(pins:PN)(s:Shared)(σ:St)(H:Hp)(xs:List V)(us:LW)(Q:VK),Inv X pins σ H s->Vals xs us->r xs H Q ->
  wpAny (model X.prog X.w) X.A (call f us) (EP X pins σ Q) X.xe s
def tOp(r:R2)(ta tb:TE):TE:=λσ H Q=>ta σ H λx H1=>tb σ H1 λy H2=>r x y H2 Q
def tUn(r:V->Hp->VK->Prop)(ta:TE):TE:=λσ H Q=>ta σ H λx H1=>r x H1 Q
def rI(C:Int->Int->Prop)(g:Int->Int->V):R2:=λx y H Q=>∃i j,x=.int i/\y=.int j/\C i j/\Q (g i j) H
def rI0(g:Int->Int->V):R2:=λx y H Q=>∃i j,x=.int i/\y=.int j/\Q (g i j) H
def rU(g:Int->V):V->Hp->VK->Prop:=λx H Q=>∃i,x=.int i/\Q (g i) H
section
variable {X:Cx} {a b c:Expr} {ta tb tc:TE} {pos:Pos}
theorem binT(q:PE X a ta)(o:PE X b tb){g:PN}{s:Shared}{d:St}{H:Hp}{R:V->V->Hp->Prop}(I:Inv X g d H s)
  (h:ta d H λx H1=>tb d H1 λy H2=>R x y H2){Q:VP}{f:Value->Value->Sem Value}
  (hf:∀v u e x y H2,Inv X g d H2 e->RelV x v->RelV y u->R x y H2->wpAny (model X.prog X.w) X.A (f v u) Q X.xe e):
  wpAny (model X.prog X.w) X.A (eval a X.env) (λv j=>wpAny (model X.prog X.w) X.A (eval b X.env) (λu m=>wpAny (model X.prog X.w) X.A (f v u) Q X.xe m) X.xe j) X.xe s:=by
 refine thn (q g s d H _ I h) λv n⟨x,H1,p,r1,l⟩=>?_;refine thn (o g n d H1 _ p l) λu e⟨y,H2,k,r2,i⟩=>?_;exact hf v u e x y H2 k r1 r2 i
theorem oN{op:Operator}{r:R2}(m:OpR X (binaryOp op) r)(l:PE X a ta)(j:PE X b tb):PE X (.BinOp a op b pos) (tOp r ta tb):=by
 intro k s e H Q I h;exact wpAny_BinOp (binT l j I h λv u i x y H2 g d f q=>m k i e H2 x y v u Q g d f q)
theorem cH{op:UnaryOp}{r:V->Hp->VK->Prop}(k:UnR X (unaryOp op) r)(j:PE X a ta):PE X (.UnaryOp op a pos) (tUn r ta):=by
 intro e s d H Q I h;exact UnaryOp_ (thn (j e s d H _ I h) λv g⟨x,H1,i,r1,f⟩=>k e g d H1 x v Q i r1 f)
theorem opI{f:Value->Value->Sem Value}{C:Int->Int->Prop}{g:Int->Int->Int}
  (m:∀(i j:Int)(d u:Tok)(s:Shared)(Q:VP)(E:VP),C i j->Q (.int (g i j) s.toks) {s with toks:=s.toks+1}->wpAny (model X.prog X.w) X.A (f (.int i d) (.int j u)) Q E s):
  OpR X f (rI C λi j=>.int (g i j)):=by
 intro o s n H x y v u Q I e l h;obtain⟨i,j,rfl,rfl,k,q⟩:=h;obtain⟨d,rfl⟩:=e;obtain⟨t',rfl⟩:=l;exact m i j d t' s _ _ k ⟨.int (g i j),H,I.tok _,⟨_,rfl⟩,q⟩
theorem opI0{f:Value->Value->Sem Value}{g:Int->Int->Int}
  (l:∀(i j:Int)(d u:Tok)(s:Shared)(Q:VP)(E:VP),Q (.int (g i j) s.toks) {s with toks:=s.toks+1}->wpAny (model X.prog X.w) X.A (f (.int i d) (.int j u)) Q E s):
  OpR X f (rI0 λi j=>.int (g i j)):=by
 intro n s m H x y v u Q I e k h;obtain⟨i,j,rfl,rfl,q⟩:=h;obtain⟨d,rfl⟩:=e;obtain⟨t',rfl⟩:=k;exact l i j d t' s _ _ ⟨.int (g i j),H,I.tok _,⟨_,rfl⟩,q⟩
theorem opB0{f:Value->Value->Sem Value}{g:Int->Int->Bool}
  (l:∀(i j:Int)(d u:Tok)(s:Shared)(Q:VP)(E:VP),Q (.bool (g i j)) s->wpAny (model X.prog X.w) X.A (f (.int i d) (.int j u)) Q E s):
  OpR X f (rI0 λi j=>.bl (g i j)):=by
 intro n s m H x y v u Q I e k h;obtain⟨i,j,rfl,rfl,q⟩:=h;obtain⟨d,rfl⟩:=e;obtain⟨t',rfl⟩:=k;exact l i j d t' s _ _ ⟨.bl (g i j),H,I,rfl,q⟩
def CPow(i j:Int):Prop:=0<=j/\j<=1000000/\i.natAbs<2^64
def CMul(i j:Int):Prop:=(-(2^64)<i/\i<2^64)\/(-(2^64)<j/\j<2^64)
theorem CMul.ok{i j:Int}(h:CMul i j):IntMulOk i j:=by
 rcases h with⟨e,d⟩|⟨e,d⟩
 ·exact .of_left (intBits_le_64 e d)
 ·exact .of_right (intBits_le_64 e d)
theorem mC:OpR X (binaryOp .Add) (rI0 λi j=>.int (i+j)):=opI0 λ_ _ _ _ _ _ _ q=>add_int q
theorem jN:OpR X (binaryOp .Sub) (rI0 λi j=>.int (i-j)):=opI0 λ_ _ _ _ _ _ _ q=>sub_int q
theorem nM:OpR X (binaryOp .Mod) (rI (λ_ j=>j≠0) λi j=>.int (i.fmod j)):=opI λ_ _ _ _ _ _ _ d q=>mod_int' d q
theorem Er:OpR X (binaryOp .Pow) (rI CPow λi j=>.int (i^j.toNat)):=opI λ_ _ _ _ _ _ _ d q=>pow_int_small d.1 d.2.1 d.2.2 q
theorem unI{f:Value->Sem Value}{g:Int->Int}
  (j:∀(i:Int)(d:Tok)(s:Shared)(Q:VP)(E:VP),Q (.int (g i) s.toks) {s with toks:=s.toks+1}->wpAny (model X.prog X.w) X.A (f (.int i d)) Q E s):
  UnR X f (rU λi=>.int (g i)):=by
 intro l s k H x v Q I e h;obtain⟨i,rfl,q⟩:=h;obtain⟨d,rfl⟩:=e;exact j i d s _ _ ⟨.int (g i),H,I.tok _,⟨_,rfl⟩,q⟩
theorem cI:UnR X (unaryOp .USub) (rU λi=>.int (-i)):=unI λ_ _ _ _ _ q=>neg_int q
theorem Mp{g:PN}{f:St}{H:Hp}{s:Shared}{Q:VK}{k d:Bool}(I:Inv X g f H s)(q:Q (.bl k) H)(e:k=d):EP X g f Q (.bool d) s:=by
 subst e;exact⟨.bl k,H,I,rfl,q⟩
theorem fY:OpR X (compareOp .Lt) (rI0 λi j=>.bl (decide (i<j))):=opB0 λ_ _ _ _ _ _ _ q=>lt_int q
theorem fZ:OpR X (compareOp .Gt) (rI0 λi j=>.bl (decide (j<i))):=opB0 λ_ _ _ _ _ _ _ q=>gt_int q
theorem Mo:OpR X (compareOp .Is) (λx y H Q=>y=.non/\Q (.bl (decide (x=.non))) H):=by
 intro i s f H x y v u Q I d e h;obtain⟨rfl,q⟩:=h;cases e;refine is_none_gen (Mp I q ?_);cases x <;> first
  |(cases d;rfl)
  |(obtain⟨g,rfl⟩:=d;rfl)
theorem OpR.or{f:Value->Value->Sem Value}{r i:R2}(h:OpR X f r)(h':OpR X f i):OpR X f (λx y H Q=>r x y H Q\/i x y H Q):=by
 intro j s e H x y v u Q I d g q;rcases q with q|q
 ·exact h j s e H x y v u Q I d g q
 ·exact h' j s e H x y v u Q I d g q
theorem nF(b:Expr){op:CmpOp}(h:op≠.In:=by decide)(d:op≠.NotIn:=by decide):behindInMarks op b=false:=by
 have e1:(op == CmpOp.In)=false:=by cases op <;> first|rfl|exact absurd rfl h
 have e:(op == CmpOp.NotIn)=false:=by cases op <;> first|rfl|exact absurd rfl d
 cases b <;> simp[behindInMarks,e1,e]
theorem cJ{op:CmpOp}{r:R2}(n:OpR X (compareOp op) r)(m:PE X a ta)(k:PE X b tb)(i:behindInMarks op b=false):PE X (.Compare a [op] [b] pos) (tOp r ta tb):=by
 intro l s e H Q I h;exact wpAny_Compare1 (binT m k I h λv u j x y H2 g d f q=>n l j e H2 x y v u Q g d f q) i
def cK(t:TE):TT:=λσ H Q=>t σ H λx H'=>∃k,x=.bl k/\Q k H'
theorem nE{op:CmpOp}{r:R2}(D:OpR X (compareOp op) r)(C:PE X a ta)(t:PE X b tb)(n:behindInMarks op b=false):PT X (.Compare a [op] [b] pos) (cK (tOp r ta tb)):=by
 intro f s d H Q I h;refine wpAny_isTrue_Compare1 (thn (C f s d H _ I h) λv p⟨x,H1,w,r1,i⟩=>thn (t f p d H1 _ w i) λu o⟨y,H2,j,r2,q⟩ =>
  thn (D f o d H2 x y v u _ j r1 r2 q) λc F⟨z,H3,l,g,k,e,m⟩=>?_) n
 subst e;cases g;exact qH ⟨H3,l,m⟩
theorem cL:(sizeLine:Nat)<2^63:=by rw[sizeLine_eq];decide
theorem kC{x:V}{us:LW}(r:Vals [x] us):∃u,us=[u]/\RelV x u:=by
 cases r with
 |cons r1 r2=>cases r2;exact⟨_,rfl,r1⟩
theorem gG:mJ X (.builtin "abs") (λxs H Q=>∃i,xs=[.int i]/\Q (.int (if i<0 then -i else i)) H):=by
 intro e s d H xs us Q I r h;obtain⟨i,rfl,q⟩:=h;obtain⟨u,rfl,f,rfl⟩:=kC r;exact call_abs_int λu tk=>⟨.int (if i<0 then -i else i),H,I.tok _,⟨_,rfl⟩,q⟩
theorem Ep:mJ X (.type "int") (λxs H Q=>(∃i,xs=[.int i]/\Q (.int i) H)\/∃k,xs=[.bl k]/\Q (.int (if k then 1 else 0)) H):=by
 intro e s d H xs us Q I r h;rcases h with⟨i,rfl,q⟩|⟨k,rfl,q⟩
 ·obtain⟨u,rfl,f,rfl⟩:=kC r;exact call_int_int ⟨.int i,H,I,⟨_,rfl⟩,q⟩
 ·obtain⟨u,rfl,r1⟩:=kC r;cases r1;exact call_int_bool ⟨.int (if k then 1 else 0),H,I.tok _,⟨_,rfl⟩,q⟩
end
structure ObjM(h:Heap)(x dx C:Addr)(mA:MT):Prop where
 obj:h.get? x=some (PySem.W.instObj C dx)
 ns:h.Ns1 dx mA
 ne:dx≠x
theorem Mn{h:Heap}{c:Addr}{d:MT}(n:h.Ns1 c d):∃b,h.get? c=some b/\∀name,PySem.W.lookIn name b=some (d name):=by
 obtain⟨o,es,ep,m,k,l,_,j⟩:=n;refine⟨o,m,λname=>?_⟩;have e:=j name;unfold nsFind findBy at e;rw[←Array.find?_toList]at e;unfold PySem.W.lookIn;rw[k];dsimp only;split
 ·rename_i y q;rw[q]at e;exact wY some e
 ·rename_i q;rw[q]at e;have a:es.toList.any (·.refKey)=false:=by
   rw[List.any_eq_false];intro y f;obtain⟨z,p,g⟩:=l y (Array.mem_toList_iff.mp f);simp[DictEntry.refKey,g]
  have i:¬ es.toList.any (·.refKey)=true:=by rw[a];exact yH
  rw[zD i];exact wY some e
theorem ObjM.look{h:Heap}{x b C:Addr}{c:MT}(I:ObjM h x b C c):∃a,PySem.W.InstAt h x (PySem.W.instObj C b) C (some a)/\∀name,PySem.W.lookIn name a=some (c name):=
 let ⟨a,d,hl⟩:=Mn I.ns
 ⟨a,⟨I.obj,rfl,rfl,d⟩,hl⟩
section
variable {prog:Program} {w:World} {A:Around} {E:VP} {s:Shared} {K:Frag} {x dx C f:Addr} {mA:MT} {name:Str} {v:Value}
theorem Mm{d:Bool}{Q:VP}(X:K.In s.heap)(I:ObjM s.heap x dx C mA)(b:PySem.W.plainGet K C name=true)(hh:PySem.W.hasDictIn K C=true)
  (g:PySem.W.findIn K (.ref C) name=some none)(e:mA name=some v)(c:PySem.W.handedIn v=true)(h:Q v {s with toks:=s.toks+1}):
  wpAny (model prog w) A (getAttr (.ref x) name d) Q E s:=by
 obtain⟨i,a,hl⟩:=I.look;exact PySem.W.get_value X a (rH b).1 (PySem.W.findObj_own hh g rfl (by rw[hl,e])) c h
theorem Ml{pl:Sem Bool}{Q:Value×LW->Shared->Prop}(X:K.In s.heap)(I:ObjM s.heap x dx C mA)(a:PySem.W.plainGet K C name=true)
  (hf:PySem.W.findIn K (.ref C) name=some (some (.ref f)))(e:PySem.W.isFn K (.ref f)=true)(d:mA name=none)(h:Q (.ref f,[.ref x]) s):
  wpAny (model prog w) A (getMethod (.ref x) name pl) Q E s:=by
 obtain⟨c,b,hl⟩:=I.look;exact PySem.W.method_fn X b (rH a).1 (rH a).2 hf (pV.mp e) (by show(PySem.W.lookIn name c).map (·.isSome)=some false;rw[hl,d];rfl) h
theorem Mj{ns:List Str}{Q:Unit->Shared->Prop}(X:K.In s.heap)(I:ObjM s.heap x dx C mA)
  (l:PySem.W.findIn K (.ref C) "__setattr__"=some (some (.builtin "object.__setattr__")))(p:PySem.W.plainOver K C=true)(o:PySem.W.takerIn K C name=some none)(hh:PySem.W.hasDictIn K C=true)
  (e:PySem.Within mA ns)(hsz:ns.length<=sizeLine)
  (h:∀h',ObjM h' x dx C (λy=>if y=name then some v else mA y)->Heap.SameBut dx s.heap h'->Q () {s with heap:=h',toks:=s.toks+2}):
  wpAny (model prog w) A (setAttr (.ref x) name v) Q E s:=by
 obtain⟨r,c,hl⟩:=I.look;refine PySem.W.set_plain X c l (PySem.W.osa_open (s:={s with toks:=s.toks+1}) (r:=none) X c p o λb=>?_);obtain⟨z,g,n⟩:=sI hh;have i:s.heap.get? x=some ⟨.ref C,some dx,.plain,#[]⟩:=I.obj;refine zA (zB (zA (zA (pG i (zA (wT (s:={s with toks:=s.toks+1}) (rG X g) ?_))))));rw[n];refine zB (a:=some dx) (zA (zB (zA ?_)));refine wpAny_nsSet1 (s:={s with toks:=s.toks+1}) I.ns λh' d a=>?_;obtain⟨u,q,t,m,j,k⟩:=d.count (PySem.Within.cons name v e);refine zA (wpAny_lookBehind m (by rw[j];exact pastItsLine_dict (yC k (by rw[zV];omega))) ?_);exact zB (h _ ⟨(a.2 _ (yF I.ne)).trans I.obj,d,I.ne⟩ a)
theorem Eo{R:Result->Shared->Prop}{vs:LW}{a:List (Str×Value)}(X:K.In s.heap)(c:PySem.W.makesIn K C=true)
  (hi:PySem.W.findIn K (.ref C) "__init__"=some (some (.ref f)))(hf:PySem.W.typeIn K (.ref f)=some (.type "function"))
  (h:codeAny (model prog w) (A.under (.builtin "type.__call__" ⟨.ref C:: vs,a⟩)) (.call (.ref f) ⟨.ref (s.heap.objs.size+1):: vs,a⟩) (PySem.W.InitBack (s.heap.objs.size+1) R)
   {s with heap:=(s.heap.push PySem.W.emptyDict).push (PySem.W.instObj C s.heap.objs.size)}):
  codeAny (model prog w) A (.call (.ref C) ⟨vs,a⟩) R s:=by
 obtain⟨hh,g,d,e,i⟩:=s;exact PySem.W.make_core (PySem.W.makes_of X c) (vQ X hi) (λb=>PySem.W.bind_fn X b hf) (.inl rfl) h
end
def putF(f:Str)(v:V):List (Str×V)->List (Str×V)
 |[]=>[(f,v)]
 |(g,x):: r=>if g=f then(g,v):: r else(g,x):: putF f v r
theorem En(f g:Str)(v:V):∀fs:List (Str×V),(putF f v fs).lookup g=if g=f then some v else fs.lookup g
 |[]=>by
  show List.lookup g [(f,v)]=_
  by_cases h:g=f
  ·have a:(g == f)=true:=pV.mpr h;simp only[List.lookup,a,if_pos h]
  ·have a:(g == f)=false:=pW.mpr h;simp only[List.lookup,a,if_neg h]
 | (k,x):: r=>by
  have c:=En f g v r;rw[show putF f v ((k,x):: r)=(if k=f then(k,v):: r else(k,x):: putF f v r) from rfl]
  by_cases b:k=f
  ·rw[zE b]
   by_cases h:g=k
   ·have a:(g == k)=true:=pV.mpr h;simp only[List.lookup,a,if_pos (h.trans b)]
   ·have a:(g == k)=false:=pW.mpr h;simp only[List.lookup,a,if_neg (λe:g=f=>h (e.trans b.symm))]
  ·rw[zD b]
   by_cases h:g=k
   ·have a:(g == k)=true:=pV.mpr h;simp only[List.lookup,a,if_neg (λe:g=f=>b (h.symm.trans e))]
   ·have a:(g == k)=false:=pW.mpr h;simp only[List.lookup,a];exact c
theorem Am(f:Str)(v:V):∀fs:List (Str×V),f∈(putF f v fs).map (·.1)/\∀g,g∈fs.map (·.1)->g∈(putF f v fs).map (·.1)
 |[]=>⟨by simp[putF],λg h=>by simp at h⟩
 | (k,x):: r=>by
  obtain⟨c,b⟩:=Am f v r;rw[show putF f v ((k,x):: r)=(if k=f then(k,v):: r else(k,x):: putF f v r) from rfl]
  by_cases a:k=f
  ·rw[zE a];subst a;exact⟨by simp,λg h=>by simpa using h⟩
  ·rw[zD a];refine⟨?_,λg h=>?_⟩
   ·rw[zI];exact zN _ c
   ·rw[zI]at h ⊢;rcases xC.mp h with e|e
    ·exact xC.mpr (.inl e)
    ·exact zN _ (b g e)
theorem Em(f:Str)(v:V):∀fs:List (Str×V),(putF f v fs).length<=fs.length+1
 |[]=>by simp[putF]
 |(k,x):: r=>by
  have b:=Em f v r;rw[show putF f v ((k,x):: r)=(if k=f then(k,v):: r else(k,x):: putF f v r) from rfl]
  by_cases a:k=f
  ·rw[zE a,zV,zV];omega
  ·rw[zD a,zV,zV];omega
theorem RelO.some_of{v:V}{o:Option Value}(r:RelO (some v) o):∃u,o=some u/\RelV v u:=by
 cases o with
 |none=>exact(show False from r).elim
 |some u=>exact⟨u,rfl,r⟩
theorem RelO.none_of{o:Option Value}(r:RelO none o):o=none:=by
 cases o with
 |none=>rfl
 |some u=>exact(show False from r).elim
theorem Mi{v:V}{u:Value}(r:RelV v u):PySem.W.handedIn u=true:=by
 cases v with
 |non=>cases(show u=Value.none from r);rfl
 |bl b=>cases(show u=Value.bool b from r);rfl
 |int i=>obtain⟨t,e⟩:=(show∃t,u=Value.int i t from r);cases e;rfl
 |str x=>obtain⟨t,e⟩:=(show∃t,u=Value.str x t from r);cases e;rfl
 |byt b=>obtain⟨t,e⟩:=(show∃t,u=Value.bytes b t from r);cases e;rfl
 |flt b=>obtain⟨t,e⟩:=(show∃t,u=Value.float b t from r);cases e;rfl
 |ref a=>cases(show u=Value.ref a from r);rfl
 |ty n=>cases(show u=Value.type n from r);rfl
section
variable {P:Program} {w:World} {H H':Hp} {h h':Heap} {a C dx:Addr} {fs fs':List (Str×V)}
theorem cM(c:HOk P w H h)(e:H a=some (.ins C dx fs)):∃b,ObjM h a dx C b/\(∀f,RelO (fs.lookup f) (b f))/\PySem.Within b (fs.map (·.1))/\fs.length<=1000/\H dx=some (.own a):=by
 obtain⟨d,z,i,g,b,n,r,q⟩:=(show nI P w H h a (.ins C dx fs) from c a _ e);exact⟨b,⟨g,n,i⟩,r,q,z,d⟩
end
structure Cls(K:Frag)(C:Addr):Prop where
 pg:PySem.W.plainGet K C Str.empty=true
 hd:PySem.W.hasDictIn K C=true
 po:PySem.W.plainOver K C=true
 sa:PySem.W.findIn K (.ref C) "__setattr__"=some (some (.builtin "object.__setattr__"))
theorem Cls.get{K:Frag}{C:Addr}(c:Cls K C)(f:Str):PySem.W.plainGet K C f=true:=c.pg
def iO(K:Frag)(C:Addr)(f:Str):Prop:=PySem.W.findIn K (.ref C) f=some none
theorem iO.taker{K:Frag}{C:Addr}{f:Str}(n:iO K C f):PySem.W.takerIn K C f=some none:=by
 unfold PySem.W.takerIn;rw[show PySem.W.findIn K (.ref C) f=some none from n];rfl
structure Meth(K:Frag)(C:Addr)(m:Str)(f:Addr):Prop where
 at_:PySem.W.findIn K (.ref C) m=some (some (.ref f))
 fn:PySem.W.isFn K (.ref f)=true
 kp:PySem.W.keepIn K (.ref f)=true
section
variable {X:Cx} {pins:PN} {σ:St} {H:Hp} {s:Shared} {a C dx:Addr} {fs:List (Str×V)} {f:Str} {v:V} {A:Around} {E:VP}
theorem Mh{b:Bool}{Q:VP}(I:Inv X pins σ H s)(e:H a=some (.ins C dx fs))(c:Cls X.K C)(n:iO X.K C f)(l:fs.lookup f=some v)
  (h:∀u g,Inv X pins σ H g->RelV v u->Q u g):wpAny (model X.prog X.w) A (getAttr (.ref a) f b) Q E s:=by
 obtain⟨j,O,r,_,_,_⟩:=cM I.hok e;obtain⟨u,i,d⟩:=RelO.some_of (v:=v) (o:=j f) (by rw[←l];exact r f);exact Mm I.kIn O (c.get f) c.hd n i (Mi d) (h u _ (I.tok _) d)
theorem Mg{m:Str}{g:Addr}{pl:Sem Bool}{Q:Value×LW->Shared->Prop}(I:Inv X pins σ H s)(e:H a=some (.ins C dx fs))(c:Cls X.K C)(k:Meth X.K C m g)(l:fs.lookup m=none)
  (h:Q (.ref g,[.ref a]) s):wpAny (model X.prog X.w) A (getMethod (.ref a) m pl) Q E s:=by
 obtain⟨d,O,r,_,_,_⟩:=cM I.hok e;have b:d m=none:=RelO.none_of (by rw[←l];exact r m);exact Ml I.kIn O (c.get m) k.at_ k.fn b h
theorem Mf{y:V}{u:Value}{Q:Unit->Shared->Prop}(I:Inv X pins σ H s)(e:H a=some (.ins C dx fs))(c:Cls X.K C)(n:iO X.K C f)(hl:fs.length<1000)(p:RelV y u)
  (h:∀j,Inv X pins σ (upd H a (.ins C dx (putF f y fs))) j->Q () j):wpAny (model X.prog X.w) A (setAttr (.ref a) f u) Q E s:=by
 obtain⟨k,O,r,i,_,l⟩:=cM I.hok e;have hz:(fs.map (·.1)).length<=sizeLine:=by rw[yO,sizeLine_eq];omega
 refine Mj I.kIn O c.sa c.po n.taker c.hd i hz λh' d D=>h _ ?_;have t:∃o,h'.get? dx=some o:=let ⟨o,_,_,w,_⟩:=d.ns;⟨o,w⟩
 refine I.write (x:=a) (e:=dx) (by rw[e];exact True.intro) (.inr l) (λb q x z=>(D.2 b x).trans z) t ?_;refine⟨by rw[oR O.ne];exact l,?_,O.ne,d.obj,_,d.ns,λg=>?_,λg m=>?_⟩
 ·have:=Em f y fs;omega
 ·show RelO ((putF f y fs).lookup g) (if g=f then some u else k g);rw[En]
  by_cases q:g=f
  ·rw[zE q,zE q];exact p
  ·rw[zD q,zD q];exact r g
 ·by_cases q:g=f
  ·rw[q];exact(Am f y fs).1
  ·refine(Am f y fs).2 g (i g λz=>m ?_);show(if g=f then some u else k g)=none;rw[zD q];exact z
theorem Inv.made(I:Inv X pins σ H s):Inv X pins σ (upd (upd H s.heap.objs.size (.own (s.heap.objs.size+1))) (s.heap.objs.size+1) (.ins C s.heap.objs.size []))
  {s with heap:=(s.heap.push PySem.W.emptyDict).push (PySem.W.instObj C s.heap.objs.size)}:=by
 have e1:(s.heap.push PySem.W.emptyDict).get? s.heap.objs.size=some PySem.W.emptyDict:=zP s.heap rfl;have g:((s.heap.push PySem.W.emptyDict).push (PySem.W.instObj C s.heap.objs.size)).get? (s.heap.objs.size+1)=some (PySem.W.instObj C s.heap.objs.size):=by
  have:=zP (s.heap.push PySem.W.emptyDict) (o:=PySem.W.instObj C s.heap.objs.size) rfl
  rwa[xM]at this
 have i:(s.heap.push PySem.W.emptyDict).Ns s.heap.objs.size (λ_=>none):=⟨PySem.W.emptyDict,#[],_,e1,rfl,(λe k=>absurd k (by simp)),λ_=>rfl⟩;have j:=I.laid (a:=s.heap.objs.size) (o:=.own (s.heap.objs.size+1)) (h':=s.heap.push PySem.W.emptyDict) (t':=s.toks) (λb u q=>zC _ q) (zF _) ⟨_,e1⟩;refine j.laid (a:=s.heap.objs.size+1) (o:=.ins C s.heap.objs.size []) (t':=s.toks) (λb u q=>zC _ q) (sT (xM _ _)) ?_;have c:s.heap.objs.size≠s.heap.objs.size+1:=zZ (vE _);refine⟨by rw[oR c,oP],yB _,c,g,λ_=>none,(Heap.Ns1.of_empty i).at λo q=>zC _ q,λ_=>True.intro,λy d=>absurd rfl d⟩
theorem Me{prog:Program}{w:World}{env:Env}{e:Expr}{f:Str}{pos:Pos}{s:Shared}{Q:VP}(b:attributeBase e f env (eval e env)=eval e env)
  (h:wpAny (model prog w) A (eval e env) (λo c=>wpAny (model prog w) A (getAttr o f true) Q E c) E s):wpAny (model prog w) A (eval (.Attribute e f pos) env) Q E s:=
 Attribute_any_ h (by rw[arm_eval_Attribute,b])
end
def tFld(K:Frag)(ta:TE)(f:Str):TE:=λσ H Q=>ta σ H λx H1=>∃a C dx fs v,x=.ref a/\H1 a=some (.ins C dx fs)/\Cls K C/\iO K C f/\fs.lookup f=some v/\Q v H1
def sFld(K:Frag)(ta tv:TE)(f:Str):TS:=λD σ H=>tv σ H λy H1=>ta σ H1 λx H2=>∃a C dx fs,x=.ref a/\H2 a=some (.ins C dx fs)/\Cls K C/\iO K C f/\fs.length<1000 /\
 D.nx σ (upd H2 a (.ins C dx (putF f y fs)))
section
variable {X:Cx} {o e value:Expr} {f:Str} {pos pos' tpos:Pos} {ta tv:TE}
theorem eE(j:PE X e ta)(m:attributeBase e f X.env (eval e X.env)=eval e X.env):PE X (.Attribute e f pos) (tFld X.K ta f):=by
 intro r s d H Q I h;refine Me m (thn (j r s d H _ I h) λu D⟨x,H1,g,b,a,C,y,fs,v,k,t,c,n,l,q⟩=>?_);subst k;obtain rfl:u=Value.ref a:=b;exact Mh g t c n l λw z i p=>⟨v,H1,i,p,q⟩
theorem eF(G:PE X o ta)(r:PE X value tv)(m:swapsWith value (some (.Attribute o f pos')) pos.line X.env=pure false):PS X (.Assign [.Attribute o f pos'] value pos) (sFld X.K ta tv f):=by
 intro d s b H D I h;refine plainObj_wpAny_Assign_Attribute (thn (r d s b H _ I h) λu t⟨y,H1,i,j,q⟩=>thn (G d t b H1 _ i q) λv K⟨x,H2,k,g,a,C,J,fs,w,F,c,n,l,z⟩=>?_) m;subst w;obtain rfl:v=Value.ref a:=g;exact Mf k F c n l j λL p=>⟨b,_,p,z⟩
end
section
variable {X:Cx} {pins:PN} {σ:St} {H:Hp} {s:Shared} {A:Around} {E:VP} {Q:VP} {c:Value} {b:Bool}
inductive TyOf(K:Frag)(H:Hp):V->Value->Prop where
 |non:TyOf K H .non (.type "NoneType")
 |bl (x:Bool):TyOf K H (.bl x) (.type "bool")
 |int (i:Int):TyOf K H (.int i) (.type "int")
 |str (x:Str):TyOf K H (.str x) (.type "str")
 |flt (x:UInt64):TyOf K H (.flt x) (.type "float")
 |lst {a:Addr} {xs:List V} (e:H a=some (.lst xs)):TyOf K H (.ref a) (.type "list")
 |frz {a:Addr} {o:Obj} {xs:List V} (e:H a=some (.frz o (.lst xs))):TyOf K H (.ref a) (.type "list")
 |tup {a:Addr} {xs:List V} (e:H a=some (.tup xs)):TyOf K H (.ref a) (.type "tuple")
 |dK {a:Addr} {kvs:List (Key×V)} (e:H a=some (.dK kvs)):TyOf K H (.ref a) (.type "dict")
 |dT {a:Addr} {kvs:List (List Key×V)} (e:H a=some (.dT kvs)):TyOf K H (.ref a) (.type "dict")
 | ins {a C dx:Addr} {fs:List (Str×V)} (e:H a=some (.ins C dx fs)) (cl:Cls K C) (ha:PySem.W.findIn K (.ref C) "__class__"=some (some (.builtin "object.__class__")))
   (hn:PySem.W.specialIn K (.builtin "object.__class__") "__get__"=some (some (.builtin "getset_descriptor.__get__"))) (htk:PySem.W.takesIn K (.builtin "object.__class__")=some true)
   (hm:PySem.W.mroIn K C (.type "object")=some true):TyOf K H (.ref a) (.ref C)
theorem Md{x:V}{u f:Value}(I:Inv X pins σ H s)(d:RelV x u)(ty:TyOf X.K H x f)(e:PySem.W.kitOne X.K f c=some b)(h:∀tk,Q (.bool b) {s with toks:=tk}):
  wpAny (model X.prog X.w) A (call (.builtin "isinstance") [u,c]) Q E s:=by
 cases ty with
 |non=>cases(show u=Value.none from d);exact xH PySem.W.kitx_none I.kIn True.intro e (λz=>nomatch z) h
 |bl y=>cases(show u=Value.bool y from d);exact xH PySem.W.kitx_bool I.kIn True.intro e (λz=>nomatch z) h
 |int i=>obtain⟨f,q⟩:=(show∃f,u=Value.int i f from d);cases q;exact xH PySem.W.kitx_int I.kIn True.intro e (λz=>nomatch z) h
 |str y=>obtain⟨f,q⟩:=(show∃f,u=Value.str y f from d);cases q;exact xH PySem.W.kitx_str I.kIn True.intro e (λz=>nomatch z) h
 |flt y=>obtain⟨f,q⟩:=(show∃f,u=Value.float y f from d);cases q;exact xH PySem.W.kitx_float I.kIn True.intro e (λz=>nomatch z) h
 |@lst a xs g =>
  cases(show u=Value.ref a from d);obtain⟨_,_,n,_,j⟩:=(show nI X.prog X.w H s.heap a (.lst xs) from I.hok a _ g);exact xH qJ I.kIn ⟨_,j,rfl⟩ e (λz=>nomatch z) h
 |@frz a r xs g =>
  cases(show u=Value.ref a from d);obtain⟨_,_,_,n,_,j⟩:=(show nI X.prog X.w H s.heap a (.frz r (.lst xs)) from I.hok a _ g);exact xH qJ I.kIn ⟨_,j,rfl⟩ e (λz=>nomatch z) h
 |@tup a xs g =>
  cases(show u=Value.ref a from d);obtain⟨_,_,_,p⟩:=(show nI X.prog X.w H s.heap a (.tup xs) from I.hok a _ g);obtain⟨o,j,k,_⟩:=p;exact xH PySem.W.kitx_tuple I.kIn ⟨o,j,k⟩ e (λz=>nomatch z) h
 |@dK a kvs g =>
  cases(show u=Value.ref a from d);obtain⟨_,_,vs,_,p⟩:=(show nI X.prog X.w H s.heap a (.dK kvs) from I.hok a _ g);obtain⟨o,es,ep,j,k,_⟩:=p;exact xH PySem.W.kitx_dict I.kIn ⟨o,j,k.1⟩ e (λz=>nomatch z) h
 |@dT a kvs g =>
  cases(show u=Value.ref a from d);obtain⟨_,_,xs,_,o,es,ep,j,k,_⟩:=(show nI X.prog X.w H s.heap a (.dT kvs) from I.hok a _ g);exact xH PySem.W.kitx_dict I.kIn ⟨o,j,k.1⟩ e (λz=>nomatch z) h
 |@ins a C F fs g l D w t v =>
  cases(show u=Value.ref a from d);obtain⟨J,O,_⟩:=cM I.hok g;obtain⟨G,m,_⟩:=O.look;exact xH (PySem.W.kitx_own (l.get _) l.hd D w t v) I.kIn m e (λz=>nomatch z) h
end
structure Room(k:Nat)(A:Around):Prop where
 hd:A.handled=none
 dp:A.depth+3*k+5<recursionLimit
 un:A.units+16*k+200<cLine
theorem Room.mono{j k:Nat}{A:Around}(r:Room k A)(h:j<=k):Room j A:=⟨r.hd,by have:=r.dp;omega,by have:=r.un;omega⟩
theorem Room.mo{j k:Nat}{A:Around}(r:Room k A)(h:j<=k:=by first|decide|omega):Room j A:=r.mono h
theorem Room.deeper{k:Nat}{A:Around}(r:Room (k+1) A)(env:Env):Room k (A.deeper env):=
 ⟨r.hd,by have:=r.dp;show A.depth+1+3*k+5<_;omega,by have:=r.un;show A.units+3+16*k+200<_;omega⟩
theorem Room.in1{k:Nat}{A:Around}(r:Room (k+1) A):Room k A.in1:=
 ⟨r.hd,by have:=r.dp;show A.depth+3*k+5<_;omega,by have:=r.un;show A.units+1+16*k+200<_;omega⟩
theorem Mc{A:Around}{C:Addr}{us:LW}{a:List (Str×Value)}:(A.under (.builtin "type.__call__" ⟨.ref C:: us,a⟩)).depth=A.depth+1:=by
 first|rfl|simp[Around.under,Code.weight,Code.isCreation,Code.isGuard,Code.isCaller,Code.frames,Code.isFrame,guardIds]
theorem Mb{A:Around}{C:Addr}{us:LW}{a:List (Str×Value)}:(A.under (.builtin "type.__call__" ⟨.ref C:: us,a⟩)).units=A.units+1:=by
 first|rfl|simp[Around.under,Code.cUnits,Code.frames,Code.isFrame]
theorem Room.make{k:Nat}{A:Around}(r:Room (k+1) A)(C:Addr)(us:LW)(a:List (Str×Value)):Room k (A.under (.builtin "type.__call__" ⟨.ref C:: us,a⟩)):=
 ⟨r.hd,by have:=r.dp;rw[Mc];omega,by have:=r.un;rw[Mb];omega⟩
theorem Room.depth{k:Nat}{A:Around}(r:Room k A):A.depth<recursionLimit:=by have:=r.dp;omega
theorem Room.units{k:Nat}{A:Around}(r:Room k A):A.units+64<cLine:=by have:=r.un;omega
def tNil:TA:=λ_ H Q=>Q [] H
def nD(ta:TE)(tr:TA):TA:=λσ H Q=>ta σ H λx H1=>tr σ H1 λxs H2=>Q (x:: xs) H2
section
variable {X:Cx} {e:Expr} {es:List Expr} {te:TE} {t:TA} {pos:Pos}
theorem oJ:PA X [] tNil:=λ_ _ _ _ H Q I h=>Calls.spliced_nil ⟨[],H,I,.nil,h⟩
theorem oH(k:PE X e te)(hr:PA X es t)(f:starEach (e:: es) X.env=(false,eval e X.env):: starEach es X.env:=by rfl):PA X (e:: es) (nD te t):=by
 intro pos b s a H Q I h;rw[f];show wpAny _ _ (spliced ((false,eval e X.env):: backTo pos (starEach es X.env))) _ _ s;refine Calls.spliced_cons (thn (k b s a H _ I h) λu g⟨x,H1,j,r1,d⟩=>?_);exact thn (hr pos b g a H1 _ j d) λus l⟨xs,H2,c,r2,i⟩=>⟨x:: xs,H2,c,.cons r1 r2,i⟩
def tTup(t:TA):TE:=λσ H Q=>t σ H λxs H1=>xs.length<=sizeLine/\∀p,H1 p=none->Q (.ref p) (upd H1 p (.tup xs))
def tLst(t:TA):TE:=λσ H Q=>t σ H λxs H1=>xs.length<=sizeLine/\∀p,H1 p=none->Q (.ref p) (upd H1 p (.lst xs))
theorem lE{f}(h:PA X es t):PE X (.Tuple es f pos) (tTup t):=by
 intro i s d H Q I g;refine wpAny_Tuple_spliced (thn (h pos i s d H _ I g) λus a⟨xs,H1,c,r,z,q⟩=>⟨by rw[←r.length];exact z,?_⟩);have hf:H1 a.heap.objs.size=none:=c.hok.fresh (zF _);refine⟨.ref a.heap.objs.size,upd H1 a.heap.objs.size (.tup xs),c.laid (t':=a.toks) (λb u e=>zC _ e) (zF _) ?_,rfl,q _ hf⟩;exact⟨z,us,r,⟨_,zP _ rfl,rfl,_,rfl⟩⟩
theorem nX(h:PA X es t):PE X (.List es pos) (tLst t):=by
 intro g s d H Q I f;refine wpAny_List_spliced (thn (h pos g s d H _ I f) λus a⟨xs,H1,c,r,z,q⟩=>⟨by rw[←r.length];exact z,?_⟩);have hf:H1 a.heap.objs.size=none:=c.hok.fresh (zF _);refine⟨.ref a.heap.objs.size,upd H1 a.heap.objs.size (.lst xs),c.laid (t':=a.toks) (λb u e=>zC _ e) (zF _) ?_,rfl,q _ hf⟩;exact⟨z,us,0,r,zP _ rfl⟩
end
abbrev Sp:=List V->Hp->VK->XK->Prop
abbrev CXT:=List Env->Hp->Shared->XK->VP
structure Env0(P:Program)(w:World)(K:Frag)(mg:MT)(base:Heap)(A:Around)(outer:List Env)(s:Shared)(H:Hp):Prop where
 frames:A.frames=some outer
 mod:Mod K mg base
 bs:∀b o,base.get? b=some o->s.heap.get? b=some o/\H b=none
 bsz:base.objs.size<=s.heap.objs.size
 funs:s.heap.FunFrames base outer
 frf:∀b∈frs outer,H b=none
 hok:HOk P w H s.heap
 bare:AllBare s.gens
def CE(outer:List Env)(P:Program)(w:World)(H:Hp)(s:Shared)(Q:VK)(u:Value)(s':Shared):Prop:=
 ∃v H',s'.os=s.os/\AllBare s'.gens/\Un (frs outer) [] H H' s.heap s'.heap/\HOk P w H' s'.heap/\RelV v u/\Q v H'
def CR(CX:CXT)(outer:List Env)(P:Program)(w:World)(H:Hp)(s:Shared)(Q:VK)(E:XK)(r:Result)(s':Shared):Prop:=
 match r with
 |.ok (.ret u)=>CE outer P w H s Q u s'
 |.ok _=>False
 |.error e=>CX outer H s E e s'
structure FnOk(P:Program)(w:World)(K:Frag)(mg:MT)(base:Heap)(CX:CXT)(k:Nat)(f:Addr)(fd:FuncData)(ps:List Str)(sp:Sp):Prop where
 len:∀vs H Q E,sp vs H Q E->vs.length=ps.length
 run:∀(A:Around)(outer:List Env)(s:Shared)(H:Hp)(args:Args)(us:LW)(vs:List V)(Q:VK)(E:XK),Room k A->Env0 P w K mg base A outer s H->BindsTo s fd args (ps.zip us)->Vals vs us->sp vs H Q E ->
  codeAny (model P w) A (.call (.ref f) args) (CR CX outer P w H s Q E) s
theorem FnOk.mono{P:Program}{w:World}{K:Frag}{c:MT}{base:Heap}{b:CXT}{j k:Nat}{f:Addr}{a:FuncData}{ps:List Str}{d:Sp}(F:FnOk P w K c base b j f a ps d)(h:j<=k):
  FnOk P w K c base b k f a ps d:=⟨F.len,λA outer s H e us vs Q E hr=>F.run A outer s H e us vs Q E (hr.mono h)⟩
theorem FnOk.imp{P:Program}{w:World}{K:Frag}{d:MT}{base:Heap}{b:CXT}{k:Nat}{f:Addr}{a:FuncData}{ps:List Str}{e c:Sp}(F:FnOk P w K d base b k f a ps e)
  (h:∀vs H Q E,c vs H Q E->e vs H Q E):FnOk P w K d base b k f a ps c:=
 ⟨λvs H Q E q=>F.len vs H Q E (h _ _ _ _ q),λA outer s H m us vs Q E hr l j i g=>F.run A outer s H m us vs Q E hr l j i (h _ _ _ _ g)⟩
theorem Env0.make{P:Program}{w:World}{K:Frag}{a:MT}{base:Heap}{A:Around}{outer:List Env}{s:Shared}{H:Hp}(e:Env0 P w K a base A outer s H)(C:Addr)(us:LW)(b:List (Str×Value)):
  Env0 P w K a base (A.under (.builtin "type.__call__" ⟨.ref C:: us,b⟩)) outer s H:=⟨by first|exact e.frames|(simpa [Around.under,Code.envs,Code.isFrame,pushEnvs]using e.frames),e.mod,e.bs,e.bsz,e.funs,e.frf,e.hok,e.bare⟩
theorem Env0.in1{P:Program}{w:World}{K:Frag}{a:MT}{base:Heap}{A:Around}{outer:List Env}{s:Shared}{H:Hp}(e:Env0 P w K a base A outer s H):
  Env0 P w K a base A.in1 outer s H:=⟨e.frames,e.mod,e.bs,e.bsz,e.funs,e.frf,e.hok,e.bare⟩
section
variable {X:Cx} {pins:PN} {σ:St} {H:Hp} {s s':Shared}
theorem Inv.env0(I:Inv X pins σ H s):Env0 X.prog X.w X.K X.mg X.base X.A X.stack s H:=
 ⟨I.ok.frames,I.ok.mod,I.bs,yC I.ok.bsz I.sz,I.stack,I.stkFree,I.hok,I.bare⟩
theorem Inv.after{Q:VK}{u:Value}(I:Inv X pins σ H s)(h:CE X.stack X.prog X.w H s Q u s'):EP X pins σ Q u s':=by
 obtain⟨v,H',c,e,un,f,r,q⟩:=h;obtain⟨hh,g,d,a,i⟩:=s';obtain rfl:i=s.os:=c;exact⟨v,H',I.call (h':=hh) (g':=g) (d':=d) (t':=a) (ch:=[]) un f e (λb z=>absurd z (by simp)),r,q⟩
end
def lF(sp:Sp)(dvs:List V)(E:XK)(t:TA):TE:=λσ H Q=>t σ H λvs H1=>sp (vs++dvs) H1 Q E
def gH(C:Addr)(m:Str)(sp:Sp)(dvs:List V)(E:XK)(ta:TE)(t:TA):TE:=λσ H Q=>ta σ H λx H1=>∃a dx fs,x=.ref a/\H1 a=some (.ins C dx fs)/\fs.lookup m=none /\
 t σ H1 λvs H2=>sp (x:: (vs++dvs)) H2 Q E
def cN(C:Addr)(sp:Sp)(dvs:List V)(E:XK)(t:TA):TE:=λσ H Q=>t σ H λvs H1=>∀x dx,H1 x=none->H1 dx=none->dx≠x ->
 sp (.ref x:: (vs++dvs)) (upd (upd H1 dx (.own x)) x (.ins C dx [])) (λv H2=>v=.non/\Q (.ref x) H2) E
def mF(K:Frag)(fd:FuncData)(ps:List Str)(ds:LW):Prop:=
 ∀(s:Shared)(us:LW),K.In s.heap->(us++ds).length=ps.length->BindsTo s fd ⟨us,[]⟩ (ps.zip (us++ds))
theorem mF.all{K:Frag}{a:FuncData}{ps:List Str}(h:∀us:LW,us.length=ps.length->bindArgs a ⟨us,[]⟩=pure (ps.zip us)):mF K a ps []:=λs us _ hl=>by
 rw[xQ]at hl ⊢;exact .of_eq (h us hl)
def jV(CX:CXT)(X:Cx)(E:XK):Prop:=∀(pins:PN)(σ:St)(H:Hp)(s:Shared)(e:Value)(s':Shared),Inv X pins σ H s->CX X.stack H s E e s'->X.xe e s'
section
variable {X:Cx} {CX:CXT} {k:Nat} {f C:Addr} {fd:FuncData} {ps:List Str} {sp:Sp} {dvs:List V} {ds:LW} {E:XK} {x m:Str} {p pos apos:Pos} {e o:Expr} {es:List Expr} {ta:TE} {t:TA}
theorem El{c:PN}{b:St}{H:Hp}{s:Shared}{Q:VK}{us:LW}{vs:List V}(F:FnOk X.prog X.w X.K X.mg X.base CX k f fd ps sp)(hr:Room k X.A)(j:mF X.K fd ps ds)(i:Vals dvs ds)(d:jV CX X E)
  (I:Inv X c b H s)(r:Vals vs us)(h:sp (vs++dvs) H Q E):wpAny (model X.prog X.w) X.A (call (.ref f) us) (EP X c b Q) X.xe s:=by
 have r2:Vals (vs++dvs) (us++ds):=r.append i;have hl:(us++ds).length=ps.length:=by rw[←r2.length];exact F.len _ _ _ _ h
 refine uO (uJ (F.run X.A X.stack s H ⟨us,[]⟩ (us++ds) (vs++dvs) Q E hr I.env0 (j s us I.kIn hl) r2 h) λr g a=>?_);cases r with
 |error e=>exact d c b H s e g I a
 |ok fl =>
  cases fl with
  |ret u=>exact I.after a
  |next=>exact False.elim a
  |brk=>exact False.elim a
  |cont=>exact False.elim a
theorem cO(F:FnOk X.prog X.w X.K X.mg X.base CX k f fd ps sp)(hr:Room k X.A)(b:Gl X x)(i:X.mg x=some (.ref f))(v:PySem.W.keepIn X.K (.ref f)=true)(u:mF X.K fd ps ds)(l:Vals dvs ds)(c:jV CX X E)
  (y:PA X (e:: es) t)(g:(x == ("__debug__" :Str))=false:=by decide)(n:starEach (e:: es) X.env=(false,eval e X.env):: starEach es X.env:=by rfl)(j:(backTo pos (starEach es X.env)).any (·.1)=false:=by rfl):
  PE X (.Call (.Name x p) (e:: es) [] pos) (lF sp dvs E t):=by
 intro w s d H Q I h;refine wG (jL I b i ?_ g);refine tQ (h₀:=X.base) I.ok.mod.kin v (thn (y pos w s d H _ I h) λus z⟨vs,H1,a,r,q⟩=>⟨a.kIn,?_⟩) n j;exact El F hr u l c a r q
theorem gI{pl:Sem Bool}(w:PE X o ta)(c:Cls X.K C)(d:Meth X.K C m f)(F:FnOk X.prog X.w X.K X.mg X.base CX k f fd ps sp)(hr:Room k X.A)(z:mF X.K fd ps ds)(v:Vals dvs ds)(j:jV CX X E)
  (G:eval (.Call (.Attribute o m apos) [] [] pos) X.env=(do
   let g ←eval o X.env
   standAt apos.atName
   let (f,first) ←holding [g] (getMethod g m pl)
   callWith pos f first (backTo pos (starEach [] X.env)) (backToKw pos (keywordEach [] X.env))):=by rfl):
  PE X (.Call (.Attribute o m apos) [] [] pos) (gH C m sp dvs E ta tNil):=by
 intro D s n H Q I h;refine PySem.W.methodCall_KW (pl:=pl) (thn (w D s n H _ I h) λu K⟨x,H1,b,i,a,J,fs,y,r,l,q⟩=>?_) G;subst y;obtain rfl:u=Value.ref a:=i;refine Mg b r c d l ?_;exact PySem.W.callWith_K0 (first:=[.ref a]) b.kIn d.kp (El (us:=[.ref a]) (vs:=[.ref a]) F hr z v j b (.cons rfl .nil) q)
structure Mk(K:Frag)(C f:Addr):Prop where
 makes:PySem.W.makesIn K C=true
 init:PySem.W.findIn K (.ref C) "__init__"=some (some (.ref f))
 fn:PySem.W.isFn K (.ref f)=true
 kp:PySem.W.keepIn K (.ref C)=true
theorem Ma{g:PN}{d:St}{H:Hp}{s:Shared}{Q:VK}{us:LW}{vs:List V}(M:Mk X.K C f)(F:FnOk X.prog X.w X.K X.mg X.base CX k f fd ps sp)(hr:Room (k+1) X.A)(D:mF X.K fd ps ds)(w:Vals dvs ds)
  (j:jV CX X E)(I:Inv X g d H s)(r:Vals vs us)
  (h:∀x b,H x=none->H b=none->b≠x->sp (.ref x:: (vs++dvs)) (upd (upd H b (.own x)) x (.ins C b [])) (λv H2=>v=.non/\Q (.ref x) H2) E):
  wpAny (model X.prog X.w) X.A (call (.ref C) us) (EP X g d Q) X.xe s:=by
 have i:=h (s.heap.objs.size+1) s.heap.objs.size (I.hok.fresh (uR _)) (I.hok.fresh (zF _)) (zZ (vE _));have c:=Inv.made (C:=C) I;have r2:Vals (V.ref (s.heap.objs.size+1):: (vs++dvs)) (Value.ref (s.heap.objs.size+1):: (us++ds)):=.cons rfl (r.append w);have hl:(Value.ref (s.heap.objs.size+1):: us++ds).length=ps.length:=by
  have e:=r2.length;rw[F.len _ _ _ _ i]at e;exact e.symm
 refine uO (Eo (f:=f) I.kIn M.makes M.init (pV.mp M.fn) (uJ (F.run _ X.stack _ _ ⟨Value.ref (s.heap.objs.size+1):: us,[]⟩ (Value.ref (s.heap.objs.size+1):: (us++ds)) _ _ E (hr.make C us [])
  (c.env0.make C us []) (D _ (Value.ref (s.heap.objs.size+1):: us) c.kIn hl) r2 i) λr q a=>?_))
 cases r with
 |error e=>exact j g d _ _ e q c a
 | ok fl =>
  cases fl with
  |ret u =>
   obtain⟨v,H',l,z,y,n⟩:=c.after a;subst y;exact⟨z,⟨V.ref (s.heap.objs.size+1),H',l,rfl,n⟩⟩
  |next=>exact False.elim a
  |brk=>exact False.elim a
  |cont=>exact False.elim a
theorem Al(M:Mk X.K C f)(F:FnOk X.prog X.w X.K X.mg X.base CX k f fd ps sp)(hr:Room (k+1) X.A)(b:Gl X x)(i:X.mg x=some (.ref C))(u:mF X.K fd ps ds)(l:Vals dvs ds)(c:jV CX X E)
  (w:PA X (e:: es) t)(g:(x == ("__debug__" :Str))=false:=by decide)(n:starEach (e:: es) X.env=(false,eval e X.env):: starEach es X.env:=by rfl)(j:(backTo pos (starEach es X.env)).any (·.1)=false:=by rfl):
  PE X (.Call (.Name x p) (e:: es) [] pos) (cN C sp dvs E t):=by
 intro v s d H Q I h;refine wG (jL I b i ?_ g);refine tQ (h₀:=X.base) I.ok.mod.kin M.kp (thn (w pos v s d H _ I h) λus y⟨vs,H1,a,r,q⟩=>⟨a.kIn,?_⟩) n j;exact Ma M F hr u l c a r q
end
section
variable {X:Cx} {CX:CXT} {k:Nat} {f C:Addr} {fd:FuncData} {ps ks:List Str} {sp:Sp} {E:XK} {x m:Str} {p pos apos kpos:Pos} {e o:Expr} {es:List Expr} {kws:List Keyword} {te ta:TE} {t tk:TA} {nm:Option Str}
variable {g:LW->LW->LW} {gV:List V->List V->List V}
end
structure nB(N P:List Str)(sc:Scope):Prop where
 kind:sc.kind=.function
 co:sc.isCoroutine=false
 gen:sc.isGenerator=false
 nd:N.Nodup
 pre:N.take P.length=P
 par:∀x∈P,sc.names.lookup x=some .local\/sc.names.lookup x=some .cell
 nofree:∀y∈sc.names,y.2≠.free
theorem Ek{b:Str->Option NameKind}{x:Str}:∀{binds:List (Str×Value)}{m:MT},(∀v,(x,v)∉binds)->bindL b binds m x=m x
 |[],_,_=>rfl
 | (n,v):: r,m,h=>by
  unfold bindL;rw[Ek λw a=>h w (zN _ a)];split
  ·have:x≠n:=by rintro rfl;exact h v zY
   simp[this]
  ·rfl
theorem Ej{b:Str->Option NameKind}{x:Str}:∀{binds:List (Str×Value)}{m:MT},(∀v,(x,v)∉binds)->bindC b binds m x=m x
 |[],_,_=>rfl
 | (n,v):: r,m,h=>by
  unfold bindC;rw[Ej λw a=>h w (zN _ a)];split
  ·rfl
  ·have:x≠n:=by rintro rfl;exact h v zY
   simp[this]
theorem Ei{b:Str->Option NameKind}{x:Str}{v:Value}:∀{P:List Str}{vs:LW}{i:Nat}{m:MT},P.Nodup->P[i]?=some x->vs[i]?=some v->b x=some .local ->
  bindL b (P.zip vs) m x=some v
 |[],_,_,_,_,h,_,_=>by simp at h
 |_:: _,[],_,_,_,_,h,_=>by simp at h
 |p:: P,w:: vs,0,m,nd,a,c,d=>by
  simp at a c;subst a;subst c;show bindL b ((p,w):: P.zip vs) m p=_;unfold bindL;rw[Ek λv e=>(wU.mp nd).1 (rE e).1,zE d];simp
 |p:: P,w:: vs,i+1,m,nd,a,c,d=>by
  show bindL b ((p,w):: P.zip vs) m x=_;unfold bindL;exact Ei (i:=i) (wU.mp nd).2 (by simpa using a) (by simpa using c) d
theorem Eh{b:Str->Option NameKind}{x:Str}{v:Value}:∀{P:List Str}{vs:LW}{i:Nat}{m:MT},P.Nodup->P[i]?=some x->vs[i]?=some v->b x≠some .local ->
  bindC b (P.zip vs) m x=some v
 |[],_,_,_,_,h,_,_=>by simp at h
 |_:: _,[],_,_,_,_,h,_=>by simp at h
 |p:: P,w:: vs,0,m,nd,a,c,d=>by
  simp at a c;subst a;subst c;show bindC b ((p,w):: P.zip vs) m p=_;unfold bindC;rw[Ej λv e=>(wU.mp nd).1 (rE e).1,zD d];simp
 |p:: P,w:: vs,i+1,m,nd,a,c,d=>by
  show bindC b ((p,w):: P.zip vs) m x=_;unfold bindC;exact Eh (i:=i) (wU.mp nd).2 (by simpa using a) (by simpa using c) d
def start(N:List Str)(vs:List V):St:=vs.map some++List.replicate (N.length-vs.length) none
def cxOf(CX:CXT)(P:Program)(w:World)(K:Frag)(mg:MT)(base:Heap)(N:List Str)(qual:Str)(scope:Scope)(f:Addr)(cd:Value)(A:Around)(outer:List Env)(s:Shared)(H:Hp)(E:XK):Cx where
 prog:=P
 w:=w
 K:=K
 mg:=mg
 base:=base
 A:=A.deeper (envOfC qual scope s.heap.objs.size f cd)
 N:=N
 s₀:=s
 H₀:=H
 env:=envOfC qual scope s.heap.objs.size f cd
 outer:=outer
 stack:=envOfC qual scope s.heap.objs.size f cd:: outer
 ex:=[]
 calm:=true
 fn:=λ_=>true
 pn:=[]
 xe:=λe s'=>wpAny (model P w) (A.deeper (envOfC qual scope s.heap.objs.size f cd)) (leaving (envOfC qual scope s.heap.objs.size f cd) e) (λ_ s''=>CX outer H s E e s'') (λe' s''=>CX outer H s E e' s'') s'
theorem Eg{sc:Scope}{n:Nat}{x:Str}(h:sc.names.lookup x=some .cell):∃c,(cellsFrom n sc.names []).lookup x=some c:=by
 have q:=PySem.W.cellsFrom_some sc.names n [] (.inl h);exact Option.isSome_iff_exists.mp q
theorem Nz{J:CXT}{P:Program}{w:World}{K:Frag}{D:MT}{base:Heap}{N ps:List Str}{t:Str}{j:Scope}{f:Addr}{C:Value}{A:Around}{outer:List Env}{s G:Shared}{H:Hp}{E:XK}{us:LW}{vs:List V}
  (l:nB N ps j)(S:A.handled=none)(g:Env0 P w K D base A outer s H)(hl:vs.length=ps.length)(r:Vals vs us)
  (x:InCallC s s.heap.objs.size (bindL (envOfC t j s.heap.objs.size f C).kindOf (ps.zip us) λ_=>none) (cellsFrom (s.heap.objs.size+1) j.names []) (bindC (envOfC t j s.heap.objs.size f C).kindOf (ps.zip us) λ_=>none) G):
  Inv (cxOf J P w K D base N t j f C A outer s H E) [] (start N vs) H G:=by
 have U:ps.length<=N.length:=by have:=wY List.length l.pre;rw[yI]at this;omega
 obtain⟨o,tk,rfl,I⟩:=x.done;have F:∀b:Addr,b∉(cxOf J P w K D base N t j f C A outer s H E).ex:=λb z=>absurd (show b∈([]:LA) from z) (by simp);refine⟨⟨g.mod,l.kind,rfl,rfl,zF _,λy z c o d=>?_,λy m=>?_,λy c _ h=>?_,λ_=>S,Around.frames_deeper g.frames,.inr ⟨rfl,rfl⟩,λb z=>absurd z (F b),g.bs,g.bsz,λb _ _=>F b,λb z=>absurd z (F b),g.funs,g.frf⟩,
  rfl,g.bare,Un.kept I,⟨_,x.toInCall.ns,λi y v o d T=>?_⟩,λy c h=>⟨_,x.cell y c h⟩,g.hok.fresh (zF _),λy c h=>?_,λp n=>absurd (show p∈([]:PN) from n) (by simp),g.hok.kept I,?_⟩
 ·exact name_of_addr x.apart (vC o) (vC d)
 ·have m:j.names.lookup y=some .cell\/j.names.lookup y=some .free:=m;rcases m with m|m
  ·exact Eg m
  ·exact absurd rfl (l.nofree _ (vC m))
 ·exact wO (x.above y c (vC h))
 ·have hi:i<vs.length:=by
   unfold start at d
   by_cases hi:i<vs.length
   ·exact hi
   ·rw[zT (by simpa using hi)]at d;rw[List.getElem?_replicate]at d;split at d <;> cases d
  have R:vs[i]?=some v:=by
   unfold start at d;rw[yA (by simpa using hi),zM]at d;cases e:vs[i]? with
   |none=>rw[e]at d;cases d
   |some a=>rw[e]at d;cases d;rfl
  obtain⟨u,M,O⟩:=r.get R;have n:ps[i]?=some y:=by
   rw[←l.pre,uA ⋯];exact o
  have L:ps.Nodup:=by rw[←l.pre];exact l.nd.sublist (List.take_sublist _ _)
  refine⟨u,O,?_⟩;rcases l.par y (yD n) with k|k
  ·exact .inl ⟨k,Ei L n M k⟩
  ·obtain⟨c,e⟩:=Eg (n:=s.heap.objs.size+1) k;refine .inr ⟨.inl k,c,e,?_⟩;have q:=x.cell y c e;rw[Eh L n M (by show j.names.lookup y≠_;rw[k];decide)]at q;exact q
 ·exact g.hok.fresh (wO (x.above y c (vC h)))
 ·unfold start;show _=N.length;rw[zX,yO,List.length_replicate];omega
theorem cP{p:CXT}{P:Program}{w:World}{K:Frag}{l:MT}{base:Heap}{k:Nat}{f:Addr}{name d:Str}{R:Arguments}{body:List Stmt}{a:Scope}{G kV F L cdv O a4:Value}{M W:Option Addr}
  {a2:Array (Option Value)}{N ps:List Str}{D:Sp}(a1:K.lookup f=some ⟨a4,W,.func (PySem.W.fnOf name d R body a G kV F L M cdv O),a2⟩)(a7:PySem.W.codeIn K cdv d=true)(i:nB N ps a)
  (len:∀vs H Q E,D vs H Q E->vs.length=ps.length)
  (a6:∀(A:Around)(outer:List Env)(s:Shared)(H:Hp)(vs:List V)(Q:VK)(E:XK),Room k (A.deeper (envOfC d a s.heap.objs.size f cdv))->D vs H Q E ->
   ∃t,PSs (cxOf p P w K l base N d a f cdv A outer s H E) body t/\t {nx:=λ_ H'=>Q .non H',rt:=Q} (start N vs) H):
  FnOk P w K l base p (k+1) f (PySem.W.fnOf name d R body a G kV F L M cdv O) ps D:=by
 refine⟨len,λA outer s H a8 us vs Q E hr j U r T=>?_⟩;have hl:=len _ _ _ _ T;have KX:K.In s.heap:=j.mod.kin.keeps λb o e=>(j.bs b o e).1;have X:s.heap.NoLimit:=j.mod.nolimit.keeps λb o e=>(j.bs b o e).1;have Y:∀y∈ps.zip us,a.names.lookup y.1=some .local\/(a.names.lookup y.1=some .cell/\((cellsFrom (s.heap.objs.size+1) a.names []).lookup y.1).isSome=true):=λ⟨n,v⟩a3=>by
  rcases i.par n (rE a3).1 with q|q
  ·exact .inl q
  ·exact .inr ⟨q,PySem.W.cellsFrom_some _ _ _ (.inl q)⟩
 refine codeAny_call_function hr.depth (KX _ _ a1) rfl i.co i.gen rfl (PySem.W.codeRec_of KX a7) (U _ _ _ _ ?_);refine wpAny_newFunctionEnv_cells i.kind Y λenv Z J x=>?_;subst Z;refine⟨X.keeps x.toInCall.keep,codeAny_func ?_⟩;obtain⟨t,a0,a5⟩:=a6 A outer s H vs Q E (hr.deeper _) T;have I:Inv (cxOf p P w K l base N d a f cdv A outer s H E) [] (start N vs) H J:=Nz i hr.hd j hl r x;refine yQ (a0 [] J (start N vs) H _ I a5) (λfl z g=>?_) λe z g=>g;have S:∀{m:St}{H':Hp}{v:V}{u:Value},Inv (cxOf p P w K l base N d a f cdv A outer s H E) [] m H' z->RelV v u->Q v H'->CE outer P w H s Q u z:=
  λ{m H' v u}c C q=>⟨v,H',c.os,c.bare,c.base,c.hok,C,q⟩
 cases fl with
 |ret u =>
  obtain⟨v,m,H',c,C,q⟩:=g;exact S c C q
 |next =>
  obtain⟨m,H',c,q⟩:=g;exact S (v:=V.non) (u:=Value.none) c rfl q
 |brk =>
  obtain⟨_,_,_,q⟩:=g;exact False.elim q
 |cont =>
  obtain⟨_,_,_,q⟩:=g;exact False.elim q
section
variable {X:Cx} {x:Str} {p pos:Pos} {e:Expr} {es:List Expr} {t:TA} {id T:String} {r:List V->Hp->VK->Prop}
def tCB(r:List V->Hp->VK->Prop)(t:TA):TE:=λσ H Q=>t σ H λvs H1=>r vs H1 Q
theorem mY(d:mJ X (.builtin id) r)(c:Gl X x)(j:X.mg x=none)(i:bootBuiltins x=some (.builtin id))(q:PA X (e:: es) t)(l:x≠"__name__" := by decide)(f:(x == ("__debug__" :Str))=false:=by decide)
  (n:starEach (e:: es) X.env=(false,eval e X.env):: starEach es X.env:=by rfl)(k:(backTo pos (starEach es X.env)).any (·.1)=false:=by rfl):PE X (.Call (.Name x p) (e:: es) [] pos) (tCB r t):=by
 intro b s a H Q I h;refine wG (jM I c j i ?_ l f);exact PyProof.Rows.callWith_builtin1 (thn (q pos b s a H _ I h) λus m⟨vs,H1,o,r1,g⟩=>d b m a H1 vs us Q o r1 g) n k
theorem mK(d:mJ X (.type T) r)(c:Gl X x)(j:X.mg x=none)(i:bootBuiltins x=some (.type T))(q:PA X (e:: es) t)(l:x≠"__name__" := by decide)(f:(x == ("__debug__" :Str))=false:=by decide)
  (n:starEach (e:: es) X.env=(false,eval e X.env):: starEach es X.env:=by rfl)(k:(backTo pos (starEach es X.env)).any (·.1)=false:=by rfl):PE X (.Call (.Name x p) (e:: es) [] pos) (tCB r t):=by
 intro b s a H Q I h;refine wG (jM I c j i ?_ l f);exact xI (thn (q pos b s a H _ I h) λus m⟨vs,H1,o,r1,g⟩=>d b m a H1 vs us Q o r1 g) n k
end
end L2
namespace HT
open PySem PyProof.Rows
section
open PySem.SeqAt
open PySem.AutoSeq1 (wpAny_loadPart')
open PySem.MeetsSeq PySem.MeetsSeq2 PySem.MeetsSeq3
end
section
variable {prog:Program} {w:World} {A:Around} {E:VP} {s:Shared}
def sIx(n d:Nat):Option Int->Nat
 |none=>d
 |some v=>if v<0 then(v+(n:Int)).toNat else min v.toNat n
theorem sIx_none(n d:Nat):sIx n d none=d:=rfl
theorem sIx_nat(n d k:Nat):sIx n d (some (k:Int))=min k n:=by
 show(if(k:Int)<0 then((k:Int)+(n:Int)).toNat else min (k:Int).toNat n)=min k n;rw[zD ⋯,zS]
theorem Ny(n d:Nat)(b:d<=n)(o:Option Int):sIx n d o<=n:=by
 cases o with
 |none=>exact b
 |some v =>
  show(if v<0 then(v+(n:Int)).toNat else min v.toNat n)<=n
  by_cases a:v<0
  ·rw[zE a];omega
  ·rw[zD a];exact Nat.min_le_right _ _
theorem Ef(v:Int)(n d:Nat):(if v<0 then max (v+(n:Int)) 0 else min v (n:Int))=((sIx n d (some v):Nat):Int):=by
 show(if v<0 then max (v+(n:Int)) 0 else min v (n:Int))=(((if v<0 then(v+(n:Int)).toNat else min v.toNat n):Nat):Int)
 by_cases a:v<0
 ·simp only[if_pos a];omega
 ·simp only[if_neg a];omega
theorem Nx(lo hi:Option Int)(n:Nat):Builtin.Slice.sliceAdjust lo hi 1 (n:Int)=(((sIx n 0 lo:Nat):Int),((sIx n n hi:Nat):Int)):=by
 have a:¬ ((1:Int)<0):=⋯
 unfold Builtin.Slice.sliceAdjust;simp only[a,if_false];refine Prod.ext ?_ ?_
 ·cases lo with
  |none=>rfl
  |some v=>exact Ef v n 0
 ·cases hi with
  |none=>rfl
  |some v=>exact Ef v n n
theorem Nw(i j:Nat):Builtin.Slice.slicePlaces (i:Int) (j:Int) 1=j-i:=by
 unfold Builtin.Slice.slicePlaces;have a:(1:Int) > 0:=⋯
 simp only[a,if_true,Int.ediv_one];split <;> omega
theorem Ee{v:Value}{o:Option Int}{Q:Option Int->Shared->Prop}(p:IsPart v o)(h:Q o s):wpAny (model prog w) A (Builtin.Slice.slicePartIndex v) Q E s:=by
 cases p with
 |none=>exact slicePart_none h
 |int i t=>exact slicePart_int h
theorem Nv{e:Addr}{c a:Value}{lo hi:Option Int}{n:Nat}{Q:Int×Int×Nat->Shared->Prop}(f:s.heap.IsSliceOf e c a .none)(pl:IsPart c lo)(g:IsPart a hi)
  (h:Q (((sIx n 0 lo:Nat):Int),1,sIx n n hi-sIx n 0 lo) s):wpAny (model prog w) A (Builtin.Slice.sliceApplied (.ref e) (pure (n:Int))) Q E s:=by
 obtain⟨j,b,i,d⟩:=id f;unfold Builtin.Slice.sliceApplied Builtin.Slice.sliceFields;refine zA (zA (xR b d (x:=c) rfl (zA (xR b d (x:=a) rfl (zA (xR b d (x:=.none) rfl (zB ?_)))))));refine zA (slicePart_none ?_);show wpAny _ _ (if((1:Int) == 0)=true then _ else _) _ _ s;rw[zD ∅];refine zA (Ee pl (zA (Ee g (zA (zB ?_)))));show wpAny _ _ (match Builtin.Slice.sliceAdjust lo hi 1 (n:Int) with|(lo,hi)=>pure (lo,(1:Int),Builtin.Slice.slicePlaces lo hi 1)) _ _ s;rw[Nx lo hi n];show wpAny _ _ (pure (((sIx n 0 lo:Nat):Int),(1:Int),Builtin.Slice.slicePlaces ((sIx n 0 lo:Nat):Int) ((sIx n n hi:Nat):Int) 1)) _ _ s;rw[Nw];exact zB h
theorem Nu(xs:Array Value)(i k:Nat):((List.range k).filterMap λ(m:Nat)=>xs[((i:Int)+(m:Int)*1).toNat]?).toArray=((xs.toList.drop i).take k).toArray:=by
 have e:(λ(m:Nat)=>xs[((i:Int)+(m:Int)*1).toNat]?)=λm=>xs[i+m]?:=by
  funext m
  have:((i:Int)+(m:Int)*1).toNat=i+m:=⋯
  rw[this]
 rw[e];have:=pick_run xs i k;rw[List.filterMap_map]at this;have a:((λx=>xs[x]?)∘ λx=>i+x)=λm=>xs[i+m]?:=rfl;rw[a]at this;rw[this]
theorem getItem_tuple_cut{d c:Addr}{items:Array Value}{g e:Value}{lo hi:Option Int}{Q:VP}(b:IsTup s.heap d items)(f:s.heap.IsSliceOf c g e .none)(pl:IsPart g lo)(o:IsPart e hi)
  (j:¬ (sIx items.size 0 lo=0/\sIx items.size items.size hi=items.size))
  (h:Q (.ref s.heap.objs.size) {s with heap:=s.heap.push {cls:=.type "tuple",data:=.seq ((items.toList.drop (sIx items.size 0 lo)).take (sIx items.size items.size hi-sIx items.size 0 lo)).toArray}})
  (hsz:items.size<=sizeLine):wpAny (model prog w) A (getItem (.ref d) (.ref c)) Q E s:=by
 have a:sizeOk (.seq ((items.toList.drop (sIx items.size 0 lo)).take (sIx items.size items.size hi-sIx items.size 0 lo)).toArray):=by
  show((items.toList.drop (sIx items.size 0 lo)).take (sIx items.size items.size hi-sIx items.size 0 lo)).toArray.size<=sizeLine;rw[zW,yI,uG,zK];omega
 have p:sIx items.size items.size hi<=items.size:=Ny _ _ (zF _) hi;obtain⟨l,n,i,u⟩:=id f;have k:s.TypeIs (.ref c) "slice" := ⟨l,n,i⟩;unfold getItem
 try with_reducible refine yT ?_
 first|refine zA (zB ?_)|skip
 refine zA (wpAny_sequenceKey b.typeIs ∅ ?_);refine zA (wB (name:=Str.ofString "__getitem__") b.typeIs PyProof.Rows.slot_tuple_getitem
  (xS PyProof.Rows.slot_tuple_getitem b.typeIs entry_tuple_getitem ?_ (args_tuple_getitem _ _)))
 show wpAny _ _ (Builtin.Tuple.tupleItemsOf (.ref d) >>= _) _ _ s;refine zA (tupleItemsOf_ b ?_);refine zA (uH k ?_);rw[zE ∅];refine zA (Nv f pl o ?_);have m:¬ ((((sIx items.size 0 lo:Nat):Int) == 0 && (1:Int) == 1 && (sIx items.size items.size hi-sIx items.size 0 lo) == items.size)=true):=by
  intro q;rw[zR,zR]at q;have r:((sIx items.size 0 lo:Nat):Int)=0:=yL q.1.1;have t:sIx items.size items.size hi-sIx items.size 0 lo=items.size:=yL q.2;exact j ⟨⋯,⋯⟩
 show wpAny _ _ (if(((sIx items.size 0 lo:Nat):Int) == 0 && (1:Int) == 1 && (sIx items.size items.size hi-sIx items.size 0 lo) == items.size)=true then _ else _) _ _ s;rw[zD m,Nu]
 first
  |exact zA (m:=Builtin.Tuple.tupleExact _) (xG (zB ⟨_,rfl,zB h⟩) a)
  |exact zA (m:=Builtin.Tuple.tupleExact _) (xG (zA (zB (zB ⟨_,rfl,zB h⟩))) a)
  |exact zA (zA (m:=Builtin.Tuple.tupleExact _) (xG (zB (zB ⟨_,rfl,zB h⟩)) a))
  |exact zA (zA (m:=Builtin.Tuple.tupleExact _) (xG (zB ⟨_,rfl,zB h⟩) a))
end
end HT
namespace L2
open PySem PySem.Spec PyProof.Rows
open PySem.W (Frag)
abbrev TO:=St->Hp->(Option Int->Hp->Prop)->Prop
def PO(X:Cx)(e:Option Expr)(t:TO):Prop:=
 ∀(pins:PN)(s:Shared)(σ:St)(H:Hp)(Q:Option Int->Hp->Prop),Inv X pins σ H s->t σ H Q ->
  wpAny (model X.prog X.w) X.A (evalPart e X.env) (λu s'=>∃o H',Inv X pins σ H' s'/\IsPart u o/\Q o H') X.xe s
def Ak:TO:=λ_ H Q=>Q none H
def Aj(t:TE):TO:=λσ H Q=>t σ H λx H1=>∃i,x=.int i/\Q (some i) H1
section
variable {X:Cx} {e:Expr} {te:TE} {lo hi:Option Expr} {tl th:TO} {pos p2:Pos}
theorem eG:PO X none Ak:=by
 intro b s a H Q I h;rw[evalPart_none];exact zB ⟨none,H,I,.none,h⟩
theorem iP(h:PE X e te):PO X (some e) (Aj te):=by
 intro g s b H Q I a;rw[evalPart_some];refine thn (h g s b H _ I a) λu j⟨x,H1,f,r1,d⟩=>?_;obtain⟨i,rfl,q⟩:=d;obtain⟨c,rfl⟩:=r1;exact⟨some i,H1,f,.int i c,q⟩
def SlR(X:Cx)(r:V->Option Int->Option Int->Hp->VK->Prop):Prop:=
 ∀(pins:PN)(s:Shared)(σ:St)(H:Hp)(x:V)(v vl vu:Value)(lo hi:Option Int)(sl:Addr)(Q:VK),Inv X pins σ H s->RelV x v->s.heap.IsSliceOf sl vl vu .none->IsPart vl lo->IsPart vu hi->r x lo hi H Q ->
  ∃T id,typeLookup (.type T) "__getitem__"=pure (some (.builtin id))/\s.TypeIs v T/\wpAny (model X.prog X.w) X.A (getItem v (.ref sl)) (EP X pins σ Q) X.xe s
theorem SlR.or{r i:V->Option Int->Option Int->Hp->VK->Prop}(h:SlR X r)(h':SlR X i):SlR X (λx lo hi H Q=>r x lo hi H Q\/i x lo hi H Q):=by
 intro j s b H x v g d lo hi c Q I a f pl k q;rcases q with q|q
 ·exact h j s b H x v g d lo hi c Q I a f pl k q
 ·exact h' j s b H x v g d lo hi c Q I a f pl k q
def tSl(r:V->Option Int->Option Int->Hp->VK->Prop)(te:TE)(tl th:TO):TE:=λσ H Q=>te σ H λx H1=>tl σ H1 λl H2=>th σ H2 λu H3=>r x l u H3 Q
theorem gJ{r:V->Option Int->Option Int->Hp->VK->Prop}(hr:SlR X r)(w:PE X e te)(hl:PO X lo tl)(F:PO X hi th):PE X (.Subscript e (.Slice lo hi none p2) pos) (tSl r te tl th):=by
 intro c s d H Q I h;refine Subscript_ (thn (w c s d H _ I h) λv o⟨x,H1,G,r1,z⟩=>?_);refine wpAny_Slice (thn (hl c o d H1 _ G z) λg i⟨l,H2,m,pl,p⟩=>thn (F c i d H2 _ m p) λf a⟨u,H3,C,D,n⟩=>?_);rw[evalPart_none];refine zB ?_;have k:Inv X c d H3 {a with heap:=a.heap.push {cls:=.type "slice",data:=.fields #[g,f,.none]}}:=C.kept (t':=a.toks) λb J q=>zC _ q;obtain⟨T,id,t,y,j⟩:=hr c {a with heap:=a.heap.push {cls:=.type "slice",data:=.fields #[g,f,.none]}} d H3 x v g f l u a.heap.objs.size Q k r1 (Heap.IsSliceOf.new ..) pl D n;show wpAny (model X.prog X.w) X.A (subscriptTail e (.Slice lo hi none p2) v (.ref a.heap.objs.size)) (EP X c d Q) X.xe {a with heap:=a.heap.push {cls:=.type "slice",data:=.fields #[g,f,.none]}};exact tail_any (ops:=[.ref a.heap.objs.size,v]) y t j (by with_unfolding_all rfl)
def cutV(xs:List V)(lo hi:Option Int):List V:=(xs.drop (HT.sIx xs.length 0 lo)).take (HT.sIx xs.length xs.length hi-HT.sIx xs.length 0 lo)
theorem Ed(xs:List V)(lo hi:Option Int):(cutV xs lo hi).length<=xs.length:=by
 unfold cutV;rw[yI,uG];omega
def rSlT(K:Frag):V->Option Int->Option Int->Hp->VK->Prop:=λx lo hi H Q=>∃a xs,x=.ref a/\SqT K H a xs /\
 ¬ (HT.sIx xs.length 0 lo=0/\HT.sIx xs.length xs.length hi=xs.length)/\∀p,H p=none->Q (.ref p) (upd H p (.tup (cutV xs lo hi)))
theorem Nt:SlR X (rSlT X.K):=by
 intro t s l H x v p o lo hi n Q I f j pl k h;obtain⟨a,xs,rfl,i,g,q⟩:=h;cases f;obtain⟨its,r,d,hz⟩:=I.tuple i;have c:its.toArray.size=xs.length:=by rw[zW];exact r.length.symm
 refine⟨"tuple",_,PyProof.Rows.slot_tuple_getitem.lookup,d.typeIs,?_⟩;refine HT.getItem_tuple_cut d j pl k (by rw[c];exact g) ?_ (by rw[c];exact hz);rw[c];refine⟨.ref s.heap.objs.size,_,I.laid (t':=s.toks) (o:=.tup (cutV xs lo hi)) (λb m q=>zC _ q) (zF _) ?_,rfl,q _ (I.hok.fresh (zF _))⟩;exact⟨yC (Ed xs lo hi) hz,_,(r.drop (HT.sIx xs.length 0 lo)).take (HT.sIx xs.length xs.length hi-HT.sIx xs.length 0 lo),IsTup.new _ _⟩
end
def ixN(n:Nat)(i:Int):Option Nat:=if 0<=i then(if i<n then some i.toNat else none) else if -(n:Int)<=i then some (i+n).toNat else none
def atI{α:Type}(xs:List α)(i:Int):Option α:=(ixN xs.length i).bind λj=>xs[j]?
theorem Eb{n:Nat}{i:Int}{j:Nat}(h:ixN n i=some j):seqIndex? i n=some j/\j<n/\-(n:Int)<=i/\i<n:=by
 unfold ixN at h
 by_cases b:0<=i
 ·rw[zE b]at h
  by_cases a:i<n
  ·rw[zE a]at h;have e:i.toNat=j:=zU h;exact⟨by rw[pE b a,e],⋯,⋯,a⟩
  ·rw[zD a]at h;cases h
 ·rw[zD b]at h
  by_cases a:-(n:Int)<=i
  ·rw[zE a]at h;have e:(i+n).toNat=j:=zU h;exact⟨by rw[pS ⋯ a,e],⋯,a,⋯⟩
  ·rw[zD a]at h;cases h
theorem Ea{a:Type}{xs:List a}{i:Int}{v:a}(h:atI xs i=some v):∃j,seqIndex? i xs.length=some j/\xs[j]?=some v/\j<xs.length/\-(xs.length:Int)<=i/\i<xs.length:=by
 unfold atI at h;cases e:ixN xs.length i with
 |none=>rw[e]at h;cases h
 |some j =>
  rw[e]at h;obtain⟨c,f,d,b⟩:=Eb e;exact⟨j,c,h,f,d,b⟩
theorem Nr{a:Type}{xs:List a}{j:Nat}{v:a}(h:xs[j]?=some v):atI xs (j:Int)=some v:=by
 have b:j<xs.length:=(oE.mp h).1;have e:ixN xs.length (j:Int)=some j:=by
  unfold ixN;rw[zE ⋯,zE ⋯];simp
 unfold atI;rw[e];exact h
def Nq(b:Expr):Prop:=∀o i,subscripted b false o i=operate [o,i] (getItem o i)
def IxR(X:Cx)(r:R2):Prop:=
 ∀(value slice:Expr)(pins:PN)(s:Shared)(σ:St)(H:Hp)(x y:V)(v u:Value)(Q:VK),Inv X pins σ H s->RelV x v->RelV y u->r x y H Q ->
  subscripted slice false v u=operate [v,u] (getItem v u)->wpAny (model X.prog X.w) X.A (subscriptTail value slice v u) (EP X pins σ Q) X.xe s
def MtR(X:Cx)(id:String)(r:V->List V->Hp->VK->Prop):Prop:=
 ∀(pins:PN)(s:Shared)(σ:St)(H:Hp)(x:V)(xs:List V)(v:Value)(us:LW)(Q:VK),Inv X pins σ H s->RelV x v->Vals xs us->r x xs H Q ->
  wpAny (model X.prog X.w) X.A (call (.builtin id) (v:: us)) (EP X pins σ Q) X.xe s
section
variable {X:Cx} {a b:Expr} {ta tb:TE} {pos:Pos}
theorem IxR.or{r j:R2}(h:IxR X r)(h':IxR X j):IxR X (λx y H Q=>r x y H Q\/j x y H Q):=by
 intro e i k s d H x y v u Q I c f q g;rcases q with q|q
 ·exact h e i k s d H x y v u Q I c f q g
 ·exact h' e i k s d H x y v u Q I c f q g
theorem MtR.or{id:String}{r f:V->List V->Hp->VK->Prop}(h:MtR X id r)(h':MtR X id f):MtR X id (λx xs H Q=>r x xs H Q\/f x xs H Q):=by
 intro g s d H x xs v us Q I c e q;rcases q with q|q
 ·exact h g s d H x xs v us Q I c e q
 ·exact h' g s d H x xs v us Q I c e q
theorem nO{r:R2}(hr:IxR X r)(l:PE X a ta)(j:PE X b tb)(g:Nq b):PE X (.Subscript a b pos) (tOp r ta tb):=by
 intro k s d H Q I h;exact Subscript_ (binT l j I h λv u i x y H2 f c e q=>hr a b k i d H2 x y v u Q f c e q (g _ _))
def rIxL(K:Frag):R2:=λx y H Q=>∃p xs i v,x=.ref p/\y=.int i/\SqL K H p xs/\atI xs i=some v/\Q v H
def rIxT(K:Frag):R2:=λx y H Q=>∃p xs i v,x=.ref p/\y=.int i/\SqT K H p xs/\atI xs i=some v/\Q v H
theorem Np:IxR X (rIxL X.K):=by
 intro L O e s f H x y v u Q I G n h k;obtain⟨p,xs,i,z,rfl,rfl,K,D,q⟩:=h;cases G;obtain⟨M,rfl⟩:=n;obtain⟨its,r,pl,hz⟩:=I.list K;obtain⟨j,c,F,N,J,C⟩:=Ea D;obtain⟨w,l,o⟩:=r.get F;have hl:=r.length;have P:=cL;have m:EP X e f Q w s:=⟨z,H,I,o,q⟩
 by_cases g:0<=i
 ·have d:i.toNat=j:=by
   rw[pE g C]at c;exact zU c
  exact item_listR pl.isList g ⋯ (by rw[d];simpa using l) m k
 ·have d:(i+(its.toArray.size:Int)).toNat=j:=by
   rw[pS ⋯ J]at c;rw[zW,←hl];exact zU c
  exact sF (x:=w) pl.isList.typeIs slot_list_getitem.lookup
   (wpAny_getItem_list_neg (Q:=λr t=>r=w/\EP X e f Q r t) pl.isList ⋯ (by rw[zW] <;> omega) ⋯ (by rw[d];simpa using l) ⟨rfl,m⟩) k
theorem No:IxR X (rIxT X.K):=by
 intro F L c s d H x y v u Q I t e h m;obtain⟨p,xs,i,z,rfl,rfl,D,l,q⟩:=h;cases t;obtain⟨G,rfl⟩:=e;obtain⟨its,r,pl,hz⟩:=I.tuple D;obtain⟨j,g,n,J,M,K⟩:=Ea l;obtain⟨w,o,f⟩:=r.get n;have hl:=r.length;have N:=cL;have C:EP X c d Q w s:=⟨z,H,I,f,q⟩;exact sF (x:=w) pl.typeIs slot_tuple_getitem.lookup
  (getItem_tuple (j:=j) (Q:=λr k=>r=w/\EP X c d Q r k) pl ⋯ ⋯ (by rw[zW,←hl];exact g) (by simpa using o) ⟨rfl,C⟩) m
theorem Nn(its:LW)(n j:Nat)(u:Value):Obj.mapSeq (·.setIfInBounds j u) {cls:=.type "list",data:=.seq its.toArray n}={cls:=.type "list",data:=.seq (its.set j u).toArray n}:=by
 simp[Obj.mapSeq]
theorem Inv.lst{d:PN}{c:St}{H:Hp}{s:Shared}{p:Addr}{xs:List V}(I:Inv X d c H s)(h:H p=some (.lst xs)):
  ∃(its:LW)(n:Nat),Vals xs its/\s.heap.get? p=some {cls:=.type "list",data:=.seq its.toArray n}/\xs.length<=sizeLine:=by
 obtain⟨z,its,n,r,e⟩:=I.hok p _ h;exact⟨its,n,r,e,z⟩
theorem Inv.lstUpd{g:PN}{d:St}{H:Hp}{s:Shared}{p:Addr}{xs ys:List V}{its its':LW}{n c:Nat}{f:Obj->Obj}(I:Inv X g d H s)(h:H p=some (.lst xs))
  (k:s.heap.get? p=some {cls:=.type "list",data:=.seq its.toArray n})(hf:f {cls:=.type "list",data:=.seq its.toArray n}={cls:=.type "list",data:=.seq its'.toArray c})(r:Vals ys its')(hz:ys.length<=sizeLine)(i:Nat):
  Inv X g d (upd H p (.lst ys)) {s with heap:=s.heap.update p f,toks:=i}:=by
 have e:(s.heap.update p f).get? p=some {cls:=.type "list",data:=.seq its'.toArray c}:=by
  rw[wA f k (by rw[hf] <;> rfl),hf]
 refine I.write (x:=p) (e:=p) (by rw[h];trivial) (.inl rfl) (λb u j q=>(vI _ _ (yF j)).trans q) ⟨_,e⟩ ?_;exact⟨hz,its',c,r,e⟩
def Ai:V->V->V->Hp->(Hp->Prop)->Prop:=λo i v H Q=>∃p xs k j,o=.ref p/\i=.int k/\H p=some (.lst xs)/\ixN xs.length k=some j/\Q (upd H p (.lst (xs.set j v)))
theorem Fz:PSet X Ai:=by
 intro x s C H o i v G K u Q I y z w h;obtain⟨p,xs,k,j,rfl,rfl,m,D,q⟩:=h;cases y;obtain⟨F,rfl⟩:=z;obtain⟨its,n,r,e,hz⟩:=I.lst m;obtain⟨c,J,f,t⟩:=Eb D;have hl:=r.length;have L:=cL;have g:Inv X x C (upd H p (.lst (xs.set j v))) {s with heap:=s.heap.update p (Obj.mapSeq (·.setIfInBounds j u))}:=
  I.lstUpd m e (Nn its n j u) (r.set w j) (by rw[List.length_set];exact hz) s.toks
 by_cases l:0<=k
 ·have d:k.toNat=j:=by
   rw[pE l t]at c;exact zU c
  exact PySem.W.ki_setAt e l ⋯ (by rw[zW,←hl];exact t) (by rw[d];exact⟨_,g,q⟩)
 ·have d:(k+(its.toArray.size:Int)).toNat=j:=by
   rw[pS ⋯ f]at c;rw[zW,←hl];exact zU c
  exact PySem.W.ki_setBack e ⋯ (by rw[zW,←hl];exact f) ⋯ (by rw[d];exact⟨_,g,q⟩)
theorem Nm(lo hi:Option Int)(n:Nat):(sliceBounds lo hi none n).1=((HT.sIx n 0 lo:Nat):Int)/\(sliceBounds lo hi none n).2.1=((HT.sIx n n hi:Nat):Int)/\(sliceBounds lo hi none n).2.2=1:=by
 refine⟨?_,?_,rfl⟩
 ·cases lo with
  |none=>simp[sliceBounds,HT.sIx]
  |some i =>
   simp only[sliceBounds,HT.sIx,Option.getD_none,show(1:Int) > 0 by decide,if_true]
   by_cases h:i<0
   ·simp only[h,if_true] <;> omega
   ·simp only[h,if_false] <;> omega
 ·cases hi with
  |none=>simp[sliceBounds,HT.sIx]
  |some i =>
   simp only[sliceBounds,HT.sIx,Option.getD_none,show(1:Int) > 0 by decide,if_true]
   by_cases h:i<0
   ·simp only[h,if_true] <;> omega
   ·simp only[h,if_false] <;> omega
theorem Nl(its:LW)(lo hi:Option Int):slicePick its.toArray lo hi none=((its.drop (HT.sIx its.length 0 lo)).take (HT.sIx its.length its.length hi-HT.sIx its.length 0 lo)).toArray:=by
 obtain⟨d,c,e⟩:=Nm lo hi its.toArray.size;unfold slicePick;rw[d,c,e];simp only[sliceRange_one,pick_run,List.size_toArray] <;> rfl
def rSlL(K:Frag):V->Option Int->Option Int->Hp->VK->Prop:=λx lo hi H Q=>∃a xs,x=.ref a/\SqL K H a xs/\∀p,H p=none->Q (.ref p) (upd H p (.lst (cutV xs lo hi)))
theorem Nk:SlR X (rSlL X.K):=by
 intro o s k H x v n m lo hi l Q I d g pl i h;obtain⟨a,xs,rfl,e,q⟩:=h;cases d;obtain⟨its,r,c,hz⟩:=I.list e;have f:=r.length;refine⟨"list",_,slot_list_getitem.lookup,c.isList.typeIs,?_⟩;refine wpAny_getItem_list_slice c.isList g pl i .none (by simp) ?_ (by rw[List.size_toArray] <;> omega);rw[Nl,←f];refine⟨.ref s.heap.objs.size,_,I.laid (t':=s.toks) (o:=.lst (cutV xs lo hi)) (λb j q=>zC _ q) (zF _) ?_,rfl,q _ (I.hok.fresh (zF _))⟩;exact⟨yC (Ed xs lo hi) hz,_,0,(r.drop (HT.sIx xs.length 0 lo)).take (HT.sIx xs.length xs.length hi-HT.sIx xs.length 0 lo),zP _ rfl⟩
def jW:V->Bool
 |.non=>true
 |.bl _=>true
 |.int _=>true
 |.str _=>true
 |_=>false
def eqV:V->V->Bool
 |.non,.non=>true
 |.bl a,.bl b=>a == b
 |.bl a,.int b=>(if a then 1 else 0) == b
 |.int a,.bl b=>a == (if b then 1 else 0)
 |.int a,.int b=>a == b
 |.str a,.str b=>a == b
 |_,_=>false
theorem Nj{A:Around}{s:Shared}{y x:V}{u v:Value}(e:RelV y u)(c:RelV x v)(g:jW y=true)(f:jW x=true):SeqAt.EqAt A s u v (eqV y x):=by
 cases y with
 |non =>
  cases e;cases x with
  |non=>cases c;exact SeqAt.EqAt.same _
  |bl b=>cases c;exact SeqAt.EqAt.none_bool b
  |int b=>obtain⟨d,rfl⟩:=c;exact SeqAt.EqAt.none_int b d
  |str b=>obtain⟨d,rfl⟩:=c;exact SeqAt.EqAt.none_str b d
  |_=>exact absurd (show false=true from f) yH
 |bl a =>
  cases e;cases x with
  |non=>cases c;exact SeqAt.EqAt.bool_none a
  |bl b=>cases c;exact SeqAt.EqAt.bool_bool a b
  |int b=>obtain⟨d,rfl⟩:=c;exact SeqAt.EqAt.bool_int a b d
  |str b=>obtain⟨d,rfl⟩:=c;exact SeqAt.EqAt.bool_str a b d
  |_=>exact absurd (show false=true from f) yH
 |int a =>
  obtain⟨t',rfl⟩:=e;cases x with
  |non=>cases c;exact SeqAt.EqAt.int_none a t'
  |bl b=>cases c;exact SeqAt.EqAt.int_bool a t' b
  |int b=>obtain⟨d,rfl⟩:=c;exact SeqAt.EqAt.int_int a t' b d
  |str b=>obtain⟨d,rfl⟩:=c;exact SeqAt.EqAt.int_str a t' b d
  |_=>exact absurd (show false=true from f) yH
 |str a =>
  obtain⟨t',rfl⟩:=e;cases x with
  |non=>cases c;exact SeqAt.EqAt.str_none a t'
  |bl b=>cases c;exact SeqAt.EqAt.str_bool a t' b
  |int b=>obtain⟨d,rfl⟩:=c;exact SeqAt.EqAt.str_int a t' b d
  |str b=>obtain⟨d,rfl⟩:=c;exact SeqAt.EqAt.str_str a t' b d
  |_=>exact absurd (show false=true from f) yH
 |_=>exact absurd (show false=true from g) yH
def eqU(x:V)(u:Value):Bool:=match u with
 |.none=>eqV .non x
 |.bool b=>eqV (.bl b) x
 |.int i _=>eqV (.int i) x
 |.str z _=>eqV (.str z) x
 |_=>false
theorem Fy{x y:V}{u:Value}(r:RelV y u)(f:jW y=true):eqU x u=eqV y x:=by
 cases y with
 |non=>cases r;rfl
 |bl b=>cases r;rfl
 |int i=>obtain⟨t,rfl⟩:=r;rfl
 |str z=>obtain⟨t,rfl⟩:=r;rfl
 |_=>exact absurd (show false=true from f) yH
theorem Ah{x:V}:∀{xs:List V}{us:LW},Vals xs us->xs.all jW=true->us.any (eqU x)=xs.any λy=>eqV y x
 |_,_,.nil,_=>rfl
 |y:: xs,u:: us,.cons r t,f=>by
  rw[xE,zR]at f;rw[qC,qC,Fy r f.1,Ah t f.2]
theorem Ag{A:Around}{s:Shared}{x:V}{v:Value}(d:RelV x v)(e:jW x=true):∀{xs:List V}{us:LW},Vals xs us->xs.all jW=true->∀u∈us,SeqAt.EqAt A s u v (eqU x u)
 |_,_,.nil,_=>λu c=>by cases c
 |y:: xs,u:: us,.cons r i,f=>λg c=>by
  rw[xE,zR]at f;rcases xC.mp c with rfl|c
  ·rw[Fy r f.1];exact Nj r d f.1 e
  ·exact Ag d e i f.2 g c
def inV(x:V)(xs:List V):Bool:=xs.any λy=>eqV y x
def rIn(K:Frag)(neg:Bool):R2:=λx y H Q=>∃p xs,y=.ref p/\(SqL K H p xs\/SqT K H p xs)/\jW x=true/\xs.all jW=true/\Q (.bl (if neg then !inV x xs else inV x xs)) H
theorem Af:OpR X (compareOp .NotIn) (rIn X.K true):=by
 intro j s i H x y v u Q I e g h;obtain⟨p,xs,rfl,c,f,fs,q⟩:=h;cases g;rcases c with c|c
 ·obtain⟨its,r,pl,hz⟩:=I.list c;refine SeqAt.notIn_listAt (eqU x) pl.isList (λw d=>Ag e f r fs w (by simpa using d)) ⟨.bl _,H,I,rfl,?_⟩;rw[show its.toArray.any (eqU x)=its.any (eqU x) by simp,Ah r fs];exact q
 ·obtain⟨its,r,pl,hz⟩:=I.tuple c;refine SeqAt.notIn_tupleAt (eqU x) pl (λw d=>Ag e f r fs w (by simpa using d)) ⟨.bl _,H,I,rfl,?_⟩;rw[show its.toArray.any (eqU x)=its.any (eqU x) by simp,Ah r fs];exact q
theorem Ni:mJ X (.builtin "len") (λxs H Q=>∃p ys,xs=[.ref p]/\(SqL X.K H p ys\/SqT X.K H p ys)/\Q (.int ys.length) H):=by
 intro i s g H xs us Q I r h;obtain⟨p,ys,rfl,c,q⟩:=h;obtain⟨u,rfl,f⟩:=kC r;cases f;have j:=cL;rcases c with c|c
 ·obtain⟨its,e,pl,hz⟩:=I.list c;have d:=e.length;exact Calls.call_len_list pl.isList (by simp only[List.size_toArray] <;> omega) ⟨.int ys.length,H,I.tok _,⟨s.toks+1,by rw[zW,d]⟩,q⟩
 ·obtain⟨its,e,pl,hz⟩:=I.tuple c;have d:=e.length;exact len_tuple pl (by simp only[List.size_toArray] <;> omega) ⟨.int ys.length,H,I.tok _,⟨s.toks+1,by rw[zW,d]⟩,q⟩
theorem mJ.or{f:Value}{r c:List V->Hp->VK->Prop}(h:mJ X f r)(h':mJ X f c):mJ X f (λxs H Q=>r xs H Q\/c xs H Q):=by
 intro d s e H xs us Q I g q;rcases q with q|q
 ·exact h d s e H xs us Q I g q
 ·exact h' d s e H xs us Q I g q
theorem Nh:mJ X (.type "list") (λxs H Q=>∃p ys,xs=[.ref p]/\(SqL X.K H p ys\/SqT X.K H p ys)/\∀l,H l=none->Q (.ref l) (upd H l (.lst ys))):=by
 intro y s w H xs us Q I r h;obtain⟨p,ys,rfl,g,q⟩:=h;obtain⟨u,rfl,v⟩:=kC r;cases v;have m:∀(its:LW),Vals ys its->ys.length<=sizeLine->∀(h':Heap)(c:Nat),(∀b t,s.heap.get? b=some t->h'.get? b=some t) ->
   h'.get? s.heap.objs.size=some {cls:=.type "list",dict:=none,data:=.seq its.toArray c,slots:=#[]}->EP X y w Q (.ref s.heap.objs.size) {s with heap:=h'}:=λits d hz h' c f e =>
  ⟨.ref s.heap.objs.size,_,I.laid (t':=s.toks) f (zF _) (show nI X.prog X.w _ h' _ (.lst ys) from⟨hz,its,c,d,e⟩),rfl,q _ (I.hok.fresh (zF _))⟩
 rcases g with g|g
 ·obtain⟨its,d,pl,hz⟩:=I.list g;have x:=d.length;obtain⟨o,k,i,n,j⟩:=pl.isList;exact call_list_seq p (.inl rfl) k i j (λh' c f e=>m its d hz h' c f e) (by simp only[List.size_toArray] <;> omega)
 ·obtain⟨its,d,pl,hz⟩:=I.tuple g;have x:=d.length;obtain⟨o,k,i,n,j⟩:=pl;exact call_list_seq p (.inr rfl) k i j (λh' c f e=>m its d hz h' c f e) (by simp only[List.size_toArray] <;> omega)
theorem Ng:mJ X (.type "tuple") (λxs H Q=>∃p ys,xs=[.ref p]/\((SqL X.K H p ys/\∀l,H l=none->Q (.ref l) (upd H l (.tup ys)))\/(SqT X.K H p ys/\Q (.ref p) H))):=by
 intro i s f H xs us Q I r h;obtain⟨p,ys,rfl,h⟩:=h;obtain⟨u,rfl,j⟩:=kC r;cases j;rcases h with⟨c,q⟩|⟨c,q⟩
 ·obtain⟨its,d,pl,hz⟩:=I.list c;have n:=d.length;refine call_tuple_list pl.isList (λh' k=>?_) (by simp only[List.size_toArray] <;> omega);have g:Inv X i f H {s with heap:=h'}:=I.kept (t':=s.toks) k;have m:Inv X i f (upd H h'.objs.size (.tup ys)) {s with heap:=h'.push {cls:=.type "tuple",data:=.seq its.toArray}}:=
   g.laid (t':=s.toks) (λb o e=>zC _ e) (zF _) (show nI X.prog X.w _ _ _ (.tup ys) from⟨hz,its,d,IsTup.new _ _⟩)
  exact⟨.ref h'.objs.size,_,m,rfl,q _ (g.hok.fresh (zF _))⟩
 ·obtain⟨its,d,pl,hz⟩:=I.tuple c;exact call_tuple_same pl ⟨.ref p,H,I,rfl,q⟩
def tyV(K:Frag)(T:String)(x:V)(H:Hp):Prop:=match x with
 |.str _=>T="str"
 |.int _=>T="int"
 | .ref p=>(T="list" /\ ∃xs,SqL K H p xs)\/(T="tuple" /\ ∃o,K.lookup p=some o/\o.cls=.type "tuple" /\ o.dict=none) \/
   (T="dict" /\ ((∃kvs,H p=some (.dK kvs))\/∃kvs,H p=some (.dT kvs)))\/(T="set" /\ ∃S n,H p=some (.set S n))
 |_=>False
theorem Nf{u:PN}{q:St}{H:Hp}{s:Shared}{T:String}{x:V}{v:Value}(I:Inv X u q H s)(r:RelV x v)(ty:tyV X.K T x H):
  s.TypeIs v T/\∀a,v=.ref a->∃l,s.heap.get? a=some l/\l.dict=none:=by
 cases x with
 |str z =>
  obtain⟨g,rfl⟩:=r;cases(show T="str" from ty);exact⟨typeIs_str s z g,λ_ e=>nomatch e⟩
 |int i =>
  obtain⟨g,rfl⟩:=r;cases(show T="int" from ty);exact⟨typeIs_int s i g,λ_ e=>nomatch e⟩
 | ref p =>
  cases r;rcases ty with⟨rfl,xs,t⟩|⟨rfl,o,d,m,k⟩|⟨rfl,d⟩|⟨rfl,w,n,d⟩
  ·obtain⟨its,_,pl,_⟩:=I.list t;refine⟨pl.isList.typeIs,λa e=>?_⟩;cases e;obtain⟨o,n,e,c,k,_⟩:=pl;exact⟨o,e,k⟩
  ·refine⟨⟨o,I.kIn p o d,m⟩,λa e=>?_⟩;cases e;exact⟨o,I.kIn _ o d,k⟩
  ·have z:∃o,s.heap.get? p=some o/\o.ExactDict:=by
    rcases d with⟨kvs,d⟩|⟨kvs,d⟩
    ·obtain⟨_,_,_,_,o,_,_,e,f,_⟩:=I.hok p _ d;exact⟨o,e,f⟩
    ·obtain⟨_,_,_,_,o,_,_,e,f,_⟩:=I.hok p _ d;exact⟨o,e,f⟩
   obtain⟨o,e,f⟩:=z;refine⟨⟨o,e,f.1⟩,λa j=>?_⟩;cases j;exact⟨o,e,f.2.1⟩
  ·obtain⟨o,_,_,_,e,f,_⟩:=I.hok p _ d;refine⟨⟨o,e,f.1⟩,λa j=>?_⟩;cases j;exact⟨o,e,f.2.1⟩
 |_=>exact False.elim ty
def tBM0(K:Frag)(T:String)(r:V->List V->Hp->VK->Prop)(to:TE):TE:=λσ H Q=>to σ H λx H1=>tyV K T x H1/\r x [] H1 Q
def tBM(K:Frag)(T:String)(r:V->List V->Hp->VK->Prop)(to:TE)(t:TA):TE:=λσ H Q=>to σ H λx H1=>tyV K T x H1/\t σ H1 λxs H2=>r x xs H2 Q
variable {o e:Expr} {es:List Expr} {to:TE} {t:TA} {name:Str} {apos cpos:Pos} {T id:String} {r:V->List V->Hp->VK->Prop}
theorem jX(F:PlainAttrs T)(q:Slot T name id)(K:typeOf (.builtin id)=pure (.type "method_descriptor"))(k:MtR X id r)(G:PE X o to)(m:PA X (e:: es) t)
  (w:attributeBase o name X.env (eval o X.env)=eval o X.env:=by rfl)
  (J:((backTo cpos (starEach (e:: es) X.env)).all (λx=>!x.1) && (backToKw cpos (keywordEach [] X.env)).all (λx=>x.1.isSome)
   && decide ((e:: es).length+([]:List Keyword).length+(if([]:List Keyword).isEmpty then 0 else 1)<30))=true:=by rfl)
  (y:(apos.endLine == cpos.line)=true:=by rfl)(C:starEach (e:: es) X.env=(false,eval e X.env):: starEach es X.env:=by rfl)(i:(backTo cpos (starEach es X.env)).any (·.1)=false:=by rfl):
  PE X (.Call (.Attribute o name apos) (e:: es) [] cpos) (tBM X.K T r to t):=by
 intro c s d H Q I h;refine wpAny_Call_method_late w J y rfl (thn (G c s d H _ I h) λv p⟨x,H1,g,r1,ty,z⟩=>?_);obtain⟨j,D⟩:=Nf g r1 ty;refine⟨T,id,F,q,K,j,D,?_⟩;have f:=m cpos c p d H1 _ g z;rw[C]at f ⊢;refine sD (by show(false || (backTo cpos (starEach es X.env)).any (·.1))=false;rw[i] <;> rfl) (vU ?_);exact thn f λus l⟨vs,H2,n,r2,u⟩=>k c l d H2 x vs v us Q n r1 r2 u
end
def MtM(X:Cx)(id:String)(r:V->List V->Hp->VK->Prop):Prop:=
 ∀(pins:PN)(s:Shared)(σ:St)(H:Hp)(x:V)(xs:List V)(v:Value)(us:LW)(Q:VK),Inv X pins σ H s->RelV x v->Vals xs us->r x xs H Q ->
  wpAny (model X.prog X.w) X.A (call (.builtin id) (v:: us)) (EP X pins σ Q) X.xe s
theorem Vals.one{x:V}{us:LW}(h:Vals [x] us):∃u,us=[u]/\RelV x u:=by
 cases h with|cons r h=>cases h;exact⟨_,rfl,r⟩
theorem Vals.two{x y:V}{us:LW}(h:Vals [x,y] us):∃u v,us=[u,v]/\RelV x u/\RelV y v:=by
 cases h with|cons r h=>obtain⟨v,rfl,q⟩:=Vals.one h;exact⟨_,_,rfl,r,q⟩
theorem Vals.eraseIdx:∀{xs:List V}{us:LW}(i:Nat),Vals xs us->Vals (xs.eraseIdx i) (us.eraseIdx i)
 |_,_,_,.nil=>.nil
 |_,_,0,.cons _ t=>t
 |_,_,i+1,.cons r t=>.cons r (Vals.eraseIdx i t)
theorem Vals.reverse{xs:List V}{us:LW}(h:Vals xs us):Vals xs.reverse us.reverse:=by
 induction h with
 |nil=>exact .nil
 |cons r b a=>rw[List.reverse_cons,List.reverse_cons];exact Vals.append a (.cons r .nil)
theorem Vals.rep{xs:List V}{us:LW}(h:Vals xs us):∀k:Nat,Vals (List.replicate k xs).flatten (List.replicate k us).flatten
 |0=>.nil
 |k+1=>by
  rw[vB,vB,tW,tW];exact Vals.append h (Vals.rep h k)
theorem Fx{a:Type}:∀(l:List a)(i:Nat),(l.eraseIdx i).length<=l.length
 |[],_=>zF _
 |_:: _,0=>uR _
 |_:: r,i+1=>Nat.succ_le_succ (Fx r i)
theorem Fw(its:LW):∀(k:Nat)(acc:LW),
  List.foldl (λc b=>c++b) acc.toArray (List.replicate k its.toArray)=(acc++(List.replicate k its).flatten).toArray
 |0,acc=>by simp
 | k+1,acc=>by
  have e:acc.toArray++its.toArray=(acc++its).toArray:=by simp
  have a:(acc++its)++(List.replicate k its).flatten=acc++(List.replicate (k+1) its).flatten:=by
   rw[vB,tW,yE]
  rw[←a,←Fw its k (acc++its),←e,vB,wE]
section
variable {X:Cx} {pins:PN} {σ:St} {H:Hp} {s:Shared} {l b:Addr} {xs ys zs:List V}
theorem Inv.lset{its its':LW}{n:Nat}{f:Array Value->Array Value}{t':Nat}(I:Inv X pins σ H s)(c:H l=some (.lst xs))
  (e:s.heap.get? l=some {cls:=.type "list",data:=.seq its.toArray n})(hf:f its.toArray=its'.toArray)(d:Vals ys its')(hz:ys.length<=sizeLine):
  Inv X pins σ (upd H l (.lst ys)) {s with heap:=s.heap.update l (Obj.mapSeq f),toks:=t'}:=by
 have q:=PySem.IsL.update e f;rw[hf]at q;refine I.write (x:=l) (e:=l) (by rw[c];exact trivial) (.inl rfl) (λi u g a=>(vI s.heap (Obj.mapSeq f) (yF g)).trans a) ⟨_,q⟩ ?_;exact⟨hz,its',_,d,q⟩
theorem Inv.lnew{its:LW}{t':Nat}(I:Inv X pins σ H s)(a:Vals ys its)(hz:ys.length<=sizeLine):
  Inv X pins σ (upd H s.heap.objs.size (.lst ys)) {s with heap:=s.heap.push {cls:=.type "list",data:=.seq its.toArray},toks:=t'}:=
 I.laid (λ_ _ q=>zC _ q) (zF _) ⟨hz,its,0,a,zP _ rfl⟩
theorem Inv.fresh(I:Inv X pins σ H s):H s.heap.objs.size=none:=I.hok.fresh (zF _)
theorem Inv.lstM(I:Inv X pins σ H s)(a:H l=some (.lst xs)):xs.length<=sizeLine/\∃(its:LW)(n:Nat),Vals xs its/\xs.length=its.length/\s.heap.get? l=some {cls:=.type "list",data:=.seq its.toArray n}:=by
 obtain⟨z,its,n,r,e⟩:=I.hok l _ a;exact⟨z,its,n,r,r.length,e⟩
theorem Nd{n:Nat}(h:n<=sizeLine):Builtin.List.listTooLong n=false:=by
 unfold Builtin.List.listTooLong;exact zO ⋯
end
section
variable {X:Cx}
def Nc:V->List V->Hp->VK->Prop:=λx vs H Q=>∃l xs y,x=.ref l/\vs=[y]/\H l=some (.lst xs)/\xs.length<sizeLine/\Q .non (upd H l (.lst (xs++[y])))
theorem jY:MtM X "list.append" Nc:=by
 intro g s f H x vs v us Q I b c h;obtain⟨l,xs,y,rfl,rfl,a,hz,q⟩:=h;cases b;obtain⟨u,rfl,d⟩:=c.one;obtain⟨z,its,n,r,hl,e⟩:=I.lstM a;refine pL F.slot_list_append ⟨_,e,rfl⟩ F.entry_list_append (F.args_list_append_2 _ _) (PySem.list_append l its.toArray n u (by rw[zW];omega)) ⟨e,?_⟩;refine⟨.non,_,I.lset (its':=its++[u]) a e (by simp) (r.append (.cons d .nil)) ?_,rfl,q⟩;rw[zX,List.length_singleton];omega
def Nb:V->List V->Hp->VK->Prop:=λx vs H Q=>∃l xs i k y,x=.ref l/\vs=[.int i]/\H l=some (.lst xs)/\-(2^63)<=i/\i<2^63/\seqIndex? i xs.length=some k/\xs[k]?=some y/\Q y (upd H l (.lst (xs.eraseIdx k)))
theorem Na:MtM X "list.pop" Nb:=by
 intro D s C H x vs v us Q I b m h;obtain⟨l,xs,i,k,y,rfl,rfl,a,j,o,t,f,q⟩:=h;cases b;obtain⟨u,rfl,p⟩:=m.one;obtain⟨d,rfl⟩:=p;obtain⟨z,its,n,r,hl,e⟩:=I.lstM a;obtain⟨w,c,g⟩:=r.get f;refine pL F.slot_list_pop ⟨_,e,rfl⟩ F.entry_list_pop (F.args_list_pop_2 _ _)
  (MeetsSeq.list_pop_at l its.toArray n i d k w (fitsIndex_both j o) (by rw[zW,←hl];exact t) (by rw[←yM];exact c) (by rw[zW];omega)) ⟨e,?_⟩
 refine⟨y,_,I.lset (its':=its.eraseIdx k) a e ?_ (r.eraseIdx k) ?_,g,q⟩
 ·show its.toArray.eraseIdxIfInBounds k=(its.eraseIdx k).toArray;rw[List.eraseIdxIfInBounds_toArray]
 ·have:=Fx xs k;omega
def rCat:R2:=λx y H Q=>∃l b xs zs,x=.ref l/\y=.ref b/\H l=some (.lst xs)/\H b=some (.lst zs)/\xs.length+zs.length<=sizeLine/\∀p,H p=none->Q (.ref p) (upd H p (.lst (xs++zs)))
theorem eH:OpR X (binaryOp .Add) rCat:=by
 intro o s k H x y v u Q I c d h;obtain⟨l,b,xs,zs,rfl,rfl,f,j,hz,q⟩:=h;cases c;cases d;obtain⟨z,its,n,r,hl,e⟩:=I.lstM f;obtain⟨m,a,t,r2,p,i⟩:=I.lstM j;refine PySem.P.add_list e i ?_ (by rw[zW,zW];omega);have g:its.toArray++a.toArray=(its++a).toArray:=by simp
 rw[g];exact⟨.ref _,_,I.lnew (t':=s.toks) (r.append r2) (by rw[zX];omega),rfl,q _ I.fresh⟩
def rRep:R2:=λx y H Q=>∃l k xs,x=.ref l/\y=.int k/\H l=some (.lst xs)/\-(2^63)<=k/\k<2^63/\xs.length*k.toNat<=sizeLine /\
 ∀p,H p=none->Q (.ref p) (upd H p (.lst (List.replicate k.toNat xs).flatten))
theorem Oz{b:Type}(xs:List b)(k:Nat):(List.replicate k xs).flatten.length=k*xs.length:=by
 induction k with
 |zero=>simp
 |succ k a=>rw[vB,tW,zX,a,rC,Nat.add_comm]
theorem Oy:OpR X (binaryOp .Mult) rRep:=by
 intro M s K H x y v u Q I f g h;obtain⟨l,k,xs,rfl,rfl,j,i,J,hz,q⟩:=h;cases f;obtain⟨b,rfl⟩:=g;obtain⟨z,its,n,r,hl,e⟩:=I.lstM j;have o:its.toArray.size*k.toNat<=sizeLine:=by rw[zW,←hl];exact hz
 have D:¬ its.toArray.size*k.toNat > (2^63-1)/8:=by
  have:(sizeLine:Nat)<=(2^63-1)/8:=∅
  omega
 have p:¬ (!Builtin.List.listFitsIndex k)=true:=by
  rw[fitsIndex_both i J];exact yH
 have w:¬ Builtin.List.listTooLong (its.toArray.size*k.toNat)=true:=by
  rw[Nd o];exact yH
 have G:List.foldl (λc d=>c++d) #[] (List.replicate (if its.toArray.isEmpty=true then 0 else k.toNat) its.toArray)=(List.replicate k.toNat its).flatten.toArray:=by
  have C:∀m:Nat,List.foldl (λc d=>c++d) #[] (List.replicate m its.toArray)=(List.replicate m its).flatten.toArray:=λm=>by
   have:=Fw its m [];rw[List.nil_append]at this;exact this
  rw[C];cases its with
  |nil=>simp
  |cons a L=>rw[zD (by simp)]
 refine wpAny_binaryOp_repeat_ref (T:= "list") (U:= "int") ∅ ⟨_,e,rfl⟩ (λt=>typeIs_int t k b) noFill_list_mul F.fills_int_mul F.slot_int_rmul repeat_list F.slot_int_index.lookup
  (pL F.slot_int_rmul (typeIs_int s k b) F.entry_int_rmul (F.args_int_rmul_2 _ _) (int___rmul___int_list k b l its.toArray n)
   ⟨e,rfl,⟨_,e,rfl⟩,pL F.slot_list_mul ⟨_,e,rfl⟩ F.entry_list_mul (F.args_list_mul_2 _ _) (AutoListH.list___mul___list_int_3 l its.toArray n k b p D w) ⟨e,?_⟩⟩)
 rw[G];exact⟨.ref _,_,I.lnew (t':=s.toks) (r.rep k.toNat) (by rw[Oz,qR];exact hz),rfl,q _ I.fresh⟩
end
section
variable {prog:Program} {w:World} {A:Around} {E:VP} {s:Shared}
set_option maxRecDepth 100000 in
end
end L2
namespace Att
open PySem PySem.W PySem.Calls PyProof.Rows
theorem Ox{P:Params}{h:Heap}:∀(ns:LI')(vs:LW),WellAll P h vs (ns.map WData.int)->IntsAre vs ns:=by
 intro ns
 induction ns with
 |nil =>
  intro vs w;rw[qO]at w;cases w;exact .nil
 | cons n ns c =>
  intro vs w;rw[zI]at w;cases w with
  |cons a b =>
   cases a;exact .cons _ _ (c _ b)
theorem Fv{l:OpenLaw}{n:Nat}(o:l.most=some n){P:Params}{h:Heap}{args:List WData}{vals:LW}
  (f:l.row.toRowW.claim.pre args=true)(m:WellAll P h vals args):
  ∃a vs ns,vals=[Value.ref a]/\args=[WData.list (ns.map WData.int)]/\h.get? a=some {cls:=.type "list",data:=.seq vs.toArray}/\IntsAre vs ns/\ns.length<=n:=by
 have t:WShape.hasAll [] args [.list .int]=true:=(pre_splitW f).1;have e:l.pre.holds [] {args:=args}=true:=(pre_splitW f).2;obtain⟨d,r,rfl,j,v⟩:=hasAllW_cons t;obtain rfl:=hasAllW_nil v;obtain⟨xs,rfl,p⟩:=hasW_list j;obtain⟨ns,rfl⟩:=items_int p;have k:ns.length<=n:=by
  unfold OpenLaw.pre at e;have c:(WTm.not (.lt (.lit (.int (n:Int))) (.len (.arg 0)))).holds [] {args:=[.list (ns.map .int)]}=true:=by
   have c:=(holds_andW e).1;rw[o]at c;exact c
  have b:=condW_of c (w_not (w_lt w_lit (w_len_list (w_arg rfl))));rw[yO]at b;refine Nat.le_of_not_lt λq=>?_;have x:(n:Int)<((ns.length:Nat):Int):=⋯
  first
   |(rw[zQ x]at b;exact absurd b ∅)
   |(simp at b;omega)
 cases m with
 |cons g u =>
  cases u;cases g with
  |list w i=>exact⟨_,_,ns,rfl,rfl,w,Ox ns _ i,k⟩
theorem Fu(l:OpenLaw)(args:List WData):l.row.toRowW.claim.post args (.bool true) args=true:=
 postW_of (r:=l.row.toRowW) (X:=(true == true))
  (show WShape.has [] (.bool true) .bool=true by first|rfl|decide|simp[WShape.has,WShape.arms,WShape.armsAll])
  (show(WTm.eq .res (.lit (.bool true))).value [] {args:=args,res:=some (.bool true),after:=args}=some (.bool (true == true)) from w_eq_bool (w_res rfl) w_lit) rfl
theorem attach_call{l:OpenLaw}{n:Nat}{q:Program}{u:List Str}{x:(MT)->Heap->Prop}{t:World->Heap->Prop}{d:DefRec}
  (V:l.most=some n)(D:d.params.defaults=[])
  (call:∀(w:World)(p b:Shared)(g m:MT)(c:Addr)(o:Obj)(k i j:Value)(a:Addr)(vs:LW)(ns:LI'),
   Ground q u [] x w p g m b.heap->t w b.heap ->
   b.heap.get? c=some o->o.data=.func (docDef d.name d.params d.body d.scope k i j)->b.heap.CodeRec i d.name->g d.name=some (.ref c) ->
   b.heap.get? a=some {cls:=.type "list",data:=.seq vs.toArray}->IntsAre vs ns->ns.length<=n->b.gens=#[] ->
   codeAny (model l.prog w) callerA (.call (.ref c) ⟨[.ref a],[]⟩) (λr e=>r=.ok (.ret (.bool true))/\OldK b.heap e.heap/\e.os=b.os/\AllBare e.gens) b):
  WalkO q u x t l.row.toRowW d [] (λf vs=>PySem.call f vs):=by
 intro w p b g m G I c o k i j J kV S P W v N F a0 vals as M Z X y Y;obtain rfl:J=.none:=Dflts.none v D;obtain rfl:kV=.none:=Dflts.noKw v;obtain⟨a,vs,ns,rfl,rfl,L,O,K⟩:=Fv V M y;refine enter_call (uJ (call w p b g m c o k i j a vs ns G I S (fd_plain P) W N L O K F) λr e U=>?_);obtain⟨rfl,R,C,T⟩:=U;exact⟨.inl ⟨.bool true,.bool true,[],rfl,λ_=>rfl,.bool true,Fu l _,λ_=>⟨List.Pairwise.nil,λ_ z=>(nomatch z)⟩⟩,R,C,T⟩
section
variable {prog:Program} {w:World} {A:Around} {E:VP} {s:Shared} {K:Frag}
def t_C(h:Heap)(L d:Addr):PN:=(List.range h.objs.size).filterMap λa=>if a=L\/a=d then none else(h.get? a).map λo=>(a,o)
end
end Att
namespace L2
open PySem PySem.Spec PyProof.Rows
open PySem.W (Frag)
theorem Ft:∀{vs:LW}{ns:LI'},IntsAre vs ns->Vals (ns.map V.int) vs
 |_,_,.nil=>.nil
 |_,_,.cons n t h=>.cons ⟨t,rfl⟩ (Ft h)
def Only(H:Hp):Prop:=∀b,H b=none\/∃o xs,H b=some (.frz o (.lst xs))
theorem Fs{P:Program}{w:World}{K:Frag}{i t:MT}{M:CXT}{k:Nat}{C a:Addr}{D:FuncData}{x:Str}{T:Sp}{c:Shared}{vs:LW}{ns:LI'}
  (KX:K.In c.heap)(L:c.heap.Ns mainGlobals i)(f:c.heap.Ns builtinsNs t)(b1:∀x:Str,x≠"__name__" -> t x=bootBuiltins x)(W:c.heap.NoLimit)(a2:c.gens=#[])
  (l:c.heap.get? a=some {cls:=.type "list",data:=.seq vs.toArray})(hi:IntsAre vs ns)(hl:ns.length<=sizeLine)(hr:Room k callerA)
  (F:∀base:Heap,K.In base->base.Ns mainGlobals i->FnOk P w K i base M k C D [x] T)(a4:∀(s:Shared)(u:Value),BindsTo s D ⟨[u],[]⟩ [(x,u)])
  (b6:∀H:Hp,Only H->SqL K H a (ns.map V.int)->T [.ref a] H (λv _=>v=.bl true) λ_ _ _=>False)
  (a5:∀H e g,M [] H c (λ_ _ _=>False) e g->False):
  codeAny (model P w) callerA (.call (.ref C) ⟨[.ref a],[]⟩) (λr g=>r=.ok (.ret (.bool true))/\OldK c.heap g.heap/\g.os=c.os/\AllBare g.gens) c:=by
 have I:=Ft hi;have Y:=hi.length
 -- from an abstract heap in which nothing but the script may be tracked
 have G:∀H:Hp,Only H->SqL K H a (ns.map V.int)->HOk P w H c.heap->(∀b,H b≠none->b=a)->(H a≠none->K.lookup a=none) ->
   codeAny (model P w) callerA (.call (.ref C) ⟨[.ref a],[]⟩) (λr g=>r=.ok (.ret (.bool true))/\OldK c.heap g.heap/\g.os=c.os/\AllBare g.gens) c:=by
  intro H S U J N b0;have O:∀{b:Addr}{o:Obj},c.heap.get? b=some o->H b=none->(hidT c.heap H).get? b=some o:=λe n=>Lh e n;have b7:∀{b:Addr}{o:Obj}{es:Array DictEntry}{ep:Nat},c.heap.get? b=some o->o.data=.dict es ep->H b=none:=λ{b o es ep}e d=>by
   cases q:H b with
   |none=>rfl
   |some u =>
    have y:b=a:=N b (by rw[q];simp);subst y;rw[l]at e;cases e;have d':Data.seq vs.toArray _=Data.dict es ep:=d;cases d'
  have p:∀{b:Addr}{m:MT},c.heap.Ns b m->(hidT c.heap H).Ns b m:=λ{b m}⟨o,es,ep,e,d,r⟩=>⟨o,es,ep,O e (b7 e d),d,r⟩;have R:K.In (hidT c.heap H):=λb o e=>O (KX b o e) (by
   cases q:H b with
   |none=>rfl
   |some u =>
    have y:b=a:=N b (by rw[q];simp);subst y;rw[b0 (by rw[q];simp)]at e;cases e)
  have b5:Mod K i (hidT c.heap H):=⟨R,p L,⟨t,p f,b1⟩,let ⟨a7,X,b2⟩:=W;⟨a7,p X,b2⟩⟩;have a3:Env0 P w K i (hidT c.heap H) callerA [] c H:=⟨rfl,b5,λb o e=>Lg e,sT (Li _ _),trivial,λb f=>absurd (show b∈([]:LA) from f) (by simp),J,.of_eq a2⟩;refine uJ ((F _ R (p L)).run callerA [] c H ⟨[.ref a],[]⟩ [.ref a] [.ref a] _ _ hr a3 (a4 c (.ref a)) (.cons rfl .nil) (b6 H S U)) λr g h=>?_;cases r with
  |error e=>exact(a5 H e g h).elim
  | ok fl =>
   cases fl with
   |next=>exact False.elim h
   |brk=>exact False.elim h
   |cont=>exact False.elim h
   | ret u =>
    obtain⟨v,H',b3,b4,un,a6,a0,q⟩:=h;have a1:v=.bl true:=q;subst a1;obtain rfl:u=Value.bool true:=a0;refine⟨rfl,OldK.of_keep λb o e=>?_,b3,b4⟩;cases q:H b with
    |none=>exact un.keep b o e q (by intro z;exact absurd (show b∈([]:LA) from z) (by simp)) (by simp)
    |some u =>
     rcases S b with z|⟨a8,xs,z⟩
     ·rw[q]at z;cases z
     ·have a9:=un.frzs b a8 _ z;obtain⟨e1,_⟩:=J b _ z;obtain⟨Z,_⟩:=a6 b _ a9;rw[e]at e1;cases e1;exact Z
 cases hk:K.lookup a with
 |some o =>
  -- the script is one of the module's own objects
  have e:=KX a o hk;rw[l]at e;cases e;refine G (λ_=>none) (λ_=>.inl rfl) (.inr ⟨_,vs.toArray,_,hk,rfl,rfl,rfl,by rw[zW,Y];exact hl,by simpa using I⟩) (λb u z=>by have j:(none:Option HO)=some u:=z;cases j) (λb z=>absurd rfl z) λz=>absurd rfl z
 | none =>
  refine G (λb=>if b=a then some (.frz {cls:=.type "list",data:=.seq vs.toArray} (.lst (ns.map V.int))) else none) (λb=>?_) (.inl (.inr ⟨{cls:=.type "list",data:=.seq vs.toArray},zE rfl⟩)) (λb u z=>?_) (λb z=>?_) λ_=>hk
  ·by_cases f:b=a
   ·exact .inr ⟨_,_,zE f⟩
   ·exact .inl (zD f)
  ·by_cases f:b=a
   ·have j:=(zE f).symm.trans z;cases j;subst f;exact⟨l,by rw[yO];exact hl,vs,_,I,l⟩
   ·have j:=(zD f).symm.trans z;cases j
  ·by_cases f:b=a
   ·exact f
   ·exact absurd (zD f) z
abbrev KOf{K:Frag}{h:Heap}(_:K.In h):Frag:=K
theorem t_B{l:PySem.W.OpenLaw}{n k:Nat}{q:Program}{P:List Str}{R:(MT)->Heap->Prop}{p:World->Heap->Prop}{d:DefRec}{K:Params->Frag}{m:World->CXT}{r:World->Sp}{x:Str}
  (X:l.most=some n)(U:n<=sizeLine)(z:d.params.defaults=[])(hr:Room k callerA)
  (O:∀(w:World)(h:Heap),p w h->(K w.params).In h)
  (F:∀(w:World)(b:MT)(c:Addr)(h:Heap),(K w.params).In h->h.Ns mainGlobals b->b d.name=some (.ref c) ->
   ∃g:FuncData,(∀(s:Shared)(u:Value),BindsTo s g ⟨[u],[]⟩ [(x,u)]) /\
    ∀base:Heap,(K w.params).In base->base.Ns mainGlobals b->FnOk l.prog w (K w.params) b base (m w) k c g [x] (r w))
  (W:∀(w:World)(H:Hp)(a:Addr)(ns:LI'),ns.length<=n->Only H->SqL (K w.params) H a (ns.map V.int)->r w [.ref a] H (λv _=>v=.bl true) λ_ _ _=>False)
  (L:∀(w:World)(H:Hp)(s:Shared)(e:Value)(i:Shared),m w [] H s (λ_ _ _=>False) e i->False):
  PySem.W.WalkO q P R p l.row.toRowW d [] (λf vs=>PySem.call f vs):=by
 refine Att.attach_call X z λw a4 S b a3 c o Z a0 Y a vs ns G D a2 a1 a5 J I M j C=>?_;have KX:=O w _ D;obtain⟨g,y,N⟩:=F w b c _ KX G.T.g J;exact Fs KX G.T.g G.T.b G.T.builtins G.T.nolimit C I M (yC j U) hr N y (λH T t=>W w H a ns j T t) λH e i=>L w H S e i
def eI(s:Stmt)(j:Nat):Stmt:=match s with
 |.ClassDef _ _ _ body _ _ _ _ _ _ _=>body.getD j (.Pass ⟨0,0,0,0⟩)
 |_=>.Pass ⟨0,0,0,0⟩
def kW(s:Stmt):Arguments:=match s with
 |.FunctionDef _ a _ _ _ _ _ _ _ _=>a
 |_=>{posonlyargs:=[],args:=[],vararg:=none,kwonlyargs:=[],kw_defaults:=[],kwarg:=none,defaults:=[]}
def lR(s:Stmt):List Stmt:=match s with
 |.FunctionDef _ _ b _ _ _ _ _ _ _=>b
 |_=>[]
def oQ(s:Stmt):Scope:=match s with
 |.FunctionDef _ _ _ _ _ _ sc _ _ _=>sc
 |_=>{kind:=.function,names:=[],isGenerator:=false,isCoroutine:=false}
abbrev CX0:CXT:=λ_ _ _ _ _ _=>False
abbrev E0:XK:=λ_ _ _=>False
theorem jZ{X:Cx}:jV CX0 X E0:=λ_ _ _ _ _ _ _ h=>h.elim
structure Fun(K:Frag)(x qual:Str)(st:Stmt)(f:Addr)(fd:FuncData):Prop where
 ex:∃(oc:Value)(od:Option Addr)(kV doc pm:Value)(an:Option Addr)(cdv ct:Value)(osl:Array (Option Value)),
  fd=PySem.W.fnOf x qual (kW st) (lR st) (oQ st) .none kV doc pm an cdv ct/\K.lookup f=some ⟨oc,od,.func fd,osl⟩/\PySem.W.codeIn K cdv qual=true
 kp:PySem.W.keepIn K (.ref f)=true
section
variable {P:Program} {w:World} {K:Frag} {mg:MT} {base:Heap}
theorem Fun.ok{x b:Str}{st:Stmt}{f:Addr}{d:FuncData}{N ps:List Str}{k:Nat}{c:Sp}(F:Fun K x b st f d)(g:nB N ps (oQ st))(len:∀vs H Q E,c vs H Q E->vs.length=ps.length)
  (j:∀(cdv:Value)(A:Around)(outer:List Env)(s:Shared)(H:Hp)(vs:List V)(Q:VK)(E:XK),Room k (A.deeper (envOfC b (oQ st) s.heap.objs.size f cdv))->c vs H Q E ->
   ∃a,PSs (cxOf CX0 P w K mg base N b (oQ st) f cdv A outer s H E).nox (lR st) a/\a {nx:=λ_ H'=>Q .non H',rt:=Q} (start N vs) H):FnOk P w K mg base CX0 (k+1) f d ps c:=by
 obtain⟨n,o,kV,r,t,m,cdv,p,u,rfl,e,l⟩:=F.ex;refine cP e l g len λA outer s H vs Q E hr i=>?_;obtain⟨a,h,q⟩:=j cdv A outer s H vs Q E hr i;exact⟨a,h.nox,q⟩
theorem Fun.binds{x g:Str}{st:Stmt}{f:Addr}{e:FuncData}{ps:List Str}(F:Fun K x g st f e)
  (h:∀(kV c d:Value)(a:Option Addr)(cdv b:Value)(us:LW),us.length=ps.length->bindArgs (PySem.W.fnOf x g (kW st) (lR st) (oQ st) .none kV c d a cdv b) ⟨us,[]⟩=pure (ps.zip us)):mF K e ps []:=by
 obtain⟨i,j,kV,c,d,a,cdv,b,l,rfl,k,m⟩:=F.ex;exact .all (h kV c d a cdv b)
theorem fun_mk{x a:Str}{st:Stmt}{f:Addr}{i:Value}{j b:Option Addr}{m:Array (Option Value)}{kV e g cdv d:Value}(l:K.lookup f=some ⟨i,j,.func (PySem.W.fnOf x a (kW st) (lR st) (oQ st) .none kV e g b cdv d),m⟩)
  (c:PySem.W.codeIn K cdv a=true)(k:PySem.W.keepIn K (.ref f)=true):Fun K x a st f (PySem.W.fnOf x a (kW st) (lR st) (oQ st) .none kV e g b cdv d):=⟨⟨i,j,kV,e,g,b,cdv,d,m,rfl,l,c⟩,k⟩
end
theorem kL{n:Nat}(h:n<=1000):n<sizeLine:=tR h ∅
section
variable {X:Cx}
theorem pv(i:Nat){x:Str}{pos:Pos}(d:X.N[i]?=some x:=by rfl)(c:Vis X.env.scope x:=by first|exact Or.inl rfl|exact Or.inr (Or.inl rfl)|exact Or.inr (Or.inr rfl))(a:(x == ("__debug__" :Str))=false:=by decide)
  (b:(x == ("__classdict__" :Str))=false:=by decide):PE X (.Name x pos) (tVar i):=Le d c a b
end
theorem iteF{A B:Prop}(h:B):if false=true then A else B:=by
 rw[zD yH];exact h
theorem iteT{A B:Prop}(h:A):if true=true then A else B:=by
 rw[zE rfl];exact h
theorem ite2{c A B:Prop}[Decidable c](b:c->A)(a:¬ c->B):if c then A else B:=by
 by_cases h:c
 ·rw[zE h];exact b h
 ·rw[zD h];exact a h
def Same(H H':Hp):Prop:=∀b o,H b=some o->H' b=some o
theorem Same.refl(H:Hp):Same H H:=λ_ _ h=>h
theorem Same.trans{H H1 H2:Hp}(a:Same H H1)(b:Same H1 H2):Same H H2:=λc o h=>b c o (a c o h)
theorem Same.free{H H':Hp}(e:Same H H'){l:Addr}(h:H' l=Option.none):H l=Option.none:=by
 cases q:H l with
 |none=>rfl
 |some o =>
  rw[e l o q]at h;cases h
theorem Same.seq{K:Frag}{H H':Hp}{a:Addr}{xs:List V}(e:Same H H')(h:SqL K H a xs):SqL K H' a xs:=by
 rcases h with(h|⟨o,h⟩)|h
 ·exact .inl (.inl (e _ _ h))
 ·exact .inl (.inr ⟨o,e _ _ h⟩)
 ·exact .inr h
end L2
set_option maxHeartbeats 4000000
namespace L2
open PySem PySem.Spec PyProof.Rows
open PySem.W (Frag)
inductive E1{T0:Type}(P:T0->Prop):Prop
 |mk (x0:T0):P x0->E1 P
inductive E2{T0 T1:Type}(P:T0->T1->Prop):Prop
 |mk (x0:T0) (x1:T1):P x0 x1->E2 P
inductive E3{T0 T1 T2:Type}(P:T0->T1->T2->Prop):Prop
 |mk (x0:T0) (x1:T1) (x2:T2):P x0 x1 x2->E3 P
inductive E4{T0 T1 T2 T3:Type}(P:T0->T1->T2->T3->Prop):Prop
 |mk (x0:T0) (x1:T1) (x2:T2) (x3:T3):P x0 x1 x2 x3->E4 P
inductive E5{T0 T1 T2 T3 T4:Type}(P:T0->T1->T2->T3->T4->Prop):Prop
 |mk (x0:T0) (x1:T1) (x2:T2) (x3:T3) (x4:T4):P x0 x1 x2 x3 x4->E5 P
inductive E6{T0 T1 T2 T3 T4 T5:Type}(P:T0->T1->T2->T3->T4->T5->Prop):Prop
 |mk (x0:T0) (x1:T1) (x2:T2) (x3:T3) (x4:T4) (x5:T5):P x0 x1 x2 x3 x4 x5->E6 P
inductive E7{T0 T1 T2 T3 T4 T5 T6:Type}(P:T0->T1->T2->T3->T4->T5->T6->Prop):Prop
 |mk (x0:T0) (x1:T1) (x2:T2) (x3:T3) (x4:T4) (x5:T5) (x6:T6):P x0 x1 x2 x3 x4 x5 x6->E7 P
inductive E8{T0 T1 T2 T3 T4 T5 T6 T7:Type}(P:T0->T1->T2->T3->T4->T5->T6->T7->Prop):Prop
 |mk (x0:T0) (x1:T1) (x2:T2) (x3:T3) (x4:T4) (x5:T5) (x6:T6) (x7:T7):P x0 x1 x2 x3 x4 x5 x6 x7->E8 P
inductive E9{T0 T1 T2 T3 T4 T5 T6 T7 T8:Type}(P:T0->T1->T2->T3->T4->T5->T6->T7->T8->Prop):Prop
 |mk (x0:T0) (x1:T1) (x2:T2) (x3:T3) (x4:T4) (x5:T5) (x6:T6) (x7:T7) (x8:T8):P x0 x1 x2 x3 x4 x5 x6 x7 x8->E9 P
inductive A3(a b c:Prop):Prop|mk:a->b->c->A3 a b c
inductive A4(a b c d:Prop):Prop|mk:a->b->c->d->A4 a b c d
inductive A5(a b c d e:Prop):Prop|mk:a->b->c->d->e->A5 a b c d e
inductive A6(a b c d e f:Prop):Prop|mk:a->b->c->d->e->f->A6 a b c d e f
inductive A7(a b c d e f g:Prop):Prop|mk:a->b->c->d->e->f->g->A7 a b c d e f g
inductive A8(a b c d e f g h:Prop):Prop|mk:a->b->c->d->e->f->g->h->A8 a b c d e f g h
inductive A9(a b c d e f g h i:Prop):Prop|mk:a->b->c->d->e->f->g->h->i->A9 a b c d e f g h i
inductive A10(a b c d e f g h i j:Prop):Prop|mk:a->b->c->d->e->f->g->h->i->j->A10 a b c d e f g h i j
inductive A11(a b c d e f g h i j k:Prop):Prop|mk:a->b->c->d->e->f->g->h->i->j->k->A11 a b c d e f g h i j k
inductive A14(a b c d e f g h i j k l m n:Prop):Prop|mk:a->b->c->d->e->f->g->h->i->j->k->l->m->n->A14 a b c d e f g h i j k l m n
inductive A17(a b c d e f g h i j k l m n o p q:Prop):Prop|mk:a->b->c->d->e->f->g->h->i->j->k->l->m->n->o->p->q->A17 a b c d e f g h i j k l m n o p q
def clOf(env:Env):List (Str×NameKind)->List (Str×Addr)->List (Str×Addr)
 |[],cs=>cs
 |(n,k):: r,cs=>clOf env r (if k == .free then(n,(env.cells.lookup n).getD 0):: cs else cs)
theorem Ae{env:Env}{n:Str}{c:Addr}:∀{l:List (Str×NameKind)}{cs:List (Str×Addr)},(∀y∈l,y.2=.free->∃c,env.cells.lookup y.1=some c) ->
  (clOf env l cs).lookup n=some c->cs.lookup n=some c\/env.cells.lookup n=some c
 |[],_,_,h=>.inl h
 | (m,k):: r,cs,hl,h=>by
  have hr:∀y∈r,y.2=.free->∃c,env.cells.lookup y.1=some c:=λy d=>hl y (zN _ d);rcases Ae hr h with q|q
  ·by_cases a:(k == NameKind.free)=true
   ·rw[zE a]at q;obtain⟨f,e⟩:=hl (m,k) zY (by simpa using a);rw[xD]at q;cases hm:n == m with
    |true =>
     rw[hm]at q;have b:(env.cells.lookup m).getD 0=c:=zU q;have g:n=m:=by simpa using hm
     rw[e]at b;have i:f=c:=b;rw[g,e,i];exact .inr rfl
    |false =>
     rw[hm]at q;exact .inl q
   ·rw[zD a]at q;exact .inl q
  ·exact .inr q
theorem Ad{env:Env}{n:Str}:∀{l:List (Str×NameKind)}{cs:List (Str×Addr)},((n,NameKind.free)∈l\/∃c,cs.lookup n=some c)->∃c,(clOf env l cs).lookup n=some c
 |[],_,h=>by
  rcases h with h|h
  ·simp at h
  ·exact h
 | (m,k):: r,cs,h=>by
  refine Ad (l:=r) ?_
  by_cases b:(n,NameKind.free)∈r
  ·exact .inl b
  ·refine .inr ?_;rcases h with h|⟨c,h⟩
   ·rcases xC.mp h with e|e
    ·cases e;rw[zE ∅];exact⟨(env.cells.lookup n).getD 0,by rw[xD];simp⟩
    ·exact absurd e b
   ·by_cases a:(k == NameKind.free)=true
    ·rw[zE a,xD];cases hm:n == m with
     |true=>exact⟨_,rfl⟩
     |false=>exact⟨c,h⟩
    ·rw[zD a];exact⟨c,h⟩
theorem Fq{d:Scope}{env:Env}(h:∀y∈d.names,y.2=.free->∃c,env.cells.lookup y.1=some c):closureFor d env=pure (clOf env d.names []):=by
 have go:∀(l:List (Str×NameKind))(cs:List (Str×Addr)),(∀y∈l,y.2=.free->∃c,env.cells.lookup y.1=some c) ->
   (forIn l cs (λ(x:Str×NameKind)(r:List (Str×Addr))=>if x.2 == NameKind.free then(do let a ←cellOf env x.1;pure (ForInStep.yield ((x.1,a):: r))) else(pure (ForInStep.yield r):Sem _)):Sem _)=pure (clOf env l cs):=by
  intro l
  induction l with
  |nil=>intro cs _;rfl
  | cons y r f =>
   intro cs hl;obtain⟨n,k⟩:=y;have hr:∀y∈r,y.2=.free->∃c,env.cells.lookup y.1=some c:=λy g=>hl y (zN _ g);rw[uL]
   by_cases b:(k == NameKind.free)=true
   ·obtain⟨c,e⟩:=hl (n,k) zY (by simpa using b);have e1:cellOf env n=pure c:=by unfold cellOf;rw[show env.cells.lookup n=some c from e]
    dsimp only;rw[zE b,e1];simp only[pure_bind];rw[f _ hr];show _=pure (clOf env r _);rw[zE b,show env.cells.lookup n=some c from e]
    all_goals rfl
   ·dsimp only;rw[zD b];simp only[pure_bind];rw[f _ hr];show _=pure (clOf env r _);rw[zD b]
 have e:closureFor d env=(forIn d.names ([]:List (Str×Addr)) (λ(x:Str×NameKind)(r:List (Str×Addr))=>if x.2 == NameKind.free then(do let a ←cellOf env x.1;pure (ForInStep.yield ((x.1,a):: r))) else(pure (ForInStep.yield r):Sem _)):Sem _):=by
  unfold closureFor
  first
   |rfl
   |(simp only[bind_pure];rfl)
   |(simp;done)
 rw[e];exact go _ _ h
theorem Fp{env:Env}:∀{b:List (Str×NameKind)}{x:Str},b.lookup x=some .free ->
  (b.map λ(n,k)=>if(k == NameKind.free && env.scope.kind == .function && env.kindOf n == some .cell) then(n,NameKind.cell) else(n,k)).lookup x=some .cell \/
  (b.map λ(n,k)=>if(k == NameKind.free && env.scope.kind == .function && env.kindOf n == some .cell) then(n,NameKind.cell) else(n,k)).lookup x=some .free
 |[],_,h=>by simp at h
 | (n,k):: r,x,h=>by
  have c:=@Fp env r x;cases hx:x == n with
  |true =>
   simp only[List.lookup_cons,hx]at h;cases h
   by_cases a:(NameKind.free == NameKind.free && env.scope.kind == .function && env.kindOf n == some .cell)=true
   ·refine .inl ?_;rw[zI];dsimp only;rw[zE a,xD,hx]
   ·refine .inr ?_;rw[zI];dsimp only;rw[zD a,xD,hx]
  |false =>
   simp only[List.lookup_cons,hx]at h;rw[zI];dsimp only
   by_cases a:(k == NameKind.free && env.scope.kind == .function && env.kindOf n == some .cell)=true
   ·rw[zE a,xD,hx];exact c h
   ·rw[zD a,xD,hx];exact c h
structure cQ(X:Cx)(scope:Scope)(x:Str)(fr:List (Str×Nat)):Prop where
 kind:scope.kind=.function
 cell:∀y∈scope.names,y.2≠.cell
 free:∀y∈scope.names,y.2=.free->X.env.kindOf y.1=some .cell\/X.env.kindOf y.1=some .free
 loc:∀y∈scope.names,y.2=.local->scope.names.lookup y.1=some .local
 name:scope.names.lookup x=some .local
 nd:(x:: fr.map (·.1)).Nodup
 fr:∀p∈fr,X.N[p.2]?=some p.1/\scope.names.lookup p.1=some .free
def mL(fr:List (Str×Nat))(σ:St):St:=fr.map λp=>σ.getD p.2 none
section
variable {X:Cx} {scope:Scope} {x:Str} {fr:List (Str×Nat)}
theorem cQ.cells{a:PN}{b:St}{H:Hp}{s:Shared}(c:cQ X scope x fr)(I:Inv X a b H s):∀y∈scope.names,y.2=.free->∃c,X.env.cells.lookup y.1=some c:=
 λy d hf=>I.ok.has y.1 (c.free y d hf)
theorem cQ.was{d:PN}{a:St}{H:Hp}{s:Shared}(c:cQ X scope x fr)(I:Inv X d a H s){y:Str}{b:Addr}(h:(clOf X.env scope.names []).lookup y=some b):X.env.cells.lookup y=some b:=by
 rcases Ae (c.cells I) h with q|q
 ·simp at q
 ·exact q
def Fo(i:Nat)(te:TE):TS:=λD σ H=>te σ H λv H1=>D.nx (σ.set i (some v)) H1
end
theorem nI.there{P:Program}{w:World}{H:Hp}{h:Heap}{a:Addr}{o:HO}(x:nI P w H h a o):∃b,h.get? a=some b:=by
 cases o with
 |lst xs=>obtain⟨_,_,_,_,e⟩:=x;exact⟨_,e⟩
 |tup xs=>obtain⟨_,_,_,b,e,_⟩:=x;exact⟨b,e⟩
 |dK kvs=>obtain⟨_,_,_,_,o,_,_,e,_⟩:=x;exact⟨_,e⟩
 |dT kvs=>obtain⟨_,_,_,_,o,_,_,e,_⟩:=x;exact⟨_,e⟩
 |set d n=>obtain⟨o,_,_,_,e,_⟩:=x;exact⟨_,e⟩
 |ins C c fs=>obtain⟨_,_,_,e,_⟩:=x;exact⟨_,e⟩
 |own y=>exact x
 |xd fs=>obtain⟨_,⟨_,_,_,e,_⟩,_⟩:=x;exact⟨_,e⟩
 |rng lo hi=>obtain⟨_,_,_,e⟩:=x;exact⟨_,e⟩
 |frz b u=>exact⟨_,x.1⟩
 |tbl ps=>exact⟨_,x⟩
 |met f y=>exact⟨_,x⟩
 |ext g=>exact x.2.1
abbrev Cov(fs:LA)(h₀:Heap)(H:Hp)(h B:Heap):Prop:=∀b o,h.get? b=some o->b∉fs->((∃o',h₀.get? b=some o')\/∃u,H b=some u)->B.get? b=some o
def FlyX(X:Cx)(pins:PN)(H:Hp)(e:Addr)(C:Value)(h:Heap):Prop:=∃B a0,Heap.FlyingW B X.stack e C a0 h/\Cov (frs X.stack) X.s₀.heap H h B/\∀p∈X.pn++pins,B.get? p.1=some p.2
def CX1(P:Program)(w:World):CXT:=λouter H s E ev s'=>∃e C H' B a0,ev=.ref e/\s'.os=s.os/\AllBare s'.gens/\Un (frs outer) [] H H' s.heap s'.heap/\HOk P w H' s'.heap /\
 Heap.FlyingW B outer e C a0 s'.heap/\Cov (frs outer) s.heap H' s'.heap B/\E C none H'
abbrev XE:=St->Value->Hp->Prop
def gK(X:Cx)(EX:XE):Prop:=∀(pins:PN)(σ:St)(H:Hp)(s:Shared)(e:Addr)(C:Value),Inv X pins σ H s->FlyX X pins H e C s.heap->EX σ C H->X.xe (.ref e) s
def Fn(X:Cx)(EX:XE):Prop:=∀(pins:PN)(σ:St)(H:Hp)(s:Shared)(h':Heap)(e:Addr)(C:Value)(vs:LW),Inv X pins σ H s->Heap.MadeExcOf s.heap h' e C vs->EX σ C H->X.xe (.ref e) {s with heap:=h'}
theorem cR{X:Cx}{C:PN}{D:St}{H:Hp}{s:Shared}{g B:Heap}(I:Inv X C D H s)(L:X.stack=X.env:: X.outer)(F:X.env.frame=some X.env.locals)(J:X.ex=[])
  (stay:B.StaysIn g)(sm:s.heap.UpToSlots g)(t:Cov (frs X.stack) X.s₀.heap H s.heap B):
  Un X.fs [] X.H₀ H X.s₀.heap g/\HOk X.prog X.w H g/\Cov X.fs X.s₀.heap H g B:=by
 have u:=I.base;rw[J]at u;have G:frs X.stack=X.env.locals:: X.fs:=by
  rw[L];unfold frs;rw[tK,F];rfl
 have m:∀b o,X.s₀.heap.get? b=some o->b∉X.fs->b∉frs X.stack:=λb o e c l=>by
  rw[G]at l;rcases xC.mp l with z|z
  ·exact absurd (zJ (zL e) I.ok.above) (by rw[z];exact yW _)
  ·exact c z
 have trk:∀b v,H b=some v->b∉frs X.stack:=λb v e l=>by
  have:=I.stkFree b l;rw[e]at this;cases this
 have j:∀b o,s.heap.get? b=some o->b∉frs X.stack->((∃f,X.s₀.heap.get? b=some f)\/∃v,H b=some v)->g.get? b=some o:=λb o e c p=>stay b o (t b o e c p);have y:∀b,b∈X.fs->∀o,s.heap.get? b=some o->∃r,g.get? b=some {o with slots:=r}:=λb c o e=>by
  obtain⟨_,f,d,K⟩:=I.funs.mem c;rw[e]at d;cases d;exact sm b o e K
 refine⟨⟨λb o e n c k=>?_,λb o e n c k=>?_,u.free,λb o e k=>?_,u.tups,u.frzs,u.tbls⟩,λa o x=>?_,λb o e c p=>?_⟩
 ·exact j b o (u.keep b o e n c k) (m b o e c) (.inl ⟨o,e⟩)
 ·obtain⟨r,e1⟩:=u.slot b o e n c k;obtain⟨M,w⟩:=y b c _ e1;exact⟨M,w⟩
 ·obtain⟨i,e1⟩:=u.there b o e k
  by_cases c:b∈X.fs
  ·obtain⟨r,w⟩:=y b c _ e1;exact⟨_,w⟩
  ·exact⟨i,j b i e1 (m b o e c) (.inl ⟨o,e⟩)⟩
 ·refine(I.hok a o x).stay (λb v c q=>?_) (λ_ q=>q) λ_ _ q=>q;rcases c with c|c
  ·subst c;exact j b v q (trk b o x) (.inr ⟨o,x⟩)
  ·exact j b v q (trk b _ c) (.inr ⟨_,c⟩)
 ·rcases p with⟨f,d⟩|⟨v,d⟩
  ·obtain⟨i,e1⟩:=u.there b f d (by simp);have q:=j b i e1 (m b f d c) (.inl ⟨f,d⟩);rw[e]at q;cases q;exact t b o e1 (m b f d c) (.inl ⟨f,d⟩)
  ·obtain⟨i,e1⟩:=(I.hok b v d).there;have q:=j b i e1 (trk b v d) (.inr ⟨v,d⟩);rw[e]at q;cases q;exact t b o e1 (trk b v d) (.inr ⟨v,d⟩)
section
variable {P:Program} {w:World} {K:Frag} {mg:MT} {base:Heap} {N:List Str} {qual:Str} {scope:Scope} {f:Addr} {cd:Value} {A:Around} {outer:List Env} {s₀:Shared} {H₀:Hp} {E:XK}
theorem Ow:gK (cxOf (CX1 P w) P w K mg base N qual scope f cd A outer s₀ H₀ E) (λ_ C H=>E C none H):=by
 intro j g H s e C I F b;obtain⟨B,a0,fl,c,_⟩:=F;refine wpAny_leaves_onW I.ok.frames rfl fl λi a sm=>?_;obtain⟨un,ok,d⟩:=cR I rfl rfl rfl a.1 sm c;exact⟨e,C,H,B,a0,rfl,I.os,I.bare,un,ok,a,d,b⟩
theorem gM:Fn (cxOf (CX1 P w) P w K mg base N qual scope f cd A outer s₀ H₀ E) (λ_ C H=>E C none H):=by
 intro t n H s h' e C vs I M d;have k:=I.stack;have g:=PySem.W.funFrames_hide (as:=frs (cxOf (CX1 P w) P w K mg base N qual scope f cd A outer s₀ H₀ E).stack) k (λenv i a l=>oA.mpr ⟨env,i,l⟩);refine wpAny_leaves_madeW (s:={s with heap:=h'}) (h:=s.heap) I.ok.frames rfl (λb o q=>rV _ q) g M λr p c _ _ sm=>?_;obtain⟨un,ok,m⟩:=cR I rfl rfl rfl c.1 ((Heap.UpToSlots.of_keeps M.keeps).trans sm) λb o q j _=>rJ _ q j;exact⟨e,C,H,_,_,rfl,I.os,I.bare,un,ok,c,m,d⟩
end
section
variable {X:Cx} {EX:XE} {k:Nat} {f:Addr} {fd:FuncData} {ps:List Str} {sp:Sp} {dvs:List V} {ds:LW} {x:Str} {p pos:Pos} {e:Expr} {es:List Expr} {t:TA}
def Ov(sp:Sp)(dvs:List V)(EX:XE)(t:TA):TE:=λσ H Q=>t σ H λvs H1=>sp (vs++dvs) H1 Q λC _ H'=>EX σ C H'
theorem Ou{d:PN}{a:St}{H:Hp}{s:Shared}{Q:VK}{us:LW}{vs:List V}(F:FnOk X.prog X.w X.K X.mg X.base (CX1 X.prog X.w) k f fd ps sp)(hr:Room k X.A)(i:mF X.K fd ps ds)(J:Vals dvs ds)(y:gK X EX)
  (L:X.ex=[])(I:Inv X d a H s)(r:Vals vs us)(h:sp (vs++dvs) H Q λC _ H'=>EX a C H'):wpAny (model X.prog X.w) X.A (call (.ref f) us) (EP X d a Q) X.xe s:=by
 have r2:Vals (vs++dvs) (us++ds):=r.append J;have hl:(us++ds).length=ps.length:=by rw[←r2.length];exact F.len _ _ _ _ h
 refine uO (uJ (F.run X.A X.stack s H ⟨us,[]⟩ (us++ds) (vs++dvs) Q _ hr I.env0 (i s us I.kIn hl) r2 h) λr l c=>?_);cases r with
 | error S =>
  obtain⟨e,C,H',B,a0,rfl,K,N,un,ok,fl,j,q⟩:=c;have n:Inv X d a H' l:=I.call' K un ok N λb z=>absurd z (by simp);refine y d a H' l e C n ⟨B,a0,fl,λb o e1 i g=>j b o e1 i ?_,λp m=>?_⟩ q
  ·rcases g with⟨D,O⟩|g
   ·obtain⟨G,w⟩:=I.base.there b D O (by rw[L];simp);exact .inl ⟨G,w⟩
   ·exact .inr g
  ·obtain⟨e1,R,P,M,_⟩:=n.pin p m;refine j p.1 p.2 e1 (λv=>?_) (.inl ⟨_,(I.pin p m).1⟩);rcases xC.mp (I.stkSub p.1 v) with z|z
   ·exact P z
   ·exact M z
 |ok fl =>
  cases fl with
  |ret u=>exact I.after c
  |next=>exact False.elim c
  |brk=>exact False.elim c
  |cont=>exact False.elim c
theorem Ot(F:FnOk X.prog X.w X.K X.mg X.base (CX1 X.prog X.w) k f fd ps sp)(hr:Room k X.A)(b:Gl X x)(j:X.mg x=some (.ref f))(u:PySem.W.keepIn X.K (.ref f)=true)(o:mF X.K fd ps ds)(m:Vals dvs ds)(c:gK X EX)
  (w:PA X (e:: es) t)(i:X.ex=[]:=by rfl)(g:(x == ("__debug__" :Str))=false:=by decide)(n:starEach (e:: es) X.env=(false,eval e X.env):: starEach es X.env:=by rfl)(l:(backTo pos (starEach es X.env)).any (·.1)=false:=by rfl):
  PE X (.Call (.Name x p) (e:: es) [] pos) (Ov sp dvs EX t):=by
 intro v s d H Q I h;refine wG (jL I b j ?_ g);refine tQ (h₀:=X.base) I.ok.mod.kin u (thn (w pos v s d H _ I h) λus y⟨vs,H1,a,r,q⟩=>⟨a.kIn,?_⟩) n l;exact Ou F hr o m c i a r q
theorem gN{P:Program}{w:World}{Y:Cx}:jV (CX1 P w) Y E0:=λ_ _ _ _ _ _ _ h=>by
 obtain⟨_,_,_,_,_,_,_,_,_,_,_,_,q⟩:=h;exact q.elim
end
theorem Os{K:Frag}{h:Heap}{C:Addr}{d:LW}{newId:String}(KX:K.In h)(a:PySem.W.excIn K C d newId=true):
  ∃bm N nm b bs c sn sub ab col dd k0 k1 k2 k3 k5 mN,h.get? C=some (excClassObj nm b C N bs bm c sn sub ab col dd k0 k1 k2 k3 k5 newId)/\h.Ns N mN/\mN "__init__"=none/\OwnTail h d bm:=by
 revert a
 unfold PySem.W.excIn;split
 ·next dd q e u =>
  split
  ·next w bm k0 k1 k2 k3 m k5 v es =>
   intro a;simp only[Bool.and_eq_true,beq_iff_eq,Bool.not_eq_true']at a;obtain⟨⟨⟨⟨⟨e1,g⟩,j⟩,i⟩,f⟩,k⟩:=a;subst e1 g;cases q with
   | mk nm bs p ns b c sn sub ab col o =>
    have t:p=Value.ref w:: bm:=v;have n:o=false:=j;subst t n;have r:e=#[k0,k1,k2,k3,some (Value.builtin m),k5]:=by
     cases e with
     |mk l=>exact wY Array.mk es
    subst r;exact⟨bm,ns,nm,b,bs,c,sn,sub,ab,col,dd,k0,k1,k2,k3,k5,_,KX _ _ u,qZ (rS KX f),PySem.W.nsMap_none_of_in KX f k,PySem.W.tail_of_in KX i⟩
  ·intro z;cases z
 ·intro z;cases z
theorem OwnTail.up{h h':Heap}{a bm:LW}(T:OwnTail h a bm)(k:∀b o,h.get? b=some o->h'.get? b=some o):OwnTail h' a bm:=T.keeps k
section
variable {X:Cx} {EX:XE} {C:Addr} {x:Str} {np cpos pos:Pos} {e₀:Expr} {rest:List Expr} {t:TA} {bmB:LW} {B newId initId:String}
def jO(C:Addr)(EX:XE)(t:TA):TS:=λ_ σ H=>t σ H λvs H1=>vs.length<=sizeLine/\EX σ (.ref C) H1
theorem gO(i:X.calm=true)(o:Fn X EX)(n:Gl X x)(k:X.mg x=some (.ref C))(J:PySem.W.excIn X.K C bmB newId=true)(c:ExcBaseFacts B newId initId bmB)(m:PA X (e₀:: rest) t)
  (v:(x == ("__debug__" :Str))=false:=by decide)(g:starEach (e₀:: rest) X.env=(false,eval e₀ X.env):: starEach rest X.env:=by rfl)(w:(backTo cpos (starEach rest X.env)).any (·.1)=false:=by rfl):
  PS X (.Raise (some (.Call (.Name x np) (e₀:: rest) [] cpos)) none pos) (jO C EX t):=by
 intro d s f H D I h;obtain⟨bm,N,nm,q,bs,y,sn,sub,ab,col,dd,k0,k1,k2,k3,k5,mN,G,p,F,T⟩:=Os I.mod.kin J;have j:(backTo cpos (starEach (e₀:: rest) X.env)).any (·.1)=false:=by
  rw[g];show(false || (backTo cpos (starEach rest X.env)).any (·.1))=false;rw[w];rfl
 refine wpAny_Raise_call_subT (C:=C) (nm:=nm) (q:=q) (N:=N) (bs:=bs) (bm:=bm) (hdct:=y) (sn:=sn) (sub:=sub) (ab:=ab) (col:=col) (dd:=dd) (k0:=k0) (k1:=k1) (k2:=k2) (k3:=k3) (k5:=k5) c (mN:=mN) (T.hasType c.hasBase) (I.ok.hd i) j F
  (jL I n k ⟨rfl,?_⟩ v)
 have b:=m cpos d s f H _ I h;rw[g]at b ⊢;refine vU (thn b λus l⟨vs,H2,a,r,z,u⟩=>⟨rfl,?_,a.bk _ _ G,p.keeps a.bk,T.keeps a.bk,λh' e M=>o d f H2 l h' e _ us a M u⟩);show us.length<=sizeLine;rw[←r.length];exact z
end
section
variable {X:Cx} {pins:PN} {σ:St} {H:Hp} {s:Shared}
theorem Inv.flown{h' B:Heap}(I:Inv X pins σ H s)(t:X.stack=X.env:: X.outer)(j:X.env.frame=some X.env.locals)(b:X.ex=[])(stay:B.StaysIn h')(sm:s.heap.UpToSlots h')(g:Cov (frs X.stack) X.s₀.heap H s.heap B)
  (C:∀p∈X.pn++pins,B.get? p.1=some p.2):Inv X pins σ H {s with heap:=h'}:=by
 obtain⟨un,ok,_⟩:=cR I t j b stay sm g;have a:∀c v,s.heap.IsCell c v->h'.IsCell c v:=λc v⟨o,e,d⟩=>by
  obtain⟨D,w⟩:=sm c o e λvs z=>by rw[d]at z;cases z
  exact⟨_,w,d⟩
 refine⟨I.ok,I.os,I.bare,by rw[b];exact un,?_,λx c e=>?_,I.free,I.freeC,λp f=>?_,ok,I.len⟩
 ·obtain⟨m,y,hl⟩:=I.loc;refine⟨m,sm.ns y,λi x v e1 n q=>?_⟩;obtain⟨u,r,l⟩:=hl i x v e1 n q;refine⟨u,r,?_⟩;rcases l with l|⟨k,c,e,z⟩
  ·exact .inl l
  ·exact .inr ⟨k,c,e,a c _ z⟩
 ·obtain⟨v,z⟩:=I.cell x c e;exact⟨v,a c v z⟩
 ·obtain⟨_,r⟩:=I.pin p f;exact⟨stay _ _ (C p f),r⟩
def Fm(e:Addr)(C:Value):HO:=.ext λh=>∃o,h.get? e=some o/\o.cls=C
end
abbrev Cx.body(X:Cx)(pn:PN)(E:VP):Cx:={X with pn:=pn,xe:=E}
abbrev Cx.suite(X:Cx)(e:Addr):Cx:={X with A:=X.A.mark (some (.ref e)),calm:=false,xe:=λ_ _=>False}
section
variable {X:Cx} {pins pins':PN} {σ:St} {H:Hp} {s:Shared} {E:VP} {e:Addr}
theorem Inv.intry(I:Inv X pins σ H s):Inv (X.body (X.pn++pins) E) [] σ H s:=
 ⟨⟨I.ok.mod,I.ok.kind,I.ok.glob,I.ok.blt,I.ok.above,I.ok.inj,I.ok.has,I.ok.cab,I.ok.hd,I.ok.frames,I.ok.stk,I.ok.exf,I.ok.bs,I.ok.bsz,I.ok.noex,I.ok.exfs,I.ok.funs,I.ok.frf⟩,
  I.os,I.bare,I.base,I.loc,I.cell,I.free,I.freeC,λp a=>I.pin p (by simpa using a),I.hok,I.len⟩
theorem Inv.offtry(I:Inv (X.body (X.pn++pins) E) pins' σ H s):Inv X pins σ H s:=
 ⟨⟨I.ok.mod,I.ok.kind,I.ok.glob,I.ok.blt,I.ok.above,I.ok.inj,I.ok.has,I.ok.cab,I.ok.hd,I.ok.frames,I.ok.stk,I.ok.exf,I.ok.bs,I.ok.bsz,I.ok.noex,I.ok.exfs,I.ok.funs,I.ok.frf⟩,
  I.os,I.bare,I.base,I.loc,I.cell,I.free,I.freeC,λp a=>I.pin p (xP _ a),I.hok,I.len⟩
theorem Inv.insuite(I:Inv X pins σ H s):Inv (X.suite e) pins σ H s:=
 ⟨⟨I.ok.mod,I.ok.kind,I.ok.glob,I.ok.blt,I.ok.above,I.ok.inj,I.ok.has,I.ok.cab,(λz=>by cases z),I.ok.frames,I.ok.stk,I.ok.exf,I.ok.bs,I.ok.bsz,I.ok.noex,I.ok.exfs,I.ok.funs,I.ok.frf⟩,
  I.os,I.bare,I.base,I.loc,I.cell,I.free,I.freeC,I.pin,I.hok,I.len⟩
theorem Inv.offsuite(I:Inv (X.suite e) pins σ H s)(ok:X.Ok):Inv X pins σ H s:=
 ⟨ok,I.os,I.bare,I.base,I.loc,I.cell,I.free,I.freeC,I.pin,I.hok,I.len⟩
theorem SP.offtry{D:Ends}{f:Flow}(h:SP (X.body (X.pn++pins) E) [] D f s):SP X pins D f s:=by
 cases f with
 |next=>obtain⟨a,H',b,q⟩:=h;exact⟨a,H',b.offtry,q⟩
 |brk=>obtain⟨a,H',b,q⟩:=h;exact⟨a,H',b.offtry,q⟩
 |cont=>obtain⟨a,H',b,q⟩:=h;exact⟨a,H',b.offtry,q⟩
 |ret u=>obtain⟨v,a,H',b,r,q⟩:=h;exact⟨v,a,H',b.offtry,r,q⟩
end
section
variable {X:Cx}
theorem nT:OpR X (binaryOp .Mult) (rI (λi j=>IntMulOk i j) λi j=>.int (i*j)):=opI λ_ _ _ _ _ _ _ a q=>mul_int q a
def kX(_ j:Int):Prop:=j≠0/\j.natAbs.log2<9000
theorem nU:OpR X (binaryOp .FloorDiv) (rI kX λi j=>.int (i.fdiv j)):=opI λ_ _ _ _ _ _ _ a q=>floordiv_int a.1 q (.inl (PyProof.noPylong_of_log2 a.2))
end
mutual
inductive Dt(K:Frag)(H:Hp):V->PyData->Prop
 |non:Dt K H .non .none
 |bl (b):Dt K H (.bl b) (.bool b)
 |int (i):Dt K H (.int i) (.int i)
 |str (x):Dt K H (.str x) (.str x)
 |lst {a xs ds}:SqL K H a xs->Dts K H xs ds->Dt K H (.ref a) (.list ds)
 |tup {a xs ds}:SqT K H a xs->Dts K H xs ds->Dt K H (.ref a) (.tuple ds)
inductive Dts(K:Frag)(H:Hp):List V->List PyData->Prop
 |nil:Dts K H [] []
 |cons {x xs d ds}:Dt K H x d->Dts K H xs ds->Dts K H (x:: xs) (d:: ds)
end
theorem Dts.ints{K:Frag}{H:Hp}:∀(ns:LI'),Dts K H (ns.map V.int) (ns.map PyData.int)
 |[]=>.nil
 |n:: r=>.cons (.int n) (Dts.ints r)
section
variable {X:Cx} {pins:PN} {σ:St} {H:Hp} {s:Shared}
mutual
theorem Dt.reads(I:Inv X pins σ H s):∀{x:V}{d:PyData}{u:Value},Dt X.K H x d->RelV x u->∃as,Reads s.heap u d as
 |_,_,_,.non,r=>by cases(show _=Value.none from r);exact⟨_,.none⟩
 |_,_,_,.bl b,r=>by cases(show _=Value.bool b from r);exact⟨_,.bool b⟩
 |_,_,_,.int i,r=>by obtain⟨f,e⟩:=(show∃f,_=Value.int i f from r);cases e;exact⟨_,.int i f⟩
 |_,_,_,.str x,r=>by obtain⟨f,e⟩:=(show∃f,_=Value.str x f from r);cases e;exact⟨_,.str x f⟩
 |_,_,_,.lst (a:=a) h g,r=>by
  cases(show _=Value.ref a from r);obtain⟨its,j,⟨o,n,e,c,_,dd⟩,_⟩:=I.list h;obtain⟨as,q⟩:=Dts.reads I g j;exact⟨_,.list e c dd (by simpa using q)⟩
 |_,_,_,.tup (a:=a) h g,r=>by
  cases(show _=Value.ref a from r);obtain⟨its,j,⟨o,e,c,n,dd⟩,_⟩:=I.tuple h;obtain⟨as,q⟩:=Dts.reads I g j;exact⟨_,.tuple e c dd (by simpa using q)⟩
theorem Dts.reads(I:Inv X pins σ H s):∀{xs:List V}{ds:List PyData}{us:LW},Dts X.K H xs ds->Vals xs us->∃as,ReadsAll s.heap us ds as
 |_,_,_,.nil,r=>by cases r;exact⟨_,.nil⟩
 | _,_,_,.cons h c,r=>by
  cases r with
  |cons r1 r2 =>
   obtain⟨as,b⟩:=Dt.reads I h r1;obtain⟨bs,a⟩:=Dts.reads I c r2;exact⟨_,.cons b a⟩
end
end
section
variable {X:Cx}
def rEqD(K:Frag):R2:=λx y H Q=>∃d d',Dt K H x d/\Dt K H y d'/\SeqAt.shaped d=true/\SeqAt.shaped d'=true/\SeqAt.noMix d d'=true/\Q (.bl (same d d')) H
def rNeD(K:Frag):R2:=λx y H Q=>∃d d',Dt K H x d/\Dt K H y d'/\SeqAt.shaped d=true/\SeqAt.shaped d'=true/\SeqAt.noMix d d'=true/\Q (.bl (!same d d')) H
theorem Oq(b:X.A.units+64<cLine):OpR X (compareOp .Eq) (rEqD X.K):=by
 intro l s k H x y v u Q I a c h;obtain⟨d,d',e,j,i,g,f,q⟩:=h;obtain⟨as,r1⟩:=e.reads I a;obtain⟨bs,r2⟩:=j.reads I c;exact eq_dataH_same r1 r2 i g b f ⟨.bl (same d d'),H,I,rfl,q⟩
theorem Ac(b:X.A.units+64<cLine):OpR X (compareOp .NotEq) (rNeD X.K):=by
 intro l s k H x y v u Q I a c h;obtain⟨d,d',e,j,i,g,f,q⟩:=h;obtain⟨as,r1⟩:=e.reads I a;obtain⟨bs,r2⟩:=j.reads I c;exact ne_dataH_same r1 r2 i g b f ⟨.bl (!same d d'),H,I,rfl,q⟩
end
theorem PI.or{X:Cx}{b l:Expr}{c d:TI}(h:PI X b l c)(h':PI X b l d):PI X b l (λa H R=>c a H R\/d a H R):=by
 intro e s a H R I q;rcases q with q|q
 ·exact h e s a H R I q
 ·exact h' e s a H R I q
structure Ab(K:Frag)(C:Addr):Prop where
 ga:PySem.W.findIn K (.ref C) "__getattribute__"=some (some (.builtin "BaseException.__getattribute__"))
 gt:PySem.W.findIn K (.ref C) "__getattr__"=some none
 ca:PySem.W.findIn K (.ref C) "__class__"=some (some (.builtin "object.__class__"))
 cg:PySem.W.specialIn K (.builtin "object.__class__") "__get__"=some (some (.builtin "getset_descriptor.__get__"))
 tk:PySem.W.takesIn K (.builtin "object.__class__")=some true
 ob:PySem.W.mroIn K C (.type "object")=some true
 bx:PySem.W.mroIn K C (.type "BaseException")=some true
 cl:(PySem.W.clsIn K C).isSome=true
theorem Op{prog:Program}{w:World}{A:Around}{E:VP}{s:Shared}{K:Frag}{x C:Addr}{Q:Option Value->Shared->Prop}(F:Ab K C)(KX:K.In s.heap)(c:∃o,s.heap.get? x=some o/\o.cls=.ref C)
  (h:Q (some (.ref C)) {s with toks:=s.toks+1}):wpAny (model prog w) A (getAttr? (.ref x) "__class__") Q E s:=by
 obtain⟨hh,g,d,e,y⟩:=s;obtain⟨o,c,a⟩:=c;have b:PySem.W.Looks (model prog w) hh (typeOf (.ref x)) (.ref C):=a ▸ (qN c).andThen .now;have r:=vQ (M:=model prog w) KX F.ga;have k:=vQ (M:=model prog w) KX F.gt;have f:=vQ (M:=model prog w) KX F.ca;have m:=PySem.W.looks_specialIn (M:=model prog w) KX F.cg;have l:=PySem.W.looks_takesIn (M:=model prog w) KX F.tk;have t:=rK (M:=model prog w) KX F.ob;have j:=rK (M:=model prog w) KX F.bx;unfold getAttr? getAttrBy? getAttrBy;refine zA (wpAny_mkText (zA (vN (yT (zA (b.at (zA (r.at ?_))))))));show wpAny _ _ (getAttrByItsOwn _ _ _ _ _ _) _ _ _;unfold getAttrByItsOwn;refine zA (show wpAny _ _ (hookBefore (.ref C)) _ _ _ from k.at ?_);refine zA (vN (yT ?_));show wpAny _ _ (boundAndCalled _ _ _) _ _ _;unfold boundAndCalled;rw[PySem.F.attr_ValueError.ga.bind (.ref x)];refine zA (zB (uO ?_));refine vS PySem.F.attr_ValueError.ga.plain PySem.F.entry_bexc_ga ?_;have q:builtinKind "BaseException.__getattribute__"=some .slot:=nofun
 have p:splitId "BaseException.__getattribute__"=some ("BaseException","__getattribute__"):=nofun
 have v:=PySem.F.args_bexc_ga (.ref x) (.str "__class__" e);have u:PySem.W.Looks (model prog w) hh (isInstance (.ref x) (.type "BaseException")) true:=b.andThen j;show wpAny _ _ (checkBuiltinCall "BaseException.__getattribute__" ⟨[.ref x,.str "__class__" e],[]⟩) _ _ _;simp only[checkBuiltinCall,q,p];refine zA (u.at ?_)
 repeat wp_step
 rw[a];refine f.at ?_;refine zA (show wpAny _ _ (Builtin.ObjectAttr.getOf (some (.builtin "object.__class__"))) _ _ _ from m.at ?_);have i:PySem.W.Looks (model prog w) hh (Builtin.ObjectAttr.dataDescriptor? (some (.builtin "object.__class__")) (some (.builtin "getset_descriptor.__get__"))) (some (.builtin "getset_descriptor.__get__",.builtin "object.__class__")):=l.andThen .now;refine zA (i.at ?_)
 repeat wp_step
 have n:PySem.W.Looks (model prog w) hh (isInstance (.ref x) (.type "object")) true:=b.andThen t;refine vS PySem.W.KF.slot_gs.plain PySem.W.KF.entry_gs (PySem.W.KF.slot_gs.check _ _ _ _ _ _ _ _ PySem.W.KF.type_class (PySem.W.KF.args_gs _ _ _) ?_)
 (unfold Builtin.«getset_descriptor.__get__» Builtin.Getset_descriptor.descrGet;rw[PySem.W.dga_obj];refine zA (zB ?_))
 (unfold Builtin.Getset_descriptor.descrGetter Builtin.Getset_descriptor.descrCheckInstance Builtin.Getset_descriptor.descrNameAndClass;simp only[PySem.W.KF.owner_class])
 refine zA (zA (zB (zA (n.at (zB ?_)))))
 repeat wp_step
 refine⟨rP _ (nofun),tM PySem.W.KF.entry_class ?_⟩
 (unfold Builtin.«object.__class__» shownTypeOf;repeat wp_step)
 rw[a];exact zB (zB h)
theorem Oo{K:Frag}{x C:Addr}(F:Ab K C):PySem.W.KitX K (.ref x) (.ref C) (λh=>∃o,h.get? x=some o/\o.cls=.ref C) where
 ty:=λM h _⟨o,g,b⟩=>b ▸ (qN g).andThen .now
 it:=λM h KX _=>by
  have q:=F.cl;unfold PySem.W.clsIn at q;split at q
  ·next a =>
   intro i r l m k z
   (unfold isType loadHead;exact zA (pG (k _ _ (KX _ _ a)) (zB z)))
  ·cases q
 ne:=λh d dd its n j KX f=>by
  have q:=F.cl;refine Bool.eq_false_iff.mpr λz=>?_;have e:C=d:=Value.ref.inj (pV.mp z);subst e;unfold PySem.W.clsIn at q;split at q
  ·next a=>exact absurd ((KX _ _ a).symm.trans f) (by intro c;cases c)
  ·cases q
 ca:=λKX p k=>Op F KX p k
inductive TyX(K:Frag)(H:Hp):V->Value->Prop where
 |ty {x:V} {t:Value} (h:TyOf K H x t):TyX K H x t
 |exc {e C:Addr} (h:H e=some (Fm e (.ref C))) (F:Ab K C):TyX K H (.ref e) (.ref C)
 |tupS {a:Addr} {xs:List V} (h:SqT K H a xs):TyX K H (.ref a) (.type "tuple")
def clsV:V->Value
 |.ty n=>.type n
 |.ref a=>.ref a
 |_=>.none
def On:V->Bool
 |.ty _=>true
 |.ref _=>true
 |_=>false
def rIsi(K:Frag):List V->Hp->VK->Prop:=λvs H Q=>∃x c t b,vs=[x,c]/\TyX K H x t/\On c=true/\PySem.W.kitOne K t (clsV c)=some b/\Q (.bl b) H
theorem Om{X:Cx}:mJ X (.builtin "isinstance") (rIsi X.K):=by
 intro l s d H xs us Q I j h;obtain⟨x,c,n,b,rfl,ty,f,e,q⟩:=h;obtain⟨u,w,rfl,r1,r2⟩:=j.two;have m:w=clsV c:=by
  cases c <;> first|exact r2|cases f
 subst m;have a:∀tk,EP X l d Q (.bool b) {s with toks:=tk}:=λtk=>⟨.bl b,H,I.tok tk,rfl,q⟩;cases ty with
 |ty h=>exact Md I r1 h e a
 |exc h F =>
  obtain rfl:u=_:=r1;obtain⟨i,_,_⟩:=(show nI X.prog X.w H s.heap _ (Fm _ _) from I.hok _ _ h);exact xH (Oo F) I.kIn i e (λz=>nomatch z) a
 |tupS h =>
  obtain rfl:u=_:=r1;obtain⟨its,_,⟨o,g,k,_⟩,_⟩:=I.tuple h;exact xH PySem.W.kitx_tuple I.kIn ⟨o,g,k⟩ e (λz=>nomatch z) a
structure lW(k:Nat)(A:Around):Prop where
 dp:A.depth+3*k+5<recursionLimit
 un:A.units+16*k+200<cLine
theorem Room.a{k:Nat}{A:Around}(r:Room k A):lW k A:=⟨r.dp,r.un⟩
theorem lW.mono{j k:Nat}{A:Around}(r:lW k A)(h:j<=k):lW j A:=⟨by have:=r.dp;omega,by have:=r.un;omega⟩
theorem lW.deeper{k:Nat}{A:Around}(r:lW (k+1) A)(env:Env):lW k (A.deeper env):=
 ⟨by have:=r.dp;show A.depth+1+3*k+5<_;omega,by have:=r.un;show A.units+3+16*k+200<_;omega⟩
theorem lW.mark{k:Nat}{A:Around}(r:lW k A)(v:Option Value):lW k (A.mark v):=⟨r.dp,r.un⟩
theorem lW.calm{k:Nat}{A:Around}(r:lW k A):Room k {A with handled:=none}:=⟨rfl,r.dp,r.un⟩
structure Fl(P:Program)(w:World)(K:Frag)(mg:MT)(base:Heap)(k:Nat)(f:Addr)(fd:FuncData)(ps:List Str)(sp:Sp):Prop where
 len:∀vs H Q E,sp vs H Q E->vs.length=ps.length
 run:∀(A:Around)(outer:List Env)(s:Shared)(H:Hp)(args:Args)(us:LW)(vs:List V)(Q:VK)(E:XK),lW k A->Env0 P w K mg base A outer s H->BindsTo s fd args (ps.zip us)->Vals vs us->sp vs H Q E ->
  codeAny (model P w) A (.call (.ref f) args) (CR CX0 outer P w H s Q E) s
theorem Fl.ok{P:Program}{w:World}{K:Frag}{a:MT}{base:Heap}{k:Nat}{f:Addr}{b:FuncData}{ps:List Str}{c:Sp}(F:Fl P w K a base k f b ps c):FnOk P w K a base CX0 k f b ps c:=
 ⟨F.len,λA outer s H d us vs Q E hr=>F.run A outer s H d us vs Q E hr.a⟩
section
variable {X:Cx}
theorem lG:OpR X (compareOp .Eq) (rI0 λi j=>.bl (decide (i=j))):=opB0 λi j _ _ _ _ _ q=>eq_int (by rw[Bool.beq_eq_decide_eq];exact q)
theorem iQ:OpR X (compareOp .NotEq) (rI0 λi j=>.bl (!decide (i=j))):=opB0 λi j _ _ _ _ _ q=>ne_int (by rw[bne,Bool.beq_eq_decide_eq];exact q)
theorem PS.nox{st:Stmt}{a:TS}(h:PS X.nox st a):PS X st a:=λd s c H D I b =>
 yQ (h d s c H D (I.wish _) b) (λ_ _ q=>q.unwish) λ_ _ z=>z.elim
end
section
variable {P:Program} {w:World} {K:Frag} {mg:MT} {base:Heap}
theorem Fun.okX{x a:Str}{st:Stmt}{f:Addr}{d:FuncData}{N ps:List Str}{k:Nat}{b:Sp}(F:Fun K x a st f d)(g:nB N ps (oQ st))(len:∀vs H Q E,b vs H Q E->vs.length=ps.length)
  (j:∀(cdv:Value)(A:Around)(outer:List Env)(s:Shared)(H:Hp)(vs:List V)(Q:VK)(E:XK),Room k (A.deeper (envOfC a (oQ st) s.heap.objs.size f cdv))->b vs H Q E ->
   ∃c,PSs (cxOf (CX1 P w) P w K mg base N a (oQ st) f cdv A outer s H E) (lR st) c/\c {nx:=λ_ H'=>Q .non H',rt:=Q} (start N vs) H):FnOk P w K mg base (CX1 P w) (k+1) f d ps b:=by
 obtain⟨n,o,kV,q,r,m,cdv,p,t,rfl,e,l⟩:=F.ex;exact cP e l g len λA outer s H vs Q E hr i=>j cdv A outer s H vs Q E hr i
end
end L2
namespace Att
open PySem PySem.W PySem.Calls PyProof.Rows
theorem Fk:∀ns:LI',ofPys (ns.map PyData.int)=ns.map WData.int
 |[]=>rfl
 |n:: r=>by
  show ofPy (.int n):: ofPys (r.map PyData.int)=_;rw[Fk r];rfl
theorem Ol{ns:LI'}(h:(WData.list (ns.map WData.int)).layable=true):∀n∈ns,Builtin.Int.intBits n<=1048576:=λn b=>by
 have e:ofPy (.list (ns.map PyData.int))=WData.list (ns.map WData.int):=by
  show WData.list (ofPys (ns.map PyData.int))=_;rw[Fk]
 have a:PySem.Spec.Shape.has (.list .int) (.list (ns.map PyData.int))=true:=by
  simp[PySem.Spec.Shape.has]
 exact intBits_le_of_item b (layable0_of_all (lay0_ofPy (s:=.list .int) rfl a (by rw[e];exact h)))
theorem attach_callB{l:OpenLaw}{n:Nat}{q:Program}{p:List Str}{u:(MT)->Heap->Prop}{k:World->Heap->Prop}{d:DefRec}(T:l.most=some n)(C:d.params.defaults=[])
  (call:∀(w:World)(j b:Shared)(e i:MT)(g:Addr)(a:Addr)(vs:LW)(ns:LI'),Ground q p [] u w j e i b.heap->k w b.heap->e d.name=some (.ref g) ->
   b.heap.get? a=some {cls:=.type "list",data:=.seq vs.toArray}->IntsAre vs ns->ns.length<=n->(∀m∈ns,Builtin.Int.intBits m<=1048576)->b.gens=#[] ->
   codeAny (model l.prog w) callerA (.call (.ref g) ⟨[.ref a],[]⟩) (λr c=>r=.ok (.ret (.bool true))/\OldK b.heap c.heap/\c.os=b.os/\AllBare c.gens) b):
  WalkO q p u k l.row.toRowW d [] (λf vs=>PySem.call f vs):=by
 intro w j b e i G F g o X Z U I kV a1 a0 a2 t N D Y vals as L M V v W;obtain rfl:I=.none:=Dflts.none t C;obtain rfl:kV=.none:=Dflts.noKw t;obtain⟨a,vs,ns,rfl,rfl,K,O,J⟩:=Fv T L v;have z:=Ol (layableW_arg M _ zY);refine enter_call (uJ (call w j b e i g a vs ns G F N K O J z D) λr c S=>?_);obtain⟨rfl,P,y,R⟩:=S;exact⟨.inl ⟨.bool true,.bool true,[],rfl,λ_=>rfl,.bool true,Fu l _,λ_=>⟨List.Pairwise.nil,λ_ x=>(nomatch x)⟩⟩,P,y,R⟩
end Att
namespace L2
open PySem PySem.Spec PyProof.Rows
open PySem.W (Frag)
def Fj(K:Frag):Sp:=λvs H Q _=>∃(a:Addr)(ns:LI'),vs=[.ref a]/\SqL K H a (ns.map V.int)/\ns.length<=63/\(∀m∈ns,Builtin.Int.intBits m<=1048576)/\∀H',Q (.bl true) H'
theorem walkB{l:PySem.W.OpenLaw}{k:Nat}{q:Program}{I:List Str}{J:(MT)->Heap->Prop}{j:World->Heap->Prop}{d:DefRec}{K:Params->Frag}{x:Str}
  (M:l.most=some 63)(o:d.params.defaults=[])(hr:Room k callerA)(D:∀(w:World)(h:Heap),j w h->(K w.params).In h)
  (F:∀(w:World)(b:MT)(c:Addr)(h:Heap),(K w.params).In h->h.Ns mainGlobals b->b d.name=some (.ref c) ->
   ∃g:FuncData,(∀(s:Shared)(u:Value),BindsTo s g ⟨[u],[]⟩ [(x,u)])/\∀base:Heap,(K w.params).In base->base.Ns mainGlobals b->FnOk l.prog w (K w.params) b base CX0 k c g [x] (Fj (K w.params))):
  PySem.W.WalkO q I J j l.row.toRowW d [] (λf vs=>PySem.call f vs):=by
 refine Att.attach_callB M o λw R P b O c a vs ns G r v t y i n p=>?_;have KX:=D w _ r;obtain⟨g,L,C⟩:=F w b c _ KX G.T.g v;exact Fs KX G.T.g G.T.b G.T.builtins G.T.nolimit p t y (yC i ∅) hr C L (λH _ m=>⟨a,ns,rfl,m,i,n,λ_=>rfl⟩) λH e N z=>z
theorem mM{e:TI}{g:TG}{tb:TS}{D:Ends}{a:St}{H:Hp}(h:∀B:TS,B=tb->e a H λc H1=>∃b:Nat->Nat->St->Hp->Prop,(∃m,b 0 m a H1)/\∀i m a H,b i m a H ->
  (c.stop i H/\D.nx a H)\/(c.go i H/\∃N:St->Hp->Prop,(∀d H',N d H'->∃f,f<m/\b (i+1) f d H')/\∀x H',c.yld i H x H'->g x a H' λj H2=>B {D with nx:=N,ct:=N,bk:=D.nx} j H2)):tFor e g tb D a H:=h _ rfl
theorem Fi{c:TT}{tb:TS}{D:Ends}{a:St}{H:Hp}(h:∀B:TS,B=tb->∃d:Nat->St->Hp->Prop,(∃m,d m a H)/\∀m a H,d m a H ->
  c a H λb H1=>if b=true then∃N:St->Hp->Prop,(∀e H',N e H'->∃f,f<m/\d f e H')/\B {D with nx:=N,ct:=N,bk:=D.nx} a H1 else D.nx a H1):Es c tb D a H:=h _ rfl
theorem st{c u:TS}{D:Ends}{b:St}{H:Hp}(h:∀a:St->Hp->Prop,a=u D->c {D with nx:=a} b H):tSeq c u D b H:=h _ rfl
section
variable {g:Int->Int->V} {C:Int->Int->Prop} {f:Int->V} {i j:Int} {H:Hp} {Q:VK}
theorem s_A:rI0 g (.int i) (.int j) H Q=Q (g i j) H:=propext ⟨λ⟨_,_,e1,a,q⟩=>by cases e1;cases a;exact q,λq=>⟨_,_,rfl,rfl,q⟩⟩
theorem t_p:rI C g (.int i) (.int j) H Q=(C i j/\Q (g i j) H):=propext ⟨λ⟨_,_,e1,a,q⟩=>by cases e1;cases a;exact q,λq=>⟨_,_,rfl,rfl,q⟩⟩
theorem t_q:rU f (.int i) H Q=Q (f i) H:=propext ⟨λ⟨_,e1,q⟩=>by cases e1;exact q,λq=>⟨_,rfl,q⟩⟩
end
theorem Same.new{H:Hp}{a:Addr}{o:HO}(h:H a=none):Same H (upd H a o):=λb u e=>by rw[oR (nN e h)];exact e
theorem Same.over{H H1:Hp}{a:Addr}{o:HO}(h:H a=none)(s:Same H H1):Same H (upd H1 a o):=λb u e=>by rw[oR (nN e h)];exact s b u e
theorem Same.tup{K:Frag}{H H':Hp}{a:Addr}{xs:List V}(e:Same H H')(h:SqT K H a xs):SqT K H' a xs:=by
 rcases h with(h|⟨o,h⟩)|h
 ·exact .inl (.inl (e _ _ h))
 ·exact .inl (.inr ⟨o,e _ _ h⟩)
 ·exact .inr h
section
variable {K:Frag} {a b:Addr} {xs:List V} {te:TE} {fr:List (Str×Nat)} {σ:St} {H:Hp} {Q:VK}
def Aa(H:Hp)(a:Addr)(R:Nat->V->Prop)(i:Nat)(H1:Hp):Prop:=Same H H1/\∃ys:List V,H1 a=some (.lst ys)/\ys.length=i/\∀j y,ys[j]?=some y->R j y
theorem Aa.next{R:Nat->V->Prop}{i:Nat}{H1 H2:Hp}{y:V}(f:H a=none)(h:Aa H a R i H1)(s:Same H1 H2)(r:R i y)(hz:i<sizeLine):
  ∃zs,H2 a=some (.lst zs)/\zs.length<sizeLine/\Aa H a R (i+1) (upd H2 a (.lst (zs++[y]))):=by
 obtain⟨d,ys,e,hl,hr⟩:=h;refine⟨ys,s _ _ e,⋯,Same.over f (d.trans s),_,oP,by simp[hl],λj z q=>?_⟩
 by_cases c:j<ys.length
 ·rw[yA c]at q;exact hr j z q
 ·rw[zT ⋯]at q;have:j=i:=by
   by_cases g:j-ys.length=0
   ·omega
   ·rw[vL (by simp;omega)]at q;cases q
  subst this;rw[show j-ys.length=0 by omega]at q;cases zU q;exact r
end
theorem mV{b a:Type}{ys:List a}{xs:List b}{f:b->a}(hl:ys.length=xs.length)(h:∀(j:Nat)(y:a),ys[j]?=some y->∃x,xs[j]?=some x/\y=f x):ys=xs.map f:=by
 refine uI (by simpa using hl) λi c k=>?_;obtain⟨x,e1,d⟩:=h i ys[i] (by simp[c]);obtain⟨g,e⟩:=oE.mp e1;rw[uK,d,e]
def kD(sc scope:Scope):Scope:={scope with names:=scope.names.map λ(n,k)=>if(k == .free && sc.kind == .function && sc.names.lookup n == some .cell) then(n,.cell) else(n,k)}
theorem Oj{a sc:Scope}{env:Env}(h:env.scope=sc):relabel a env=kD sc a:=by subst h;rfl
theorem eJ:∀(a:List (Str×NameKind))(n:Nat)(acc:List (Str×Addr)),cellsFrom n a acc=cellsFrom n a []++acc
 |[],_,_=>rfl
 |(x,k):: r,n,acc=>by
  unfold cellsFrom;split
  ·rw[eJ r (n+1) ((x,n):: acc),eJ r (n+1) [(x,n)],yE];rfl
  ·exact eJ r n acc
theorem Bz{y:Str}{b:Addr}:∀{a:List (Str×NameKind)}{n:Nat}{acc:List (Str×Addr)},(y,b)∈cellsFrom n a acc->(y,b)∈acc\/(y,NameKind.cell)∈a
 |[],_,_,h=>.inl h
 | (x,k):: r,n,acc,h=>by
  unfold cellsFrom at h;split at h
  ·rename_i c;rcases Bz h with q|q
   ·rcases xC.mp q with e|e
    ·have d:k=.cell:=by simpa using c
     cases e;exact .inr (by rw[d];exact zY)
    ·exact .inl e
   ·exact .inr (zN _ q)
  ·rcases Bz h with q|q
   ·exact .inl q
   ·exact .inr (zN _ q)
theorem eK{y:Str}:∀{c:List (Str×NameKind)}{n:Nat}{acc:List (Str×Addr)},((y,NameKind.cell)∈c\/∃b,acc.lookup y=some b)->∃b,(cellsFrom n c acc).lookup y=some b
 |[],_,_,h=>by
  rcases h with h|h
  ·simp at h
  ·exact h
 | (x,k):: r,n,acc,h=>by
  unfold cellsFrom;split
  ·rename_i a;refine eK ?_;rcases h with h|⟨b,h⟩
   ·rcases xC.mp h with e|e
    ·cases e;exact .inr ⟨n,by rw[xD];simp⟩
    ·exact .inl e
   ·rw[xD];cases hx:y == x with
    |true=>exact .inr ⟨n,rfl⟩
    |false=>exact .inr ⟨b,h⟩
  ·rename_i a;refine eK ?_;rcases h with h|h
   ·rcases xC.mp h with e|e
    ·cases e;simp at a
    ·exact .inl e
   ·exact .inr h
theorem By{env:Env}{q:NameKind}:∀{f:List (Str×NameKind)}{x:Str},
  (f.map λ(n,k)=>if(k == NameKind.free && env.scope.kind == .function && env.kindOf n == some .cell) then(n,NameKind.cell) else(n,k)).lookup x=some q ->
  (q=.cell\/q=.free)->(x,NameKind.free)∈f\/(x,NameKind.cell)∈f
 |[],_,h,_=>by simp at h
 | (n,k):: r,x,h,d=>by
  have g:=@By env q r x;rw[zI]at h;dsimp only at h
  by_cases c:(k == NameKind.free && env.scope.kind == .function && env.kindOf n == some .cell)=true
  ·rw[zE c,xD]at h;cases hx:x == n with
   | true =>
    have b:x=n:=by simpa using hx
    have a:k=.free:=by
     have:=(zR _ _ ▸ ((zR _ _ ▸ c).1)).1;simpa using this
    rw[b,a];exact .inl zY
   |false =>
    rw[hx]at h;exact(g h d).imp (zN _) (zN _)
  ·rw[zD c,xD]at h;cases hx:x == n with
   |true =>
    rw[hx]at h;have b:x=n:=by simpa using hx
    have a:k=q:=zU h;rcases d with e|e
    ·rw[b,a,e];exact .inr zY
    ·rw[b,a,e];exact .inl zY
   |false =>
    rw[hx]at h;exact(g h d).imp (zN _) (zN _)
theorem Fh{d:Type}{x:Str}{k b:d}:∀{l:List (Str×d)},(l.map (·.1)).Nodup->(x,k)∈l->(x,b)∈l->k=b
 |(n,q):: r,nd,h,h'=>by
  obtain⟨c,f⟩:=wU.mp nd;rcases xC.mp h with e|e <;> rcases xC.mp h' with a|a
  ·cases e;cases a;rfl
  ·cases e;exact absurd (pZ.mpr ⟨_,a,rfl⟩) c
  ·cases a;exact absurd (pZ.mpr ⟨_,e,rfl⟩) c
  ·exact Fh f e a
theorem Oi{M:Model}{A:Around}{E:VP}{s:Shared}{a:Scope}{f:Addr}{c:List (Str×Addr)}{d:Str}{e:Option Addr}{b:Value}{env:Env}{bl:Addr}{Q:Env->Shared->Prop}
  (h:Q (newEnv a s.heap.objs.size f (cellsFrom (s.heap.objs.size+1) a.names c) d e b (some env) bl) {s with heap:=pushCells (s.heap.push {cls:=.type "dict",data:=.dict #[]}) a.names}):
  wpAny M A (newFunctionEnv a f c [] d e b (some env) bl) Q E s:=by
 simp only[newFunctionEnv,Option.isSome_some,if_true];refine zA (wpAny_alloc ?_);refine zA (wpAny_layCells _ (λname g cells=>by cases hkc:g == NameKind.cell <;> simp[hkc]) _ _ _ _ ?_);rw[show({s with heap:=s.heap.push {cls:=.type "dict",data:=.dict #[]}}:Shared).heap.objs.size=s.heap.objs.size+1 from xM ..];exact zB h
def mB(X:Cx)(scope:Scope)(N:List Str)(s:Shared)(H:Hp)(fp:LA):Cx:=
 {X with N:=N,s₀:=s,H₀:=H,env:=compEnvC scope (cellsFrom (s.heap.objs.size+1) scope.names (clOf X.env scope.names [])) s.heap.objs.size X.env,outer:=X.stack,ex:=fp,fn:=λy=>scope.names.lookup y == some .cell,pn:=[],xe:=λ_ _=>False}
structure kM(X:Cx)(sc scope:Scope)(xs:List Str)(fr:List (Str×Nat)):Prop where
 hsc:X.env.scope=sc
 kind:scope.kind=.function
 nn:(scope.names.map (·.1)).Nodup
 free:∀y∈scope.names,y.2=.free->sc.names.lookup y.1=some .cell\/sc.names.lookup y.1=some .free
 loc:∀y∈scope.names,y.2=.local->scope.names.lookup y.1=some .local
 fr:∀p∈fr,X.N[p.2]?=some p.1/\scope.names.lookup p.1=some .free
section
variable {X:Cx} {sc scope:Scope} {xs:List Str} {fr:List (Str×Nat)}
theorem kM.free'(c:kM X sc scope xs fr):∀y∈scope.names,y.2=.free->X.env.kindOf y.1=some .cell\/X.env.kindOf y.1=some .free:=λy a hf=>by
 unfold Env.kindOf;rw[c.hsc];exact c.free y a hf
theorem kM.cells{a:PN}{b:St}{H:Hp}{s:Shared}(c:kM X sc scope xs fr)(I:Inv X a b H s):∀y∈scope.names,y.2=.free->∃c,X.env.cells.lookup y.1=some c:=
 λy d hf=>I.ok.has y.1 (c.free' y d hf)
theorem kM.was{d:PN}{a:St}{H:Hp}{s:Shared}(c:kM X sc scope xs fr)(I:Inv X d a H s){y:Str}{b:Addr}(h:(clOf X.env scope.names []).lookup y=some b):X.env.cells.lookup y=some b:=by
 rcases Ae (c.cells I) h with q|q
 ·simp at q
 ·exact q
theorem gP{a:List (Str×NameKind)}{n:Nat}{d:List (Str×Addr)}{y:Str}{b:Addr}(h:(cellsFrom n a d).lookup y=some b):(cellsFrom n a []).lookup y=some b\/((cellsFrom n a []).lookup y=none/\d.lookup y=some b):=by
 rw[eJ,List.lookup_append]at h;cases q:(cellsFrom n a []).lookup y with
 |none=>rw[q]at h;exact .inr ⟨rfl,h⟩
 |some c=>rw[q]at h;exact .inl h
theorem Oh{x:PN}{m:St}{H:Hp}{s:Shared}{K:LA}(c:kM X sc scope xs fr)(I:Inv X x m H s)
  (hf:∀b∈K,FpOk X x H b/\∃o,s.heap.get? b=some o):
  Inv (mB X scope (xs++fr.map (·.1)) s H K) [] (xs.map (λ_=>none)++mL fr m) H {s with heap:=pushCells (s.heap.push {cls:=.type "dict",data:=.dict #[]}) scope.names}:=by
 have k:∀b o,s.heap.get? b=some o->(pushCells (s.heap.push {cls:=.type "dict",data:=.dict #[]}) scope.names).get? b=some o:=λb o e=>pC _ _ b o (zC _ e);have L:(pushCells (s.heap.push {cls:=.type "dict",data:=.dict #[]}) scope.names).Ns s.heap.objs.size (λ_=>none):=(Heap.Ns.new s.heap (.type "dict")).keeps (pC _ _);have ok:=cellsFrom_ok scope.names (s.heap.push {cls:=.type "dict",data:=.dict #[]}) (s.heap.objs.size+1) [] ⟨λ_ _ d=>(nomatch d),List.Pairwise.nil⟩ (by rw[xM];exact zF _);rw[xM]at ok;have t:Inv X x m H {s with heap:=pushCells (s.heap.push {cls:=.type "dict",data:=.dict #[]}) scope.names}:=I.kept (t':=s.toks) k;generalize hh:pushCells (s.heap.push {cls:=.type "dict",data:=.dict #[]}) scope.names=T at k L ok t;have F:∀{y:Str}{b:Nat},(clOf X.env scope.names []).lookup y=some b->b<s.heap.objs.size:=λ{y b}e=>by
  obtain⟨v,z⟩:=I.cell y b (c.was I e);exact z.lt
 have own:∀{y:Str}{b:Nat},(cellsFrom (s.heap.objs.size+1) scope.names []).lookup y=some b->T.IsCell b none/\s.heap.objs.size+1<=b:=λ{y b}e=>ok.empty y b (mem_of_lookup e);refine⟨⟨I.ok.mod,c.kind,I.ok.glob,I.ok.blt,zF _,λy z b r a=>?_,λy n=>?_,λy b U r=>?_,I.ok.hd,I.ok.frames,.inl rfl,λb g=>?_,λb o e=>?_,?_,λb o e g=>?_,λb g W=>?_,?_,λb g=>?_⟩,
  rfl,I.bare,Un.kept k,⟨_,L,λi y v r a a2=>?_⟩,λy b h=>?_,?_,λy b h=>?_,λp Y=>absurd (show p∈([]:PN) from Y) (by simp),t.hok,?_⟩
 ·rcases gP r with e1|⟨_,e1⟩ <;> rcases gP a with f|⟨_,f⟩
  ·exact name_of_addr ok.apart (mem_of_lookup e1) (mem_of_lookup f)
  ·exact absurd (zJ (F f) (qK (own e1).2)) (yW _)
  ·exact absurd (zJ (F e1) (qK (own f).2)) (yW _)
  ·exact I.ok.inj y z b (c.was I e1) (c.was I f)
 ·show∃b,(cellsFrom (s.heap.objs.size+1) scope.names (clOf X.env scope.names [])).lookup y=some b;have d:(y,NameKind.free)∈scope.names\/(y,NameKind.cell)∈scope.names:=by
   rcases n with n|n
   ·exact By n (.inl rfl)
   ·exact By n (.inr rfl)
  rcases d with d|d
  ·exact eK (.inr (Ad (.inl d)))
  ·exact eK (.inl d)
 ·have n:scope.names.lookup y=some .cell:=by
   have R:(scope.names.lookup y == some NameKind.cell)=true:=U;simpa using R
  rcases gP r with e1|⟨e1,_⟩
  ·have:=(own e1).2;show s.heap.objs.size<=b;omega
  ·obtain⟨C,e⟩:=eK (n:=s.heap.objs.size+1) (acc:=[]) (.inl (mem_of_lookup n));rw[e1]at e;cases e
 ·obtain⟨⟨_,_,_,_,S,_⟩,o,e⟩:=hf b g;refine⟨zZ (zL e),λy C h=>?_⟩;rcases gP h with e1|⟨_,e1⟩
  ·exactλz=>absurd (zJ (zL e) (qK (z ▸ (own e1).2))) (yW _)
  ·exact S y C (c.was I e1)
 ·exact I.bs b o e
 ·exact yC I.ok.bsz I.sz
 ·obtain⟨⟨_,_,_,N,_,_⟩,_⟩:=hf b g;rcases N with z|z
  ·exact I.ok.noex b o e z
  ·exact absurd (zJ (zL e) (yC I.ok.bsz z)) (yW _)
 ·obtain⟨⟨_,Z,a0,_,_,_⟩,_⟩:=hf b g;rcases xC.mp (I.stkSub b W) with z|z
  ·exact Z z
  ·exact a0 z
 ·exact I.stack
 ·exact I.stkFree b g
 ·have l:(xs++fr.map (·.1))[i]?=some y:=r
  by_cases hi:i<xs.length
  ·rw[yA (by simpa using hi),zM]at a;cases q:xs[i]? with
   |none=>rw[q]at a;cases a
   |some z=>rw[q]at a;cases zU a
  ·rw [zT ⋯]at l;rw[zT (by simpa using hi),yO]at a;generalize i-xs.length=j at l a;rw[zM]at l;unfold mL at a;rw[zM]at a;cases e:fr[j]? with
   |none=>rw[e]at l;cases l
   | some p =>
    rw[e]at l a;have e1:p.1=y:=zU l;have f:m.getD p.2 none=some v:=zU a;obtain⟨M,G⟩:=c.fr p (yD e);have O:m[p.2]?=some (some v):=by
     rw[tJ]at f;cases q:m[p.2]? with
     |none=>rw[q]at f;cases f
     |some o=>rw[q]at f;have a1:o=some v:=f;rw[a1]
    subst e1;have d:(p.1,NameKind.free)∈scope.names:=vC G;have kd:=c.free' _ d rfl;obtain⟨a3,_,hl⟩:=t.loc;obtain⟨u,P,V⟩:=hl p.2 p.1 v M O (.inr kd);refine⟨u,P,.inr ⟨Fp G,?_⟩⟩;rcases V with⟨k1,_⟩|⟨_,b,q,z⟩
    ·rcases kd with kd|kd <;> (rw[kd]at k1;cases k1)
    ·obtain⟨C,J⟩:=Ad (env:=X.env) (l:=scope.names) (cs:=[]) (.inl d);have D:=c.was I J;rw[q]at D;cases D;refine⟨b,?_,z⟩;show(cellsFrom (s.heap.objs.size+1) scope.names (clOf X.env scope.names [])).lookup p.1=some b;rw[eJ,List.lookup_append];cases w:(cellsFrom (s.heap.objs.size+1) scope.names []).lookup p.1 with
     |none=>exact J
     |some b2 =>
      rcases Bz (mem_of_lookup w) with w|w
      ·simp at w
      ·cases Fh c.nn d w
 ·rcases gP h with e1|⟨_,e1⟩
  ·exact⟨none,(own e1).1⟩
  ·exact t.cell y b (c.was I e1)
 ·exact I.hok.fresh (zF _)
 ·rcases gP h with e1|⟨_,e1⟩
  ·exact I.hok.fresh (by have:=(own e1).2;omega)
  ·exact t.freeC y b (c.was I e1)
 ·show(xs.map (λ_=>none)++mL fr m).length=(xs++fr.map (·.1)).length;simp[mL]
end
abbrev TOx:=St->Hp->(Option V->Hp->Prop)->Prop
def tEl(te:TE):TOx:=λσ H Q=>te σ H λy H'=>Q (some y) H'
def gQ(tc:TT)(te:TE):TOx:=λσ H Q=>tc σ H λb H1=>if b=true then te σ H1 (λy H'=>Q (some y) H') else Q none H1
def eL(elt:Expr)(ifs:List Expr)(env:Env)(M:Model)(A:Around)(Q:Option Value->Shared->Prop)(E:VP)(s:Shared):Prop:=
 match ifs with
 |[]=>wpAny M A (eval elt env) (λx s1=>Q (some x) s1) E s
 |[c]=>wpAny M A (isTrue c env (eval c env)) (λb s1=>if b=true then wpAny M A (eval elt env) (λx s2=>Q (some x) s2) E s1 else Q none s1) E s
 |_=>False
def POx(X:Cx)(elt:Expr)(ifs:List Expr)(t:TOx):Prop:=∀(pins:PN)(s:Shared)(σ:St)(H:Hp)(Q:Option V->Hp->Prop),Inv X pins σ H s->t σ H Q ->
 eL elt ifs X.env (model X.prog X.w) X.A (λo s'=>∃v H',Inv X pins σ H' s'/\(match o,v with|some u,some y=>RelV y u|none,none=>True|_,_=>False)/\Q v H') X.xe s
theorem kY{X:Cx}{a:Expr}{te:TE}(h:PE X a te):POx X a [] (tEl te):=λf s c H Q I b =>
 thn (h f s c H _ I b) λu g⟨y,H1,e,r1,d⟩=>⟨some y,H1,e,r1,d⟩
theorem Og{X:Cx}{i c:Expr}{f:TT}{te:TE}(k:PT X c f)(h:PE X i te):POx X i [c] (gQ f te):=λg s d H Q I j=>by
 refine thn (k g s d H _ I j) λb m⟨H1,e,a⟩=>?_;cases b with
 |true =>
  rw[zE rfl]at a ⊢;exact thn (h g m d H1 _ e a) λu o⟨y,H2,l,r2,n⟩=>⟨some y,H2,l,r2,n⟩
 |false =>
  rw[zD yH]at a ⊢;exact⟨none,H1,e,trivial,a⟩
theorem Of{prog:Program}{w:World}{A:Around}{R:Result->Shared->Prop}{s:Shared}{e a f:Expr}{k:List Expr}{j:Scope}{pos:Pos}{d acc:Value}{env:Env}(I:Nat->Shared->Prop)
  (G:∀n s,I n s->wpAny (model prog w) A (pyNext d) (λr p=>match r with
   |none=>R (.ok .next) p
   | some v=>wpAny (model prog w) A (letOwnedTupleGo a d v) (λ_ D=>wpAny (model prog w) A (assign a env v) (λ_ t=>eL e k env (model prog w) A (λo l=>match o with
     |some x=>wpAny (model prog w) A (call (.builtin "list.append") [acc,x]) (λ_ z=>∃m,m<n/\I m z) (λ_ _=>False) l
     |none=>∃m,m<n/\I m l)
     (λ_ _=>False) t) (λ_ _=>False) D) (λ_ _=>False) p) (λ_ _=>False) s)
  (n:Nat)(h:I n s)(C:k.length<=1):
  codeAny (model prog w) A (.compLoop (.ListComp e [⟨a,f,k,0⟩] j pos) 0 d acc env) R s:=by
 refine codeAny_loop rfl I (λn s F=>?_) n h;show wpAny _ _ ((compTurn (.ListComp e [⟨a,f,k,0⟩] j pos) 0 d acc env).onRaise (λx=>do noteFrame x env;theTreesLotGoes x)) _ _ s;refine wpAny_noted ?_;have T:=G n s F
 match k,C,T with
 | [],_,T =>
  rw[compTurn_list1];refine zA (wS (zA (yQ T (λr p i=>?_) λ_ _ h'=>h'.elim)));cases r with
  |none=>exact zB i
  | some v =>
   refine zA (yQ i (λ_ D y=>?_) λ_ _ h'=>h'.elim);exact zA (yQ y (λ_ t q=>zA (zA (yQ (show wpAny _ _ _ _ _ _ from q) (λx l g=>zA (yQ g
    (λ_ z u=>zB (zB ⟨rfl,u⟩)) λ_ _ h'=>h'.elim)) λ_ _ h'=>h'.elim))) λ_ _ h'=>h'.elim)
 | [c],_,T =>
  have e1:compTurn (.ListComp e [⟨a,f,[c],0⟩] j pos) 0 d acc env=(standAt f.pos >>= λ_=>pyNext d >>= λr=>match r with
   |none=>pure (.done .next)
   | some v=>letOwnedTupleGo a d v >>= λ_=>assign a env v >>= λ_=>isTrue c env (eval c env) >>= λok =>
    (if ok=true then(eval e env >>= λx=>call (.builtin "list.append") [acc,x] >>= λ_=>pure ()) >>= λ_=>again (.compLoop (.ListComp e [⟨a,f,[c],0⟩] j pos) 0 d acc env)
     else again (.compLoop (.ListComp e [⟨a,f,[c],0⟩] j pos) 0 d acc env))):=by
   unfold compTurn;simp only[List.forIn_cons,List.forIn_nil,if_true,bind_assoc,pure_bind,List.getElem?_cons_zero];rfl
  rw[e1];refine zA (wS (zA (yQ T (λr p i=>?_) λ_ _ h'=>h'.elim)));cases r with
  |none=>exact zB i
  | some v =>
   refine zA (yQ i (λ_ D y=>?_) λ_ _ h'=>h'.elim);refine zA (yQ y (λ_ t q=>zA (yQ (show wpAny _ _ _ _ _ _ from q) (λb l g=>?_) λ_ _ h'=>h'.elim)) λ_ _ h'=>h'.elim);cases b with
   |true =>
    rw[zE rfl]at g ⊢;exact zA (zA (yQ g (λx z u=>zA (yQ u (λ_ K J=>zB (zB ⟨rfl,J⟩)) λ_ _ h'=>h'.elim)) λ_ _ h'=>h'.elim))
   |false =>
    rw[zD yH]at g ⊢;exact zB ⟨rfl,g⟩
 |_:: _:: _,C,T =>
  exact absurd C (by simp)
def Oe(a:Addr)(N:Hp->Prop):Option V->Hp->Prop
 |some y,H=>∃zs,H a=some (.lst zs)/\zs.length<sizeLine/\N (upd H a (.lst (zs++[y])))
 |none,H=>N H
abbrev lH(J:It)(g:TG)(tt:TOx)(n:Nat)(fr:List (Str×Nat))(σ:St)(a:Addr)(H:Hp)(Q:VK):Prop:=
 ∃ W:Nat->Nat->Hp->Prop,(∃m,W 0 m (upd H a (.lst [])))/\∀i m H2,W i m H2->(J.stop i H2/\Q (.ref a) H2) \/
  (J.go i H2/\∃N:Hp->Prop,(∀H',N H'->∃m',m'<m/\W (i+1) m' H')/\∀(ys:St) x H3,ys.length=n->J.yld i H2 x H3 ->
   g x (ys++mL fr σ) H3 λσ4 H4=>(∃ys':St,ys'.length=n/\σ4=ys'++mL fr σ)/\tt σ4 H4 (Oe a N))
def lI(wi:TI)(g:TG)(tt:TOx)(n:Nat)(fr:List (Str×Nat)):TE:=λσ H Q=>wi σ H λJ H1=>∀a,H1 a=none->lH J g tt n fr σ a H1 Q
section
variable {X:Cx} {sc scope:Scope} {xs:List Str} {fr:List (Str×Nat)} {elt tg iter:Expr} {ifs:List Expr} {g:TG} {tt:TOx}
theorem Fg{F:PN}{D:St}{H:Hp}{s:Shared}{pos:Pos}{b1:It}{k:LA}{a2:Addr}{O:Nat->Heap->Prop}{Q:VK}{RR:Value->Addr->Result->Shared->Prop}{E:VP}
  (c:kM X sc scope xs fr)(a6:X.calm=true)(S:ifs.length<=1)(I:Inv X F D H s)(T:Turn X.prog X.w X.K tg b1 k a2 O)(b7:O 0 s.heap)(hf:∀b∈k,FpOk X F H b)
  (d2:∀(w:Shared)(G:Hp)(k:LA),(mB X scope (xs++fr.map (·.1)) w G k).env.scope=kD sc scope->PG (mB X scope (xs++fr.map (·.1)) w G k) tg g)
  (g1:∀(w:Shared)(G:Hp)(k:LA),(mB X scope (xs++fr.map (·.1)) w G k).env.scope=kD sc scope->POx (mB X scope (xs++fr.map (·.1)) w G k) elt ifs tt)
  (f7:∀a,H a=none->lH b1 g tt xs.length fr D a H Q)
  (d4:∀a C H' t m,t.heap.Ns C m->Inv X F D H' t->FpOk X F H' C->Q (.ref a) H'->RR (.ref a) C (.ok .next) t):
  wpAny (model X.prog X.w) X.A (newList []) (λacc w=>wpAny (model X.prog X.w) X.A (newFunctionEnv scope X.env.globals (clOf X.env scope.names []) [] X.env.qual none .none (some X.env)) (λc9 e3 =>
   codeAny (model X.prog X.w) X.A (.compStart (.ListComp elt [⟨tg,iter,ifs,0⟩] scope pos) 0 (.ref a2) acc {c9 with scope:=relabel scope X.env}) (RR acc c9.locals) e3) E w) E s:=by
 obtain⟨b5,⟨f2,f1⟩,g0⟩:=f7 s.heap.objs.size I.fresh;refine xG (Oi ?_);have b0:Inv X F D (upd H s.heap.objs.size (.lst [])) {s with heap:=s.heap.push {cls:=.type "list",dict:=none,data:=.seq ([]:LW).toArray}}:=I.lnew (ys:=[]) (its:=[]) (t':=s.toks) .nil (yB _);have R:∀b o,s.heap.get? b=some o->(s.heap.push {cls:=.type "list",dict:=none,data:=.seq ([]:LW).toArray}).get? b=some o:=λb o e=>zC _ e;have c0:Un (frs X.stack) k H (upd H s.heap.objs.size (.lst [])) s.heap (s.heap.push {cls:=.type "list",dict:=none,data:=.seq ([]:LW).toArray}):=Un.laid R (zF _) I.fresh;dsimp only;generalize hH2:s.heap.push {cls:=.type "list",dict:=none,data:=.seq ([]:LW).toArray}=l at b0 R c0 ⊢;have hsz:s.heap.objs.size<=l.objs.size:=by rw[←hH2,xM];exact uR _
 have b6:∀b∈k,∃o,s.heap.get? b=some o:=λb j=>let ⟨o,e,_⟩:=T.obj _ _ b7 b j;⟨o,e⟩
 have f8:∀b∈k,b≠s.heap.objs.size:=λb j=>let ⟨_,e⟩:=b6 b j;zZ (zL e)
 have c6:∀b∈k,FpOk X F (upd H s.heap.objs.size (.lst [])) b/\∃o,l.get? b=some o:=λb j=>by
  obtain⟨o,e⟩:=b6 b j;exact⟨⟨by rw[oR (f8 b j)];exact(hf b j).1,(hf b j).2⟩,o,R b o e⟩
 have a1:=Oh c b0 c6;have d3:∀b o,l.get? b=some o->(pushCells (l.push {cls:=.type "dict",data:=.dict #[]}) scope.names).get? b=some o:=λb o e=>pC _ _ b o (zC _ e);have b4:O 0 (pushCells (l.push {cls:=.type "dict",data:=.dict #[]}) scope.names):=T.keep 0 _ _ b7 λb j o e=>d3 b o (R b o e);have b8:∀(w:Shared)(G:Hp)(k:LA),(mB X scope (xs++fr.map (·.1)) w G k).env.scope=kD sc scope:=λ_ _ _=>Oj c.hsc;have Y:∀{H':Hp},(∀b∈k,H' b=none)->∀b∈k,FpOk (mB X scope (xs++fr.map (·.1)) {s with heap:=l} (upd H s.heap.objs.size (.lst [])) k) [] H' b:=λg6 b j=>by
  obtain⟨e1,e5⟩:=a1.ok.exf b j;exact⟨g6 b j,e1,a1.ok.exfs b j,.inl j,e5,λp f3=>absurd (show p∈([]:PN) from f3) (by simp)⟩
 have b2:codeAny (model X.prog X.w) X.A (.compLoop (.ListComp elt [⟨tg,iter,ifs,0⟩] scope pos) 0 (.ref a2) (.ref s.heap.objs.size) (compEnvC scope (cellsFrom (l.objs.size+1) scope.names (clOf X.env scope.names [])) l.objs.size X.env))
   (RR (.ref s.heap.objs.size) l.objs.size) {s with heap:=pushCells (l.push {cls:=.type "dict",data:=.dict #[]}) scope.names}:=by
  refine Of (λn t=>∃i,∃ys:St,∃H',ys.length=xs.length/\Inv (mB X scope (xs++fr.map (·.1)) {s with heap:=l} (upd H s.heap.objs.size (.lst [])) k) [] (ys++mL fr D) H' t/\O i t.heap/\(∀b∈k,H' b=none)/\b5 i n H')
   ?_ f2 ⟨0,xs.map λ_=>none,_,by simp,a1,b4,λb j=>(c6 b j).1.1,f1⟩ S
  rintro n b9 ⟨i,ys,H3,e9,c2,a8,c5,g3⟩;rcases g0 i n H3 g3 with⟨stop,g2⟩|⟨go,N,f4,step⟩
  ·refine thn (T.done (mB X scope (xs++fr.map (·.1)) {s with heap:=l} (upd H s.heap.objs.size (.lst [])) k) rfl rfl rfl a6 i [] b9 _ H3 (λ_ _=>False) c2 (Y c5) a8 stop) λr Z⟨hr,J⟩=>?_;subst hr;obtain⟨e4,f9,_⟩:=J.loc;have a0:Inv X F D H3 Z:=I.call' J.os (c0.trans J.base) J.hok J.bare λb j=>let f:=hf b j;⟨f.2.2.2.1,f.2.1,f.2.2.2.2.1,f.2.2.2.2.2⟩
   exact d4 _ _ H3 Z e4 f9 a0 (I.fpOk hsz J.free) g2
  ·refine thn (T.item (mB X scope (xs++fr.map (·.1)) {s with heap:=l} (upd H s.heap.objs.size (.lst [])) k) rfl rfl rfl a6 i [] b9 _ H3 (λ_ _=>False) c2 (Y c5) a8 go) λr Z⟨u,hr,d5⟩=>?_;subst hr;refine thn d5 λ_ c4⟨y,a7,a0,g5,f5,a4,d8⟩=>?_;have d6:=a0.pinned (Y d8) (T.obj _ _ a4);refine thn (d2 _ _ _ (b8 _ _ _) _ c4 _ a7 y u _ d6 g5 (step ys y a7 e9 f5)) λ_ e7⟨g7,e8,e0,⟨c3,e6,d7⟩,g4⟩=>?_;subst d7;have b3:∀(L:Shared)(v:Hp),Inv (mB X scope (xs++fr.map (·.1)) {s with heap:=l} (upd H s.heap.objs.size (.lst [])) k) ([]++fX k c4.heap) (c3++mL fr D) v L->N v ->
     ∃m,m<n/\∃i,∃ys:St,∃H',ys.length=xs.length/\Inv (mB X scope (xs++fr.map (·.1)) {s with heap:=l} (upd H s.heap.objs.size (.lst [])) k) [] (ys++mL fr D) H' L/\O i L.heap/\(∀b∈k,H' b=none)/\b5 i m H':=by
    intro L v P W;obtain⟨f0,d0,d1⟩:=f4 v W;refine⟨f0,d0,i+1,c3,v,e6,P.unpinned,T.keep _ _ _ a4 λb j o e=>(P.pin (b,o) (yN _ (yN _ (cG j e)))).1,λb j=>?_,d1⟩;obtain⟨o,e,d⟩:=T.obj _ _ a4 b j;exact(P.pin (b,o) (yN _ (yN _ (cG j e)))).2.1
   have d9:=g1 _ _ _ (b8 _ _ _) _ e7 _ e8 _ e0 g4;have mono:∀{Q V:Option Value->Shared->Prop}{E:VP}{t:Shared}{env:Env},(∀o U,Q o U->V o U)->eL elt ifs env (model X.prog X.w) X.A Q E t->eL elt ifs env (model X.prog X.w) X.A V E t:=by
    intro Q V E t env a5 K;unfold eL at K ⊢
    match ifs,S,K with
    |[],_,K=>exact yQ K (λx U q=>a5 _ _ q) λ_ _ e=>e
    |[c],_,K =>
     refine yQ K (λb U q=>?_) λ_ _ e=>e;split at q
     ·rename_i j;rw[zE j];exact yQ q (λx g8 q=>a5 _ _ q) λ_ _ e=>e
     ·rename_i j;rw[zD j];exact a5 _ _ q
    |_:: _:: _,S,_=>exact absurd S (by simp)
   refine mono (λo a9⟨M,c8,c7,a3,c1⟩=>?_) d9;cases o with
   |none =>
    cases M with
    |none=>exact b3 a9 c8 c7 c1
    |some z=>exact a3.elim
   | some e2 =>
    cases M with
    |none=>exact a3.elim
    |some M =>
     obtain⟨zs,hz,hl,f6⟩:=c1;exact thn (jY _ a9 _ c8 (.ref s.heap.objs.size) [M] (.ref s.heap.objs.size) [e2] (λ_ v=>N v) c7 rfl (.cons a3 .nil) ⟨_,zs,M,rfl,rfl,hz,hl,f6⟩) λ_ L⟨_,v,P,_,W⟩=>b3 L v P W
 exact codeAny_compStart_list b2 (T.self _ 0 _ _ _ b4 b2)
variable {wi:TI}
theorem iA{pos:Pos}(c:kM X sc scope xs fr)(p:X.calm=true)(hi:PI X tg iter wi)
  (w:∀(j:Shared)(i:Hp)(d:LA),(mB X scope (xs++fr.map (·.1)) j i d).env.scope=kD sc scope->PG (mB X scope (xs++fr.map (·.1)) j i d) tg g)
  (z:∀(j:Shared)(i:Hp)(d:LA),(mB X scope (xs++fr.map (·.1)) j i d).env.scope=kD sc scope->POx (mB X scope (xs++fr.map (·.1)) j i d) elt ifs tt)
  (G:ifs.length<=1:=by exact Nat.le_of_ble_eq_true rfl)(F:∀x,foldedSetIterable iter X.env x=pure x:=by intro _;rfl):PE X (.ListComp elt [⟨tg,iter,ifs,0⟩] scope pos) (lI wi g tt xs.length fr):=by
 intro k s l H Q I h;rw[eval_ListComp];refine wpAny_comprehension_free (use:=none) rfl F (Fq (c.cells I)) c.kind c.loc (thn (hi k s l H _ I h) λv S r=>thn r λU O J=>?_);obtain⟨R,d,P,V,H2,e,y,T,D,L,n⟩:=J;subst e;refine Fg (RR:=λacc C=>compPost (model X.prog X.w) X.A X.xe none (EP X k l Q) acc C) c p G y T D L w z n ?_;intro a C H' t m N K f q;exact⟨m,N,λh' M=>⟨.ref a,H',K.turned (t':=t.toks) (λb o u e=>(M.2 b u).trans e) f.1 f.2.1 f.2.2.2.1 f.2.2.2.2.1 f.2.2.2.2.2,rfl,q⟩⟩
theorem Bx{pos u j:Pos}{y:Str}{i:Nat}(c:kM X sc scope xs fr)(z:X.calm=true)(Z:X.N.Nodup)(a1:X.N[i]?=some y)(hl:X.env.scope.names.lookup y=some .local)(hi:PI X tg iter wi)
  (N:∀(n:Shared)(l:Hp)(d:LA),(mB X scope (xs++fr.map (·.1)) n l d).env.scope=kD sc scope->PG (mB X scope (xs++fr.map (·.1)) n l d) tg g)
  (P:∀(n:Shared)(l:Hp)(d:LA),(mB X scope (xs++fr.map (·.1)) n l d).env.scope=kD sc scope->POx (mB X scope (xs++fr.map (·.1)) n l d) elt ifs tt)
  (F:swapsWith (.ListComp elt [⟨tg,iter,ifs,0⟩] scope pos) (some (.Name y j)) u.line X.env=pure true:=by rfl)
  (V:ifs.length<=1:=by exact Nat.le_of_ble_eq_true rfl)(U:∀x,foldedSetIterable iter X.env x=pure x:=by intro _;rfl):PS X (.Assign [.Name y j] (.ListComp elt [⟨tg,iter,ifs,0⟩] scope pos) u) (Fo i (lI wi g tt xs.length fr)):=by
 intro r s t H D I h;rw[exec_Assign_Name_used _ _ _ _ F];refine zA (wS (zA ?_));show wpAny _ _ (do let _ ←comprehension (.ListComp elt [⟨tg,iter,ifs,0⟩] scope pos) scope X.env _ (newList []) false (eval iter X.env) (some (assign (.Name y j) X.env))) _ _ s;refine zA (yQ (wpAny_comprehension_free (use:=some (assign (.Name y j) X.env)) (Q:=λ_ k=>SP X r D .next k) rfl U (Fq (c.cells I)) c.kind c.loc
  (thn (hi r s t H _ I h) λv a7 L=>thn L λa8 a4 W=>?_)) (λ_ k a2=>zB (zB a2)) λ_ _ e=>e)
 obtain⟨a6,d,a5,a9,H2,e,O,T,S,Y,w⟩:=W;subst e;refine Fg (RR:=λacc C=>compPost (model X.prog X.w) X.A X.xe (some (assign (.Name y j) X.env)) (λ_ k=>SP X r D .next k) acc C) (Q:=λv H1=>D.nx (t.set i (some v)) H1) c z V O T S Y N P w ?_;intro a C H' k m a3 K f q;show wpAny _ _ (assign (.Name y j) X.env (.ref a)) _ _ _;refine wpAny_assign_Name (Ex K Z a1 (.inl hl) (show RelV (.ref a) (.ref a) from rfl) (λR J⟨b,M,p⟩=>?_) (.inr hl));have G:C≠b:=by
  rcases p with e|e
  ·rw[e];exact f.2.1
  ·exact yF (f.2.2.2.2.1 y b e)
 refine⟨m,a3.sameBut M G,λh' a0=>?_⟩;exact⟨_,H',J.turned (t':=R.toks) (λb o p e=>(a0.2 b p).trans e) f.1 f.2.1 f.2.2.2.1 f.2.2.2.2.1 f.2.2.2.2.2,q⟩
end
def cS(sc:Scope)(N:List Str)(scope:Scope)(fr:List (Str×Nat)):Bool:=
 decide (scope.kind=.function) && decide ((scope.names.map (·.1)).Nodup) && decide (∀y∈scope.names,y.2=.free->sc.names.lookup y.1=some .cell\/sc.names.lookup y.1=some .free) &&
 decide (∀y∈scope.names,y.2=.local->scope.names.lookup y.1=some .local) && decide (∀p∈fr,N[p.2]?=some p.1/\scope.names.lookup p.1=some .free)
theorem kN{X:Cx}{sc a:Scope}{N xs:List Str}{fr:List (Str×Nat)}(b:X.env.scope=sc)(g:X.N=N)(h:cS sc N a fr=true):kM X sc a xs fr:=by
 unfold cS at h;simp only[Bool.and_eq_true,decide_eq_true_eq]at h;obtain⟨⟨⟨⟨e1,d⟩,c⟩,e⟩,f⟩:=h;subst g;exact⟨b,e1,d,c,e,f⟩
def cT(sc:Scope)(N:List Str)(i:Nat)(x:Str):Bool:=decide (N.Nodup) && decide (N[i]?=some x) && (decide (sc.names.lookup x=some .local))
theorem kZ{X:Cx}{sc:Scope}{N:List Str}{i:Nat}{x:Str}{pos:Pos}(b:X.env.scope=sc)(a:X.N=N)(h:cT sc N i x=true):PG X (.Name x pos) (oW i):=by
 unfold cT at h;simp only[Bool.and_eq_true,decide_eq_true_eq]at h;subst b a;exact nS h.1.1 h.1.2 (.inl h.2) (.inr h.2)
theorem eN{X:Cx}{sc:Scope}{N:List Str}{i:Nat}{x:Str}{pos:Pos}(b:X.env.scope=sc)(a:X.N=N)(h:(decide (N.Nodup) && decide (N[i]?=some x) && (decide (sc.names.lookup x=some .cell)))=true)(hf:X.fn x=true):PG X (.Name x pos) (oW i):=by
 simp only[Bool.and_eq_true,decide_eq_true_eq]at h;subst b a;exact nS h.1.1 h.1.2 (.inr h.2) (.inl hf)
def SqB(b:Bool)(K:Frag)(H:Hp)(a:Addr)(xs:List V):Prop:=match b with|false=>SqL K H a xs|true=>SqT K H a xs
def ItB(b:Bool)(h:Heap)(it a:Addr)(i:Nat):Prop:=match b with|false=>h.IsListIter it a i|true=>h.IsTupleIter it a i
def seqB(b:Bool)(h:Heap)(a:Addr)(its:Array Value):Prop:=match b with|false=>h.IsList a its|true=>h.IsTuple a its
def nmB(b:Bool):String:=match b with|false => "list_iterator" |true => "tuple_iterator"
theorem ItB.at{b:Bool}{h h':Heap}{c a:Addr}{i:Nat}(x:ItB b h c a i)(e:∀o,h.get? c=some o->h'.get? c=some o):ItB b h' c a i:=by
 cases b
 ·exact Heap.IsListIter.at x e
 ·exact Heap.IsTupleIter.at x e
theorem seqB.at{b:Bool}{h h':Heap}{a:Addr}{its:Array Value}(x:seqB b h a its)(e:∀o,h.get? a=some o->h'.get? a=some o):seqB b h' a its:=by
 cases b
 ·exact Heap.IsList.at x e
 ·obtain⟨o,c,r⟩:=x;exact⟨o,e o c,r⟩
theorem ItB.lt{b:Bool}{h:Heap}{f a:Addr}{i:Nat}(x:ItB b h f a i):∃o,h.get? f=some o/\∀v,o.data≠.cell v:=by
 cases b
 ·obtain⟨o,e,c,d⟩:=x;exact⟨o,e,λv z=>by rw[d]at z;cases z⟩
 ·obtain⟨o,e,c,d⟩:=x;exact⟨o,e,λv z=>by rw[d]at z;cases z⟩
section
variable {prog:Program} {w:World} {A:Around} {E:VP} {s:Shared}
theorem Od{b a:Addr}{i:Nat}{items}{x:Value}{Q:VP}(e:s.heap.IsTupleIter b a i)(m:s.heap.IsTuple a items)(g:items[i]?=some x)
  (j:∀h',h'.IsTupleIter b a (i+1)->Heap.SameBut b s.heap h'->Q x {s with heap:=h'}):wpAny (model prog w) A (Builtin.SmallTypes.nextOf (.ref b)) Q E s:=by
 obtain⟨o,d,f,c⟩:=id e;obtain⟨n,l,_,p,k⟩:=m;unfold Builtin.SmallTypes.nextOf;refine zA (wB (name:=Str.ofString "__next__") e.typeIs vO
  (xS vO e.typeIs F.entry_tuple_iterator_next ?_ (F.args_tuple_iterator_next_1 _)))
 show wpAny _ _ (field (.ref b) 0 >>= _) _ _ s;refine zA (xR d c (x:=.ref a) rfl ?_);show wpAny _ _ (if(Value.ref a == Value.none)=true then _ else _) _ _ s;rw[zD (show¬ ((Value.ref a == Value.none)=true) from yH)];show wpAny _ _ (field (.ref b) 1 >>= _) _ _ s;refine zA (xR d c (x:=.int i 0) rfl ?_);show wpAny _ _ (seqItems? (.ref a) >>= _) _ _ s;refine zA (wI l k ?_);simp only[Int.toNat_natCast,g];refine zA (tS d c (by simp) (zB ⟨x,rfl,zB (j _ ?_ (wM ..))⟩));exact⟨_,wA _ d (Obj.isFreed_of_fields (tP c _)),(Obj.cls_mapFields ..).trans f,by
  rw[tP c];simp[rawInt]⟩
theorem Oc{b a:Addr}{i:Nat}{items}{Q:VP}(hh:A.handled=none)(c:s.heap.IsTupleIter b a i)(m:s.heap.IsTuple a items)(j:items[i]?=none)
  (g:∀h' e,Heap.ExtBut b s.heap h'->(∃o,h'.get? e=some o/\o.cls=.type "StopIteration")->E (.ref e) {s with heap:=h'}):wpAny (model prog w) A (Builtin.SmallTypes.nextOf (.ref b)) Q E s:=by
 obtain⟨o,f,p,d⟩:=id c;obtain⟨n,l,_,q,k⟩:=m;unfold Builtin.SmallTypes.nextOf;refine zA (wB (name:=Str.ofString "__next__") c.typeIs vO
  (xS vO c.typeIs F.entry_tuple_iterator_next ?_ (F.args_tuple_iterator_next_1 _)))
 show wpAny _ _ (field (.ref b) 0 >>= _) _ _ s;refine zA (xR f d (x:=.ref a) rfl ?_);show wpAny _ _ (if(Value.ref a == Value.none)=true then _ else _) _ _ s;rw[zD (show¬ ((Value.ref a == Value.none)=true) from yH)];show wpAny _ _ (field (.ref b) 1 >>= _) _ _ s;refine zA (xR f d (x:=.int i 0) rfl ?_);show wpAny _ _ (seqItems? (.ref a) >>= _) _ _ s;refine zA (wI l k ?_);simp only[Int.toNat_natCast,j];refine zA (wR (zA (tS f d (by simp) ?_)));show wpAny _ _ (newExc (.type "StopIteration") [] >>= _) _ _ _;refine zA ?_;simp only[newExc,newTuple];refine zA (xG ?_ (by size_fits));refine zA (m:=firstArgMember _ _) (wpAny_of_eq (a:=Value.none) (by first|rfl|(simp only[firstArgMember];rfl)) ?_);refine xG ?_ (by size_fits);simp only[raiseNew];refine zA (wpAny_handled ?_)
 first|rw[show A.in1.handled=none from hh]|rw[hh]
 refine zA (zB (wpAny_throw ?_));exact g _ _ (((wM ..).extBut.push _).push _) ⟨_,zP _ rfl,rfl⟩
theorem cU{b:Bool}{a l:Addr}{i:Nat}{items:Array Value}{x:Value}{Q:VP}(c:ItB b s.heap a l i)(hl:seqB b s.heap l items)(d:items[i]?=some x)
  (e:∀h',ItB b h' a l (i+1)->Heap.SameBut a s.heap h'->Q x {s with heap:=h'}):wpAny (model prog w) A (Builtin.SmallTypes.nextOf (.ref a)) Q E s:=by
 cases b
 ·exact wpAny_nextOf_list_item c hl d e
 ·exact Od c hl d e
theorem Bw{b:Bool}{a l:Addr}{i:Nat}{items:Array Value}{Q:VP}(hh:A.handled=none)(c:ItB b s.heap a l i)(hl:seqB b s.heap l items)(d:items[i]?=none)
  (f:∀h' e,Heap.ExtBut a s.heap h'->(∃o,h'.get? e=some o/\o.cls=.type "StopIteration")->E (.ref e) {s with heap:=h'}):wpAny (model prog w) A (Builtin.SmallTypes.nextOf (.ref a)) Q E s:=by
 cases b
 ·exact wpAny_nextOf_list_end hh c hl d f
 ·exact Oc hh c hl d f
theorem Ff{b:Bool}{l:Addr}{items:Array Value}{Q:VP}(hl:seqB b s.heap l items)
  (a:Q (.ref s.heap.objs.size) {s with heap:=s.heap.push {cls:=.type (nmB b),data:=.fields #[.ref l,.int 0 0]}}):wpAny (model prog w) A (pyIter (.ref l)) Q E s:=by
 cases b
 ·exact tX hl a
 ·exact uQ hl a
theorem Fe{b:Bool}{h:Heap}{l:Addr}:ItB b (h.push {cls:=.type (nmB b),data:=.fields #[.ref l,.int 0 0]}) h.objs.size l 0:=by
 cases b
 ·exact⟨_,zP _ rfl,rfl,rfl⟩
 ·exact⟨_,zP _ rfl,rfl,rfl⟩
theorem Fd(b:Bool)(hh:A.handled=none)(a l:Addr)(k:l≠a)(items:Array Value):
  Draws prog w A a [a,l] items.size (λi v=>items[i]?=some v) (λi h=>ItB b h a l i/\seqB b h l items) where
 live:=λ_ _ st=>let ⟨o,m,_⟩:=st.1.lt;⟨o,m⟩
 frame:=λ_ _ _ st d=>⟨st.1.at λo e=>d a (by simp) o e,st.2.at λo e=>d l (by simp) o e⟩
 item:=λi s Q E hi st g=>by
  refine cU st.1 st.2 (x:=items[i]) (by simp[hi]) λh' j c=>?_;exact g _ h' s.toks (by simp[hi]) ⟨j,st.2.at λo e=>(c.2 l k).trans e⟩ c
 done:=λs Q E st f=>Bw hh st.1 st.2 (by simp) f
theorem Ob{b1 b2:Bool}{z TI TO g f l1 l2:Addr}{k1 k2:Nat}{xs ys:Array Value}{x y a b:Value}{Q:Option Value->Shared->Prop}(D:ZipApart z TI TO g f l1 l2)
  (hz:IsZip s.heap z TI TO .none)(W:IsPair s.heap TI (.ref g) (.ref f))(V:IsPair s.heap TO a b)
  (U:ItB b1 s.heap g l1 k1)(a8:ItB b2 s.heap f l2 k2)(Z:seqB b1 s.heap l1 xs)(Y:seqB b2 s.heap l2 ys)(a0:xs[k1]?=some x)(b3:ys[k2]?=some y)
  (a5:∀h',IsZip h' z TI TO (rawInt s.heap.objs.size)->IsPair h' TO x y->ItB b1 h' g l1 (k1+1)->ItB b2 h' f l2 (k2+1)->IsPair h' s.heap.objs.size x y->h'.objs.size=s.heap.objs.size+1 ->
   (∀c o,c≠z->c≠TO->c≠g->c≠f->s.heap.get? c=some o->h'.get? c=some o)->Q (some (.ref s.heap.objs.size)) {s with heap:=h'}):
  wpAny (model prog w) A (pyNext (.ref z)) Q E s:=by
 have P:s.TypeIs (.ref z) "zip" := ⟨_,hz,rfl⟩;unfold pyNext;refine zA (vN (wB (name:=Str.ofString "__next__") P sQ (xS sQ P F.entry_zip_next ?_ (F.args_zip_next_1 _))));show wpAny _ _ (field (.ref z) 2 >>= _) _ _ _;refine zA (xR hz rfl (x:=.bool false) rfl ?_);show wpAny _ _ (field (.ref z) 3 >>= _) _ _ _;refine zA (xR hz rfl (x:=.ref TI) rfl ?_);refine zA (wI W rfl ?_);show wpAny _ _ (Builtin.SmallTypes.ownedTupleIsFree (.ref z) >>= _) _ _ _;refine zA ?_;unfold Builtin.SmallTypes.ownedTupleIsFree;refine zA (xR hz rfl (x:=.none) rfl (zB ?_));simp only[if_true];refine zA (wR ?_);refine zA (xR hz rfl (x:=.ref TO) rfl ?_);refine zA (vJ hz (by simp) λa2 K i=>?_);replace K:IsZip a2 z TI TO .ellipsis:=K;refine zA ?_;simp only[List.zipIdx_cons,List.zipIdx_nil,List.forIn_cons,List.forIn_nil];refine zA (zA (qB ?_));show wpAny _ _ (Builtin.SmallTypes.nextOf (.ref g) >>= _) _ _ _;refine zA (cU (U.at λo e=>i.extBut _ _ D.i1z e) (Z.at λo e=>i.extBut _ _ D.l1z e) a0 λT a7 k=>zB ?_);have M:IsPair T TO a b:=k.extBut _ _ D.TOi1 (i.extBut _ _ D.TOz V);refine zA (wI M rfl ?_);refine zA (sW M λb4 u l=>?_);replace u:IsPair b4 TO x b:=u;refine zA (rM (zB ?_));refine zA (zA (qB ?_));show wpAny _ _ (Builtin.SmallTypes.nextOf (.ref f) >>= _) _ _ _;refine zA (cU (a8.at λo e=>l.extBut _ _ D.TOi2.symm (k.extBut _ _ D.i12.symm (i.extBut _ _ D.i2z e)))
  (Y.at λo e=>l.extBut _ _ D.l2TO (k.extBut _ _ D.l2i1 (i.extBut _ _ D.l2z e))) b3 λa1 a4 n=>zB ?_)
 have O:IsPair a1 TO x b:=n.extBut _ _ D.TOi2 u;refine zA (wI O rfl ?_);refine zA (sW O λd q p=>?_);replace q:IsPair d TO x y:=q;refine zA (rM (zB (zB ?_)));refine zA (wI q rfl ?_);refine zA (pJ ?_);have hsz:d.objs.size=s.heap.objs.size:=by rw[p.1,n.1,l.1,k.1,i.1]
 have L:IsZip d z TI TO .ellipsis:=p.extBut _ _ D.TOz.symm (n.extBut _ _ D.i2z.symm (l.extBut _ _ D.TOz.symm (k.extBut _ _ D.i1z.symm K)));have X:∀c o,c≠z->c≠TO->c≠g->c≠f->s.heap.get? c=some o->d.get? c=some o:=λc o j r I v e =>
  p.extBut _ _ r (n.extBut _ _ v (l.extBut _ _ r (k.extBut _ _ I (i.extBut _ _ j e))))
 have a9:ItB b1 d g l1 (k1+1):=a7.at λo e=>p.extBut _ _ D.TOi1.symm (n.extBut _ _ D.i12 (l.extBut _ _ D.TOi1.symm e));have b0:ItB b2 d f l2 (k2+1):=a4.at λo e=>p.extBut _ _ D.TOi2.symm e;have S:z<d.objs.size:=zL L;show wpAny _ _ (Builtin.SmallTypes.ownedTupleHandOut (.ref z) (.ref d.objs.size) >>= _) _ _ _;refine zA ?_;unfold Builtin.SmallTypes.ownedTupleHandOut;have a6:IsZip (d.push {cls:=.type "tuple",data:=.seq #[x,y]}) z TI TO .ellipsis:=zC _ L;refine zA (vJ a6 (by simp) λa3 C G=>?_);replace C:IsZip a3 z TI TO (rawInt d.objs.size):=C;refine vJ C (by simp) λm t J=>?_;replace t:IsZip m z TI TO (rawInt d.objs.size):=t;have up:∀c o,c≠z->d.get? c=some o->m.get? c=some o:=λc o j e=>J.extBut _ _ j (G.extBut _ _ j (zC _ e));have R:IsPair m d.objs.size x y:=J.extBut _ _ (sZ S) (G.extBut _ _ (sZ S) (zP _ rfl));have N:m.objs.size=d.objs.size+1:=by rw[J.1,G.1,xM]
 rw[hsz]at t R N;refine zB ⟨_,rfl,zB ?_⟩;show Q (some (.ref d.objs.size)) _;rw[hsz];exact a5 m t (up _ _ D.TOz q) (a9.at λo e=>up _ o D.i1z e) (b0.at λo e=>up _ o D.i2z e) R N λc o j r I v e=>up c o j (X c o j r I v e)
theorem Oa{b1 b2:Bool}{z TI TO l j l1 l2:Addr}{k1 k2:Nat}{xs ys:Array Value}{a b:Value}{Q:Option Value->Shared->Prop}(hh:A.handled=none)(D:ZipApart z TI TO l j l1 l2)
  (hz:IsZip s.heap z TI TO .none)(P:IsPair s.heap TI (.ref l) (.ref j))(O:IsPair s.heap TO a b)
  (v:ItB b1 s.heap l l1 k1)(Y:ItB b2 s.heap j l2 k2)(G:seqB b1 s.heap l1 xs)(S:seqB b2 s.heap l2 ys)(V:xs[k1]?=none\/ys[k2]?=none)
  (M:∀h',(∀c o,c≠z->c≠TO->c≠l->c≠j->s.heap.get? c=some o->h'.get? c=some o)->Q none {s with heap:=h'}):wpAny (model prog w) A (pyNext (.ref z)) Q E s:=by
 have J:s.TypeIs (.ref z) "zip" := ⟨_,hz,rfl⟩;unfold pyNext;refine zA (vN (wB (name:=Str.ofString "__next__") J sQ (xS sQ J F.entry_zip_next (Q:=_) ?_ (F.args_zip_next_1 _))));show wpAny _ _ (field (.ref z) 2 >>= _) _ _ _;refine zA (xR hz rfl (x:=.bool false) rfl ?_);show wpAny _ _ (field (.ref z) 3 >>= _) _ _ _;refine zA (xR hz rfl (x:=.ref TI) rfl ?_);refine zA (wI P rfl ?_);show wpAny _ _ (Builtin.SmallTypes.ownedTupleIsFree (.ref z) >>= _) _ _ _;refine zA ?_;unfold Builtin.SmallTypes.ownedTupleIsFree;refine zA (xR hz rfl (x:=.none) rfl (zB ?_));simp only[if_true];refine zA (wR ?_);refine zA (xR hz rfl (x:=.ref TO) rfl ?_);refine zA (vJ hz (by simp) λW n d=>?_);replace n:IsZip W z TI TO .ellipsis:=n;refine zA ?_;simp only[List.zipIdx_cons,List.zipIdx_nil,List.forIn_cons,List.forIn_nil];refine zA (zA (qB ?_));show wpAny _ _ (Builtin.SmallTypes.nextOf (.ref l) >>= _) _ _ _;cases hx:xs[k1]? with
 |none =>
  refine zA (Bw hh (v.at λo e=>d.extBut _ _ D.i1z e) (G.at λo e=>d.extBut _ _ D.l1z e) hx λp e f q=>?_);obtain⟨r,g,k⟩:=q;have y:IsZip p z TI TO .ellipsis:=f _ _ D.i1z.symm n;have u:e≠z:=λx=>by subst x;rw[y]at g;cases g;simp at k
  refine vJ y (by simp) λN _ i=>?_;refine zA (uB (T:= "StopIteration") (b:=true) ⟨r,i.extBut _ _ u g,k⟩ pI ?_);exact zB (M N λc o m _ t _ x=>i.extBut _ _ m (f _ _ t (d.extBut _ _ m x)))
 | some x =>
  have Z:ys[k2]?=none:=by rcases V with h|h;rw[hx]at h;cases h;exact h
  refine zA (cU (v.at λo e=>d.extBut _ _ D.i1z e) (G.at λo e=>d.extBut _ _ D.l1z e) hx λp a1 f=>zB ?_);have C:IsPair p TO a b:=f.extBut _ _ D.TOi1 (d.extBut _ _ D.TOz O);refine zA (wI C rfl ?_);refine zA (sW C λN a0 i=>?_);refine zA (rM (zB ?_));refine zA (zA (qB ?_));show wpAny _ _ (Builtin.SmallTypes.nextOf (.ref j) >>= _) _ _ _;refine zA (Bw hh (Y.at λo e=>i.extBut _ _ D.TOi2.symm (f.extBut _ _ D.i12.symm (d.extBut _ _ D.i2z e)))
   (S.at λo e=>i.extBut _ _ D.l2TO (f.extBut _ _ D.l2i1 (d.extBut _ _ D.l2z e))) Z λU e I q=>?_)
  obtain⟨r,g,k⟩:=q;have L:IsZip U z TI TO .ellipsis:=I _ _ D.i2z.symm (i.extBut _ _ D.TOz.symm (f.extBut _ _ D.i1z.symm n));have u:e≠z:=λx=>by subst x;rw[L]at g;cases g;simp at k
  refine vJ L (by simp) λX _ K=>?_;refine zA (uB (T:= "StopIteration") (b:=true) ⟨r,K.extBut _ _ u g,k⟩ pI ?_);exact zB (M X λc o m T t R x=>K.extBut _ _ m (I _ _ R (i.extBut _ _ T (f.extBut _ _ t (d.extBut _ _ m x)))))
end
abbrev zB1(b1:Bool)(h:Heap)(l1:Addr):Heap:=h.push {cls:=.type (nmB b1),data:=.fields #[.ref l1,.int 0 0]}
abbrev zB2(b1 b2:Bool)(h:Heap)(l1 l2:Addr):Heap:=(zB1 b1 h l1).push {cls:=.type (nmB b2),data:=.fields #[.ref l2,.int 0 0]}
abbrev zB3(b1 b2:Bool)(h:Heap)(l1 l2:Addr):Heap:=(zB2 b1 b2 h l1 l2).push {cls:=.type "tuple",data:=.seq #[.ref h.objs.size,.ref (zB1 b1 h l1).objs.size]}
abbrev zB4(b1 b2:Bool)(h:Heap)(l1 l2:Addr):Heap:=(zB3 b1 b2 h l1 l2).push {cls:=.type "tuple",data:=.seq #[.none,.none]}
abbrev zB5(b1 b2:Bool)(h:Heap)(l1 l2:Addr):Heap:=(zB4 b1 b2 h l1 l2).push {cls:=.type "zip",data:=.fields #[.none,.bool false,.bool false,.ref (zB2 b1 b2 h l1 l2).objs.size,.ref (zB3 b1 b2 h l1 l2).objs.size]}
theorem Pz(b1 b2:Bool)(l1 l2:Addr)(xs ys:Array Value):
  Meets (Builtin.«zip.__new__» ⟨[.type "zip",.ref l1,.ref l2],[]⟩) (λ_ R s=>seqB b1 s.heap l1 xs/\seqB b2 s.heap l2 ys /\
   R (.ok (.ret (.ref (zB4 b1 b2 s.heap l1 l2).objs.size))) {s with heap:=zB5 b1 b2 s.heap l1 l2}):=
 .of_wp λprog w A R s h=>by
  obtain⟨b,g,d,tk,a⟩:=s;obtain⟨j,f,h⟩:=h;have k:=sub_zip;have i:seqB b1 (Shared.heap ⟨b,g,d,tk,a⟩) l1 xs:=j;have c:seqB b2 (Shared.heap ⟨b.push {cls:=.type (nmB b1),data:=.fields #[.ref l1,.int 0 0]},g,d,tk,a⟩) l2 ys:=f.at λo e=>zC _ e
  wp_walk using Ff i,Ff c
  exact⟨_,rfl,h⟩
theorem Py{prog:Program}{w:World}{A:Around}{E:VP}{s:Shared}{b1 b2:Bool}{l1 l2:Addr}{xs ys:Array Value}{Q:VP}(q:seqB b1 s.heap l1 xs)(p:seqB b2 s.heap l2 ys)
  (h:∀h',IsZip h' (s.heap.objs.size+4) (s.heap.objs.size+2) (s.heap.objs.size+3) .none->IsPair h' (s.heap.objs.size+2) (.ref s.heap.objs.size) (.ref (s.heap.objs.size+1)) ->
   IsPair h' (s.heap.objs.size+3) .none .none->ItB b1 h' s.heap.objs.size l1 0->ItB b2 h' (s.heap.objs.size+1) l2 0 ->
   (∀c o,s.heap.get? c=some o->h'.get? c=some o)->Q (.ref (s.heap.objs.size+4)) {s with heap:=h'}):
  wpAny (model prog w) A (call (.type "zip") [.ref l1,.ref l2]) Q E s:=by
 refine callType_new F.called_zip ∅ (F.typeCall_zip_2 _ _) (F.newCall_zip_2 _ _) (λn=>F.args_object_init_3 n _ _) F.entry_zip_new
  (Pz b1 b2 l1 l2 xs ys) ⟨q,p,?_⟩
 have g:(zB1 b1 s.heap l1).objs.size=s.heap.objs.size+1:=xM ..;have a:(zB2 b1 b2 s.heap l1 l2).objs.size=s.heap.objs.size+2:=by rw[xM,g]
 have f:(zB3 b1 b2 s.heap l1 l2).objs.size=s.heap.objs.size+3:=by rw[xM,a]
 have k:(zB4 b1 b2 s.heap l1 l2).objs.size=s.heap.objs.size+4:=by rw[xM,f]
 have b:(zB5 b1 b2 s.heap l1 l2).get? (zB4 b1 b2 s.heap l1 l2).objs.size=some _:=zP _ rfl;have i:(zB5 b1 b2 s.heap l1 l2).get? (zB3 b1 b2 s.heap l1 l2).objs.size=some _:=zC _ (zP _ rfl);have j:(zB5 b1 b2 s.heap l1 l2).get? (zB2 b1 b2 s.heap l1 l2).objs.size=some _:=zC _ (zC _ (zP _ rfl));have d:∀c o,(zB2 b1 b2 s.heap l1 l2).get? c=some o->(zB5 b1 b2 s.heap l1 l2).get? c=some o:=λc o e=>zC _ (zC _ (zC _ e));have l:ItB b2 (zB5 b1 b2 s.heap l1 l2) (zB1 b1 s.heap l1).objs.size l2 0:=Fe.at λo e=>d _ o e;have m:ItB b1 (zB5 b1 b2 s.heap l1 l2) s.heap.objs.size l1 0:=Fe.at λo e=>d _ o (zC _ e);show _/\_;rw[a,f,k]at b;rw[g,a]at j;rw[f]at i;rw[g]at l;rw[k];exact⟨⟨_,b,rfl⟩,h _ b j i m l λc o x=>d c o (zC _ (zC _ x))⟩
section
variable {X:Cx} {pins:PN} {σ:St} {H:Hp} {s:Shared} {h':Heap}
theorem Inv.seqB{b:Bool}{a:Addr}{xs:List V}(I:Inv X pins σ H s)(h:SqB b X.K H a xs):∃its:LW,Vals xs its/\L2.seqB b s.heap a its.toArray:=by
 cases b
 ·obtain⟨its,c,p,_⟩:=I.list h;exact⟨its,c,p.isList⟩
 ·obtain⟨its,c,p,_⟩:=I.tuple h;exact⟨its,c,p⟩
theorem Inv.seqB_inj{b:Bool}{a:Addr}{xs ys:List V}(I:Inv X pins σ H s)(h:SqB b X.K H a xs)(c:SqB b X.K H a ys):xs=ys:=by
 cases b
 ·exact I.list_inj h c
 ·exact I.tuple_inj h c
theorem Inv.seq_ne{b:Bool}{a f:Addr}{xs:List V}(I:Inv X pins σ H s)(h:SqB b X.K H a xs)(hf:FpOk X pins H f):a≠f:=by
 have g:∀u,Rd H a u->a≠f:=λu r z=>by
  subst z;rcases r with r|⟨o,r⟩ <;> (rw[hf.1]at r;cases r)
 have d:∀o,X.K.lookup a=some o->a≠f:=λo e z=>by
  subst z;have q:=I.mod.kin a o e;rcases hf.2.2.2.1 with w|w
  ·exact I.ok.noex _ _ q w
  ·exact absurd (zJ (zL q) (yC I.ok.bsz w)) (yW _)
 cases b
 ·rcases h with h|⟨o,its,n,c,_⟩
  ·exact g _ h
  ·exact d _ c
 ·rcases h with h|⟨o,its,n,c,_⟩
  ·exact g _ h
  ·exact d _ c
theorem Inv.turnedNew{d:LA}{n:Addr}{u:HO}{t':Nat}(I:Inv X pins σ H s)(hf:∀b∈d,FpOk X pins H b)(k:∀b o,b∉d->s.heap.get? b=some o->h'.get? b=some o)(j:s.heap.objs.size<=n)
  (new:nI X.prog X.w (upd H n u) h' n u):Inv X pins σ (upd H n u) {s with heap:=h',toks:=t'}:=by
 have f:=I.hok.fresh j;have i:∀b v,H b=some v->b∉d:=λb v e z=>by rw[(hf b z).1]at e;cases e
 have l:X.env.locals∉d:=λz=>(hf _ z).2.1 rfl;refine I.step (g':=s.gens) (d':=s.drawn) (ch:=d) (λb g=>?_) (λb o _ _ a e _=>k b o a e) (λb o _ _ a e _=>⟨o.slots,k b o a e⟩) (λb o _ e z=>?_)
  (λb o a e=>⟨o,k b o a e⟩) (λb xs e=>?_) (λb o v e=>?_) (λb ps e=>⟨#[],?_⟩) (λm C=>?_) (λb v e=>?_) I.bare
 ·obtain⟨F,w,G,p,y,t⟩:=hf b g;exact⟨p,w,y,t⟩
 ·rw[oR (zZ (zJ (zL e) j))];exact z
 ·rw[oR (nN e f)];exact e
 ·rw[oR (nN e f)];exact e
 ·rw[oR (nN e f),e];simp
 ·obtain⟨o,es,ep,D,r⟩:=C;exact⟨o,es,ep,k _ o l D,r⟩
 ·by_cases g:b=n
  ·subst g;rw[oP]at e;cases e;exact new
  ·rw[oR g]at e;refine(I.hok b v e).stay (λc x a q=>k c x ?_ q) (λc q=>by rw[oR (nN q f)];exact q) λc xs q=>by rw[oR (nN q f)];exact q
   rcases a with z|z
   ·rw[z];exact i b v e
   ·exact i c _ z
theorem Inv.turnedL{d:LA}{t':Nat}(I:Inv X pins σ H s)(hf:∀b∈d,FpOk X pins H b)(k:∀b o,b∉d->s.heap.get? b=some o->h'.get? b=some o):Inv X pins σ H {s with heap:=h',toks:=t'}:=by
 have f:∀b v,H b=some v->b∉d:=λb v e z=>by rw[(hf b z).1]at e;cases e
 have g:X.env.locals∉d:=λz=>(hf _ z).2.1 rfl;refine I.step (g':=s.gens) (d':=s.drawn) (ch:=d) (λb t=>?_) (λb o _ _ a e _=>k b o a e) (λb o _ _ a e _=>⟨o.slots,k b o a e⟩) (λb o _ e z=>z)
  (λb o a e=>⟨o,k b o a e⟩) (λb xs e=>e) (λb o v e=>e) (λb ps e=>⟨#[],by rw[e];simp⟩) (λm p=>?_) (λb v e=>?_) I.bare
 ·obtain⟨w,l,y,i,n,j⟩:=hf b t;exact⟨i,l,n,j⟩
 ·obtain⟨o,es,ep,u,r⟩:=p;exact⟨o,es,ep,k _ o g u,r⟩
 ·refine(I.hok b v e).stay (λc x a q=>k c x ?_ q) (λc q=>q) λc xs q=>q;rcases a with z|z
  ·rw[z];exact f b v e
  ·exact f c _ z
end
def Itz(K:Frag)(b1:Bool)(l1:Addr)(b2:Bool)(l2:Addr):It:=
  ⟨λi H=>∃xs ys x y,SqB b1 K H l1 xs/\SqB b2 K H l2 ys/\xs[i]?=some x/\ys[i]?=some y,
   λi H v H'=>∃p x y,v=.ref p/\H p=none/\H'=upd H p (.tup [x,y])/\(∀xs,SqB b1 K H l1 xs->xs[i]?=some x)/\∀ys,SqB b2 K H l2 ys->ys[i]?=some y,
   λi H=>∃xs ys,SqB b1 K H l1 xs/\SqB b2 K H l2 ys/\(xs[i]?=none\/ys[i]?=none)⟩
theorem Fc{xs:List V}{its:LW}{i:Nat}(r:Vals xs its):xs[i]?=none->its.toArray[i]?=none:=λh=>by
 have:=r.none_of h;simpa using this
theorem Px{P:Program}{w:World}{K:Frag}{es:List Expr}{k:Nat}{pos:Pos}{b1 b2:Bool}{z TI TO g d l1 l2:Addr}(O:[z,TI,TO,g,d].Nodup):
  Turn P w K (.Tuple es k pos) (Itz K b1 l1 b2 l2) [z,TI,TO,g,d] z (λi h=>IsZip h z TI TO .none/\IsPair h TI (.ref g) (.ref d)/\(∃a b,IsPair h TO a b)/\ItB b1 h g l1 i/\ItB b2 h d l2 i) where
 mem:=by simp
 obj:=λi h⟨hz,j,⟨a,b,r⟩,p,t⟩c L=>by
  simp only[List.mem_cons,List.not_mem_nil,or_false]at L;rcases L with e|e|e|e|e <;> subst e
  ·exact⟨_,hz,λv q=>by have M:Data.fields _=Data.cell v:=q;cases M⟩
  ·exact⟨_,j,λv q=>by have M:Data.seq _ _=Data.cell v:=q;cases M⟩
  ·exact⟨_,r,λv q=>by have M:Data.seq _ _=Data.cell v:=q;cases M⟩
  ·exact p.lt
  ·exact t.lt
 keep:=λi h h'⟨hz,j,⟨a,b,r⟩,p,t⟩J=>⟨J z (by simp) _ hz,J TI (by simp) _ j,⟨a,b,J TO (by simp) _ r⟩,p.at λo e=>J g (by simp) o e,t.at λo e=>J d (by simp) o e⟩
 item:=by
  intro X a0 U a7 L i b6 s b7 H E I hf st a1;subst a0 U a7;obtain⟨hz,j,⟨a,b,r⟩,p,t⟩:=st;obtain⟨xs,ys,x,y,F,C,e1,b5⟩:=a1;obtain⟨d0,r1,Y⟩:=I.seqB F;obtain⟨d5,r2,a8⟩:=I.seqB C;obtain⟨c0,d3,c2⟩:=r1.get e1;obtain⟨b8,c1,c9⟩:=r2.get b5;have m:∀f∈[z,TI,TO,g,d],l1≠f:=λf u=>I.seq_ne F (hf f u);have n:∀f∈[z,TI,TO,g,d],l2≠f:=λf u=>I.seq_ne C (hf f u);simp only[List.nodup_cons,List.mem_cons,List.not_mem_nil,or_false,not_or,List.nodup_nil,and_true,not_false_eq_true]at O;obtain⟨⟨T,S,a4,b4⟩,⟨b3,a5,a2⟩,⟨W,a3⟩,V⟩:=O;have D:ZipApart z TI TO g d l1 l2:=⟨yF T,yF S,yF a4,yF b4,b3,a5,a2,W,a3,V,m z (by simp),m TO (by simp),m g (by simp),m d (by simp),n z (by simp),n TO (by simp),n g (by simp),n d (by simp)⟩;refine Ob D hz j r p t Y a8 (x:=c0) (y:=b8) (by simpa using d3) (by simpa using c1) λh' c3 d2 d1 d4 c4 d7 N=>⟨_,rfl,?_⟩;refine wpAny_letOwnedTupleGo_zip c3 λa9 c5 G=>?_;have up:∀c o,c∉[z,TI,TO,g,d]->s.heap.get? c=some o->a9.get? c=some o:=λc o l e=>by
   simp only[List.mem_cons,List.not_mem_nil,or_false,not_or]at l;obtain⟨R,c7,b0,Z,a6⟩:=l;exact G.extBut _ _ R (N c o R b0 Z a6 e)
  have b9:s.heap.objs.size≠z:=sZ (zL hz);have new:nI X.prog X.w (upd H s.heap.objs.size (.tup [x,y])) a9 s.heap.objs.size (.tup [x,y]):=
   ⟨by show 2<=sizeLine;decide,[c0,b8],.cons c2 (.cons c9 .nil),⟨_,G.extBut _ _ b9 c4,rfl,_,rfl⟩⟩
  have c6:Inv X b6 b7 (upd H s.heap.objs.size (.tup [x,y])) {s with heap:=a9}:=I.turnedNew (t':=s.toks) hf up (zF _) new;refine⟨.ref s.heap.objs.size,_,c6,rfl,⟨_,x,y,rfl,I.fresh,rfl,λd6 q=>by rw[I.seqB_inj q F];exact e1,λd8 q=>by rw[I.seqB_inj q C];exact b5⟩,⟨c5,G.extBut _ _ D.TIz (N _ _ D.TIz D.TITO D.TIi1 D.TIi2 j),⟨_,_,G.extBut _ _ D.TOz d2⟩,d1.at λo e=>G.extBut _ _ D.i1z e,d4.at λo e=>G.extBut _ _ D.i2z e⟩,λc l=>?_⟩;have c8:=(hf c l).1;rw[oR]
  ·exact c8
  ·intro e;subst e;simp only[List.mem_cons,List.not_mem_nil,or_false]at l;rcases l with e|e|e|e|e
   ·exact b9 e
   ·exact absurd (zL j) (by rw[←e];exact yW _)
   ·exact absurd (zL r) (by rw[←e];exact yW _)
   ·obtain⟨o,q,_⟩:=p.lt;exact absurd (zL q) (by rw[←e];exact yW _)
   ·obtain⟨o,q,_⟩:=t.lt;exact absurd (zL q) (by rw[←e];exact yW _)
 done:=by
  intro X a0 U a7 L i b6 s b7 H E I hf st a1;subst a0 U a7;obtain⟨hz,j,⟨a,b,r⟩,p,t⟩:=st;obtain⟨xs,ys,F,C,e1⟩:=a1;obtain⟨d0,r1,Y⟩:=I.seqB F;obtain⟨d5,r2,a8⟩:=I.seqB C;have m:∀f∈[z,TI,TO,g,d],l1≠f:=λf u=>I.seq_ne F (hf f u);have n:∀f∈[z,TI,TO,g,d],l2≠f:=λf u=>I.seq_ne C (hf f u);simp only[List.nodup_cons,List.mem_cons,List.not_mem_nil,or_false,not_or,List.nodup_nil,and_true,not_false_eq_true]at O;obtain⟨⟨T,S,a4,b4⟩,⟨b3,a5,a2⟩,⟨W,a3⟩,V⟩:=O;have D:ZipApart z TI TO g d l1 l2:=⟨yF T,yF S,yF a4,yF b4,b3,a5,a2,W,a3,V,m z (by simp),m TO (by simp),m g (by simp),m d (by simp),n z (by simp),n TO (by simp),n g (by simp),n d (by simp)⟩;refine Oa (I.ok.hd L) D hz j r p t Y a8 (e1.imp (Fc r1) (Fc r2)) λh' N=>⟨rfl,I.turnedL (t':=s.toks) hf λc o l e=>?_⟩;simp only[List.mem_cons,List.not_mem_nil,or_false,not_or]at l;obtain⟨R,c7,b0,Z,a6⟩:=l;exact N c o R b0 Z a6 e
 self:=λ_ _ _ _ _ st h=>wpAny_pyIter_zip st.1 h
section
variable {X:Cx}
def iZip(K:Frag)(ta:TA):TI:=λσ H R=>ta σ H λvs H1=>∃b1 b2 l1 l2,vs=[.ref l1,.ref l2]/\(∃xs,SqB b1 K H1 l1 xs)/\(∃ys,SqB b2 K H1 l2 ys)/\R (Itz K b1 l1 b2 l2) H1
theorem Fb{a b:Expr}{t:TA}{es:List Expr}{k:Nat}{v p pos:Pos}(F:Gl X "zip")(w:X.mg "zip"=none)(D:PA X [a,b] t)(N:bootBuiltins "zip"=some (.type "zip"):=by decide +kernel)
  (L:starEach [a,b] X.env=[(false,eval a X.env),(false,eval b X.env)]:=by rfl)(l:starEach [b] X.env=[(false,eval b X.env)]:=by rfl):
  PI X (.Tuple es k v) (.Call (.Name "zip" p) [a,b] [] pos) (iZip X.K t):=by
 intro C s G H R I h;refine Call_ (jM I F w N (xI (thn (D pos C s G H _ I h) λus d⟨vs,H1,f,r1,i⟩=>?_) (by rw[L,l]) (by rw[l];rfl)));obtain⟨b1,b2,l1,l2,e,⟨xs,i⟩,⟨ys,J⟩,q⟩:=i;subst e;cases r1 with
 | cons r g =>
  cases g with
  | cons y g =>
   cases g;cases r;cases y;obtain⟨T,S,x⟩:=f.seqB i;obtain⟨U,v2,M⟩:=f.seqB J;refine Py x M λh' n O K P z u=>?_;refine wpAny_pyIter_zip n ?_;have lt:∀j,j<=4->d.heap.objs.size<=d.heap.objs.size+j:=λj _=>qP _ _;refine⟨d.heap.objs.size+4,[d.heap.objs.size+4,d.heap.objs.size+2,d.heap.objs.size+3,d.heap.objs.size,d.heap.objs.size+1],_,_,H1,rfl,f.kept (t':=d.toks) u,Px (b1:=b1) (b2:=b2) (l1:=l1) (l2:=l2) ?_,⟨n,O,⟨_,_,K⟩,P,z⟩,λc m=>?_,q⟩
   ·simp
   ·have o:d.heap.objs.size<=c:=by
     simp only[List.mem_cons,List.not_mem_nil,or_false]at m;rcases m with e|e|e|e|e <;> subst e <;> first|exact zF _|exact qP _ _
    exact f.fpOk o (f.hok.fresh o)
end
open AutoSeq1 (wpAny_loadPart')
set_option maxRecDepth 100000 in
theorem Pw(l:Addr)(items:Array Value)(n:Nat)(e:Option Addr)(b:Array (Option Value)):
  Meets (Builtin.«enumerate.__new__» ⟨[.type "enumerate",.ref l],[]⟩) (λ_ R s=>s.heap.get? l=some {cls:=.type "tuple",dict:=e,data:=.seq items n,slots:=b} /\
   R (.ok (.ret (.ref (s.heap.push {cls:=.type "tuple_iterator",data:=.fields #[.ref l,.int 0 0]}).objs.size)))
    {s with heap:=(s.heap.push {cls:=.type "tuple_iterator",data:=.fields #[.ref l,.int 0 0]}).push {cls:=.type "enumerate",data:=.fields #[.none,.bool false,.ref s.heap.objs.size,rawInt 0,.none,.none]}}):=
 .of_wp λprog w A R s h=>by
  obtain⟨i,g,d,tk,f⟩:=s;obtain⟨hl,h⟩:=h;have j:=sub_enumerate;have a:Heap.IsTuple (Shared.heap ⟨i,g,d,tk,f⟩) l items:=⟨_,hl,rfl,n,rfl⟩
  wp_walk using uP hl
  refine wpAny_stack_any λst=>zB ?_;split
  ·rename_i c _ _ _ _ _;cases(c == Value.type "enumerate")
   ·wp_walk using uP hl,uQ a
    exact⟨_,rfl,h⟩
   ·wp_walk using uP hl,uQ a
    exact⟨_,rfl,h⟩
  ·wp_walk using uP hl,uQ a
   exact⟨_,rfl,h⟩
theorem Pu{prog:Program}{w:World}{A:Around}{E:VP}{s:Shared}{b:Bool}{l:Addr}{items:Array Value}{Q:VP}(e:seqB b s.heap l items)
  (h:∀h',IsEnum h' (s.heap.objs.size+1) s.heap.objs.size 0 .none->ItB b h' s.heap.objs.size l 0 ->
   (∀b o,s.heap.get? b=some o->h'.get? b=some o)->Q (.ref (s.heap.objs.size+1)) {s with heap:=h'}):
  wpAny (model prog w) A (call (.type "enumerate") [.ref l]) Q E s:=by
 cases b
 ·exact call_enumerate_list e λh' m k q j=>h h' m k j
 ·obtain⟨⟨c,i,dt,g⟩,hl,a,n,d⟩:=e;replace a:c=.type "tuple" := a;replace d:dt=.seq items n:=d;subst a d;refine callType_new F.called_enumerate ∅ (F.typeCall_enumerate_1 _) (F.newCall_enumerate_1 _) (λp=>F.args_object_init_2 p _) F.entry_enumerate_new
   (Pw l items n i g) ⟨hl,?_⟩
  have hz:(s.heap.push {cls:=.type "tuple_iterator",data:=.fields #[.ref l,.int 0 0]}).objs.size=s.heap.objs.size+1:=xM ..;show _/\_;rw[hz];have f:IsEnum ((s.heap.push {cls:=.type "tuple_iterator",data:=.fields #[.ref l,.int 0 0]}).push
    {cls:=.type "enumerate",data:=.fields #[.none,.bool false,.ref s.heap.objs.size,rawInt 0,.none,.none]}) (s.heap.objs.size+1) s.heap.objs.size 0 .none:=by
   have:=zP (s.heap.push {cls:=.type "tuple_iterator",data:=.fields #[.ref l,.int 0 0]})
    (o:={cls:=.type "enumerate",data:=.fields #[.none,.bool false,.ref s.heap.objs.size,rawInt 0,.none,.none]}) rfl
   rw[hz]at this;exact this
  refine⟨⟨_,f,rfl⟩,h _ f ⟨_,zC _ (zP _ rfl),rfl,rfl⟩ λb o x=>zC _ (zC _ x)⟩
def Ite(K:Frag)(b:Bool)(l:Addr):It:=
  ⟨λi H=>∃xs x,SqB b K H l xs/\xs[i]?=some x,
   λi H v H'=>∃p x,v=.ref p/\H p=none/\H'=upd H p (.tup [.int i,x])/\∀xs,SqB b K H l xs->xs[i]?=some x,
   λi H=>∃xs,SqB b K H l xs/\xs.length=i⟩
theorem Pt{P:Program}{w:World}{K:Frag}{es:List Expr}{k:Nat}{pos:Pos}{b:Bool}{e a l:Addr}(J:e≠a):
  Turn P w K (.Tuple es k pos) (Ite K b l) [e,a] e (λi h=>(∃n,IsEnum h e a i n)/\ItB b h a l i) where
 mem:=by simp
 obj:=λi h⟨⟨n,hz⟩,g⟩c j=>by
  simp only[List.mem_cons,List.not_mem_nil,or_false]at j;rcases j with e|e <;> subst e
  ·exact⟨_,hz,λv q=>by have a1:Data.fields _=Data.cell v:=q;cases a1⟩
  ·exact g.lt
 keep:=λi h h'⟨⟨n,hz⟩,g⟩N=>⟨⟨n,N e (by simp) _ hz⟩,g.at λo q=>N a (by simp) o q⟩
 item:=by
  intro X m y F j i O s R H E I hf st D;subst m y F;obtain⟨⟨n,hz⟩,g⟩:=st;obtain⟨xs,x,r,e1⟩:=D;obtain⟨p,r1,C⟩:=I.seqB r;obtain⟨T,S,W⟩:=r1.get e1;have t:∀f∈[e,a],l≠f:=λf M=>I.seq_ne r (hf f M);have a4:i<p.toArray.size:=by
   have:=(oE.mp S).1;simpa using this
  refine wpAny_pyNext_enum_itemD (Fd b (show X.A.in1.handled=none from I.ok.hd j) a l (t a (by simp)) p.toArray) hz ⟨g,C⟩ a4 J (λq=>?_) λu h' tk m Y a8 a6 b0 Z=>⟨_,rfl,?_⟩
  ·simp only[List.mem_cons,List.not_mem_nil,or_false]at q;rcases q with q|q
   ·exact J q
   ·exact t e (by simp) q.symm
  have a7:u=T:=by
   have:p.toArray[i]?=some T:=by simpa using S
   rw[this]at m;exact(zU m).symm
  subst a7;refine wpAny_letOwnedTupleGo_enum Y λG a0 L=>?_;have U:s.heap.objs.size≠e:=sZ (zL hz);have up:∀c o,c∉[e,a]->s.heap.get? c=some o->G.get? c=some o:=λc o d q=>by
   simp only[List.mem_cons,List.not_mem_nil,or_false,not_or]at d;exact L.extBut _ _ d.1 (Z c o d.1 d.2 q)
  have new:nI X.prog X.w (upd H s.heap.objs.size (.tup [.int i,x])) G s.heap.objs.size (.tup [.int i,x]):=
   ⟨by show 2<=sizeLine;decide,[.int i tk,u],.cons ⟨tk,rfl⟩ (.cons W .nil),⟨_,L.extBut _ _ U a6,rfl,_,rfl⟩⟩
  have a3:Inv X O R (upd H s.heap.objs.size (.tup [.int i,x])) {s with heap:=G,toks:=tk+1}:=I.turnedNew (t':=tk+1) hf up (zF _) new;refine⟨.ref s.heap.objs.size,_,a3,rfl,⟨_,x,rfl,I.fresh,rfl,λa9 q=>by rw[I.seqB_inj q r];exact e1⟩,⟨⟨u,by simpa using a0⟩,a8.1.at λo q=>L.extBut _ _ (yF J) q⟩,λc d=>?_⟩;have a5:=(hf c d).1;rw[oR]
  ·exact a5
  ·intro z;subst z;simp only[List.mem_cons,List.not_mem_nil,or_false]at d;rcases d with z|z
   ·exact U z
   ·obtain⟨o,q,_⟩:=g.lt;exact absurd (zL q) (by rw[←z];exact yW _)
 done:=by
  intro X m y F j i O s R H E I hf st D;subst m y F;obtain⟨⟨n,hz⟩,g⟩:=st;obtain⟨xs,r,e1⟩:=D;obtain⟨p,r1,C⟩:=I.seqB r;have t:∀f∈[e,a],l≠f:=λf M=>I.seq_ne r (hf f M);have V:p.toArray.size=i:=by rw[zW,←r1.length,e1]
  refine wpAny_pyNext_enum_endD (Fd b (show X.A.in1.handled=none from I.ok.hd j) a l (t a (by simp)) p.toArray) hz ⟨by rw[V];exact g,C⟩ λh' a2=>⟨rfl,I.turnedL (t':=s.toks) hf λc o d q=>?_⟩;simp only[List.mem_cons,List.not_mem_nil,or_false,not_or]at d;exact a2 c o d.2 q
 self:=λ_ _ _ _ _ st h=>let ⟨⟨_,q⟩,_⟩:=st;wpAny_pyIter_enum q h
section
variable {X:Cx}
def eO(K:Frag)(ta:TA):TI:=λσ H R=>ta σ H λvs H1=>∃b l,vs=[.ref l]/\(∃xs,SqB b K H1 l xs)/\R (Ite K b l) H1
theorem cV{a:Expr}{n:TA}{es:List Expr}{k:Nat}{t p pos:Pos}(y:Gl X "enumerate")(u:X.mg "enumerate"=none)(x:PA X [a] n)(F:bootBuiltins "enumerate"=some (.type "enumerate"):=by decide +kernel)
  (D:starEach [a] X.env=[(false,eval a X.env)]:=by rfl):
  PI X (.Tuple es k t) (.Call (.Name "enumerate" p) [a] [] pos) (eO X.K n):=by
 intro w s C H R I h;refine Call_ (jM I y u F (xI (thn (x pos w s C H _ I h) λus d⟨vs,H1,f,r1,g⟩=>?_) D rfl));obtain⟨b,l,e,⟨xs,g⟩,q⟩:=g;subst e;cases r1 with
 | cons r z =>
  cases z;cases r;obtain⟨K,J,v⟩:=f.seqB g;refine Pu v λh' j G o=>?_;refine wpAny_pyIter_enum j ?_;refine⟨d.heap.objs.size+1,[d.heap.objs.size+1,d.heap.objs.size],_,_,H1,rfl,f.kept (t':=d.toks) o,Pt (b:=b) (l:=l) (by simp),⟨⟨_,j⟩,G⟩,λc i=>?_,q⟩;have m:d.heap.objs.size<=c:=by
   simp only[List.mem_cons,List.not_mem_nil,or_false]at i;rcases i with e|e <;> subst e <;> first|exact zF _|exact qP _ _
  exact f.fpOk m (f.hok.fresh m)
theorem Fa:∀{ns:LI'}{its:LW},Vals (ns.map V.int) its->∃xs:List (Int×Tok),its=xs.map (λp=>Value.int p.1 p.2)/\xs.map (·.1)=ns
 |[],_,.nil=>⟨[],rfl,rfl⟩
 |n:: r,_,.cons ⟨b,h⟩ q=>by
  obtain⟨xs,e1,a⟩:=Fa (ns:=r) q;exact⟨(n,b):: xs,by rw[h,e1];rfl,by rw[zI,a]⟩
theorem cW(b:X.calm=true):mJ X (.builtin "sum") (λxs H Q=>∃(p:Addr)(ns:LI'),xs=[.ref p]/\SqL X.K H p (ns.map V.int)/\Q (.int ns.sum) H):=by
 intro i s g H xs us Q I r h;obtain⟨p,ns,rfl,c,q⟩:=h;obtain⟨u,rfl,a⟩:=kC r;cases a;obtain⟨its,e,pl,hz⟩:=I.list c;obtain⟨ps,e1,d⟩:=Fa e;have hl:s.heap.IsList p (intItems ps.toArray):=by
  have:=pl.isList;rw[e1]at this;simpa [intItems]using this
 refine sum_intListG (I.ok.hd b) hl λh' tk t' f=>⟨.int ns.sum,H,I.kept (t':=tk) f,⟨t',?_⟩,q⟩;rw[preSum_eq,yR (by simp)];simp[d]
end
theorem SqB.or{b:Bool}{K:Frag}{H:Hp}{a:Addr}{xs:List V}(h:SqB b K H a xs):SqL K H a xs\/SqT K H a xs:=by
 cases b
 ·exact .inl h
 ·exact .inr h
theorem SqB.up{b:Bool}{K:Frag}{H H':Hp}{a:Addr}{xs:List V}(h:SqB b K H a xs)(s:Same H H'):SqB b K H' a xs:=by
 cases b
 ·exact s.seq h
 ·exact s.tup h
theorem SqB.lst{K:Frag}{H:Hp}{a:Addr}{xs:List V}(h:H a=some (.lst xs)):SqB false K H a xs:=SqL.of h
theorem SqB.tup{K:Frag}{H:Hp}{a:Addr}{xs:List V}(h:H a=some (.tup xs)):SqB true K H a xs:=SqT.of h
def Its(K:Frag)(b:Bool)(a:Addr):It:=match b with|false=>Itl K a|true=>Itt K a
theorem Its.go{K:Frag}{b:Bool}{a:Addr}{xs:List V}{x:V}{i:Nat}{H:Hp}(h:SqB b K H a xs)(e:xs[i]?=some x):(Its K b a).go i H:=by
 cases b
 ·exact⟨xs,x,h,e⟩
 ·exact⟨xs,x,h,e⟩
theorem Its.stop{K:Frag}{b:Bool}{a:Addr}{xs:List V}{i:Nat}{H:Hp}(h:SqB b K H a xs)(e:xs.length<=i):(Its K b a).stop i H:=by
 cases b
 ·exact⟨xs,h,e⟩
 ·exact⟨xs,h,e⟩
theorem Its.yld{K:Frag}{b:Bool}{a:Addr}{xs:List V}{i:Nat}{H H':Hp}{x:V}(h:SqB b K H a xs)(y:(Its K b a).yld i H x H'):H'=H/\xs[i]?=some x:=by
 cases b
 ·exact⟨y.1,y.2 xs h⟩
 ·exact⟨y.1,y.2 xs h⟩
section
variable {X:Cx}
def iSeq(K:Frag)(tl:TE):TI:=λσ H R=>tl σ H λx H1=>∃b a,x=.ref a/\(∃xs,SqB b K H1 a xs)/\R (Its K b a) H1
theorem nQ{k l:Expr}{i:TE}(hl:PE X l i):PI X k l (iSeq X.K i):=by
 intro r s j H R I h;refine thn (hl r s j H _ I h) λv c⟨x,H1,d,r1,m⟩=>?_;obtain⟨b,a,e,⟨xs,g⟩,q⟩:=m;subst e;cases r1;cases b
 ·obtain⟨its,n,p,hz⟩:=d.list g;refine tX p.isList ?_;refine⟨c.heap.objs.size,[c.heap.objs.size],_,_,H1,rfl,d.kept (t':=c.toks) λb o e=>zC _ e,My a _,⟨_,zP _ rfl,rfl,rfl⟩,λb f=>?_,q⟩;have e:b=c.heap.objs.size:=by simpa using f
  subst e;exact d.fpOk (zF _) (d.hok.fresh (zF _))
 ·obtain⟨its,n,p,hz⟩:=d.tuple g;refine uQ (show c.heap.IsTuple a its.toArray from p) ?_;refine⟨c.heap.objs.size,[c.heap.objs.size],_,_,H1,rfl,d.kept (t':=c.toks) λb o e=>zC _ e,Mx a _,⟨_,zP _ rfl,rfl,rfl⟩,λb f=>?_,q⟩;have e:b=c.heap.objs.size:=by simpa using f
  subst e;exact d.fpOk (zF _) (d.hok.fresh (zF _))
def rIxB(K:Frag):R2:=λx y H Q=>E5 λ(b:Bool)(p:Addr)(xs:List V)(i:Int)(v:V)=>A5 (x=.ref p) (y=.int i) (SqB b K H p xs) (atI xs i=some v) (Q v H)
theorem ix_B:IxR X (rIxB X.K):=by
 intro e k l s d H x y v u Q I a f h;obtain⟨b,p,xs,i,c,e1,j,g,m,q⟩:=h;cases b
 ·exact Np e k l s d H x y v u Q I a f ⟨p,xs,i,c,e1,j,g,m,q⟩
 ·exact No e k l s d H x y v u Q I a f ⟨p,xs,i,c,e1,j,g,m,q⟩
def eP(K:Frag):List V->Hp->VK->Prop:=λxs H Q=>E3 λ(b:Bool)(p:Addr)(ys:List V)=>A3 (xs=[.ref p]) (SqB b K H p ys) (Q (.int ys.length) H)
theorem Ps:mJ X (.builtin "len") (eP X.K):=by
 intro c s a H xs us Q I r h;obtain⟨b,p,ys,e,d,q⟩:=h;exact Ni c s a H xs us Q I r ⟨p,ys,e,d.or,q⟩
def cX(K:Frag):List V->Hp->VK->Prop:=λxs H Q=>∃b p ys,xs=[.ref p]/\SqB b K H p ys/\∀l,H l=none->Q (.ref l) (upd H l (.lst ys))
theorem gR:mJ X (.type "list") (cX X.K):=by
 intro c s a H xs us Q I r h;obtain⟨b,p,ys,e,d,q⟩:=h;exact Nh c s a H xs us Q I r ⟨p,ys,e,d.or,q⟩
def gS(K:Frag):List V->Hp->VK->Prop:=λxs H Q=>∃p ys,xs=[.ref p]/\((SqL K H p ys/\∀l,H l=none->Q (.ref l) (upd H l (.tup ys)))\/(SqT K H p ys/\Q (.ref p) H))
theorem kO:mJ X (.type "tuple") (gS X.K):=Ng
end
theorem Pr{K:Frag}{b:Bool}{a:Addr}{xs:List V}{g:TG}{tb:TS}{D:Ends}{c:St}{H:Hp}(d:Nat->St->Hp->Prop)(k:d 0 c H)(hl:∀i c H,i<=xs.length->d i c H->SqB b K H a xs)
  (l:∀i x c H,xs[i]?=some x->d i c H->g x c H λf H2=>tb {D with nx:=d (i+1),ct:=d (i+1),bk:=D.nx} f H2)(n:∀c H,d xs.length c H->D.nx c H):
  ∃e:Nat->Nat->St->Hp->Prop,(∃m,e 0 m c H)/\∀i m c H,e i m c H ->
   ((Its K b a).stop i H/\D.nx c H)\/((Its K b a).go i H/\∃N:St->Hp->Prop,(∀j H',N j H'->∃o,o<m/\e (i+1) o j H')/\∀x H',(Its K b a).yld i H x H'->g x c H' λf H2=>tb {D with nx:=N,ct:=N,bk:=D.nx} f H2):=by
 cases b
 ·exact Mt d k hl l n
 ·exact Mr d k hl l n
theorem Pq{K:Frag}{b:Bool}{a:Addr}{xs:List V}{g:TG}{tb:TS}{D:Ends}{c:St}{H:Hp}(d:Nat->St->Hp->Prop)(t:d 0 c H)(hl:∀i c H,i<=xs.length->d i c H->SqB b K H a xs)
  (u:∀i x p c H,xs[i]?=some x->d i c H->H p=none->g (.ref p) c (upd H p (.tup [.int i,x])) λk H2=>tb {D with nx:=d (i+1),ct:=d (i+1),bk:=D.nx} k H2)(v:∀c H,d xs.length c H->D.nx c H):
  ∃j:Nat->Nat->St->Hp->Prop,(∃m,j 0 m c H)/\∀i m c H,j i m c H ->
   ((Ite K b a).stop i H/\D.nx c H)\/((Ite K b a).go i H/\∃N:St->Hp->Prop,(∀f H',N f H'->∃n,n<m/\j (i+1) n f H')/\∀x H',(Ite K b a).yld i H x H'->g x c H' λk H2=>tb {D with nx:=N,ct:=N,bk:=D.nx} k H2):=by
 refine⟨λi m c H=>m=xs.length-i/\i<=xs.length/\d i c H,⟨xs.length,by simp,yB _,t⟩,?_⟩;rintro i m c H ⟨rfl,hi,p⟩;have q:=hl i c H hi p
 by_cases l:i<xs.length
 ·refine .inr ⟨⟨xs,xs[i],q,by simp[l]⟩,d (i+1),λf H' w=>⟨xs.length-(i+1),⋯,rfl,l,w⟩,λx H' y=>?_⟩;obtain⟨r,x,rfl,hr,rfl,o⟩:=y;exact u i x r c H (o xs q) p hr
 ·have e:i=xs.length:=⋯
  subst e;exact .inl ⟨⟨xs,q,rfl⟩,v c H p⟩
def lY(a:Addr)(H H':Hp):Prop:=∀b o,b≠a->H b=some o->H' b=some o
theorem Same.x{a:Addr}{H H':Hp}(s:Same H H'):lY a H H':=λb o _ e=>s b o e
section
variable {J:It} {g:TG} {tt:TOx} {te:TE} {n:Nat} {fr:List (Str×Nat)} {σ:St} {a:Addr} {H:Hp} {Q:VK} {K:Frag}
theorem Bv(len:Nat)(P:Nat->List V->Hp->Prop)(t:H a=none)(hz:len<=1000)(z:P 0 [] (upd H a (.lst [])))
  (hl:∀i zs H1,P i zs H1->zs.length<=i)(mono:∀i zs H1 H2,P i zs H1->lY a H1 H2->P i zs H2)
  (v:∀i H1,i<len->Same H H1->J.go i H1)(D:∀H1,Same H H1->J.stop len H1)
  (L:∀i H1 zs,i<len->Same H H1->H1 a=some (.lst zs)->P i zs H1->∀(ys:St) x H3,ys.length=n->J.yld i H1 x H3->∀C:Option V->Hp->Prop,
   (∀y H2,Same H1 H2->P (i+1) (zs++[y]) H2->C (some y) H2)->(∀H2,Same H1 H2->P (i+1) zs H2->C none H2) ->
   g x (ys++mL fr σ) H3 λr u=>(∃l:St,l.length=n/\r=l++mL fr σ)/\tt r u C)
  (G:∀H1 ys,Same H H1->H1 a=some (.lst ys)->P len ys H1->Q (.ref a) H1):lH J g tt n fr σ a H Q:=by
 refine⟨λi m H1=>m=len-i/\i<=len/\Same H H1/\∃zs,H1 a=some (.lst zs)/\P i zs H1,⟨len,by simp,Nat.zero_le _,Same.new t,[],oP,z⟩,?_⟩;rintro i m H1 ⟨rfl,hi,c,zs,f,p⟩
 by_cases j:i<len
 ·refine .inr ⟨v i H1 j c,λH'=>i+1<=len/\Same H H'/\∃zs,H' a=some (.lst zs)/\P (i+1) zs H',λH' q=>⟨len-(i+1),⋯,rfl,q⟩,λys x H3 w F=>?_⟩;refine L i H1 zs j c f p ys x H3 w F _ (λy H2 d k=>?_) λH2 d k=>?_
  ·refine⟨zs,d _ _ f,kL (by have:=hl i zs H1 p;omega),j,Same.over t (c.trans d),_,oP,mono _ _ _ _ k λb o I e=>?_⟩;rw[oR I];exact e
  ·exact⟨j,c.trans d,zs,d _ _ f,k⟩
 ·have e:i=len:=⋯
  subst e;exact .inl ⟨D H1 c,G H1 zs c f p⟩
theorem eQ(len:Nat)(R:Nat->V->Hp->Prop)(L:H a=none)(hz:len<=1000)(mono:∀i y H1 H2,R i y H1->lY a H1 H2->R i y H2)
  (l:∀i H1,i<len->Same H H1->J.go i H1)(u:∀H1,Same H H1->J.stop len H1)
  (I:∀i H1 zs,i<len->Same H H1->H1 a=some (.lst zs)->∀(ys:St) x H3,ys.length=n->J.yld i H1 x H3->∀f:VK,(∀y H2,Same H1 H2->R i y H2->f y H2) ->
   g x (ys++mL fr σ) H3 λb k=>(∃d:St,d.length=n/\b=d++mL fr σ)/\te b k f)
  (G:∀H1 ys,Same H H1->H1 a=some (.lst ys)->ys.length=len->(∀j y,ys[j]?=some y->R j y H1)->Q (.ref a) H1):lH J g (tEl te) n fr σ a H Q:=by
 refine Bv len (λi zs H1=>zs.length=i/\∀j y,zs[j]?=some y->R j y H1) L hz ⟨rfl,λj y e=>by simp at e⟩ (λi zs H1 p=>sT p.1) (λi zs H1 H2 p s=>⟨p.1,λj y e=>mono _ _ _ _ (p.2 j y e) s⟩) l u ?_ λH1 ys s e p=>G H1 ys s e p.1 p.2;intro i H1 zs hi F o p ys x H3 m v C w _;refine I i H1 zs hi F o ys x H3 m v _ λy H2 c r=>w y H2 c ⟨by simp[p.1],λj z e=>?_⟩
 by_cases t:j<zs.length
 ·rw[yA t]at e;exact mono _ _ _ _ (p.2 j z e) c.x
 ·rw[zT ⋯]at e;have D:j-zs.length=0:=by
   by_cases q:j-zs.length=0
   ·exact q
   ·rw[vL (by simp;omega)]at e;cases e
  rw[D]at e;cases zU e;have:j=i:=by have:=p.1;omega
  rw[this];exact r
theorem lJ{b:Bool}{l:Addr}{xs:List V}(R:Nat->V->Hp->Prop)(u:H a=none)(d:SqB b K H l xs)(hz:xs.length<=1000)(mono:∀i y H1 H2,R i y H1->lY a H1 H2->R i y H2)
  (t:∀i x H1 zs,xs[i]?=some x->Same H H1->H1 a=some (.lst zs)->∀c:VK,(∀y H2,Same H1 H2->R i y H2->c y H2)->te (some x:: mL fr σ) H1 c)
  (q:∀H1 ys,Same H H1->H1 a=some (.lst ys)->ys.length=xs.length->(∀j y,ys[j]?=some y->R j y H1)->Q (.ref a) H1):lH (Its K b l) (oW 0) (tEl te) 1 fr σ a H Q:=by
 refine eQ xs.length R u hz mono (λi H1 hi s=>Its.go (d.up s) (x:=xs[i]) (by simp[hi])) (λH1 s=>Its.stop (d.up s) (zF _)) ?_ q;intro i H1 zs hi e k ys x H3 f m c r;obtain⟨e1,p⟩:=Its.yld (d.up e) m;subst e1
 match ys,f with
 |[o],_=>exact⟨⟨[some x],rfl,rfl⟩,t i x H3 zs p e k c r⟩
theorem kE{lo:Int}{len:Nat}(R:Nat->V->Hp->Prop)(q:H a=none)(hz:len<=1000)(mono:∀i y H1 H2,R i y H1->lY a H1 H2->R i y H2)
  (p:∀(i:Nat) H1 zs,i<len->Same H H1->H1 a=some (.lst zs)->∀b:VK,(∀y H2,Same H1 H2->R i y H2->b y H2)->te (some (.int (lo+i)):: mL fr σ) H1 b)
  (k:∀H1 ys,Same H H1->H1 a=some (.lst ys)->ys.length=len->(∀j y,ys[j]?=some y->R j y H1)->Q (.ref a) H1):lH (Itr lo len) (oW 0) (tEl te) 1 fr σ a H Q:=by
 refine eQ len R q hz mono (λi H1 hi s=>hi) (λH1 s=>zF _) ?_ k;intro i H1 zs hi l d ys x H3 c e b m;obtain⟨e1,f⟩:=e;subst e1 f
 match ys,c with
 |[o],_=>exact⟨⟨[_],rfl,rfl⟩,p i H3 zs hi l d b m⟩
theorem Gz{b1 b2:Bool}{l1 l2:Addr}{xs ys:List V}(R:Nat->V->Hp->Prop)(C:H a=none)(f:SqB b1 K H l1 xs)(c:SqB b2 K H l2 ys)(D:xs.length=ys.length)(hz:xs.length<=1000)(mono:∀i y H1 H2,R i y H1->lY a H1 H2->R i y H2)
  (z:∀i x y H1 zs,xs[i]?=some x->ys[i]?=some y->Same H H1->H1 a=some (.lst zs)->∀b:VK,(∀y H2,Same H1 H2->R i y H2->b y H2)->te (some x:: some y:: mL fr σ) H1 b)
  (u:∀H1 zs,Same H H1->H1 a=some (.lst zs)->zs.length=xs.length->(∀j y,zs[j]?=some y->R j y H1)->Q (.ref a) H1):
  lH (Itz K b1 l1 b2 l2) (gTup K 2 (mU (oW 0) (mU (oW 1) gNil))) (tEl te) 2 fr σ a H Q:=by
 refine eQ xs.length R C hz mono (λi H1 hi s=>⟨xs,ys,xs[i],ys[i],f.up s,c.up s,by simp[hi],by simp⟩) (λH1 s=>⟨xs,ys,f.up s,c.up s,.inl (by simp)⟩) ?_ u;intro i H1 zs hi e m q x H3 w d b v;obtain⟨p,x,y,rfl,k,rfl,l,d⟩:=d;refine⟨p,[x,y],rfl,SqT.of oP,rfl,x,[y],rfl,y,[],rfl,rfl,?_⟩
 match q,w with
 |[o,F],_ =>
  refine⟨⟨[some x,some y],rfl,rfl⟩,z i x y _ zs (l xs (f.up e)) (d ys (c.up e)) (e.trans (Same.new k)) (Same.new k _ _ m) b λy H2 t r=>v y H2 ((Same.new k).trans t) r⟩
theorem Pp{b:Bool}{l:Addr}{xs:List V}(R:Nat->V->Hp->Prop)(D:H a=none)(d:SqB b K H l xs)(hz:xs.length<=1000)(mono:∀i y H1 H2,R i y H1->lY a H1 H2->R i y H2)
  (C:∀i x H1 zs,xs[i]?=some x->Same H H1->H1 a=some (.lst zs)->∀c:VK,(∀y H2,Same H1 H2->R i y H2->c y H2)->te (some (.int i):: some x:: mL fr σ) H1 c)
  (v:∀H1 zs,Same H H1->H1 a=some (.lst zs)->zs.length=xs.length->(∀j y,zs[j]?=some y->R j y H1)->Q (.ref a) H1):
  lH (Ite K b l) (gTup K 2 (mU (oW 0) (mU (oW 1) gNil))) (tEl te) 2 fr σ a H Q:=by
 refine eQ xs.length R D hz mono (λi H1 hi s=>⟨xs,xs[i],d.up s,by simp[hi]⟩) (λH1 s=>⟨xs,d.up s,rfl⟩) ?_ v;intro i H1 zs hi f m t x H3 z q c w;obtain⟨p,x,rfl,e,rfl,k⟩:=q;refine⟨p,[.int i,x],rfl,SqT.of oP,rfl,_,[x],rfl,x,[],rfl,rfl,?_⟩
 match t,z with
 |[o,F],_ =>
  refine⟨⟨[some (.int i),some x],rfl,rfl⟩,C i x _ zs (k xs (d.up f)) (f.trans (Same.new e)) (Same.new e _ _ m) c λy H2 u r=>w y H2 ((Same.new e).trans u) r⟩
end
def MatB(b1 b2:Bool)(K:Frag)(H:Hp)(a:Addr)(rows:List (LI')):Prop:=∃ps:LA,SqB b1 K H a (ps.map V.ref)/\ps.length=rows.length/\∀(i:Nat)(p:Addr)(r:LI'),ps[i]?=some p->rows[i]?=some r->SqB b2 K H p (r.map V.int)
theorem MatB.up{b1 b2:Bool}{K:Frag}{H H':Hp}{a:Addr}{b:List (LI')}(h:MatB b1 b2 K H a b)(s:Same H H'):MatB b1 b2 K H' a b:=let ⟨ps,c,f,e⟩:=h;⟨ps,c.up s,f,λi p r e1 d=>(e i p r e1 d).up s⟩
def RowR(a:Addr)(f:Nat->LI')(j:Nat)(y:V)(H:Hp):Prop:=∃p,y=.ref p/\p≠a/\H p=some (.lst ((f j).map V.int))
theorem RowR.mono{a:Addr}{f:Nat->LI'}(i:Nat)(y:V)(H1 H2:Hp)(h:RowR a f i y H1)(s:lY a H1 H2):RowR a f i y H2:=let ⟨p,e,n,q⟩:=h;⟨p,e,n,s _ _ n q⟩
def iT:Nat->PyData->Bool
 |_,.int _=>true
 |n+1,.list xs=>xs.all (iT n)
 |n+1,.tuple xs=>xs.all (iT n)
 |_,_=>false
theorem jP:∀(n:Nat)(d:PyData),iT n d=true->d.canLay0=true/\d.depth<=n
 |0,.int _,_=>by simp[PyData.canLay0,PyData.depth]
 |n+1,.int _,_=>by simp[PyData.canLay0,PyData.depth]
 | n+1,.list xs,h=>by
  have all:∀ys:List PyData,ys.all (iT n)=true->PyData.canLayAll0 ys=true/\PyData.depthAll ys<=n:=by
   intro ys
   induction ys with
   |nil=>intro _;simp[PyData.canLayAll0,PyData.depthAll]
   |cons y r b =>
    intro a;rw[xE,zR]at a;have e:=jP n y a.1;have c:=b a.2;simp only[PyData.canLayAll0,PyData.depthAll,Bool.and_eq_true];exact⟨⟨e.1,c.1⟩,⋯⟩
  have:=all xs (by simpa [iT]using h);simp only[PyData.canLay0,PyData.depth];exact⟨this.1,⋯⟩
 | n+1,.tuple xs,h=>by
  have all:∀ys:List PyData,ys.all (iT n)=true->PyData.canLayAll0 ys=true/\PyData.depthAll ys<=n:=by
   intro ys
   induction ys with
   |nil=>intro _;simp[PyData.canLayAll0,PyData.depthAll]
   |cons y r b =>
    intro a;rw[xE,zR]at a;have e:=jP n y a.1;have c:=b a.2;simp only[PyData.canLayAll0,PyData.depthAll,Bool.and_eq_true];exact⟨⟨e.1,c.1⟩,⋯⟩
  have:=all xs (by simpa [iT]using h);simp only[PyData.canLay0,PyData.depth];exact⟨this.1,⋯⟩
theorem cY:∀(n:Nat)(d d':PyData),iT n d=true->iT n d'=true->SeqAt.noMix d d'=true:=by
 intro n
 induction n with
 |zero=>intro d d' h h';cases d <;> simp[iT]at h <;> cases d' <;> simp[iT]at h' <;> simp[SeqAt.noMix]
 | succ n b =>
  have all:∀ys zs:List PyData,ys.all (iT n)=true->zs.all (iT n)=true->SeqAt.noMixAll ys zs=true:=by
   intro ys
   induction ys with
   |nil=>intro zs _ _;cases zs <;> simp[SeqAt.noMixAll]
   | cons y r c =>
    intro zs a hz;cases zs with
    |nil=>simp[SeqAt.noMixAll]
    |cons z e =>
     rw[xE,zR]at a hz;simp only[SeqAt.noMixAll,Bool.and_eq_true];exact⟨b y z a.1 hz.1,c e a.2 hz.2⟩
  intro d d' h h';cases d <;> simp only[iT,Bool.false_eq_true]at h <;> cases d' <;> simp only[iT,Bool.false_eq_true]at h' <;> simp only[SeqAt.noMix]
  ·exact all _ _ h h'
  ·exact all _ _ h h'
theorem cZ:∀(n:Nat)(d d':PyData),iT n d=true->iT n d'=true->(same d d'=true↔d=d'):=by
 intro n
 induction n with
 |zero=>intro d d' h h';cases d <;> simp[iT]at h <;> cases d' <;> simp[iT]at h' <;> simp[same]
 | succ n b =>
  have all:∀ys zs:List PyData,ys.all (iT n)=true->zs.all (iT n)=true->(sameAll ys zs=true↔ys=zs):=by
   intro ys
   induction ys with
   |nil=>intro zs _ _;cases zs <;> simp[sameAll]
   | cons y r c =>
    intro zs a hz;cases zs with
    |nil=>simp[sameAll]
    |cons z e =>
     rw[xE,zR]at a hz;simp only[sameAll,Bool.and_eq_true,List.cons.injEq];rw[b y z a.1 hz.1,c e a.2 hz.2]
  intro d d' h h';cases d <;> simp only[iT,Bool.false_eq_true]at h <;> cases d' <;> simp only[iT,Bool.false_eq_true]at h' <;> simp only[same,beq_iff_eq,PyData.int.injEq,PyData.list.injEq,PyData.tuple.injEq,reduceCtorEq,Bool.false_eq_true]
  ·exact all _ _ h h'
  ·exact all _ _ h h'
theorem bA{n:Nat}{d:PyData}(a:n<=64)(h:iT n d=true):SeqAt.shaped d=true:=by
 have:=jP n d h;unfold SeqAt.shaped;rw[zR];exact⟨this.1,zQ ⋯⟩
section
variable {K:Frag} {H:Hp} {x y:V} {d d':PyData} {Q:VK}
theorem Po(n:Nat)(f:n<=64)(g:Dt K H x d)(i:Dt K H y d')(c:iT n d=true)(a:iT n d'=true){b:Bool}(j:b=true↔d=d')(q:Q (.bl b) H):rEqD K x y H Q:=by
 refine⟨d,d',g,i,bA f c,bA f a,cY n d d' c a,?_⟩;have:=cZ n d d' c a;have e:same d d'=b:=by
  cases hs:same d d' <;> cases b <;> simp_all
 rw[e];exact q
theorem Pn(n:Nat)(f:n<=64)(g:Dt K H x d)(i:Dt K H y d')(c:iT n d=true)(a:iT n d'=true){b:Bool}(j:b=true↔d=d')(q:Q (.bl (!b)) H):rNeD K x y H Q:=by
 refine⟨d,d',g,i,bA f c,bA f a,cY n d d' c a,?_⟩;have:=cZ n d d' c a;have e:same d d'=b:=by
  cases hs:same d d' <;> cases b <;> simp_all
 rw[e];exact q
end
def seqD(b:Bool)(ds:List PyData):PyData:=match b with|false=>.list ds|true=>.tuple ds
def jQ(b:Bool)(ns:LI'):PyData:=seqD b (ns.map PyData.int)
def matD(b1 b2:Bool)(rows:List (LI')):PyData:=seqD b1 (rows.map (jQ b2))
theorem Gy{b:Bool}{xs ys:List PyData}:seqD b xs=seqD b ys↔xs=ys:=by cases b <;> simp[seqD]
theorem Bu{a b:Type}{f:a->b}(hf:∀x y,f x=f y->x=y):∀{xs ys:List a},xs.map f=ys.map f↔xs=ys
 |[],[]=>by simp
 |[],_:: _=>by simp
 |_:: _,[]=>by simp
 |x:: r,y:: c=>by
  rw[zI,zI,yJ,yJ,Bu hf];exact⟨λh=>⟨hf _ _ h.1,h.2⟩,λh=>⟨by rw[h.1],h.2⟩⟩
theorem Gx{b:Bool}{ns ms:LI'}:jQ b ns=jQ b ms↔ns=ms:=by
 unfold jQ;rw[Gy,Bu λx y h=>by injection h]
theorem Pm{b1 b2:Bool}{A B:List (LI')}:matD b1 b2 A=matD b1 b2 B↔A=B:=by
 unfold matD;rw[Gy,Bu λx y h=>Gx.mp h]
theorem Pl(b:Bool)(n:Nat)(ns:LI'):iT (n+1) (jQ b ns)=true:=by
 have:(ns.map PyData.int).all (iT n)=true:=by
  rw[vH];intro d a;obtain⟨i,_,rfl⟩:=pZ.mp a;cases n <;> rfl
 cases b <;> simpa [jQ,seqD,iT]using this
theorem t_D(b1 b2:Bool)(n:Nat)(a:List (LI')):iT (n+2) (matD b1 b2 a)=true:=by
 have:(a.map (jQ b2)).all (iT (n+1))=true:=by
  rw[vH];intro d b;obtain⟨i,_,rfl⟩:=pZ.mp b;exact Pl b2 n i
 cases b1 <;> simpa [matD,seqD,iT]using this
theorem Dt.seqB{b:Bool}{K:Frag}{H:Hp}{a:Addr}{xs:List V}{ds:List PyData}(h:SqB b K H a xs)(c:Dts K H xs ds):Dt K H (.ref a) (seqD b ds):=by
 cases b
 ·exact .lst h c
 ·exact .tup h c
theorem Dt.intsB{b:Bool}{K:Frag}{H:Hp}{a:Addr}{ns:LI'}(h:SqB b K H a (ns.map V.int)):Dt K H (.ref a) (jQ b ns):=Dt.seqB h (Dts.ints ns)
theorem Dt.matB{b1 b2:Bool}{K:Frag}{H:Hp}{a:Addr}{b:List (LI')}(h:MatB b1 b2 K H a b):Dt K H (.ref a) (matD b1 b2 b):=by
 obtain⟨ps,d,c,e⟩:=h;refine Dt.seqB d ?_;clear d
 induction ps generalizing b with
 |nil =>
  cases b with
  |nil=>exact .nil
  |cons r g=>simp at c
 | cons p ps f =>
  cases b with
  |nil=>simp at c
  |cons r g =>
   refine .cons (Dt.intsB (e 0 p r rfl rfl)) (f (by simpa using c) λi q z e1 j=>e (i+1) q z (by simpa using e1) (by simpa using j))
section
variable {wi:TI} {g:TG} {tt:TOx} {te:TE} {tc:TT} {n:Nat} {fr:List (Str×Nat)} {σ:St} {H:Hp} {Q:VK}
theorem nL(h:∀B:TE,B=te->wi σ H λJ H1=>∀a,H1 a=none->lH J g (tEl B) n fr σ a H1 Q):lI wi g (tEl te) n fr σ H Q:=h _ rfl
theorem Pk(h:∀(C:TT)(B:TE),C=tc->B=te->wi σ H λJ H1=>∀a,H1 a=none->lH J g (gQ C B) n fr σ a H1 Q):lI wi g (gQ tc te) n fr σ H Q:=h _ _ rfl rfl
end
def seqO(b:Bool)(xs:List V):HO:=match b with|false=>.lst xs|true=>.tup xs
def rSlB(K:Frag):V->Option Int->Option Int->Hp->VK->Prop:=λx lo hi H Q=>∃b a xs,x=.ref a/\SqB b K H a xs /\
 (b=true->¬ (HT.sIx xs.length 0 lo=0/\HT.sIx xs.length xs.length hi=xs.length))/\∀p,H p=none->Q (.ref p) (upd H p (seqO b (cutV xs lo hi)))
theorem sl_B{X:Cx}:SlR X (rSlB X.K):=by
 intro l s d H x v k g lo hi f Q I c i pl m h;obtain⟨b,a,xs,e,j,n,q⟩:=h;cases b
 ·exact Nk l s d H x v k g lo hi f Q I c i pl m ⟨a,xs,e,j,q⟩
 ·exact Nt l s d H x v k g lo hi f Q I c i pl m ⟨a,xs,e,j,n rfl,q⟩
def MatL(H:Hp)(a:Addr)(rows:List (LI')):Prop:=∃ps:LA,H a=some (.lst (ps.map V.ref))/\ps.length=rows.length/\∀(i:Nat)(p:Addr)(r:LI'),ps[i]?=some p->rows[i]?=some r->p≠a/\H p=some (.lst (r.map V.int))
theorem MatL.b{K:Frag}{H:Hp}{a:Addr}{b:List (LI')}(h:MatL H a b):MatB false false K H a b:=let ⟨ps,c,f,e⟩:=h;⟨ps,SqB.lst c,f,λi p r e1 d=>SqB.lst (e i p r e1 d).2⟩
theorem MatL.up{H H':Hp}{a:Addr}{b:List (LI')}(h:MatL H a b)(s:Same H H'):MatL H' a b:=let ⟨ps,e,f,d⟩:=h;⟨ps,s _ _ e,f,λi p r e1 c=>⟨(d i p r e1 c).1,s _ _ (d i p r e1 c).2⟩⟩
theorem MatL.of{H:Hp}{a:Addr}{f:Nat->LI'}{ys:List V}(h:H a=some (.lst ys))(hr:∀(j:Nat) y,ys[j]?=some y->RowR a f j y H):MatL H a ((List.range ys.length).map f):=by
 have d:∃ps:LA,ys=ps.map V.ref:=by
  clear h;have:∀(zs:List V)(k:Nat),(∀(j:Nat) y,zs[j]?=some y->RowR a f (j+k) y H)->∃ps:LA,zs=ps.map V.ref:=by
   intro zs
   induction zs with
   |nil=>intro k _;exact⟨[],rfl⟩
   | cons z r c =>
    intro k hz;obtain⟨p,e,_⟩:=hz 0 z rfl;obtain⟨ps,b⟩:=c (k+1) λj y q=>by
     have:=hz (j+1) y (by simpa using q)
     rwa[sH,Nat.add_comm 1 k]at this
    exact⟨p:: ps,by rw[e,b];rfl⟩
  exact this ys 0 hr
 obtain⟨ps,rfl⟩:=d;refine⟨ps,h,by simp,λi p r e1 b=>?_⟩;obtain⟨g,e,n,q⟩:=hr i (.ref p) (by simp[e1]);cases e;have hi:i<ps.length:=(oE.mp e1).1;have:r=f i:=by
  rw[zM,yO,xA hi]at b;exact(zU b).symm
 rw[this];exact⟨n,q⟩
theorem MatB.row{b1 b2:Bool}{K:Frag}{H:Hp}{a:Addr}{b:List (LI')}(h:MatB b1 b2 K H a b){i:Nat}{r:LI'}(e:b[i]?=some r):∃ps:LA,∃p,SqB b1 K H a (ps.map V.ref)/\(ps.map V.ref)[i]?=some (.ref p)/\(ps.map V.ref).length=b.length/\SqB b2 K H p (r.map V.int):=by
 obtain⟨ps,d,c,f⟩:=h;have hi:i<ps.length:=by have:=(oE.mp e).1;omega
 exact⟨ps,ps[i],d,by simp[hi],by simp[c],f i _ r (by simp[hi]) e⟩
theorem MatB.walk{b1 b2:Bool}{K:Frag}{H:Hp}{a:Addr}{b:List (LI')}(h:MatB b1 b2 K H a b):∃xs:List V,SqB b1 K H a xs/\xs.length=b.length/\∀(i:Nat) x,xs[i]?=some x->∃p r,x=.ref p/\b[i]?=some r/\SqB b2 K H p (r.map V.int):=by
 obtain⟨ps,d,c,f⟩:=h;refine⟨_,d,by simp[c],λi x e=>?_⟩;rw[zM]at e;cases q:ps[i]? with
 |none=>rw[q]at e;cases e
 |some p =>
  rw[q]at e;have hi:i<b.length:=by have:=(oE.mp q).1;omega
  exact⟨p,b[i],(zU e).symm,by simp[hi],f i p _ q (by simp[hi])⟩
theorem mZ{a:Type}{xs:List a}{k:Nat}{x:a}{i:Int}(h:xs[k]?=some x)(hi:i=k):atI xs i=some x:=by
 subst hi;exact Nr h
theorem kP{ns:LI'}{i:Nat}{x:V}(h:(ns.map V.int)[i]?=some x):∃n,ns[i]?=some n/\x=.int n:=by
 rw[zM]at h;cases e:ns[i]? with
 |none=>rw[e]at h;cases h
 |some n=>rw[e]at h;exact⟨n,rfl,(zU h).symm⟩
theorem jA{ns:LI'}{i:Nat}{n:Int}(h:ns[i]?=some n):(ns.map V.int)[i]?=some (.int n):=by rw[zM,h];rfl
theorem Pj{ns:LI'}{k:Nat}{n:Int}(h:ns[k]?=some n):ns.getD k 0=n:=by rw[tJ,h];rfl
theorem getD_at{ns:LI'}{k:Nat}(h:k<ns.length):ns[k]?=some (ns.getD k 0):=by simp[h]
theorem getD_mem{ns:LI'}{k:Nat}(h:k<ns.length):ns.getD k 0∈ns:=by
 rw[show ns.getD k 0=ns[k] by simp[h]];exact vD h
def colI(k:Nat)(rows:List (LI')):LI':=rows.map λr=>r.getD k 0
def dotI(ms ns:LI'):Int:=(List.zipWith (·*·) ms ns).sum
def bB(w:Nat)(rows:List (LI')):List (LI'):=(List.range w).map λk=>colI k rows
def mulM(w:Nat)(A B:List (LI')):List (LI'):=A.map λr=>(List.range w).map λk=>dotI r (colI k B)
theorem Pi{w:Nat}{A B:List (LI')}{i:Nat}{r:LI'}(h:A[i]?=some r):(mulM w A B)[i]?=some ((List.range w).map λk=>dotI r (colI k B)):=by
 unfold mulM;rw[zM,h];rfl
section
variable {K:Frag} {g:TG} {tb:TS} {σ:St} {H:Hp} {nx:St->Hp->Prop} {rt:VK}
abbrev bD(J:It)(g:TG)(tb:TS)(nx:St->Hp->Prop)(rt:VK)(σ:St)(H:Hp):Prop:=∃W:Nat->Nat->St->Hp->Prop,(∃m,W 0 m σ H)/\∀i m σ H,W i m σ H ->
 (J.stop i H/\nx σ H)\/(J.go i H/\∃N:St->Hp->Prop,(∀σ' H',N σ' H'->∃m',m'<m/\W (i+1) m' σ' H')/\∀x H',J.yld i H x H'->g x σ H' λσ2 H2=>tb {nx:=N,rt:=rt,bk:=nx,ct:=N} σ2 H2)
theorem iR{lo:Int}{n:Nat}(a:Nat->St->Hp->Prop)(b:a 0 σ H)
  (d:∀i σ H,i<n->a i σ H->g (.int (lo+i)) σ H λc H2=>tb {nx:=a (i+1),rt:=rt,bk:=nx,ct:=a (i+1)} c H2)(e:∀σ H,a n σ H->nx σ H):bD (Itr lo n) g tb nx rt σ H:=
 Mq (D:={nx:=nx,rt:=rt,bk:=nx,ct:=nx}) a b d e
theorem kQ{b:Bool}{a:Addr}{xs:List V}(c:Nat->St->Hp->Prop)(d:c 0 σ H)(hl:∀i σ H,i<=xs.length->c i σ H->SqB b K H a xs)
  (f:∀i x σ H,xs[i]?=some x->c i σ H->g x σ H λe H2=>tb {nx:=c (i+1),rt:=rt,bk:=nx,ct:=c (i+1)} e H2)(j:∀σ H,c xs.length σ H->nx σ H):bD (Its K b a) g tb nx rt σ H:=
 Pr (D:={nx:=nx,rt:=rt,bk:=nx,ct:=nx}) c d hl f j
theorem Gw{b:Bool}{a:Addr}{xs:List V}(c:Nat->St->Hp->Prop)(d:c 0 σ H)(hl:∀i σ H,i<=xs.length->c i σ H->SqB b K H a xs)
  (f:∀i x p σ H,xs[i]?=some x->c i σ H->H p=none->g (.ref p) σ (upd H p (.tup [.int i,x])) λe H2=>tb {nx:=c (i+1),rt:=rt,bk:=nx,ct:=c (i+1)} e H2)(j:∀σ H,c xs.length σ H->nx σ H):bD (Ite K b a) g tb nx rt σ H:=
 Pq (D:={nx:=nx,rt:=rt,bk:=nx,ct:=nx}) c d hl f j
end
theorem iS{b1 b2:Bool}{K:Frag}{H:Hp}{a:Addr}{c:List (LI')}{i k:Nat}{r:LI'}{x:Int}{I b:Int}{Q:VK}(h:MatB b1 b2 K H a c)(e:c[i]?=some r)(d:r[k]?=some x)(hi:I=i)(g:b=k)(q:Q (.int x) H):
  rIxB K (.ref a) (.int I) H λv H1=>rIxB K v (.int b) H1 Q:=by
 obtain⟨ps,p,k1,k2,k3,f⟩:=h.row e;exact⟨b1,a,_,_,_,rfl,rfl,k1,mZ k2 hi,b2,p,_,_,_,rfl,rfl,f,mZ (jA d) g,q⟩
theorem Ph{b1 b2:Bool}{K:Frag}{H:Hp}{a:Addr}{b:List (LI')}{i:Nat}{r:LI'}{I:Int}{Q:VK}(h:MatB b1 b2 K H a b)(e:b[i]?=some r)(hi:I=i)(q:∀p,SqB b2 K H p (r.map V.int)->Q (.ref p) H):
  rIxB K (.ref a) (.int I) H Q:=by
 obtain⟨ps,p,k1,k2,k3,c⟩:=h.row e;exact⟨b1,a,_,_,_,rfl,rfl,k1,mZ k2 hi,q p c⟩
theorem iU{b1 b2:Bool}{K:Frag}{H:Hp}{a:Addr}{b:List (LI')}{Q:VK}(h:MatB b1 b2 K H a b)(q:Q (.int b.length) H):eP K [.ref a] H Q:=by
 obtain⟨ps,d,c,e⟩:=h;refine⟨b1,a,_,rfl,d,?_⟩;rw[yO,c];exact q
theorem bE{b:Bool}{K:Frag}{H:Hp}{a:Addr}{ns:LI'}{Q:VK}(h:SqB b K H a (ns.map V.int))(q:Q (.int ns.length) H):eP K [.ref a] H Q:=by
 refine⟨b,a,_,rfl,h,?_⟩;rw[yO];exact q
def Itq(lo st:Int)(n:Nat):It:=⟨λi _=>i<n,λi H x H'=>H'=H/\x=.int (lo+i*st),λi _=>n<=i⟩
section
variable {g:TG} {tb:TS} {σ:St} {H:Hp} {nx:St->Hp->Prop} {rt:VK}
theorem fr_step{lo st:Int}{n:Nat}(a:Nat->St->Hp->Prop)(c:a 0 σ H)
  (f:∀i σ H,i<n->a i σ H->g (.int (lo+i*st)) σ H λd H2=>tb {nx:=a (i+1),rt:=rt,bk:=nx,ct:=a (i+1)} d H2)(j:∀σ H,a n σ H->nx σ H):bD (Itq lo st n) g tb nx rt σ H:=by
 refine⟨λi m σ H=>m=n-i/\i<=n/\a i σ H,⟨n,by simp,yB _,c⟩,?_⟩;rintro i m σ H ⟨rfl,hi,p⟩
 by_cases b:i<n
 ·refine .inr ⟨b,a (i+1),λl H' k=>⟨n-(i+1),⋯,rfl,b,k⟩,λx H' y=>?_⟩;obtain⟨e,y⟩:=y;subst e y;exact f i σ _ b p
 ·have e:i=n:=⋯
  subst e;exact .inl ⟨zF _,j σ H p⟩
end
def lK(a:Addr)(H:Hp)(zs:List V)(M:List (LI')):Prop:=∃ps:LA,zs=ps.map V.ref/\ps.length=M.length/\∀(j:Nat)(p:Addr)(r:LI'),ps[j]?=some p->M[j]?=some r->p≠a/\H p=some (.lst (r.map V.int))
theorem lK.nil{a:Addr}{H:Hp}:lK a H [] []:=⟨[],rfl,rfl,λj p r e=>by simp at e⟩
theorem lK.len{a:Addr}{H:Hp}{zs:List V}{M:List (LI')}(h:lK a H zs M):zs.length=M.length:=let ⟨ps,e,l,_⟩:=h;by rw[e,yO,l]
theorem lK.mono{a:Addr}{H H':Hp}{zs:List V}{M:List (LI')}(h:lK a H zs M)(s:lY a H H'):lK a H' zs M:=let ⟨ps,e,l,q⟩:=h;⟨ps,e,l,λj p r e1 b=>⟨(q j p r e1 b).1,s _ _ (q j p r e1 b).1 (q j p r e1 b).2⟩⟩
theorem lK.snoc{a p:Addr}{H:Hp}{zs:List V}{M:List (LI')}{r:LI'}(h:lK a H zs M)(g:p≠a)(f:H p=some (.lst (r.map V.int))):lK a H (zs++[.ref p]) (M++[r]):=by
 obtain⟨ps,rfl,c,d⟩:=h;refine⟨ps++[p],by simp,by simp[c],λi q z e1 b=>?_⟩
 by_cases hi:i<ps.length
 ·rw[yA hi]at e1;rw[yA ⋯]at b;exact d i q z e1 b
 ·have e:i=ps.length:=by
   have:=(oE.mp e1).1;simp at this;omega
  subst e;rw[zT (zF _)]at e1;rw[c,zT (zF _)]at b;simp at e1 b;subst e1 b;exact⟨g,f⟩
theorem lK.mat{a:Addr}{H:Hp}{zs:List V}{M:List (LI')}(h:H a=some (.lst zs))(r:lK a H zs M):MatL H a M:=by
 obtain⟨ps,rfl,b,c⟩:=r;exact⟨ps,h,b,c⟩
theorem Bt(ns:LI')(lo hi:Option Int):cutV (ns.map V.int) lo hi=((ns.drop (HT.sIx ns.length 0 lo)).take (HT.sIx ns.length ns.length hi-HT.sIx ns.length 0 lo)).map V.int:=by
 unfold cutV;rw[yO,List.map_take,List.map_drop]
theorem Pg{ns:LI'}{k:Nat}(h:k<=ns.length):cutV (ns.map V.int) none (some (k:Int))=(ns.take k).map V.int:=by
 rw[Bt,HT.sIx_none,HT.sIx_nat,sV h];simp
theorem Pf{ns:LI'}{k:Nat}(h:k<=ns.length):cutV (ns.map V.int) (some (k:Int)) none=(ns.drop k).map V.int:=by
 rw[Bt,HT.sIx_none,HT.sIx_nat,sV h,yR (by simp)]
section
variable {K:Frag} {H:Hp} {a a1:Addr} {M:List (LI')} {σ:St} {Q:VK} {b1 b2:Bool}
def MatT(H:Hp)(a:Addr)(rows:List (LI')):Prop:=∃ps:LA,H a=some (.lst (ps.map V.ref))/\ps.length=rows.length/\∀(i:Nat)(p:Addr)(r:LI'),ps[i]?=some p->rows[i]?=some r->H p=some (.tup (r.map V.int))
theorem Pe(L:MatB b1 false K H a M)(hl:M.length<=1000)(J:H a1=none)(D:∀H1,Same H H1->MatT H1 a1 M->Q (.ref a1) H1):lH (Its K b1 a) (oW 0) (tEl (tCB (gS K) (nD (tVar 0) tNil))) 1 [] σ a1 H Q:=by
 obtain⟨xs,C,S,t⟩:=L.walk;refine lJ (λj y H1=>∃p r,y=.ref p/\M[j]?=some r/\p≠a1/\H1 p=some (.tup (r.map V.int))) J C ⋯ (λi y H1 H2⟨p,r,e1,b,c,d⟩s=>⟨p,r,e1,b,c,s _ _ c d⟩) ?_ ?_
 ·intro i x H1 zs w f u P F;obtain⟨p,r,rfl,N,G⟩:=t i x w;exact⟨_,rfl,p,_,rfl,.inl ⟨G.up f,λl g=>F _ _ (Same.new g) ⟨l,r,rfl,N,yF (nN u g),oP⟩⟩⟩
 ·intro H1 ys f e1 m k;have I:∃ps:LA,ys=ps.map V.ref:=by
   clear e1 m;have:∀(zs:List V),(∀(j:Nat) y,zs[j]?=some y->∃p:Addr,y=.ref p)->∃ps:LA,zs=ps.map V.ref:=by
    intro zs
    induction zs with
    |nil=>intro _;exact⟨[],rfl⟩
    |cons z r o =>
     intro hz;obtain⟨p,e⟩:=hz 0 z rfl;obtain⟨ps,b⟩:=o λj y q=>hz (j+1) y (by simpa using q);exact⟨p:: ps,by rw[e,b];rfl⟩
   exact this ys λj y e=>let ⟨p,r,e1,_⟩:=k j y e;⟨p,e1⟩
  obtain⟨ps,rfl⟩:=I;refine D H1 f ⟨ps,e1,by simp at m;omega,λi p r b c=>?_⟩;obtain⟨R,O,d,n,_,v⟩:=k i (.ref p) (by simp[b]);cases d;rw[c]at n;cases n;exact v
theorem MatT.tuple{l:Addr}(h:MatT H a M)(hl:H l=none):∃zs,H a=some (.lst zs)/\MatB true true K (upd H l (.tup zs)) l M:=by
 obtain⟨ps,d,b,e⟩:=h;exact⟨_,d,ps,SqB.tup oP,b,λi p r e1 c=>SqB.tup (Same.new hl _ _ (e i p r e1 c))⟩
end
theorem Pd{X:Cx}{x:Str}{v:V}{pos:Pos}(b:Gl X x)(h:∃u,X.mg x=some u/\RelV v u)(a:(x == ("__debug__" :Str))=false:=by decide):PE X (.Name x pos) (tC v):=by
 obtain⟨u,e,r⟩:=h;exact Ld b e r a
def MkI(te:TE)(n:Int):Prop:=∀σ H Q,Q (.int n) H->te σ H Q
theorem MkI.pos(n:Int):MkI (tC (.int n)) n:=λ_ _ _ q=>q
def MkIs(ta:TA)(ns:LI'):Prop:=∀σ H Q,Q (ns.map V.int) H->ta σ H Q
theorem MkIs.nil:MkIs tNil []:=λ_ _ _ q=>q
theorem MkIs.cons{te:TE}{a:TA}{n:Int}{ns:LI'}(h:MkI te n)(c:MkIs a ns):MkIs (nD te a) (n:: ns):=λb H Q q=>h b H _ (c b H _ q)
def MkR(te:TE)(ns:LI'):Prop:=∀σ H Q,(∀p H',Same H H'->H p=none->H' p=some (.lst (ns.map V.int))->Q (.ref p) H')->te σ H Q
def MkRs(ta:TA)(M:List (LI')):Prop:=∀σ H Q,(∀ps H',Same H H'->RefRowsN H H' ps M->Q (ps.map V.ref) H')->ta σ H Q
where RefRowsN (H H':Hp) (ps:LA) (M:List (LI')):Prop:=ps.length=M.length/\∀(j:Nat)(p:Addr)(r:LI'),ps[j]?=some p->M[j]?=some r->H' p=some (.lst (r.map V.int))
theorem MkRs.nil:MkRs tNil []:=λ_ H Q q=>q [] H (Same.refl _) ⟨rfl,λj p r e=>by simp at e⟩
theorem MkRs.cons{te:TE}{c:TA}{ns:LI'}{M:List (LI')}(h:MkR te ns)(k:MkRs c M):MkRs (nD te c) (ns:: M):=λb H Q q=>h b H _ λp H1 f l e1=>k b H1 _ λps H2 d r=>q (p:: ps) H2 (f.trans d) ⟨by simp[r.1],λj i g e a=>by
 cases j with
 |zero=>simp at e a;subst e a;exact d _ _ e1
 |succ j=>exact r.2 j i g (by simpa using e) (by simpa using a)⟩
def MkM(te:TE)(M:List (LI')):Prop:=∀σ H Q,(∀p H',Same H H'->H p=none->MatL H' p M->Q (.ref p) H')->te σ H Q
def Mats(H:Hp)(p:Addr)(Ms:List (List (LI'))):Prop:=∃ps:LA,H p=some (.lst (ps.map V.ref))/\ps.length=Ms.length/\∀(i:Nat)(q:Addr)(M:List (LI')),ps[i]?=some q->Ms[i]?=some M->MatL H q M
theorem Mats.up{H H':Hp}{p:Addr}{a:List (List (LI'))}(h:Mats H p a)(s:Same H H'):Mats H' p a:=let ⟨ps,b,e,d⟩:=h;⟨ps,s _ _ b,e,λi q M e1 c=>(d i q M e1 c).up s⟩
def MkMs(ta:TA)(Ms:List (List (LI'))):Prop:=∀σ H Q,(∀(ps:LA) H',Same H H'->ps.length=Ms.length->(∀(i:Nat)(q:Addr)(M:List (LI')),ps[i]?=some q->Ms[i]?=some M->MatL H' q M)->Q (ps.map V.ref) H')->ta σ H Q
theorem MkMs.nil:MkMs tNil []:=λ_ H Q q=>q [] H (Same.refl _) rfl λj p r e=>by simp at e
theorem MkMs.cons{te:TE}{d:TA}{M:List (LI')}{b:List (List (LI'))}(h:MkM te M)(m:MkMs d b):MkMs (nD te d) (M:: b):=λc H Q q=>h c H _ λp H1 g _ e1=>m c H1 _ λps H2 f l r=>q (p:: ps) H2 (g.trans f) (by simp[l]) λj k i e a=>by
 cases j with
 |zero=>simp at e a;subst e a;exact e1.up f
 |succ j=>exact r j k i (by simpa using e) (by simpa using a)
theorem MkMs.lst{d:TA}{b:List (List (LI'))}(h:MkMs d b)(hz:b.length<=1000){c:St}{H:Hp}{Q:VK}(q:∀p H',Same H H'->Mats H' p b->Q (.ref p) H'):tLst d c H Q:=h c H _ λps H1 g l r=>⟨by rw[yO,l];exact wO (kL hz),λa e =>
 q a _ (g.trans (Same.new e)) ⟨ps,oP,l,λi q M e1 f=>(r i q M e1 f).up (Same.new e)⟩⟩
theorem Mats.at{K:Frag}{H:Hp}{p:Addr}{a:List (List (LI'))}{i:Nat}{M:List (LI')}{I:Int}{Q:VK}(h:Mats H p a)(e:a[i]?=some M)(hi:I=i)(k:∀q,MatL H q M->Q (.ref q) H):rIxB K (.ref p) (.int I) H Q:=by
 obtain⟨ps,c,f,d⟩:=h;have b:i<ps.length:=by have:=(oE.mp e).1;omega
 exact⟨false,p,_,_,_,rfl,rfl,SqB.lst c,mZ (show(ps.map V.ref)[i]?=some (.ref ps[i]) by simp[b]) hi,k _ (d i _ M (by simp[b]) e)⟩
def MatD(H0 H:Hp)(a:Addr)(rows:List (LI')):Prop:=∃ps:LA,H a=some (.lst (ps.map V.ref))/\ps.length=rows.length/\ps.Nodup/\∀(i:Nat)(p:Addr)(r:LI'),ps[i]?=some p->rows[i]?=some r->p≠a/\H0 p=none/\H p=some (.lst (r.map V.int))
theorem MatD.l{e H:Hp}{a:Addr}{b:List (LI')}(h:MatD e H a b):MatL H a b:=let ⟨ps,f,g,_,d⟩:=h;⟨ps,f,g,λi p r e1 c=>⟨(d i p r e1 c).1,(d i p r e1 c).2.2⟩⟩
theorem MatD.up{d H H':Hp}{a:Addr}{e:List (LI')}(h:MatD d H a e)(s:Same H H'):MatD d H' a e:=let ⟨ps,f,g,n,c⟩:=h;⟨ps,s _ _ f,g,n,λi p r e1 b=>⟨(c i p r e1 b).1,(c i p r e1 b).2.1,s _ _ (c i p r e1 b).2.2⟩⟩
theorem MatD.row{f H:Hp}{a:Addr}{c:List (LI')}{i:Nat}{r:LI'}(h:MatD f H a c)(e:c[i]?=some r):∃zs p,H a=some (.lst zs)/\zs[i]?=some (.ref p)/\zs.length=c.length/\p≠a/\f p=none/\H p=some (.lst (r.map V.int))/\∀k,MatD f (upd H p (.lst (k.map V.int))) a (c.set i k):=by
 obtain⟨ps,m,t,o,n⟩:=h;have hi:i<ps.length:=by have:=(oE.mp e).1;omega
 have b:=n i ps[i] r (by simp[hi]) e;refine⟨_,ps[i],m,by simp[hi],by simp[t],b.1,b.2.1,b.2.2,λk=>⟨ps,by rw[oR (yF b.1)];exact m,by simp[t],o,λj q z e1 d=>?_⟩⟩
 by_cases g:j=i
 ·subst g;have v:q=ps[j]:=by simp[hi]at e1;exact e1.symm
  subst v;rw[wN ⋯]at d;cases d;exact⟨b.1,b.2.1,oP⟩
 ·rw[tF (yF g)]at d;obtain⟨u,y,C⟩:=n j q z e1 d;have:q≠ps[i]:=λw=>by
   have l:=(oE.mp e1);obtain⟨l,x⟩:=l;exact g ((List.getElem_inj o).mp (x.trans w))
  exact⟨u,y,by rw[oR this];exact C⟩
def isList:Expr->Bool
 |.List _ _=>true
 |_=>false
section
variable {X:Cx}
theorem Gv:∀{bs:List Bool}{its:LW},Vals (bs.map V.bl) its->∀(i:Nat)(v:Value),its[i]?=some v->∃b,bs[i]?=some b/\v=.bool b
 |[],_,.nil,i,v,e=>by simp at e
 |b:: r,_,.cons h q,i,v,e=>by
  cases i with
  |zero=>simp at e;subst e;exact⟨b,rfl,h⟩
  |succ i=>simpa using Gv (bs:=r) q i v (by simpa using e)
theorem Gu:∀bs:List Bool,((List.range bs.length).any λi=>(bs[i]?).getD false)=bs.any id
 |[]=>rfl
 |b:: bs=>by
  have a:=Gu bs;rw[zV,List.range_succ_eq_map,qC,qC,List.any_map];show(b || _)=(b || _);congr 1
theorem Pc(f:X.calm=true):mJ X (.builtin "any") (λxs H Q=>∃(p:Addr)(bs:List Bool),xs=[.ref p]/\SqL X.K H p (bs.map V.bl)/\Q (.bl (bs.any id)) H):=by
 intro z s o H xs us Q I r h;obtain⟨p,bs,rfl,l,q⟩:=h;obtain⟨u,rfl,d⟩:=kC r;cases d;obtain⟨its,c,pl,hz⟩:=I.list l;have hl:s.heap.IsList p its.toArray:=pl.isList;have k:p<s.heap.objs.size:=by obtain⟨_,e,_⟩:=hl;exact zL e
 have g:its.toArray.size=bs.length:=by
  have:=c.length;simpa using this.symm
 refine call_any_walk (tX hl ?_);refine⟨s.heap.objs.size,[s.heap.objs.size,p],[s.heap.objs.size],its.toArray.size,_,_,λi=>(bs[i]?).getD false,rfl,Walks.list (A:=X.A.in1) (I.ok.hd f) _ p (zZ k) its.toArray,
  ⟨⟨_,zP _ rfl,rfl,rfl⟩,hl.push _⟩,λi v w y t m a=>?_,λh' tk n=>?_⟩
 ·obtain⟨b,e,rfl⟩:=Gv c i v (by simpa using m);simp only[e,Option.getD_some]at a;exact qH a
 ·rw[g,Gu bs];refine⟨.bl (bs.any id),H,I.kept (t':=tk) λb x e=>n b x (λj=>by rw[rX.mp j]at e;exact yW _ (zL e)) (zC _ e),rfl,q⟩
end
section
variable {prog:Program} {w:World} {A:Around} {E:VP} {s:Shared}
theorem Pb{env:Env}{a:List Expr}{c}{pos:Pos}{b:Addr}{items:Array Value}{Q:Unit->Shared->Prop}(hh:A.handled=none)(e:s.heap.IsList b items)
  (f:(assignEach a env).length=items.size)(d:(assignEach a env).findIdx? (·.1)=none)
  (h:∀h',Heap.ExtBut s.heap.objs.size s.heap h'->wpAny (model prog w) A (assignInOrder ((assignEach a env).map (·.2)) items.toList) Q E {s with heap:=h'}):
  wpAny (model prog w) A (assign (.Tuple a c pos) env (.ref b)) Q E s:=by
 rw[assign_Tuple];refine zA (wS ?_);unfold unpack;rw[f,d];exact zA (yT (PySem.W.kun_itemsOf hh e h))
end
section
variable {X:Cx} {pos:Pos}
def Pa(K:Frag)(n:Nat)(t:TGs):TG:=λv σ H Q=>∃b a xs,v=.ref a/\SqB b K H a xs/\xs.length=n/\t xs σ H Q
theorem Qz{es:List Expr}{k:Nat}{i:TGs}{n:Nat}(g:X.calm=true)(h:PGs X es i)
  (p:(assignEach es X.env).length=n:=by rfl)(l:(assignEach es X.env).findIdx? (·.1)=none:=by rfl):PG X (.Tuple es k pos) (Pa X.K n i):=by
 intro f s d H v u Q I r c;obtain⟨b,a,xs,e1,j,hl,c⟩:=c;cases b with
 |true=>exact iN g h p l f s d H v u Q I r ⟨a,xs,e1,j,hl,c⟩
 |false =>
  subst e1;cases r;obtain⟨its,m,pl,hz⟩:=I.list j;refine Pb (I.ok.hd g) pl.isList (by simp[p,←hl,m.length]) l λh' q=>?_;have t:Inv X f d H {s with heap:=h'}:=I.kept (t':=s.toks) λb o e=>q b o (zZ (zL e)) e;exact h f _ d H xs _ Q t (by simpa using m) c
end
section
variable {prog:Program} {w:World} {A:Around} {E:VP} {s:Shared}
set_option maxRecDepth 100000 in
end
def Gs(K:Frag)(C0:Addr)(tb:XE->TS)(ts:TS):TS:=λD σ H =>
 tb (λσ' C H'=>PySem.W.exmOne K C (.ref C0)=some true/\ts D σ' H') D σ H
section
variable {X:Cx} {C0:Addr} {x:Str} {np hpos pos:Pos} {body suite:List Stmt} {b₀:Stmt} {tb:XE->TS} {ts:TS}
theorem SP.offsuite{c:PN}{D:Ends}{f:Flow}{s:Shared}{e:Addr}(ok:X.Ok)(h:SP (X.suite e) c D f s):SP X c D f s:=by
 cases f with
 |next=>obtain⟨a,H',b,q⟩:=h;exact⟨a,H',b.offsuite ok,q⟩
 |brk=>obtain⟨a,H',b,q⟩:=h;exact⟨a,H',b.offsuite ok,q⟩
 |cont=>obtain⟨a,H',b,q⟩:=h;exact⟨a,H',b.offsuite ok,q⟩
 |ret u=>obtain⟨v,a,H',b,r,q⟩:=h;exact⟨v,a,H',b.offsuite ok,r,q⟩
theorem Qy(d:X.stack=X.env:: X.outer)(i:X.env.frame=some X.env.locals)(w:X.ex=[])
  (O:Gl X x)(K:X.mg x=some (.ref C0))(L:∀v E y,gK (X.body v E) y->PSs (X.body v E) body (tb y))(Y:∀e,PSs (X.suite e) (b₀:: suite) ts)
  (V:(x == ("__debug__" :Str))=false:=by decide):PS X (.Try body [.ExceptHandler (some (.Name x np)) none (b₀:: suite) hpos] [] [] pos) (Gs X.K C0 tb ts):=by
 intro a s P H D I h;refine wpAny_Try_except (yQ (L (X.pn++a) (λj a3=>wpAny (model X.prog X.w) X.A (noteFrame j X.env) (λ_ T=>wpAny (model X.prog X.w) X.A (setFlight j none) (λ_ R =>
  wpAny (model X.prog X.w) X.A (handleBy j X.env [.ExceptHandler (some (.Name x np)) none (b₀:: suite) hpos]) (SP X a D) X.xe R) X.xe T) X.xe a3) _ ?_ [] s P H D I.intry h) (λf b q=>?_) λ_ _ q=>q)
 ·intro b0 c H' b e C a1 F z;obtain⟨S,J⟩:=z;have o:Inv X a c H' b:=a1.offtry;obtain⟨B,a0,fl,l,a2⟩:=F;have a6:Heap.FlyingW B (X.env:: X.outer) e C a0 b.heap:=d ▸ fl;have a7:X.A.frames=some (X.env:: X.outer):=I.ok.frames.trans (by rw[d]);have n:∀p∈X.pn++a,B.get? p.1=some p.2:=λp Z=>a2 p (xP _ Z);refine wpAny_looks_onW a7 i a6 λb3 G m=>?_;refine wpAny_landsW G λg k r=>?_;have t:Inv X a c H' {b with heap:=g}:=o.flown d i w k.1 (m.trans r) l n;have U:Inv (X.suite e) a c H' {b with heap:=g}:=t.insuite;obtain⟨b1,W,a5⟩:=k.there;refine wpAny_handleBy_cons (codeAny_handlers_test (jL (X:=X.suite e) U O K ?_ V)) (by intro q;cases q);have M:PySem.W.Looks (model X.prog X.w) g (typeOf (.ref e)) C:=by
   rw[←a5];exact(qN W).andThen .now
  refine(PySem.W.exm_one t.kIn M S).here ?_;show codeAny _ _ _ _ _;refine codeAny_handlers_suite ?_;refine lands_againW k λa9 a4 a8=>?_;have N:Inv X a c H' {b with heap:=a9}:=o.flown d i w a4.1 ((m.trans r).trans a8) l n;refine yQ (Y e a _ _ _ _ N.insuite J) (λf b2 q=>?_) λ_ _ q=>q.elim;exact SP.offsuite I.ok q
 ·cases f with
  |next=>exact tL (SP.offtry q)
  |brk=>exact SP.offtry q
  |cont=>exact SP.offtry q
  |ret u=>exact SP.offtry q
end
open Builtin Builtin.Str
def Itv(K:Frag)(l:Addr)(n:Nat):It:=
 ⟨λi H=>∃xs,SqL K H l xs/\xs.length=n/\i<n,λi H x H'=>H'=H/\∀xs,SqL K H l xs->xs[n-1-i]?=some x,λi _=>n<=i⟩
theorem Qx{P:Program}{w:World}{K:Frag}{V:Expr}(a g:Addr)(n:Nat):Turn P w K V (Itv K a n) [g] g (λi h=>i<=n/\h.IsRevIter g a ((n:Int)-1-(i:Int))) where
 mem:=by simp
 obj:=λi h st b f=>by
  have e:b=g:=by simpa using f
  subst e;obtain⟨_,o,e,c,d⟩:=st;exact⟨o,e,λv z=>by rw[d]at z;cases z⟩
 keep:=λi h h' st k=>⟨st.1,st.2.at λo e=>k g (by simp) o e⟩
 item:=by
  intro X q l x F i G s L H E I hf st r;subst q l x;obtain⟨xs,N,hl,hi⟩:=r;have M:xs[n-1-i]?=some xs[n-1-i]:=by rw[yZ]
  obtain⟨its,R,p,hz⟩:=I.list N;obtain⟨u,Y,T⟩:=R.get M;obtain⟨C,y,W,D,m,t⟩:=hf g (by simp);have e:(n:Int)-1-(i:Int)=((n-1-i:Nat):Int):=⋯
  have j:=st.2;rw[e]at j;refine wpAny_pyNext_rev_item j p.isList (x:=u) (by simpa using Y) λh' J U=>?_;have a0:Inv X G L H {s with heap:=h'}:=I.turned (t':=s.toks) (λb o f e=>(U.2 b f).trans e) C y D m t;obtain⟨o,e1,c,d⟩:=id J;have O:((n-1-i:Nat):Int)-1=(n:Int)-1-((i+1:Nat):Int):=⋯
  exact⟨u,rfl,cF (s:={s with heap:=h'}) e1 c d ∅ ⟨_,H,a0,T,⟨rfl,λys Z=>by rw[I.list_inj Z N];exact M⟩,⟨hi,O ▸ J⟩,λb f=>(hf b f).1⟩⟩
 done:=by
  intro X q l x F i G s L H E I hf st r;subst q l x;have a1:n<=i:=r;obtain⟨C,y,W,D,m,t⟩:=hf g (by simp);have e:(n:Int)-1-(i:Int)=-1:=by have:=st.1;omega
  have j:=st.2;rw[e]at j;exact wpAny_pyNext_rev_end (I.ok.hd F) j λh' S=>⟨rfl,I.turned (t':=s.toks) (λb o f e=>S b o f e) C y D m t⟩
 self:=λ_ _ _ _ _ st h=>wpAny_pyIter_revIter st.2 h
section
variable {X:Cx}
def iRev(K:Frag)(ta:TA):TI:=λσ H R=>ta σ H λvs H1=>∃l xs,vs=[.ref l]/\SqL K H1 l xs/\R (Itv K l xs.length) H1
theorem Qw{a k:Expr}{f:TA}{p pos:Pos}(i:Gl X "reversed")(t:X.mg "reversed"=none)(z:PA X [a] f)(r:bootBuiltins "reversed"=some (.type "reversed"):=by decide +kernel)
  (n:starEach [a] X.env=[(false,eval a X.env)]:=by rfl):
  PI X k (.Call (.Name "reversed" p) [a] [] pos) (iRev X.K f):=by
 intro y s j H R I h;refine Call_ (jM I i t r (xI (thn (z pos y s j H _ I h) λus c⟨vs,H1,d,r1,m⟩=>?_) (by rw[n];rfl) (by rfl)));obtain⟨l,xs,e,v,q⟩:=m;subst e;obtain⟨u,rfl,g⟩:=kC r1;cases g;obtain⟨its,w,p,hz⟩:=d.list v;have hl:=w.length;refine call_reversed_list p.isList ?_;refine wpAny_pyIter_revIter (l:=l) (i:=(its.toArray.size:Int)-1) ⟨_,zP _ rfl,rfl,rfl⟩ ?_;refine⟨c.heap.objs.size,[c.heap.objs.size],_,_,H1,rfl,d.kept (t':=c.toks) λb o e=>zC _ e,Qx l _ xs.length,⟨yB _,⟨_,zP _ rfl,rfl,?_⟩⟩,λb x=>?_,q⟩
 ·have e:(its.toArray.size:Int)-1=(xs.length:Int)-1-((0:Nat):Int):=by simp;omega
  rw[←e];rfl
 ·have e:b=c.heap.objs.size:=by simpa using x
  subst e;exact d.fpOk (zF _) (d.hok.fresh (zF _))
def Qv:List V->Hp->VK->Prop:=λxs H Q=>∃n:Nat,xs=[.int n]/\n<=1000/\∀l,H l=none->Q (.ref l) (upd H l (.lst ((List.range n).map λ(i:Nat)=>V.int (i:Int))))
theorem Qu{a:Expr}{v:TA}{G k W f:Pos}(C:X.calm=true)(Y:Gl X "list")(a0:X.mg "list"=none)(U:Gl X "range")(O:X.mg "range"=none)(L:PA X [a] v)
  (z:bootBuiltins "list"=some (.type "list"):=by decide +kernel)(T:starEach [a] X.env=[(false,eval a X.env)]:=by rfl)
  (t:starEach [.Call (.Name "range" k) [a] [] f] X.env=[(false,eval (.Call (.Name "range" k) [a] [] f) X.env)]:=by rfl):
  PE X (.Call (.Name "list" G) [.Call (.Name "range" k) [a] [] f] [] W) (tCB Qv v):=by
 intro K s N H Q I h;refine wG (jM I Y a0 z ?_);refine xI ?_ (by rw[t];rfl) (by rfl);rw[t];show wpAny _ _ (spliced ((false,eval (.Call (.Name "range" k) [a] [] f) X.env):: [])) _ _ s;refine Calls.spliced_cons ?_;refine wG (jM I U O boot_range ?_);refine xI (thn (L f K s N H _ I h) λus c⟨vs,H1,l,r1,S⟩=>?_) (by rw[T];rfl) (by rfl);obtain⟨n,e,w,q⟩:=S;subst e;obtain⟨u,rfl,Z⟩:=kC r1;obtain⟨j,rfl⟩:=Z;refine call_range_1 ?_;refine Calls.spliced_nil ?_;have k1:∀b o,c.heap.get? b=some o->(c.heap.push {cls:=.type "range",data:=.fields #[.int 0 c.toks,.int n j,.int 1 (c.toks+1)]}).get? b=some o:=λb o e=>zC _ e;refine call_list_range (n:=n) (l.ok.hd C) (IsRange.new ..) (small_one ∅ ∅ ⋯ ⋯) (by rw[rangeSize_one];split <;> omega) (yC w ∅) λh' tk p F R D P=>?_;have k2:∀b o,c.heap.get? b=some o->h'.get? b=some o:=λb o e=>R b o (k1 b o e);have r:c.heap.objs.size<=(c.heap.push {cls:=.type "range",data:=.fields #[.int 0 c.toks,.int n j,.int 1 (c.toks+1)]}).objs.size:=by simp[Heap.push]
 have J:Vals ((List.range n).map λ(i:Nat)=>V.int (i:Int)) p.toList:=by
  obtain⟨m,M⟩:=P;have g:∀(xs:List V)(us:LW),xs.length=us.length->(∀(i:Nat)(x:V)(u:Value),xs[i]?=some x->us[i]?=some u->RelV x u)->Vals xs us:=by
   intro xs
   induction xs with
   |nil=>intro us hl _;cases us with
    |nil=>exact .nil
    |cons _ _=>cases hl
   |cons x xs y=>intro us hl hr;cases us with
    |nil=>cases hl
    |cons u us=>exact .cons (hr 0 x u rfl rfl) (y us (qQ hl) λi x u e1 d=>hr (i+1) x u e1 d)
  refine g _ _ (by rw[yO,uU,zK,m]) λi x u e1 d=>?_;rw[yM]at d;obtain⟨j,rfl⟩:=M i u d;rw[zM]at e1;have hi:i<n:=by rw[←m];exact(Array.getElem?_eq_some_iff.mp d).1
  rw[xA hi]at e1;cases e1;exact⟨j,by rw[pO,rN]⟩
 exact⟨.ref _,_,l.laid (t':=tk) k2 r (show nI X.prog X.w _ h' _ (.lst _) from⟨by rw[yO,uU];exact yC w ∅,p.toList,F,J,by rw[Array.toArray_toList];exact D⟩),rfl,q _ (l.hok.fresh r)⟩
end
def qVar(i:Nat):TE:=λσ H Q=>match σ[i]? with
 |some (some v)=>Q v H
 |_=>False
theorem Qt{i:Nat}{a:St}{H:Hp}{Q:VK}(h:qVar i a H Q):tVar i a H Q:=by
 unfold qVar at h;split at h
 ·next v e=>exact⟨v,e,h⟩
 ·exact h.elim
theorem pq{X:Cx}(i:Nat){x:Str}{pos:Pos}(b:X.N[i]?=some x:=by rfl)(c:Vis X.env.scope x:=by first|exact Or.inl rfl|exact Or.inr (Or.inl rfl)|exact Or.inr (Or.inr rfl))(d:(x == ("__debug__" :Str))=false:=by decide)
  (f:(x == ("__classdict__" :Str))=false:=by decide):PE X (.Name x pos) (qVar i):=λe s a H Q I q=>pv i b c d f e s a H Q I (Qt q)
section
variable {X:Cx} {e:Expr} {ta:TE} {pos p p':Pos} {i:Int} {j:Nat}
theorem nC(a:PE X e ta):PE X (e.Subscript (.Constant (.int i) j p') pos) (tOp (rIxB X.K) ta (tC (.int i))):=nO ix_B a oK (λ_ _=>rfl)
theorem nY(m:X.mg "len"=none)(a:PE X e ta)(g:Gl X "len" := by rfl)(b:starEach [e] X.env=(false,eval e X.env):: starEach [] X.env:=by rfl):PE X (.Call (.Name "len" p) [e] [] pos) (tCB (eP X.K) (nD ta tNil)):=mY Ps g m (nofun) (oH a oJ b) ∅ ∅ b rfl
end
section
variable {X:Cx} {sc scope:Scope} {fr:List (Str×Nat)} {x:Str} {px:Pos} {iter elt:Expr} {wi:TI} {te:TE} {N:List Str}
theorem mD{pos:Pos}(i:X.env.scope=sc)(l:X.N=N)(m:cS sc N scope fr=true)(g:X.calm=true)(k:cT (kD sc scope) ([x]++fr.map (·.1)) 0 x=true)(hi:PI X (.Name x px) iter wi)
  (n:∀(e:Shared)(f:Hp)(c:LA),(mB X scope ([x]++fr.map (·.1)) e f c).env.scope=kD sc scope->PE (mB X scope ([x]++fr.map (·.1)) e f c) elt te)(j:∀x,foldedSetIterable iter X.env x=pure x:=by intro _;rfl):PE X (.ListComp elt [⟨.Name x px,iter,[],0⟩] scope pos) (lI wi (oW 0) (tEl te) 1 fr):=
 iA (xs:=[x]) (kN i l m) g hi (λ_ _ _ h=>kZ (i:=0) h rfl k) (λa b d h=>kY (n a b d h)) (yB _) j
theorem Gr{pos f g:Pos}{y:Str}{i:Nat}(n:X.env.scope=sc)(q:X.N=N)(r:cS sc N scope fr=true)(k:X.calm=true)(u:X.N.Nodup)(m:X.N[i]?=some y)(hl:X.env.scope.names.lookup y=some .local)(p:cT (kD sc scope) ([x]++fr.map (·.1)) 0 x=true)(hi:PI X (.Name x px) iter wi)
  (t:∀(e:Shared)(j:Hp)(c:LA),(mB X scope ([x]++fr.map (·.1)) e j c).env.scope=kD sc scope->PE (mB X scope ([x]++fr.map (·.1)) e j c) elt te)
  (l:swapsWith (.ListComp elt [⟨.Name x px,iter,[],0⟩] scope pos) (some (.Name y g)) f.line X.env=pure true:=by rfl)(o:∀x,foldedSetIterable iter X.env x=pure x:=by intro _;rfl):PS X (.Assign [.Name y g] (.ListComp elt [⟨.Name x px,iter,[],0⟩] scope pos) f) (Fo i (lI wi (oW 0) (tEl te) 1 fr)):=
 Bx (xs:=[x]) (kN n q r) k u m hl hi (λ_ _ _ h=>kZ (i:=0) h rfl p) (λa b d h=>kY (t a b d h)) l (yB _) o
end
structure FunT(K:Frag)(mg:MT)(x:Str)(st:Stmt)(f:Addr)(fd:FuncData)(ps:List Str):Prop extends Fun K x x st f fd where
 m:mg x=some (.ref f)
 b:mF K fd ps []
section
variable {X:Cx} {k:Nat} {f:Addr} {fd:FuncData} {ps:List Str} {sp:Sp} {x:Str} {st:Stmt} {p pos:Pos} {e:Expr} {es:List Expr} {t:TA}
theorem nA(F:FnOk X.prog X.w X.K X.mg X.base CX0 k f fd ps sp)(hr:Room k X.A)(c:FunT X.K X.mg x st f fd ps)(i:PA X (e:: es) t)(a:Gl X x:=by rfl)(b:(x == ("__debug__" :Str))=false:=by decide)
  (g:starEach (e:: es) X.env=(false,eval e X.env):: starEach es X.env:=by rfl)(d:(backTo pos (starEach es X.env)).any (·.1)=false:=by rfl):PE X (.Call (.Name x p) (e:: es) [] pos) (lF sp [] E0 t):=cO F hr a c.m c.kp c.b .nil jZ i b g d
end
instance decPD:DecidableEq PyData:=λ_ _=>Classical.propDecidable _
def tT:Nat->PyData->Bool
 |_,.int _=>true
 |n+1,.tuple xs=>xs.all (tT n)
 |_,_=>false
theorem iV:∀(n:Nat)(d:PyData),tT n d=true->iT n d=true:=by
 intro n
 induction n with
 |zero=>intro d h;cases d <;> simp[tT]at h <;> simp[iT]
 |succ n a =>
  intro d h;cases d <;> simp[tT]at h
  ·simp[iT]
  ·simp only[iT,List.all_eq_true];exactλx b=>a x (h x b)
mutual
def kR:PyData->Int
 |.int i=>hashInt i
 |.tuple xs=>reduceHash (Builtin.Tuple.tupleHashOf (eV xs))
 |_=>0
def eV:List PyData->LI'
 |[]=>[]
 |d:: ds=>kR d:: eV ds
end
mutual
def jB:PyData->Nat
 |.tuple xs=>iW xs+1
 |_=>1
def iW:List PyData->Nat
 |[]=>0
 |d:: ds=>jB d+iW ds
end
section
variable {prog:Program} {w:World} {E:VP}
theorem Qs(n:Nat)(f:∀{A:Around}{s:Shared}{v:Value}{d:PyData}{as:LA}{Q:Int->Shared->Prop},tT n d=true->Reads s.heap v d as->A.units+n<cLine->Q (kR d) {s with toks:=s.toks+jB d}->wpAny (model prog w) A (pyHash v) Q E s):
  ∀(xs:List PyData)(vs:LW)(as:LA)(A:Around)(s:Shared)(b:Array Int)(Q:Array Int->Shared->Prop),xs.all (tT n)=true->ReadsAll s.heap vs xs as->A.units+n<cLine ->
  (∀a:Array Int,a.toList=b.toList++eV xs->Q a {s with toks:=s.toks+iW xs}) ->
  wpAny (model prog w) A (forIn vs b λx r=>do let h ←pyHash x;pure PUnit.unit;pure (ForInStep.yield (r.push h))) Q E s:=by
 intro xs
 induction xs with
 |nil =>
  intro vs as A s b Q _ r _ h;cases r;exact zB (h b (by simp[eV]))
 | cons d ds g =>
  intro vs as A s b Q c r e h;cases r with
  |cons r1 r2 =>
   rw[xE,zR]at c;rw[uL];refine zA (zA (f c.1 r1 e ?_));refine zA (zB (zB ?_));refine g _ _ A {s with toks:=s.toks+jB d} (b.push (kR d)) Q c.2 r2 e λa i=>?_;have:=h a (by rw[i];simp[eV]);rw[show s.toks+iW (d:: ds)=s.toks+jB d+iW ds by simp[iW,Nat.add_assoc]]at this;exact this
theorem Qr:∀(n:Nat){A:Around}{s:Shared}{v:Value}{d:PyData}{as:LA}{Q:Int->Shared->Prop},tT n d=true->Reads s.heap v d as->A.units+n<cLine->Q (kR d) {s with toks:=s.toks+jB d}->wpAny (model prog w) A (pyHash v) Q E s:=by
 intro n
 induction n with
 |zero =>
  intro A s v d as Q c r g h;cases r <;> simp[tT]at c;exact qT (by simpa [kR,jB]using h)
 | succ n f =>
  intro A s v d as Q c r g h;cases r <;> simp only[tT,Bool.false_eq_true]at c
  case int=>exact qT (by simpa [kR,jB]using h)
  case tuple a o vs m xs hg hc hd hr =>
   unfold pyHash;refine PySem.W.pyHash_slot (T:= "tuple") ⟨_,hg,hc⟩ PySem.F.slot_tuple_hash PySem.F.entry_tuple_hash (PySem.F.args_tuple_hash_1 _) (beq_builtin_none _) (.inr ⋯) ?_;show wpAny _ _ (Builtin.Tuple.tupleItemsOf (.ref a) >>= _) _ _ s;refine zA (rO hg hd ?_);refine zA ?_;rw[←Array.forIn_toList];refine Qs n f xs vs.toList _ A.in1 s #[] _ c hr (by show A.units+1+n<cLine;omega) λb i=>?_;show wpAny _ _ (retInt (Builtin.Tuple.tupleHashOf b.toList)) _ _ _;rw[i];refine zA (wpAny_mkInt (zB ⟨_,_,rfl,?_⟩));have e:s.toks+iW xs+1=s.toks+jB (.tuple xs):=by simp[jB,Nat.add_assoc]
   simp only[kR]at h;rw[←e]at h;exact h
theorem Qq:∀(n m:Nat),n<m->∀{A:Around}{s:Shared}{v:Value}{d:PyData}{as:LA}{Q:Bool->Shared->Prop},tT n d=true->Reads s.heap v d as->Q true s->wpAny (model prog w) A (eqIsQuiet m v) Q E s:=by
 intro n
 induction n with
 |zero =>
  intro m _ A s v d as Q b r h;cases r <;> simp[tT]at b;rw[eqIsQuiet_byValue _ rfl];exact zB h
 | succ n i =>
  intro m p A s v d as Q b r h;cases r <;> simp only[tT,Bool.false_eq_true]at b
  case int=>rw[eqIsQuiet_byValue _ rfl];exact zB h
  case tuple a o vs k xs hg hc hd hr =>
   obtain⟨m,rfl⟩:∃j,m=j+1:=⟨m-1,⋯⟩;have g:s.TypeIs (.ref a) "tuple" := ⟨o,hg,hc⟩;unfold eqIsQuiet;refine zA (wpAny_specialOf g PySem.F.slot_tuple_eq.lookup ?_);show wpAny _ _ (isInstance (.ref a) (.type "tuple") >>= _) _ _ s;refine zA (uB g isSubtype_tuple_tuple ?_);simp only[Bool.not_true,Bool.false_eq_true,if_false];refine zA (wI hg hd ?_);refine zA ?_;show wpAny _ _ (forIn vs _ _) _ _ s;rw[←Array.forIn_toList];refine wpAny_forIn_list _ (λrest q e=>q.1=none/\e=s/\∃ys bs,ys.all (tT n)=true/\ReadsAll s.heap rest ys bs) _ ?_ ?_ _ _ ⟨rfl,rfl,xs,_,b,hr⟩
   ·rintro u rest q e ⟨f,rfl,ys,bs,c,l⟩;cases l with
    |cons r1 r2 =>
     rw[xE,zR]at c;refine zA (i m ⋯ c.1 r1 ?_);simp only[Bool.not_true,Bool.false_eq_true,if_false];exact zB ⟨rfl,rfl,_,_,c.2,r2⟩
   ·rintro⟨r1,r2⟩ e ⟨f,rfl,_⟩;simp only at f;subst f;exact zB h
end
theorem Qp{h h':Heap}{x:Addr}{c:Obj}{es:Array DictEntry}{ep:Nat}(f:h.get? x=some c)(j:c.data=.dict es ep)(i:Heap.SameBut x h h'):∀(n:Nat){v:Value}{d:PyData}{as:LA},tT n d=true->Reads h v d as->Reads h' v d as:=by
 intro n
 induction n with
 |zero =>
  intro v d as b r;cases r <;> simp[tT]at b;exact .int _ _
 | succ n e =>
  have all:∀(xs:List PyData)(vs:LW)(as:LA),xs.all (tT n)=true->ReadsAll h vs xs as->ReadsAll h' vs xs as:=by
   intro xs
   induction xs with
   |nil=>intro vs as _ r;cases r;exact .nil
   | cons d ds g =>
    intro vs as b r;cases r with
    |cons r1 r2 =>
     rw[xE,zR]at b;exact .cons (e b.1 r1) (g _ _ b.2 r2)
  intro v d as b r;cases r <;> simp only[tT,Bool.false_eq_true]at b
  case int=>exact .int _ _
  case tuple a o vs k xs hg hc hdd hr =>
   have l:a≠x:=by
    rintro rfl;rw[f]at hg;cases hg;rw[j]at hdd;cases hdd
   exact .tuple ((i.2 a l).trans hg) hc hdd (all _ _ _ b hr)
def isT(h:Heap)(d:PyData)(a:Addr):Prop:=tT 4 d=true/\∃as,Reads h (.ref a) d as
def mO(prog:Program)(w:World):HeapKind prog w PyData where
 is:=isT
 hash:=kR
 draws:=jB
 room:=λA=>A.units+8<cLine
 inj:=λ{h a x y}hx hy=>by
  obtain⟨t1,as,r1⟩:=hx;obtain⟨t2,bs,r2⟩:=hy;exact PySem.SeqAt.Reads.unique _ _ _ _ _ (jP 4 _ (iV 4 _ t1)).1 r1 r2
 keeps:=λ{h h' k a x o es ep}hk hx hd hs=>⟨hk.1,let ⟨as,r⟩:=hk.2;⟨as,Qp hx hd hs 4 hk.1 r⟩⟩
 pyHash:=λ{A E s k a Q}hu hk h=>let ⟨as,r⟩:=hk.2;Qr 4 hk.1 r ⋯ h
 eqBool:=λ{A E s x y a b Q}hu hx hy h=>by
  obtain⟨t1,as,r1⟩:=hx;obtain⟨t2,bs,r2⟩:=hy;have i1:=iV 4 _ t1;have i2:=iV 4 _ t2;have l1:=jP 4 _ i1;have l2:=jP 4 _ i2;refine PySem.SeqAt.eqBoolOverData _ _ _ _ _ _ _ _ _ _ _ _ r1 r2 l1.1 l2.1 ⋯ ?_;rw[←SeqAt.same_eq_eqv _ _ (cY 4 _ _ i1 i2)];have e:=cZ 4 _ _ i1 i2
  by_cases z:x=y
  ·rw[zQ z]at h;rw[e.mpr z];exact h
  ·rw[zO z]at h;have:same x y=false:=by
    cases q:same x y with
    |false=>rfl
    |true=>exact absurd (e.mp q) z
   rw[this];exact h
 quiet:=λ{A E s k a Q}hk h=>let ⟨as,r⟩:=hk.2;Qq 4 8 ∅ hk.1 r h
def nR(a:Addr)(xs:List (PyData×Addr×Value)):HO:=.ext λh=>∃o es ep,h.get? a=some o/\o.ExactDict/\o.data=.dict es ep/\es.toList=xs.map λx=>⟨kR x.1,.ref x.2.1,x.2.2⟩
theorem Bs{o:Option V}{u:Option Value}(h:RelO o u):o.isSome=u.isSome:=by
 cases o <;> cases u <;> first|rfl|exact h.elim
def vT(kvs:List (PyData×V))(k:PyData):Option V:=(kvs.find? λkv=>decide (kv.1=k)).map (·.2)
def pT(kvs:List (PyData×V))(k:PyData)(v:V):List (PyData×V):=if(vT kvs k).isSome=true then kvs.map (λkv=>if kv.1=k then(kv.1,v) else kv) else kvs++[(k,v)]
theorem eW{p:PyData×V}{r:List (PyData×V)}{k:PyData}(e:p.1=k):vT (p:: r) k=some p.2:=by simp[vT,List.find?_cons,e]
theorem gU{p:PyData×V}{r:List (PyData×V)}{k:PyData}(e:¬ p.1=k):vT (p:: r) k=vT r k:=by simp[vT,List.find?_cons,e]
abbrev KP(K:Frag)(H:Hp):List (PyData×V)->List (PyData×Addr×Value)->Prop:=Paired λp q=>p.1=q.1/\(tT 4 p.1=true/\Dt K H (.ref q.2.1) p.1)/\RelV p.2 q.2.2
structure DTr(K:Frag)(H:Hp)(a:Addr)(kvs:List (PyData×V)):Prop where
 len:kvs.length<=sizeLine
 sys:(a == sysModules)=false
 ex:∃xs,H a=some (nR a xs)/\(xs.map (·.1)).Nodup/\KP K H kvs xs
theorem KP.val{K:Frag}{H:Hp}{kvs:List (PyData×V)}{xs:List (PyData×Addr×Value)}(r:KP K H kvs xs)(k:PyData):RelO (vT kvs k) ((atKey xs k).map (·.2)):=by
 induction r with
 |nil=>exact True.intro
 | @cons p q ps a h i d =>
  obtain⟨c,_,g⟩:=h
  by_cases e:p.1=k
  ·have b:atKey (q:: a) k=some q.2:=by simp[atKey,List.find?_cons,c.symm.trans e]
   rw[eW e,b];exact g
  ·have f:¬ q.1=k:=λz=>e (c.trans z);have b:atKey (q:: a) k=atKey a k:=by simp[atKey,List.find?_cons,f]
   rw[gU e,b];exact d
theorem KP.put{K:Frag}{H:Hp}{kvs:List (PyData×V)}{xs:List (PyData×Addr×Value)}(r:KP K H kvs xs)(k:PyData){b:Addr}{y:V}{u:Value}(tk:tT 4 k=true)(i:Dt K H (.ref b) k)(c:RelV y u):KP K H (pT kvs k y) (storedH xs k b u):=by
 have e:(vT kvs k).isSome=(atKey xs k).isSome:=by rw[Bs (r.val k),qL]
 unfold pT storedH;rw[e]
 by_cases q:(atKey xs k).isSome=true
 ·rw[zE q,zE q];clear e q
  induction r with
  |nil=>exact .nil
  |@cons p q ps j h l f =>
   rw[zI,zI];refine .cons ?_ f;obtain⟨a,d,g⟩:=h;unfold putAt
   by_cases e:p.1=k
   ·rw[zE e,zE (a.symm.trans e)];exact⟨a,d,c⟩
   ·rw[zD e,zD (λz=>e (a.trans z))];exact⟨a,d,g⟩
 ·rw[zD q,zD q];exact Paired.snoc r ⟨rfl,⟨tk,i⟩,c⟩
theorem lU{K:Frag}{H H':Hp}(f:∀b xs,SqT K H b xs->SqT K H' b xs):∀(n:Nat){x:V}{d:PyData},tT n d=true->Dt K H x d->Dt K H' x d:=by
 intro n
 induction n with
 |zero =>
  intro x d h r;cases r <;> simp[tT]at h;exact .int _
 | succ n c =>
  have all:∀(ds:List PyData)(xs:List V),ds.all (tT n)=true->Dts K H xs ds->Dts K H' xs ds:=by
   intro ds
   induction ds with
   |nil=>intro xs _ r;cases r;exact .nil
   | cons d ds e =>
    intro xs h r;cases r with
    |cons r1 r2 =>
     rw[xE,zR]at h;exact .cons (c h.1 r1) (e _ h.2 r2)
  intro x d h r;cases r <;> simp only[tT,Bool.false_eq_true]at h
  case int=>exact .int _
  case tup a xs ds hq hr=>exact .tup (f _ _ hq) (all _ _ h hr)
theorem Br{K:Frag}{H:Hp}{a:Addr}{o:HO}(f:∀xs,¬ Rd H a (.tup xs)):∀b xs,SqT K H b xs->SqT K (upd H a o) b xs:=λb xs h=>by
 rcases h with h|h
 ·have c:b≠a:=λe=>f xs (e ▸ h);rcases h with h|⟨d,h⟩
  ·exact .inl (.inl (by rw[oR c];exact h))
  ·exact .inl (.inr ⟨d,by rw[oR c];exact h⟩)
 ·exact .inr h
theorem KP.keeps{K:Frag}{H H':Hp}{kvs:List (PyData×V)}{xs:List (PyData×Addr×Value)}(r:KP K H kvs xs)(a:∀b ys,SqT K H b ys->SqT K H' b ys):KP K H' kvs xs:=
 Paired.mapP r λ_ _ z=>⟨z.1,⟨z.2.1.1,lU a 4 z.2.1.1 z.2.1.2⟩,z.2.2⟩
theorem mW{K:Frag}{H H':Hp}(s:Same H H'):∀b xs,SqT K H b xs->SqT K H' b xs:=λb xs h=>by
 rcases h with(h|⟨o,h⟩)|h
 ·exact .inl (.inl (s _ _ h))
 ·exact .inl (.inr ⟨o,s _ _ h⟩)
 ·exact .inr h
theorem DTr.up{K:Frag}{H H':Hp}{a:Addr}{kvs:List (PyData×V)}(h:DTr K H a kvs)(s:Same H H'):DTr K H' a kvs:=by
 obtain⟨l,y,xs,e,n,r⟩:=h;exact⟨l,y,xs,s _ _ e,n,r.keeps (mW s)⟩
section
variable {X:Cx} {pins:PN} {σ:St} {H:Hp} {s:Shared} {a:Addr}
theorem iB{k:PyData}{b:Addr}(I:Inv X pins σ H s)(tk:tT 4 k=true)(c:Dt X.K H (.ref b) k):(mO X.prog X.w).is s.heap k b:=⟨tk,c.reads I rfl⟩
theorem iC{kvs:List (PyData×V)}(I:Inv X pins σ H s)(g:DTr X.K H a kvs):∃xs,H a=some (nR a xs)/\KP X.K H kvs xs/\s.heap.DictOfH (mO X.prog X.w) a xs:=by
 obtain⟨_,_,xs,e,n,r⟩:=g;obtain⟨⟨o,es,ep,i,k,j,f⟩,_⟩:=(show nI X.prog X.w H s.heap a (nR a xs) from I.hok a _ e);refine⟨xs,e,r,o,es,ep,i,k,j,f,λx b=>?_,n⟩;have all:∀{l:List (PyData×V)}{m:List (PyData×Addr×Value)},KP X.K H l m->∀x∈m,(mO X.prog X.w).is s.heap x.1 x.2.1:=by
  intro l m q
  induction q with
  |nil=>intro x b;exact nomatch b
  |@cons p q ps t c u d =>
   intro x b;rcases xC.mp b with e|b
   ·subst e;rw[←c.1];exact iB I c.2.1.1 c.2.1.2
   ·exact d x b
 exact all r x b
end
def bF(K:Frag):R2:=λx y H Q=>∃a kvs b k v,x=.ref a/\y=.ref b/\DTr K H a kvs/\tT 4 k=true/\Dt K H (.ref b) k/\vT kvs k=some v/\Q v H
def rInT(K:Frag)(neg:Bool):R2:=λy x H Q=>∃a kvs b k,x=.ref a/\y=.ref b/\DTr K H a kvs/\tT 4 k=true/\Dt K H (.ref b) k/\Q (.bl (if neg=true then !(vT kvs k).isSome else(vT kvs k).isSome)) H
def Qo(K:Frag):TSet:=λx y v H Q=>∃a kvs b k,x=.ref a/\y=.ref b/\DTr K H a kvs/\tT 4 k=true/\Dt K H (.ref b) k/\kvs.length<sizeLine/\∀H',(∀c o,c≠a->H c=some o->H' c=some o)->(∀c,c≠a->H' c=H c)->DTr K H' a (pT kvs k v)->Q H'
section
variable {X:Cx}
theorem ix_T(w:X.A.units+64<cLine):IxR X (bF X.K):=by
 intro D F G s C H x y v u Q I d j h m;obtain⟨a,kvs,b,k,z,rfl,rfl,g,tk,o,n,q⟩:=h;cases d;cases j;obtain⟨xs,e,r,dd⟩:=iC I g;obtain⟨i,f,l⟩:=RelO.some_of (v:=z) (o:=(atKey xs k).map (·.2)) (by rw[←n];exact r.val k);obtain⟨p,t,c⟩:=Option.map_eq_some_iff.mp f;refine sF (x:=i) dd.typeIs PySem.F.slot_dict_getitem.lookup ?_ m;refine wpAny_getItem_heap (knd:=mO X.prog X.w) (show X.A.units+1+8<cLine by omega) (iB I tk o) dd t ⟨c,z,H,I.tok _,?_,q⟩;rw[c];exact l
theorem Qn(i:X.A.units+64<cLine):OpR X (compareOp .In) (rInT X.K false):=by
 intro l s j H x y v u Q I c d h;obtain⟨a,kvs,b,k,rfl,rfl,g,tk,f,q⟩:=h;cases c;cases d;obtain⟨xs,e,r,dd⟩:=iC I g;refine wpAny_in_heap (knd:=mO X.prog X.w) (show X.A.units+1+8<cLine by omega) (iB I tk f) g.sys dd ?_;have e:=Bs (r.val k);rw[qL]at e;rw[←e];exact⟨.bl _,H,I.tok _,rfl,q⟩
theorem Bq(i:X.A.units+64<cLine):OpR X (compareOp .NotIn) (rInT X.K true):=by
 intro l s j H x y v u Q I c d h;obtain⟨a,kvs,b,k,rfl,rfl,g,tk,f,q⟩:=h;cases c;cases d;obtain⟨xs,e,r,dd⟩:=iC I g;refine wpAny_notIn_heap (knd:=mO X.prog X.w) (show X.A.units+1+8<cLine by omega) (iB I tk f) g.sys dd ?_;have e:=Bs (r.val k);rw[qL]at e;rw[←e];exact⟨.bl _,H,I.tok _,rfl,q⟩
theorem Qm(kvs:List (PyData×V))(k:PyData)(v:V):(pT kvs k v).length<=kvs.length+1:=by
 unfold pT;split
 ·rw[yO];omega
 ·rw[zX];exact zF _
theorem eX{P:Program}{w:World}{H:Hp}{h:Heap}{a:Addr}{xs:List (PyData×Addr×Value)}{o:Obj}{es:Array DictEntry}{ep:Nat}(b:h.get? a=some o)(l:o.ExactDict)(j:o.data=.dict es ep)(e:es.toList=xs.map λx=>⟨kR x.1,.ref x.2.1,x.2.2⟩):nI P w H h a (nR a xs):=
 ⟨⟨o,es,ep,b,l,j,e⟩,⟨o,b⟩,λn m⟨c,g,i,f,d⟩k=>⟨c,g,i,k c f,d⟩⟩
theorem Gq(L:X.A.units+64<cLine):PSet X (Qo X.K):=by
 intro G s J H o i v K M u Q I t w p h;obtain⟨a,kvs,b,k,rfl,rfl,g,tk,j,hl,q⟩:=h;cases t;cases w;obtain⟨xs,e,r,dd⟩:=iC I g;have hz:xs.length<=sizeLine:=by rw[←pM r];exact g.len
 have y:∀ys,¬ Rd H a (.tup ys):=λys z=>by
  rcases z with z|⟨l,z⟩
  ·rw[e]at z;cases z
  ·rw[e]at z;cases z
 refine wpAny_setItem_heap (knd:=mO X.prog X.w) (hsz:=hz) (show X.A.units+1+8<cLine by omega) (iB I tk j) dd λh' m C=>?_;obtain⟨l,es,ep,f,D,n,F,_,x⟩:=m;refine⟨upd H a (nR a (storedH xs k b u)),I.write (x:=a) (e:=a) (by rw[e];exact True.intro) (.inl rfl) (λc o d z=>(C.2 c d).trans z) ⟨l,f⟩ (eX f D n F),?_⟩;refine q _ (λc o d z=>by rw[oR d];exact z) (λc d=>oR d) ⟨by have:=Qm kvs k v;omega,g.sys,_,oP,x,(r.put k tk j p).keeps (Br y)⟩
end
section
variable {X:Cx} {pos:Pos}
theorem Bp{b:PN}{a:St}{H:Hp}{s:Shared}(I:Inv X b a H s):sysModules<s.heap.objs.size:=
 Nat.lt_trans ∅ (show mainGlobals<s.heap.objs.size from(I.mod.glob.keeps I.bk).lt)
theorem Gp{P:Program}{w:World}{H:Hp}(h:Heap):nI P w H (h.push {cls:=.type "dict",data:=.dict #[]}) h.objs.size (nR h.objs.size []):=
 eX (es:=#[]) (ep:=0) (zP _ rfl) ⟨rfl,rfl,rfl⟩ rfl rfl
theorem Go{K:Frag}{H:Hp}{p:Addr}(a:(p == sysModules)=false)(e:H p=some (nR p [])):DTr K H p []:=⟨yB _,a,[],e,vX,.nil⟩
def Gn(K:Frag):TE:=λ_ H Q=>∀p,H p=none->DTr K (upd H p (nR p [])) p []->Q (.ref p) (upd H p (nR p []))
theorem Ql:PE X (.Dict [] [] pos) (Gn X.K):=λb s a H Q I h =>
 wpAny_Dict_empty ⟨.ref s.heap.objs.size,_,I.laid (a:=s.heap.objs.size) (o:=nR s.heap.objs.size []) (t':=s.toks) (λ_ _ q=>zC _ q) (zF _) (Gp s.heap),rfl,
  h _ (I.hok.fresh (zF _)) (Go (pW.mpr (yF (zZ (Bp I)))) oP)⟩
def Gm(K:Frag)(tk tv:TE):TE:=λσ H Q=>∀p,H p=none->tk σ (upd H p (nR p [])) λx H1=>tv σ H1 λy H2=>∃b d,x=.ref b/\tT 4 d=true/\Dt K H2 (.ref b) d/\H2 p=some (nR p [])/\∀H3,(∀c,c≠p->H3 c=H2 c)->DTr K H3 p [(d,y)]->Q (.ref p) H3
theorem Qk{k v:Expr}{tk t:TE}(a0:X.A.units+64<cLine)(N:PE X k tk)(R:PE X v t):PE X (.Dict [some k] [v] pos) (Gm X.K tk t):=by
 intro l s m H Q I q;have Y:=I.hok.fresh (zF s.heap.objs.size);have p:(s.heap.objs.size == sysModules)=false:=pW.mpr (yF (zZ (Bp I)));have W:=I.laid (a:=s.heap.objs.size) (o:=nR s.heap.objs.size []) (h':=s.heap.push {cls:=.type "dict",data:=.dict #[]}) (t':=s.toks) (λ_ _ q=>zC _ q) (zF _) (Gp s.heap);rw[arm_eval_Dict,zip_pairTrees [some k] [v] X.env pos rfl rfl,dictDisplay_pairs (pairTrees [some k] [v] X.env pos) (by intro e;cases e) (show 1<17 by decide)];refine zA (wS (zA ?_));unfold subDict;refine zA (wpAny_alloc ?_);refine zA (yT ?_);rw[zE (show(pairTrees [some k] [v] X.env pos).length<=15 from(show 1<=15 by decide))];refine zA (pairTrees_cons_walk (thn (N l _ m _ _ W (q _ Y)) λu L⟨x,H1,J,U,O⟩=>thn (R l L m H1 _ J O) λS Z⟨y,H2,g,w,b,d,F,f,j,e,M⟩=>pairTrees_nil_walk ?_));subst F;cases U;refine yT ?_;obtain⟨xs,a1,r,dd⟩:=iC g (Go p e);cases r;refine zA ?_;rw[uL];refine zA (zA (wpAny_dictSet_heap (knd:=mO X.prog X.w) (hsz:=yB _) (show X.A.units+8<cLine by omega) (iB g f j) dd λh' C P=>zB ?_));refine zB (zB (zB (zB ?_)));obtain⟨n,es,ep,i,T,D,V,_,G⟩:=C;have K:∀ys,¬ Rd H2 s.heap.objs.size (.tup ys):=λys z=>by
  rcases z with z|⟨n,z⟩
  ·rw[e]at z;cases z
  ·rw[e]at z;cases z
 refine⟨.ref s.heap.objs.size,upd H2 s.heap.objs.size (nR s.heap.objs.size (storedH [] d b S)),g.write (x:=s.heap.objs.size) (e:=s.heap.objs.size) (by rw[e];exact True.intro) (.inl rfl) (λc o a z=>(P.2 c a).trans z) ⟨n,i⟩ (eX i T D V),rfl,?_⟩;exact M _ (λc a=>oR a) ⟨by show 1<=sizeLine;decide,p,_,oP,G,.cons ⟨rfl,⟨f,lU (Br K) 4 f j⟩,w⟩ .nil⟩
def tBMR(K:Frag)(r:V->List V->Hp->VK->Prop)(to:TE)(ta:TA):TE:=λσ H Q=>to σ H λx H1=>(∃a kvs,x=.ref a/\DTr K H1 a kvs)/\ta σ H1 λvs H2=>r x vs H2 Q
theorem Qj{T:String}{o e:Expr}{es:List Expr}{name:Str}{id:String}{i b:Pos}{j:TE}{f:TA}{r:V->List V->Hp->VK->Prop}(G:PlainAttrs "dict")(w:Slot "dict" name id)(L:typeOf (.builtin id)=pure (.type "method_descriptor"))(n:MtM X id r)(J:PE X o j)(q:PA X (e:: es) f)
  (z:attributeBase o name X.env (eval o X.env)=eval o X.env:=by rfl)
  (K:((backTo b (starEach (e:: es) X.env)).all (λx=>!x.1) && (backToKw b (keywordEach [] X.env)).all (λx=>x.1.isSome)
   && decide ((e:: es).length+([]:List Keyword).length+(if([]:List Keyword).isEmpty then 0 else 1)<30))=true:=by rfl)
  (C:(i.endLine == b.line)=true:=by rfl)(F:starEach (e:: es) X.env=(false,eval e X.env):: starEach es X.env:=by rfl)(m:(backTo b (starEach es X.env)).any (·.1)=false:=by rfl):
  PE X (.Call (.Attribute o name i) (e:: es) [] b) (tBMR X.K r j f):=by
 intro c s d H Q I h;refine wpAny_Call_method_late z K C rfl (thn (J c s d H _ I h) λv u⟨x,H1,l,r1,ty,D⟩=>?_);obtain⟨a,kvs,rfl,g⟩:=ty;cases r1;obtain⟨xs,M,r,dd⟩:=iC l g;refine⟨"dict",id,G,w,L,dd.typeIs,dictOfH_noDict dd,?_⟩;have k:=q b c u d H1 _ l D;rw[F]at k ⊢;refine sD (by show(false || (backTo b (starEach es X.env)).any (·.1))=false;rw[m] <;> rfl) (vU ?_);exact thn k λus p⟨vs,H2,t,r2,y⟩=>n c p d H2 (.ref a) vs _ us Q t rfl r2 y
end
def lZ:Bool->Keyed->Array Keyed->Nat->Nat->Nat->StateT SortSt Sem (Option Nat):=sortPriv%PySem.Builtin.gallop
def iX(left:Bool)(key:Keyed)(arr:Array Keyed)(base i:Nat):StateT SortSt Sem (Option Bool):=do
 let x ←elem' arr (base+i)
 if left then lt' x key else return (←lt' key x).map (!·)
theorem Qi(left:Bool)(c:Keyed)(arr:Array Keyed)(base n a:Nat):lZ left c arr base n a=(do
 let mut lastofs:=0
 let mut ofs:=1
 let mut lo:=0
 let mut hi:=0
 let some right ←iX left c arr base a|return none
 if right then
  let b:=n-a
  for _ in[0:n] do
   if ofs≥b then break
   let some more ←iX left c arr base (a+ofs)|return none
   if !more then break
   lastofs:=ofs
   ofs:=2*ofs+1
  lo:=a+lastofs+1
  hi:=a+min ofs b
 else
  let b:=a+1
  for _ in[0:n] do
   if ofs≥b then break
   let some found ←iX left c arr base (a-ofs)|return none
   if found then break
   lastofs:=ofs
   ofs:=2*ofs+1
  lo:=a+1-min ofs b
  hi:=a-lastofs
 for _ in[0:n] do
  if lo≥hi then break
  let m:=lo+(hi-lo)/2
  let some more ←iX left c arr base m|return none
  if more then lo:=m+1 else hi:=m
 return some hi):=rfl
section
variable {prog:Program} {w:World} {A:Around} {E:VP} {s:Shared} {κ:PyProof.Rows.KeyKind} {kd:SortKind}
def Cmp(prog:Program)(w:World)(A:Around)(s:Shared)(κ:PyProof.Rows.KeyKind)(kd:SortKind):Prop:=
 ∀(E:VP)(x y:Value)(a b:κ.α)(Q:Bool->Shared->Prop),κ.keyOf x=some a->κ.keyOf y=some b->Q (κ.blt a b) s->wpAny (model prog w) A (keyLt' kd x y) Q E s
def ky(κ:PyProof.Rows.KeyKind)(p:Keyed):κ.α:=(κ.keyOf p.1).getD κ.dflt
def Gd(κ:PyProof.Rows.KeyKind)(p:Keyed):Prop:=∃a,κ.keyOf p.1=some a
def lq(κ:PyProof.Rows.KeyKind)(p q:Keyed):Bool:=κ.blt (ky κ p) (ky κ q)
theorem Gk{p:Keyed}(h:Gd κ p):κ.keyOf p.1=some (ky κ p):=by
 obtain⟨a,e⟩:=h;unfold ky;rw[e];rfl
theorem eY(c:Cmp prog w A s κ kd){st:SortSt}{x y:Keyed}{Q:Option Bool->SortSt->Prop}(a:kindOf st=kd)(b:Gd κ x)(d:Gd κ y)(h:Q (some (lq κ x y)) st):wpS (model prog w) A E s (lt' x y) Q st:=by
 rw[lt'_eq];refine zG (tE ?_);rw[a];refine zG (rL (vN (c _ x.1 y.1 _ _ _ (Gk b) (Gk d) ⟨rfl,?_⟩)));exact zH h
theorem mS{st:SortSt}{arr:Array Keyed}{i:Nat}{p:Keyed}{Q:Keyed->SortSt->Prop}(hi:arr[i]?=some p)(h:Q p st):wpS (model prog w) A E s (elem' arr i) Q st:=by
 rw[elem'_eq,hi];exact zH h
def bey(κ:PyProof.Rows.KeyKind)(left:Bool)(key p:Keyed):Bool:=if left=true then lq κ p key else !lq κ key p
theorem Qh(c:Cmp prog w A s κ kd){st:SortSt}{left:Bool}{a p:Keyed}{arr:Array Keyed}{base i:Nat}{Q:Option Bool->SortSt->Prop}(e:kindOf st=kd)(b:Gd κ a)(f:arr[base+i]?=some p)(d:Gd κ p)(h:Q (some (bey κ left a p)) st):
  wpS (model prog w) A E s (iX left a arr base i) Q st:=by
 unfold iX;refine zG (mS f ?_);unfold bey at h;cases left with
 |true =>
  rw[zE rfl]at h ⊢;exact eY c e d b h
 |false =>
  rw[zD (by simp)]at h ⊢;exact zG (eY c e b d (zH h))
theorem Gj{st:SortSt}{n lo hi:Nat}{B:Nat->Bool}{f:Nat->StateT SortSt Sem (Option Bool)}{Q:Option Nat->SortSt->Prop}
  (p:∀(i:Nat)(R:Option Bool->SortSt->Prop),i<n->R (some (B i)) st->wpS (model prog w) A E s (f i) R st)(q:lo<=hi)(u:hi<=n)(mono:∀i j,i<=j->j<n->B j=true->B i=true)(l:∀i,i<lo->B i=true)(r:∀i,hi<=i->i<n->B i=false)
  (h:∀k,k<=n->(∀i,i<k->B i=true)->(∀i,k<=i->i<n->B i=false)->Q (some k) st):
  wpS (model prog w) A E s (do
   let mut lo:=lo
   let mut hi:=hi
   for _ in[0:n] do
    if lo≥hi then break
    let m:=lo+(hi-lo)/2
    let some more ←f m|return none
    if more then lo:=m+1 else hi:=m
   return some hi) Q st:=by
 refine zG (wJ (xF (I:=λx c e=>e=st/\∃lo hi,c=(none,lo,hi)/\lo<=hi/\hi<=n/\hi-lo+x<=n/\(∀i,i<lo->B i=true)/\∀i,hi<=i->i<n->B i=false)
  (Q:=λc e=>e=st/\∃k,c=(none,k,k)/\k<=n/\(∀i,i<k->B i=true)/\∀i,k<=i->i<n->B i=false) ?_ ?_ ⟨rfl,lo,hi,rfl,q,u,⋯,l,r⟩) ?_)
 ·rintro x c e _ v ⟨rfl,lo,hi,rfl,t,b,o,a,d⟩;dsimp only
  by_cases hl:lo≥hi
  ·rw[zE hl];exact zH ⟨rfl,hi,by rw[show lo=hi by omega],b,λi hi'=>a i ⋯,d⟩
  ·rw[zD hl];refine zG (p _ _ ⋯ ?_);dsimp only;cases hb:B (lo+(hi-lo)/2) with
   |true =>
    rw[zE rfl];refine zH ⟨rfl,_,_,rfl,⋯,b,⋯,λi hi'=>?_,d⟩;exact mono i _ ⋯ ⋯ hb
   |false =>
    rw[zD (by simp)];refine zH ⟨rfl,_,_,rfl,⋯,⋯,⋯,a,λi hi' g=>?_⟩;cases hbi:B i with
    |false=>rfl
    |true=>rw[mono _ i hi' g hbi]at hb;cases hb
 ·rintro c e ⟨rfl,lo,hi,rfl,t,b,o,a,d⟩;have:lo=hi:=⋯
  subst this;exact⟨rfl,lo,rfl,b,a,d⟩
 ·rintro c e ⟨rfl,k,rfl,b,a,d⟩;exact zH (h k b a d)
theorem eZ(I:Cmp prog w A s κ kd){st:SortSt}{left:Bool}{o:Keyed}{arr:Array Keyed}{base n b:Nat}{B:Nat->Bool}{Q:Option Nat->SortSt->Prop}(G:kindOf st=kd)(D:Gd κ o)(v:b<n)
  (C:∀i,i<n->∃p,arr[base+i]?=some p/\Gd κ p/\bey κ left o p=B i)(mono:∀i j,i<=j->j<n->B j=true->B i=true)
  (h:∀k,k<=n->(∀i,i<k->B i=true)->(∀i,k<=i->i<n->B i=false)->Q (some k) st):wpS (model prog w) A E s (lZ left o arr base n b) Q st:=by
 have m:∀(i:Nat)(R:Option Bool->SortSt->Prop),i<n->R (some (B i)) st->wpS (model prog w) A E s (iX left o arr base i) R st:=λi R hi r=>by
  obtain⟨p,e1,y,z⟩:=C i hi;exact Qh I G D e1 y (by rw[z];exact r)
 rw[Qi];refine zG (m b _ v ?_);dsimp only;cases hh:B b with
 | true =>
  rw[zE rfl];refine zG (wJ (xF (I:=λx c e=>e=st/\∃lo a,c=(none,lo,a)/\x+1<=a/\lo<a/\b+lo<n/\B (b+lo)=true)
   (Q:=λc e=>e=st/\∃lo a,c=(none,lo,a)/\lo<a/\b+lo<n/\B (b+lo)=true/\(n-b<=a\/(b+a<n/\B (b+a)=false))) ?_ ?_ ⟨rfl,0,1,rfl,zF _,⋯,v,hh⟩) ?_)
  ·rintro x c e _ F ⟨rfl,lo,a,rfl,u,g,f,d⟩;dsimp only
   by_cases hl:a≥n-b
   ·rw[zE hl];exact zH ⟨rfl,lo,a,rfl,g,f,d,.inl hl⟩
   ·rw[zD hl];refine zG (m _ _ ⋯ ?_);dsimp only;cases hb:B (b+a) with
    |true =>
     rw[zD (by simp)];exact zH ⟨rfl,_,_,rfl,⋯,⋯,⋯,hb⟩
    |false =>
     rw[zE ∅];exact zH ⟨rfl,lo,a,rfl,g,f,d,.inr ⟨⋯,hb⟩⟩
  ·rintro c e ⟨rfl,lo,a,rfl,u,g,f,d⟩;exact⟨rfl,lo,a,rfl,g,f,d,.inl ⋯⟩
  ·rintro c e ⟨rfl,lo,a,rfl,g,f,d,l⟩;dsimp only;refine Gj (lo:=b+lo+1) (hi:=b+min a (n-b)) m ⋯ ⋯ mono (λi hi=>mono i _ ⋯ f d) (λi hi t=>?_) h;rcases l with l|⟨l,q⟩
   ·omega
   ·cases hbi:B i with
    |false=>rfl
    |true=>rw[mono _ i ⋯ t hbi]at q;cases q
 | false =>
  rw[zD (by simp)];refine zG (wJ (xF (I:=λx c e=>e=st/\∃lo a,c=(none,lo,a)/\x+1<=a/\lo<a/\lo<=b/\B (b-lo)=false)
   (Q:=λc e=>e=st/\∃lo a,c=(none,lo,a)/\lo<a/\lo<=b/\B (b-lo)=false/\(b+1<=a\/(a<=b/\B (b-a)=true))) ?_ ?_ ⟨rfl,0,1,rfl,zF _,⋯,yB _,hh⟩) ?_)
  ·rintro x c e _ F ⟨rfl,lo,a,rfl,u,g,f,d⟩;dsimp only
   by_cases hl:a≥b+1
   ·rw[zE hl];exact zH ⟨rfl,lo,a,rfl,g,f,d,.inl hl⟩
   ·rw[zD hl];refine zG (m _ _ ⋯ ?_);dsimp only;cases hb:B (b-a) with
    |true =>
     rw[zE rfl];exact zH ⟨rfl,lo,a,rfl,g,f,d,.inr ⟨⋯,hb⟩⟩
    |false =>
     rw[zD (by simp)];exact zH ⟨rfl,_,_,rfl,⋯,⋯,⋯,hb⟩
  ·rintro c e ⟨rfl,lo,a,rfl,u,g,f,d⟩;exact⟨rfl,lo,a,rfl,g,f,d,.inl ⋯⟩
  ·rintro c e ⟨rfl,lo,a,rfl,g,f,d,l⟩;dsimp only;refine Gj (lo:=b+1-min a (b+1)) (hi:=b-lo) m ⋯ ⋯ mono (λi hi=>?_) (λi hi t=>?_) h
   ·rcases l with l|⟨l,q⟩
    ·omega
    ·exact mono i _ ⋯ ⋯ q
   ·cases hbi:B i with
    |false=>rfl
    |true=>rw[mono _ i ⋯ t hbi]at d;cases d
end
section
variable {κ:PyProof.Rows.KeyKind}
def le'(κ:PyProof.Rows.KeyKind)(x y:Keyed):Prop:=lq κ y x=false
theorem mP{x y z:Keyed}(b:le' κ x y)(a:le' κ y z):le' κ x z:=KeyOrd.kle_trans (O:=κ.toKeyOrd) b a
theorem mT{x y:Keyed}(h:lq κ x y=true):le' κ x y:=KeyOrd.klt_asymm (O:=κ.toKeyOrd) h
theorem jR(x:Keyed):le' κ x x:=κ.irrefl _
abbrev Srt(κ:PyProof.Rows.KeyKind)(l:List Keyed):Prop:=l.Pairwise (le' κ)
structure MI(κ:PyProof.Rows.KeyKind)(A B out:List Keyed)(ia ib:Nat):Prop where
 pm:out.Perm (A.take ia++B.take ib)
 so:Srt κ out
 oa:∀x∈out,∀y∈A.drop ia,le' κ x y
 ob:∀x∈out,∀y∈B.drop ib,le' κ x y
theorem MI.symm{A B out:List Keyed}{ia ib:Nat}(h:MI κ A B out ia ib):MI κ B A out ib ia:=⟨h.pm.trans vM,h.so,h.ob,h.oa⟩
theorem Qg{A:List Keyed}{i k:Nat}:A.take (i+k)=A.take i++(A.drop i).take k:=by rw[qD]
theorem MI.ext{A B out:List Keyed}{ia ib k:Nat}(h:MI κ A B out ia ib)(e:Srt κ A)(d:∀x∈(A.drop ia).take k,∀y∈B.drop ib,le' κ x y):MI κ A B (out++(A.drop ia).take k) (ia+k) ib:=by
 have f:Srt κ (A.drop ia):=tD (tY _ _) e;have cut:(A.drop ia).take k++A.drop (ia+k)=A.drop ia:=by rw[←pH];exact xX _ _
 have c:=oC.mp (show Srt κ ((A.drop ia).take k++A.drop (ia+k)) by rw[cut];exact f);refine⟨?_,oC.mpr ⟨h.so,c.1,λx b y a=>h.oa x b y (List.mem_of_mem_take a)⟩,λx b y a=>?_,λx b y a=>?_⟩
 ·rw[Qg,yE];refine(h.pm.append_right _).trans ?_;rw[yE];exact sJ _ vM
 ·rcases oB.mp b with q|q
  ·exact h.oa x q y (by rw[←cut];exact yN _ a)
  ·exact c.2.2 x q y a
 ·rcases oB.mp b with q|q
  ·exact h.ob x q y a
  ·exact d x q y a
theorem bH{A:List Keyed}{i:Nat}{p:Keyed}(e:A[i]?=some p):A.drop i=p:: A.drop (i+1):=by
 obtain⟨h,rfl⟩:=oE.mp e;exact vV h
theorem MI.push{A B out:List Keyed}{ia ib:Nat}{p:Keyed}(h:MI κ A B out ia ib)(c:Srt κ A)(e:A[ia]?=some p)(b:∀y∈B.drop ib,le' κ p y):MI κ A B (out++[p]) (ia+1) ib:=by
 have:=MI.ext (k:=1) h c (λx a y d=>by
  rw[bH e]at a;have f:x=p:=by simpa using a
  rw[f];exact b y d)
 rw[bH e]at this;simpa using this
theorem gW{A:List Keyed}{i:Nat}{p q:Keyed}(d:Srt κ A)(e:A[i]?=some q)(h:le' κ p q):∀y∈A.drop i,le' κ p y:=λy a=>by
 have b:Srt κ (A.drop i):=tD (tY _ _) d;rw[bH e]at a b;rcases xC.mp a with c|a
 ·rw[c];exact h
 ·exact mP h ((pY.mp b).1 y a)
def Res(κ:PyProof.Rows.KeyKind)(A B r:List Keyed):Prop:=r.Perm (A++B)/\Srt κ r
theorem MI.all{A B out:List Keyed}{ia ib:Nat}(h:MI κ A B out ia ib)(b:Srt κ A)(a:B.length<=ib):Res κ A B (out++A.drop ia):=by
 refine⟨?_,oC.mpr ⟨h.so,tD (tY _ _) b,h.oa⟩⟩;have:=h.pm;rw[yR a]at this;refine(this.append_right _).trans ?_;rw[yE];refine(sJ _ vM).trans ?_;rw[←yE,xX]
theorem Res.symm{A B r:List Keyed}(h:Res κ A B r):Res κ B A r:=⟨h.1.trans vM,h.2⟩
theorem MI.last{A B out:List Keyed}{ia ib:Nat}{p:Keyed}(h:MI κ A B out ia ib)(b:Srt κ B)(e:A[ia]?=some p)(hl:ia+1=A.length)(d:∀y∈B,le' κ y p):Res κ A B (out++B.drop ib++A.drop ia):=by
 have a:A.drop ia=[p]:=by rw[bH e,sE ⋯]
 rw[a];refine⟨?_,oC.mpr ⟨oC.mpr ⟨h.so,tD (tY _ _) b,h.ob⟩,List.pairwise_singleton _ _,λx c y f=>?_⟩⟩
 ·have g:A=A.take ia++[p]:=by rw[←a,xX]
  have:=(h.pm.append_right (B.drop ib)).append_right [p];refine this.trans ?_;rw[yE (A.take ia),xX,yE]
  conv=>rhs;rw[g]
  rw[yE];exact sJ _ vM
 ·rw[rX.mp f];rcases oB.mp c with q|q
  ·exact h.oa x q p (by rw[a];exact List.mem_singleton_self _)
  ·exact d x (List.mem_of_mem_drop q)
theorem Bo(a:Array Keyed)(i j:Nat):(a.extract i (i+j)).toList=(a.toList.drop i).take j:=by simp[Array.toList_extract,List.extract_eq_take_drop]
theorem gX(a:Array Keyed)(i:Nat):(a.extract i a.size).toList=a.toList.drop i:=by
 simp only[Array.toList_extract,List.extract_eq_take_drop];exact yR (by rw[uG,zK];exact zF _)
end
section
variable {prog:Program} {w:World} {A:Around} {E:VP} {s:Shared} {κ:PyProof.Rows.KeyKind} {kd:SortKind}
structure MG(κ:PyProof.Rows.KeyKind)(a b:Array Keyed):Prop where
 sa:Srt κ a.toList
 sb:Srt κ b.toList
 ga:∀p∈a.toList,Gd κ p
 gb:∀p∈b.toList,Gd κ p
 na:1<=a.size
 nb:1<=b.size
 top:∀p,a[a.size-1]?=some p->∀y∈b.toList,le' κ y p
 fst:∀p q,b[0]?=some p->a[0]?=some q->le' κ p q
structure Sm(st st':SortSt):Prop where
 k:kindOf st'=kindOf st
 a:arrOf st'=arrOf st
 p:pendingOf st'=pendingOf st
 f:failedOf st'=failedOf st
theorem Sm.refl(st:SortSt):Sm st st:=⟨rfl,rfl,rfl,rfl⟩
theorem Sm.set{st a:SortSt}(h:Sm st a)(g:Nat):Sm st (SortSt.mk' (kindOf a) (arrOf a) (pendingOf a) g (failedOf a)):=⟨h.k,h.a,h.p,h.f⟩
theorem oV{a:Array Keyed}{i:Nat}{p:Keyed}:a[i]?=some p↔a.toList[i]?=some p:=by rw[yM]
theorem mE{a:Array Keyed}{i:Nat}(h:i<a.size):∃p,a[i]?=some p:=⟨a[i],Array.getElem?_eq_getElem h⟩
theorem lC{st:SortSt}{arr:Array Keyed}{i:Nat}{Q:Keyed->SortSt->Prop}(hi:i<arr.size)(h:∀p,arr[i]?=some p->Q p st):wpS (model prog w) A E s (elem' arr i) Q st:=by
 obtain⟨p,e⟩:=mE hi;exact mS e (h p e)
theorem iD{l:List Keyed}(d:Srt κ l){i j:Nat}{p q:Keyed}(h:i<=j)(e1:l[i]?=some p)(a:l[j]?=some q):le' κ p q:=by
 rcases uY i j with h'|h'
 ·obtain⟨c,rfl⟩:=oE.mp e1;obtain⟨b,rfl⟩:=oE.mp a;exact List.pairwise_iff_getElem.mp d i j c b h'
 ·have:i=j:=⋯
  subst this;rw[e1]at a;cases a;exact jR _
theorem Bn{l:List Keyed}{i:Nat}{x:Keyed}(h:x∈l.drop i):∃j,i<=j/\l[j]?=some x:=by
 obtain⟨j,a,rfl⟩:=wL h;exact⟨i+j,⋯,by rw[←uN];exact yZ a⟩
theorem gY{l:List Keyed}{i k:Nat}{x:Keyed}(h:x∈(l.drop i).take k):∃j,j<k/\l[i+j]?=some x:=by
 obtain⟨j,a,rfl⟩:=wL h;rw[yI]at a;refine⟨j,⋯,?_⟩;rw[←uN,List.getElem_take];exact yZ ⋯
theorem Qf(o:Cmp prog w A s κ kd){st:SortSt}{a:Array Keyed}{ia:Nat}{p:Keyed}{Q:Option Nat->SortSt->Prop}(v:kindOf st=kd)(z:Srt κ a.toList)(n:∀x∈a.toList,Gd κ x)(t:Gd κ p)(C:ia<a.size)
  (h:∀k,ia+k<=a.size->(∀x∈(a.toList.drop ia).take k,le' κ x p)->(∀y∈a.toList.drop (ia+k),lq κ p y=true)->Q (some k) st):wpS (model prog w) A E s (lZ false p a ia (a.size-ia) 0) Q st:=by
 refine eZ o (B:=λi=>!lq κ p (a.getD (ia+i) p)) v t ⋯ (λi hi=>?_) (λi j F b d=>?_) λk D m u=>h k ⋯ (λx g=>?_) λy l=>?_
 ·obtain⟨q,e⟩:=mE (a:=a) (i:=ia+i) ⋯;refine⟨q,e,n q (yD (oV.mp e)),?_⟩;rw[show a.getD (ia+i) p=q by simp[Array.getD_eq_getD_getElem?,e]];rfl
 ·obtain⟨q,e⟩:=mE (a:=a) (i:=ia+i) ⋯;obtain⟨r,c⟩:=mE (a:=a) (i:=ia+j) ⋯;rw[show a.getD (ia+j) p=r by simp[Array.getD_eq_getD_getElem?,c]]at d;rw[show a.getD (ia+i) p=q by simp[Array.getD_eq_getD_getElem?,e]];have l1:le' κ r p:=by unfold le';simpa using d
  have:=mP (iD z (show ia+i<=ia+j by omega) (oV.mp e) (oV.mp c)) l1;unfold le' at this;rw[this];rfl
 ·obtain⟨j,b,e⟩:=gY g;have:=m j b;rw[show a.getD (ia+j) p=x by simp[Array.getD_eq_getD_getElem?,oV.mpr e]]at this;unfold le';simpa using this
 ·obtain⟨j,b,e⟩:=Bn l;have f:=(oE.mp e).1;rw[zK]at f;have:=u (j-ia) ⋯ ⋯;rw[show ia+(j-ia)=j by omega,show a.getD j p=y by simp[Array.getD_eq_getD_getElem?,oV.mpr e]]at this;simpa using this
theorem bI(m:Cmp prog w A s κ kd){st:SortSt}{b:Array Keyed}{ib c:Nat}{q:Keyed}{n:Nat}{Q:Option Nat->SortSt->Prop}(v:kindOf st=kd)(y:Srt κ b.toList)(f:∀x∈b.toList,Gd κ x)(t:Gd κ q)(D:ib+n<=b.size)(hh:c<n)
  (h:∀k,k<=n->(∀i x,i<k->b[ib+i]?=some x->lq κ x q=true)->(∀i x,k<=i->i<n->b[ib+i]?=some x->le' κ q x)->Q (some k) st):wpS (model prog w) A E s (lZ true q b ib n c) Q st:=by
 refine eZ m (B:=λi=>lq κ (b.getD (ib+i) q) q) v t hh (λi hi=>?_) (λi j C z d=>?_) λk o l u=>h k o (λi x hi e=>?_) λi x hi g e=>?_
 ·obtain⟨p,e⟩:=mE (a:=b) (i:=ib+i) ⋯;refine⟨p,e,f p (yD (oV.mp e)),?_⟩;rw[show b.getD (ib+i) q=p by simp[Array.getD_eq_getD_getElem?,e]];rfl
 ·obtain⟨p,e⟩:=mE (a:=b) (i:=ib+i) ⋯;obtain⟨r,a⟩:=mE (a:=b) (i:=ib+j) ⋯;rw[show b.getD (ib+j) q=r by simp[Array.getD_eq_getD_getElem?,a]]at d;rw[show b.getD (ib+i) q=p by simp[Array.getD_eq_getD_getElem?,e]];exact KeyOrd.klt_of_kle_of_klt (O:=κ.toKeyOrd) (iD y (show ib+i<=ib+j by omega) (oV.mp e) (oV.mp a)) d
 ·have:=l i hi;rw[show b.getD (ib+i) q=x by simp[Array.getD_eq_getD_getElem?,e]]at this;exact this
 ·have:=u i hi g;rw[show b.getD (ib+i) q=x by simp[Array.getD_eq_getD_getElem?,e]]at this;exact this
end
def Bm:Array Keyed->Array Keyed->StateT SortSt Sem (Array Keyed):=sortPriv%PySem.Builtin.mergeLo
def dA:Nat->StateT SortSt Sem Unit:=sortPriv%PySem.Builtin.setMinGallop
theorem Qe(a b:Array Keyed):Bm a b=(do
 rule "list.sort.merge-lo"
 let d:=a.size+b.size
 let done (out:Array Keyed) (ia ib:Nat):=out++a.extract ia a.size++b.extract ib b.size
 let c (out:Array Keyed) (ia ib:Nat):=out++b.extract ib b.size++a.extract ia a.size
 let mut out:Array Keyed:=#[←elem' b 0]
 let mut ia:=0
 let mut ib:=1
 if ib == b.size then return done out ia ib
 if ia+1 == a.size then return c out ia ib
 let mut minGallop:=gallopOf (←get)
 for _ in[0:d] do
  let mut acount:=0
  let mut bcount:=0
  for _ in[0:d] do
   let some bWins ←lt' (←elem' b ib) (←elem' a ia)|return done out ia ib
   if bWins then
    out:=out.push (←elem' b ib);ib:=ib+1;bcount:=bcount+1;acount:=0
    if ib == b.size then return done out ia ib
    if bcount≥minGallop then break
   else
    out:=out.push (←elem' a ia);ia:=ia+1;acount:=acount+1;bcount:=0
    if ia+1 == a.size then return c out ia ib
    if acount≥minGallop then break
  rule "list.sort.gallop"
  minGallop:=minGallop+1
  for _ in[0:d] do
   if minGallop > 1 then minGallop:=minGallop-1
   dA minGallop
   let some k ←lZ false (←elem' b ib) a ia (a.size-ia) 0|return done out ia ib
   acount:=k
   if k > 0 then
    out:=out++a.extract ia (ia+k);ia:=ia+k
    if ia+1 == a.size then return c out ia ib
    if ia == a.size then return done out ia ib
   out:=out.push (←elem' b ib);ib:=ib+1
   if ib == b.size then return done out ia ib
   let some k ←lZ true (←elem' a ia) b ib (b.size-ib) 0|return done out ia ib
   bcount:=k
   if k > 0 then
    out:=out++b.extract ib (ib+k);ib:=ib+k
    if ib == b.size then return done out ia ib
   out:=out.push (←elem' a ia);ia:=ia+1
   if ia+1 == a.size then return c out ia ib
   if acount<7 && bcount<7 then break
  minGallop:=minGallop+1
  dA minGallop
 unsupported "internal:list.sort.merge-bound"):=rfl
theorem bJ(g:Nat):dA g=modify λs=>SortSt.mk' (kindOf s) (arrOf s) (pendingOf s) g (failedOf s):=rfl
section
variable {prog:Program} {w:World} {A:Around} {E:VP} {s:Shared} {κ:PyProof.Rows.KeyKind} {kd:SortKind}
theorem gZ{a b out:Array Keyed}{ia ib:Nat}(G:MG κ a b)(h:MI κ a.toList b.toList out.toList ia ib)(c:b.size<=ib):Res κ a.toList b.toList (out++a.extract ia a.size++b.extract ib b.size).toList:=by
 rw[yK,yK,gX,gX,sE (as:=b.toList) (by rw[zK];exact c),xQ];exact h.all G.sa (by rw[zK];exact c)
theorem Qd{a b out:Array Keyed}{ia ib:Nat}(G:MG κ a b)(h:MI κ a.toList b.toList out.toList ia ib)(c:a.size<=ia):Res κ a.toList b.toList (out++a.extract ia a.size++b.extract ib b.size).toList:=by
 rw[yK,yK,gX,gX,sE (as:=a.toList) (by rw[zK];exact c),xQ];exact(h.symm.all G.sb (by rw[zK];exact c)).symm
theorem iY{a b out:Array Keyed}{ia ib:Nat}(G:MG κ a b)(h:MI κ a.toList b.toList out.toList ia ib)(c:ia+1=a.size):Res κ a.toList b.toList (out++b.extract ib b.size++a.extract ia a.size).toList:=by
 rw[yK,yK,gX,gX];obtain⟨p,e⟩:=mE (a:=a) (i:=ia) ⋯;exact h.last G.sb (oV.mp e) (by rw[zK];exact c) (G.top p (by rw[show a.size-1=ia by omega];exact e))
theorem bK{a b out:Array Keyed}{ia ib:Nat}{p:Keyed}(G:MG κ a b)(h:MI κ a.toList b.toList out.toList ia ib)(e:b[ib]?=some p)(c:∀y∈a.toList.drop ia,le' κ p y):MI κ a.toList b.toList (out.push p).toList ia (ib+1):=by
 rw[uW];exact(h.symm.push G.sb (oV.mp e) c).symm
theorem dB{a b out:Array Keyed}{ia ib:Nat}{p:Keyed}(G:MG κ a b)(h:MI κ a.toList b.toList out.toList ia ib)(e:a[ia]?=some p)(c:∀y∈b.toList.drop ib,le' κ p y):MI κ a.toList b.toList (out.push p).toList (ia+1) ib:=by
 rw[uW];exact h.push G.sa (oV.mp e) c
theorem Qb{a b out:Array Keyed}{ia ib k:Nat}{p:Keyed}(G:MG κ a b)(h:MI κ a.toList b.toList out.toList ia ib)(e:b[ib]?=some p)(d:∀x∈(a.toList.drop ia).take k,le' κ x p):MI κ a.toList b.toList (out++a.extract ia (ia+k)).toList (ia+k) ib:=by
 rw[yK,Bo];exact h.ext G.sa λx c y f=>mP (d x c) (gW G.sb (oV.mp e) (jR p) y f)
theorem Gi{a b out:Array Keyed}{ia ib k:Nat}{p:Keyed}(G:MG κ a b)(h:MI κ a.toList b.toList out.toList ia ib)(e:a[ia]?=some p)(d:∀x∈(b.toList.drop ib).take k,le' κ x p):MI κ a.toList b.toList (out++b.extract ib (ib+k)).toList ia (ib+k):=by
 rw[yK,Bo];exact(h.symm.ext G.sb λx c y f=>mP (d x c) (gW G.sa (oV.mp e) (jR p) y f)).symm
theorem Bl{a out:Array Keyed}{i:Nat}:out++a.extract i (i+0)=out:=by simp;omega
theorem oX{a:Type}{c:Prop}[Decidable c]{b e:StateT SortSt Sem a}{Q:a->SortSt->Prop}{st:SortSt}(f:c->wpS (model prog w) A E s b Q st)(d:¬ c->wpS (model prog w) A E s e Q st):wpS (model prog w) A E s (if c then b else e) Q st:=by
 by_cases h:c
 ·rw[zE h];exact f h
 ·rw[zD h];exact d h
theorem Gh{a:Type}{c:Nat->Prop}[∀m,Decidable (c m)]{b F:Nat->StateT SortSt Sem a}{Q:a->SortSt->Prop}{st:SortSt}(h:∀m,wpS (model prog w) A E s (F m) Q st)(e:∀m,F (m-1)=b m)(m:Nat):wpS (model prog w) A E s (if c m then b m else F m) Q st:=oX (λ_=>by rw[←e];exact h _) λ_=>h m
theorem Qa(P:Cmp prog w A s κ kd){st:SortSt}{a b:Array Keyed}{Q:Array Keyed->SortSt->Prop}(N:kindOf st=kd)(G:MG κ a b)
  (h:∀r m,Sm st m->Res κ a.toList b.toList r.toList->Q r m):wpS (model prog w) A E s (Bm a b) Q st:=by
 have b9:=G.na;have b6:=G.nb;have U:∀i p,a[i]?=some p->Gd κ p:=λi p e=>G.ga p (yD (oV.mp e));have a7:∀i p,b[i]?=some p->Gd κ p:=λi p e=>G.gb p (yD (oV.mp e));rw[Qe];refine zG (rL (wR ⟨rfl,?_⟩));refine zG (lC ⋯ λa4 a3=>?_);dsimp only;obtain⟨b5,a6⟩:=mE (a:=a) (i:=0) ⋯;have a0:MI κ a.toList b.toList (#[a4]:Array Keyed).toList 0 1:=by
  have:=bK (out:=#[]) (ia:=0) (ib:=0) G ⟨by simp,List.Pairwise.nil,λx I=>by simp at I,λx I=>by simp at I⟩ a3 (gW G.sa (oV.mp a6) (G.fst a4 b5 a3 a6));simpa using this
 by_cases O:(1 == b.size)=true
 ·rw[zE O];exact zH (h _ _ (Sm.refl _) (gZ G a0 (by have:=yL O;omega)))
 rw[zD O];have b8:1≠b.size:=λe=>O (pV.mpr e)
 by_cases R:(0+1 == a.size)=true
 ·rw[zE R];exact zH (h _ _ (Sm.refl _) (iY G a0 (by have:=yL R;omega)))
 rw[zD R];have c0:0+1≠a.size:=λe=>R (pV.mpr e);refine zG (tE ?_);refine zG (wJ (xF (I:=λx c m=>Sm st m/\E4 λ(out:Array Keyed)(ia ib t:Nat)=>A5 (c=(none,out,ia,ib,t)) (MI κ a.toList b.toList out.toList ia ib) (ia+1<a.size) (ib<b.size) (x+1<=ia+ib))
  (Q:=λc m=>Sm st m/\∃r F,c=(some r,F)/\Res κ a.toList b.toList r.toList) ?_ ?_ ⟨Sm.refl _,_,_,_,_,rfl,a0,⋯,⋯,⋯⟩) ?_)
 ·rintro x c Y _ I ⟨sm,out,ia,ib,t,rfl,l,lia,d,v⟩;dsimp only;refine zG (wJ (xF (I:=λy c m=>Sm st m/\E5 λ(out:Array Keyed)(ia ib o n:Nat)=>A6 (c=(none,out,ia,ib,o,n)) (MI κ a.toList b.toList out.toList ia ib) (ia+1<a.size) (ib<b.size) (x+1<=ia+ib) (1<=y->x+2<=ia+ib))
   (Q:=λc m=>Sm st m/\((∃r F,c=(some r,F)/\Res κ a.toList b.toList r.toList)\/E5 λ(out:Array Keyed)(ia ib o n:Nat)=>A5 (c=(none,out,ia,ib,o,n)) (MI κ a.toList b.toList out.toList ia ib) (ia+1<a.size) (ib<b.size) (x+2<=ia+ib))) ?_ ?_ ⟨sm,out,ia,ib,0,0,rfl,l,lia,d,v,⋯⟩) ?_)
  ·rintro y c a5 _ D ⟨sm,out,ia,ib,o,n,rfl,l,lia,d,v,_⟩;dsimp only;refine zG (lC d λp e=>?_);refine zG (lC (show ia<a.size by omega) λq f=>?_);refine zG (eY P (by rw[sm.k];exact N) (a7 _ _ e) (U _ _ f) ?_);dsimp only;cases hl:lq κ p q with
   |true =>
    rw[zE rfl];have J:=bK G l e (gW G.sa (oV.mp f) (mT hl));refine zG (mS e ?_)
    by_cases hz:(ib+1 == b.size)=true
    ·rw[zE hz];exact zH ⟨sm,.inl ⟨_,_,rfl,gZ G J (by have:=yL hz;omega)⟩⟩
    rw[zD hz];have a8:ib+1≠b.size:=λe=>hz (pV.mpr e);split
    ·exact zH ⟨sm,.inr ⟨_,_,_,_,_,rfl,J,lia,⋯,⋯⟩⟩
    ·exact zH ⟨sm,_,_,_,_,_,rfl,J,lia,⋯,⋯,⋯⟩
   |false =>
    rw[zD (by simp)];have J:=dB G l f (gW G.sb (oV.mp e) hl);refine zG (mS f ?_)
    by_cases hz:(ia+1+1 == a.size)=true
    ·rw[zE hz];exact zH ⟨sm,.inl ⟨_,_,rfl,iY G J (by have:=yL hz;omega)⟩⟩
    rw[zD hz];have a8:ia+1+1≠a.size:=λe=>hz (pV.mpr e);split
    ·exact zH ⟨sm,.inr ⟨_,_,_,_,_,rfl,J,⋯,d,⋯⟩⟩
    ·exact zH ⟨sm,_,_,_,_,_,rfl,J,⋯,d,⋯,⋯⟩
  ·rintro c a5 ⟨sm,out,ia,ib,o,n,rfl,l,lia,d,v,b2⟩;exact⟨sm,.inr ⟨_,_,_,_,_,rfl,l,lia,d,b2 ⋯⟩⟩
  ·rintro c a5 ⟨sm,⟨r,F,rfl,M⟩|⟨out,ia,ib,o,n,rfl,l,lia,d,v⟩⟩
   ·exact zH ⟨sm,_,_,rfl,M⟩
   dsimp only;refine zG (rL (wR ⟨rfl,?_⟩));refine zG (wJ (xF (I:=λy c m=>Sm st m/\E6 λ(out:Array Keyed)(ia ib t o n:Nat)=>A5 (c=(none,out,ia,ib,t,o,n)) (MI κ a.toList b.toList out.toList ia ib) (ia+1<a.size) (ib<b.size) (x+2<=ia+ib))
    (Q:=λc m=>Sm st m/\((∃r F,c=(some r,F)/\Res κ a.toList b.toList r.toList)\/E6 λ(out:Array Keyed)(ia ib t o n:Nat)=>A5 (c=(none,out,ia,ib,t,o,n)) (MI κ a.toList b.toList out.toList ia ib) (ia+1<a.size) (ib<b.size) (x+2<=ia+ib))) ?_ ?_ ⟨sm,_,_,_,_,_,_,rfl,l,lia,d,v⟩) ?_)
   ·rintro y c a2 _ D ⟨sm,out,ia,ib,t,o,n,rfl,l,lia,d,v⟩;dsimp only
    revert t
    refine Gh (λt=>?_) λ_=>rfl;rw[bJ];refine zG (wQ ?_);refine zG (lC (arr:=b) d λp e=>?_);refine zG (Qf P (show kindOf _=kd from sm.k.trans N) G.sa G.ga (a7 _ _ e) (show ia<a.size by omega) λk c2 b1 V=>?_);have mk:=Qb G l e b1;dsimp only;refine oX (λb0=>?_) λb0=>?_
    ·refine oX (λz=>?_) λz=>?_
     ·exact zH ⟨sm.set _,.inl ⟨_,_,rfl,iY G mk (yL z)⟩⟩
     have c1:ia+k+1≠a.size:=λe=>z (pV.mpr e);refine oX (λy=>?_) λy=>?_
     ·exact zH ⟨sm.set _,.inl ⟨_,_,rfl,Qd G mk (by have:=yL y;omega)⟩⟩
     have b7:ia+k≠a.size:=λe=>y (pV.mpr e);have K:=bK G mk e λy D=>mT (V y D);refine zG (mS e ?_);refine oX (λz=>?_) λz=>?_
     ·exact zH ⟨sm.set _,.inl ⟨_,_,rfl,gZ G K (by have:=yL z;omega)⟩⟩
     have b3:ib+1≠b.size:=λe=>z (pV.mpr e);refine zG (lC (arr:=a) (i:=(ia+k)) ⋯ λq f=>?_);refine zG (bI P (show kindOf _=kd from sm.k.trans N) G.sb G.gb (U _ _ f) (show ib+1+(b.size-(ib+1))<=b.size by omega) ⋯ λk2 a9 X Z=>?_);have u:=Gi (k:=k2) G K f λx I=>by
      obtain⟨j,L,C⟩:=gY I;exact mT (X j x L (oV.mpr C))
     have nx:∀y∈b.toList.drop (ib+1+k2),le' κ q y:=λy D=>by
      obtain⟨j,L,C⟩:=Bn D;have a1:=(oE.mp C).1;rw[zK]at a1;exact Z (j-(ib+1)) y ⋯ ⋯ (by rw[show ib+1+(j-(ib+1))=j by omega];exact oV.mpr C)
     dsimp only;refine oX (λS=>?_) λS=>?_
     ·refine oX (λz=>?_) λz=>?_
      ·exact zH ⟨sm.set _,.inl ⟨_,_,rfl,gZ G u (by have:=yL z;omega)⟩⟩
      have b4:ib+1+k2≠b.size:=λe=>z (pV.mpr e);have g:=dB G u f nx;refine zG (mS f ?_);refine oX (λz=>?_) λz=>?_
      ·exact zH ⟨sm.set _,.inl ⟨_,_,rfl,iY G g (yL z)⟩⟩
      have T:(ia+k)+1+1≠a.size:=λe=>z (pV.mpr e);refine oX (λ_=>?_) λ_=>?_
      ·exact zH ⟨sm.set _,.inr ⟨_,_,_,_,_,_,rfl,g,⋯,⋯,⋯⟩⟩
      ·exact zH ⟨sm.set _,_,_,_,_,_,_,rfl,g,⋯,⋯,⋯⟩
     ·have W:k2=0:=⋯
      subst W;rw[Bl]at u;simp only[Nat.add_zero]at u nx;have g:=dB G u f nx;refine zG (mS f ?_);refine oX (λz=>?_) λz=>?_
      ·exact zH ⟨sm.set _,.inl ⟨_,_,rfl,iY G g (yL z)⟩⟩
      have T:(ia+k)+1+1≠a.size:=λe=>z (pV.mpr e);refine oX (λ_=>?_) λ_=>?_
      ·exact zH ⟨sm.set _,.inr ⟨_,_,_,_,_,_,rfl,g,⋯,⋯,⋯⟩⟩
      ·exact zH ⟨sm.set _,_,_,_,_,_,_,rfl,g,⋯,⋯,⋯⟩
    ·have k0:k=0:=⋯
     subst k0;rw[Bl]at mk;simp only[Nat.add_zero]at mk V;have K:=bK G mk e λy D=>mT (V y D);refine zG (mS e ?_);refine oX (λz=>?_) λz=>?_
     ·exact zH ⟨sm.set _,.inl ⟨_,_,rfl,gZ G K (by have:=yL z;omega)⟩⟩
     have b3:ib+1≠b.size:=λe=>z (pV.mpr e);refine zG (lC (arr:=a) (i:=ia) ⋯ λq f=>?_);refine zG (bI P (show kindOf _=kd from sm.k.trans N) G.sb G.gb (U _ _ f) (show ib+1+(b.size-(ib+1))<=b.size by omega) ⋯ λk2 a9 X Z=>?_);have u:=Gi (k:=k2) G K f λx I=>by
      obtain⟨j,L,C⟩:=gY I;exact mT (X j x L (oV.mpr C))
     have nx:∀y∈b.toList.drop (ib+1+k2),le' κ q y:=λy D=>by
      obtain⟨j,L,C⟩:=Bn D;have a1:=(oE.mp C).1;rw[zK]at a1;exact Z (j-(ib+1)) y ⋯ ⋯ (by rw[show ib+1+(j-(ib+1))=j by omega];exact oV.mpr C)
     dsimp only;refine oX (λS=>?_) λS=>?_
     ·refine oX (λz=>?_) λz=>?_
      ·exact zH ⟨sm.set _,.inl ⟨_,_,rfl,gZ G u (by have:=yL z;omega)⟩⟩
      have b4:ib+1+k2≠b.size:=λe=>z (pV.mpr e);have g:=dB G u f nx;refine zG (mS f ?_);refine oX (λz=>?_) λz=>?_
      ·exact zH ⟨sm.set _,.inl ⟨_,_,rfl,iY G g (yL z)⟩⟩
      have T:ia+1+1≠a.size:=λe=>z (pV.mpr e);refine oX (λ_=>?_) λ_=>?_
      ·exact zH ⟨sm.set _,.inr ⟨_,_,_,_,_,_,rfl,g,⋯,⋯,⋯⟩⟩
      ·exact zH ⟨sm.set _,_,_,_,_,_,_,rfl,g,⋯,⋯,⋯⟩
     ·have W:k2=0:=⋯
      subst W;rw[Bl]at u;simp only[Nat.add_zero]at u nx;have g:=dB G u f nx;refine zG (mS f ?_);refine oX (λz=>?_) λz=>?_
      ·exact zH ⟨sm.set _,.inl ⟨_,_,rfl,iY G g (yL z)⟩⟩
      have T:ia+1+1≠a.size:=λe=>z (pV.mpr e);refine oX (λ_=>?_) λ_=>?_
      ·exact zH ⟨sm.set _,.inr ⟨_,_,_,_,_,_,rfl,g,⋯,⋯,⋯⟩⟩
      ·exact zH ⟨sm.set _,_,_,_,_,_,_,rfl,g,⋯,⋯,⋯⟩
   ·rintro c a2 ⟨sm,out,ia,ib,t,o,n,rfl,l,lia,d,v⟩;exact⟨sm,.inr ⟨_,_,_,_,_,_,rfl,l,lia,d,v⟩⟩
   ·rintro c a2 ⟨sm,⟨r,F,rfl,M⟩|⟨out,ia,ib,t,o,n,rfl,l,lia,d,v⟩⟩
    ·exact zH ⟨sm,_,_,rfl,M⟩
    dsimp only;rw[bJ];refine zG (wQ (zH ⟨sm.set _,_,_,_,_,rfl,l,lia,d,⋯⟩))
 ·rintro c Y ⟨sm,out,ia,ib,t,rfl,l,lia,d,v⟩;omega
 ·rintro c Y ⟨sm,r,F,rfl,M⟩;exact zH (h r Y sm M)
end
def Bk:Array Keyed->Array Keyed->StateT SortSt Sem (Array Keyed):=sortPriv%PySem.Builtin.mergeHi
theorem Rz(a b:Array Keyed):Bk a b=(do
 rule "list.sort.merge-hi"
 let d:=a.size+b.size
 let done (out:Array Keyed) (na nb:Nat):=a.extract 0 na++b.extract 0 nb++out.reverse
 let c (out:Array Keyed) (na nb:Nat):=b.extract 0 nb++a.extract 0 na++out.reverse
 let mut na:=a.size-1
 let mut nb:=b.size
 let mut out:Array Keyed:=#[←elem' a na]
 if na == 0 then return done out na nb
 if nb == 1 then return c out na nb
 let mut minGallop:=gallopOf (←get)
 for _ in[0:d] do
  let mut acount:=0
  let mut bcount:=0
  for _ in[0:d] do
   let some aWins ←lt' (←elem' b (nb-1)) (←elem' a (na-1))|return done out na nb
   if aWins then
    na:=na-1;out:=out.push (←elem' a na);acount:=acount+1;bcount:=0
    if na == 0 then return done out na nb
    if acount≥minGallop then break
   else
    nb:=nb-1;out:=out.push (←elem' b nb);bcount:=bcount+1;acount:=0
    if nb == 1 then return c out na nb
    if bcount≥minGallop then break
  rule "list.sort.gallop"
  minGallop:=minGallop+1
  for _ in[0:d] do
   if minGallop > 1 then minGallop:=minGallop-1
   dA minGallop
   let some at_ ←lZ false (←elem' b (nb-1)) a 0 na (na-1)|return done out na nb
   let k:=na-at_
   acount:=k
   if k > 0 then
    out:=out++(a.extract at_ na).reverse;na:=at_
    if na == 0 then return done out na nb
   nb:=nb-1;out:=out.push (←elem' b nb)
   if nb == 1 then return c out na nb
   let some at_ ←lZ true (←elem' a (na-1)) b 0 nb (nb-1)|return done out na nb
   let k:=nb-at_
   bcount:=k
   if k > 0 then
    out:=out++(b.extract at_ nb).reverse;nb:=at_
    if nb == 1 then return c out na nb
    if nb == 0 then return done out na nb
   na:=na-1;out:=out.push (←elem' a na)
   if na == 0 then return done out na nb
   if acount<7 && bcount<7 then break
  minGallop:=minGallop+1
  dA minGallop
 unsupported "internal:list.sort.merge-bound"):=rfl
def revK(κ:PyProof.Rows.KeyKind):PyProof.Rows.KeyKind where
 α:=κ.α
 blt:=λa b=>κ.blt b a
 irrefl:=κ.irrefl
 trans:=λa b c h1 h2=>κ.trans c b a h2 h1
 negTrans:=λa b c h=>(κ.negTrans c b a h).symm
 total:=λa b h1 h2=>κ.total a b h2 h1
 keyOf:=κ.keyOf
 dflt:=κ.dflt
section
variable {prog:Program} {w:World} {A:Around} {E:VP} {s:Shared} {κ:PyProof.Rows.KeyKind} {kd:SortKind}
theorem Gg{x y:Keyed}:le' (revK κ) x y↔le' κ y x:=Iff.rfl
theorem iZ{l:List Keyed}(h:Srt κ l):Srt (revK κ) l.reverse:=List.pairwise_reverse.mpr h
theorem Ry{l:List Keyed}(h:Srt (revK κ) l):Srt κ l.reverse:=List.pairwise_reverse.mpr h
def MH(κ:PyProof.Rows.KeyKind)(a b out:Array Keyed)(na nb:Nat):Prop:=MI (revK κ) a.toList.reverse b.toList.reverse out.toList (a.size-na) (b.size-nb)
theorem Bj{a:Array Keyed}{n:Nat}{p:Keyed}(h:n<a.size)(e:a[n]?=some p):a.toList.reverse[a.size-(n+1)]?=some p:=by
 rw[sK (by rw[zK];omega),zK,show a.size-1-(a.size-(n+1))=n by omega];exact oV.mp e
theorem fA{a:Array Keyed}{n:Nat}(h:n<=a.size):a.toList.reverse.drop (a.size-n)=(a.toList.take n).reverse:=by
 rw[List.drop_reverse,zK,show a.size-(a.size-n)=n by omega]
theorem bL{a:Array Keyed}{n:Nat}{y:Keyed}(h:n<=a.size)(b:y∈a.toList.reverse.drop (a.size-n)):∃i,i<n/\a[i]?=some y:=by
 rw[fA h]at b;obtain⟨i,hi,e⟩:=wL (List.mem_reverse.mp b);rw[yI]at hi;refine⟨i,⋯,?_⟩;rw[oV,←e,List.getElem_take];exact yZ _
theorem Bi{a b r:Array Keyed}{l:List Keyed}(e:r.toList.reverse=l)(h:Res (revK κ) a.toList.reverse b.toList.reverse l):Res κ a.toList b.toList r.toList:=by
 subst e;refine⟨?_,?_⟩
 ·refine(qI r.toList).symm.trans (h.1.trans ?_);exact((qI _).append (qI _))
 ·have:=Ry h.2
  rwa[List.reverse_reverse]at this
theorem fB{a:Array Keyed}{n:Nat}:(a.extract 0 n).toList=a.toList.take n:=by
 have:=Bo a 0 n;rw[wP,List.drop_zero]at this;exact this
theorem hJ{a b out:Array Keyed}{c:Nat}(G:MG κ a b)(h:MH κ a b out 0 c)(d:c<=b.size):Res κ a.toList b.toList (a.extract 0 0++b.extract 0 c++out.reverse).toList:=by
 refine Bi (l:=out.toList++b.toList.reverse.drop (b.size-c)) ?_ ((MI.symm h).all (iZ G.sb) (by simp)).symm;rw[yK,yK,fB,fB,fA d,tH];simp
theorem Gf{a b out:Array Keyed}{c:Nat}(G:MG κ a b)(h:MH κ a b out c 0)(d:c<=a.size):Res κ a.toList b.toList (a.extract 0 c++b.extract 0 0++out.reverse).toList:=by
 refine Bi (l:=out.toList++a.toList.reverse.drop (a.size-c)) ?_ (MI.all h (iZ G.sa) (by simp));rw[yK,yK,fB,fB,fA d,tH];simp
theorem fC{a b out:Array Keyed}{c:Nat}(G:MG κ a b)(h:MH κ a b out c 1)(g:c<=a.size):Res κ a.toList b.toList (b.extract 0 1++a.extract 0 c++out.reverse).toList:=by
 have d:=G.nb;obtain⟨p,e⟩:=mE (a:=b) (i:=0) ⋯;obtain⟨q,f⟩:=mE (a:=a) (i:=0) (by have:=G.na;omega);refine Bi (l:=out.toList++a.toList.reverse.drop (a.size-c)++b.toList.reverse.drop (b.size-1)) ?_ (Res.symm ((MI.symm h).last (iZ G.sa) (Bj ⋯ e) (by rw[List.length_reverse,zK];omega) λy i=>?_))
 ·rw[yK,yK,fB,fB,fA g,fA d,tH];simp
 ·exact gW G.sa (oV.mp f) (G.fst p q e f) y (by simpa using List.mem_reverse.mp i)
theorem fD{a b out:Array Keyed}{c d:Nat}{p:Keyed}(G:MG κ a b)(h:MH κ a b out (c+1) d)(l:c<a.size)(k:d<=b.size)(e:a[c]?=some p)(f:∀i y,i<d->b[i]?=some y->le' κ y p):MH κ a b (out.push p) c d:=by
 unfold MH at h ⊢;rw[uW,show a.size-c=a.size-(c+1)+1 by omega];exact MI.push h (iZ G.sa) (Bj l e) λy g=>by
  obtain⟨i,hi,j⟩:=bL k g;exact f i y hi j
theorem MG.le{a b:Array Keyed}(G:MG κ a b):Srt κ a.toList/\Srt κ b.toList:=⟨G.sa,G.sb⟩
theorem Bh{a b out:Array Keyed}{d c:Nat}{p:Keyed}(G:MG κ a b)(h:MH κ a b out d (c+1))(j:c<b.size)(l:d<=a.size)(e:b[c]?=some p)(f:∀i y,i<d->a[i]?=some y->le' κ y p):MH κ a b (out.push p) d c:=by
 unfold MH at h ⊢;rw[uW,show b.size-c=b.size-(c+1)+1 by omega];exact(MI.push (MI.symm h) (iZ G.sb) (Bj j e) λy g=>by
  obtain⟨i,hi,k⟩:=bL l g;exact f i y hi k).symm
theorem Ge{a:Array Keyed}{n m:Nat}(h:n<=a.size)(b:m<=n):(a.extract m n).reverse.toList=(a.toList.reverse.drop (a.size-n)).take (n-m):=by
 rw[fA h,tH,List.take_reverse,yI,zK,show min n a.size-(n-m)=m by omega];simp only[Array.toList_extract,List.extract_eq_take_drop];rw[List.drop_take]
theorem Rx{a b out:Array Keyed}{c d m:Nat}{p:Keyed}(G:MG κ a b)(h:MH κ a b out c d)(r:c<=a.size)(n:m<=c)(q:d<=b.size)(t:0<d)(e:b[d-1]?=some p)(k:∀i x,m<=i->i<c->a[i]?=some x->le' κ p x):MH κ a b (out++(a.extract m c).reverse) m d:=by
 unfold MH at h ⊢;rw[yK,Ge r n,show a.size-m=a.size-c+(c-m) by omega];refine MI.ext h (iZ G.sa) λx g y l=>?_;obtain⟨i,hi,o⟩:=bL q l;obtain⟨j,u,f⟩:=gY g;rw[sK (by rw[zK];omega),zK]at f;have l1:le' κ y p:=iD G.sb (show i<=d-1 by omega) (oV.mp o) (oV.mp e);exact Gg.mpr (mP l1 (k _ x ⋯ ⋯ (oV.mpr f)))
theorem Gc{a b out:Array Keyed}{d c m:Nat}{p:Keyed}(G:MG κ a b)(h:MH κ a b out d c)(r:c<=b.size)(n:m<=c)(q:d<=a.size)(t:0<d)(e:a[d-1]?=some p)(k:∀i x,m<=i->i<c->b[i]?=some x->le' κ p x):MH κ a b (out++(b.extract m c).reverse) d m:=by
 unfold MH at h ⊢;rw[yK,Ge r n,show b.size-m=b.size-c+(c-m) by omega];refine(MI.ext (MI.symm h) (iZ G.sb) λx g y l=>?_).symm;obtain⟨i,hi,o⟩:=bL q l;obtain⟨j,u,f⟩:=gY g;rw[sK (by rw[zK];omega),zK]at f;have l1:le' κ y p:=iD G.sa (show i<=d-1 by omega) (oV.mp o) (oV.mp e);exact Gg.mpr (mP l1 (k _ x ⋯ ⋯ (oV.mpr f)))
theorem Rv(m:Cmp prog w A s κ kd){st:SortSt}{b:Array Keyed}{ib c:Nat}{q:Keyed}{n:Nat}{Q:Option Nat->SortSt->Prop}(v:kindOf st=kd)(y:Srt κ b.toList)(f:∀x∈b.toList,Gd κ x)(t:Gd κ q)(D:ib+n<=b.size)(hh:c<n)
  (h:∀k,k<=n->(∀i x,i<k->b[ib+i]?=some x->le' κ x q)->(∀i x,k<=i->i<n->b[ib+i]?=some x->lq κ q x=true)->Q (some k) st):wpS (model prog w) A E s (lZ false q b ib n c) Q st:=by
 refine eZ m (B:=λi=>!lq κ q (b.getD (ib+i) q)) v t hh (λi hi=>?_) (λi j C z d=>?_) λk o l u=>h k o (λi x hi e=>?_) λi x hi g e=>?_
 ·obtain⟨p,e⟩:=mE (a:=b) (i:=ib+i) ⋯;refine⟨p,e,f p (yD (oV.mp e)),?_⟩;rw[show b.getD (ib+i) q=p by simp[Array.getD_eq_getD_getElem?,e]];rfl
 ·obtain⟨p,e⟩:=mE (a:=b) (i:=ib+i) ⋯;obtain⟨r,a⟩:=mE (a:=b) (i:=ib+j) ⋯;rw[show b.getD (ib+j) q=r by simp[Array.getD_eq_getD_getElem?,a]]at d;rw[show b.getD (ib+i) q=p by simp[Array.getD_eq_getD_getElem?,e]];have l1:le' κ r q:=by unfold le';simpa using d
  have:=mP (iD y (show ib+i<=ib+j by omega) (oV.mp e) (oV.mp a)) l1;unfold le' at this;rw[this];rfl
 ·have:=l i hi;rw[show b.getD (ib+i) q=x by simp[Array.getD_eq_getD_getElem?,e]]at this;unfold le';simpa using this
 ·have:=u i hi g;rw[show b.getD (ib+i) q=x by simp[Array.getD_eq_getD_getElem?,e]]at this;simpa using this
theorem Bg{a out:Array Keyed}{n:Nat}:out++(a.extract n n).reverse=out:=by simp;omega
theorem Ru(Z:Cmp prog w A s κ kd){st:SortSt}{a b:Array Keyed}{Q:Array Keyed->SortSt->Prop}(Y:kindOf st=kd)(G:MG κ a b)
  (h:∀r v,Sm st v->Res κ a.toList b.toList r.toList->Q r v):wpS (model prog w) A E s (Bk a b) Q st:=by
 have c6:=G.na;have c5:=G.nb;have a0:∀i p,a[i]?=some p->Gd κ p:=λi p e=>G.ga p (yD (oV.mp e));have b1:∀i p,b[i]?=some p->Gd κ p:=λi p e=>G.gb p (yD (oV.mp e));rw[Rz];refine zG (rL (wR ⟨rfl,?_⟩));refine zG (lC ⋯ λa7 a6=>?_);dsimp only;have V:MH κ a b #[a7] (a.size-1) b.size:=by
  have b5:MH κ a b #[] (a.size-1+1) b.size:=by
   unfold MH;rw[show a.size-(a.size-1+1)=0 by omega,wX];exact⟨by simp,List.Pairwise.nil,λx X=>by simp at X,λx X=>by simp at X⟩
  exact fD G b5 ⋯ (zF _) a6 λi y _ l=>G.top a7 a6 y (yD (oV.mp l))
 refine oX (λz=>?_) λz=>?_
 ·have j:=yL z;rw[j]at V ⊢;exact zH (h _ _ (Sm.refl _) (hJ G V (zF _)))
 have c2:a.size-1≠0:=λe=>z (pV.mpr e);refine oX (λy=>?_) λy=>?_
 ·have b7:=yL y;refine zH (h _ _ (Sm.refl _) ?_);rw[b7]at V ⊢;exact fC G V ⋯
 have c4:b.size≠1:=λe=>y (pV.mpr e);refine zG (tE ?_);refine zG (wJ (xF (I:=λx c v=>Sm st v/\E4 λ(g d:Nat)(out:Array Keyed)(I:Nat)=>A7 (c=(none,g,d,out,I)) (MH κ a b out g d) (0<g) (g<a.size) (1<d) (d<=b.size) (x+g+d<a.size+b.size))
  (Q:=λc v=>Sm st v/\∃r L,c=(some r,L)/\Res κ a.toList b.toList r.toList) ?_ ?_ ⟨Sm.refl _,_,_,_,_,rfl,V,⋯,⋯,⋯,⋯,⋯⟩) ?_)
 ·rintro x c a3 _ X ⟨sm,g,d,out,I,rfl,u,l1,l2,J,C,K⟩;dsimp only;refine zG (wJ (xF (I:=λy c v=>Sm st v/\E5 λ(g d:Nat)(out:Array Keyed)(F D:Nat)=>A8 (c=(none,g,d,out,F,D)) (MH κ a b out g d) (0<g) (g<a.size) (1<d) (d<=b.size) (x+g+d<a.size+b.size) (1<=y->x+1+g+d<a.size+b.size))
   (Q:=λc v=>Sm st v/\((∃r L,c=(some r,L)/\Res κ a.toList b.toList r.toList)\/E5 λ(g d:Nat)(out:Array Keyed)(F D:Nat)=>A7 (c=(none,g,d,out,F,D)) (MH κ a b out g d) (0<g) (g<a.size) (1<d) (d<=b.size) (x+1+g+d<a.size+b.size))) ?_ ?_ ⟨sm,g,d,out,0,0,rfl,u,l1,l2,J,C,K,⋯⟩) ?_)
  ·rintro y c a8 _ b9 ⟨sm,g,d,out,F,D,rfl,u,l1,l2,J,C,K,_⟩;obtain⟨n,rfl⟩:∃n,g=n+1:=⟨g-1,⋯⟩;obtain⟨m,rfl⟩:∃m,d=m+1:=⟨d-1,⋯⟩;dsimp only;refine zG (lC (arr:=b) (i:=m+1-1) ⋯ λp e=>?_);refine zG (lC (arr:=a) (i:=n+1-1) ⋯ λq f=>?_);refine zG (eY Z (by rw[sm.k];exact Y) (b1 _ _ e) (a0 _ _ f) ?_);dsimp only;cases hl:lq κ p q with
   |true =>
    rw[zE rfl];have M:=fD G u (show n<a.size by omega) ⋯ f λi y hi l=>mP (iD G.sb (show i<=m by omega) (oV.mp l) (oV.mp e)) (mT hl);refine zG (mS f ?_);refine oX (λz=>?_) λz=>?_
    ·have j:n=0:=yL z;subst j;exact zH ⟨sm,.inl ⟨_,_,rfl,hJ G M ⋯⟩⟩
    have b3:n≠0:=λe=>z (pV.mpr e);refine oX (λ_=>?_) λ_=>?_
    ·exact zH ⟨sm,.inr ⟨n,m+1,_,_,_,rfl,M,⋯,⋯,⋯,⋯,⋯⟩⟩
    ·exact zH ⟨sm,n,m+1,_,_,_,rfl,M,⋯,⋯,⋯,⋯,⋯,⋯⟩
   |false =>
    rw[zD (by simp)];have M:=Bh G u (show m<b.size by omega) ⋯ e λi y hi l=>mP (iD G.sa (show i<=n by omega) (oV.mp l) (oV.mp f)) hl;refine zG (mS e ?_);refine oX (λz=>?_) λz=>?_
    ·have j:m=1:=yL z;subst j;exact zH ⟨sm,.inl ⟨_,_,rfl,fC G M ⋯⟩⟩
    have b3:m≠1:=λe=>z (pV.mpr e);refine oX (λ_=>?_) λ_=>?_
    ·exact zH ⟨sm,.inr ⟨n+1,m,_,_,_,rfl,M,⋯,⋯,⋯,⋯,⋯⟩⟩
    ·exact zH ⟨sm,n+1,m,_,_,_,rfl,M,⋯,⋯,⋯,⋯,⋯,⋯⟩
  ·rintro c a8 ⟨sm,g,d,out,F,D,rfl,u,l1,l2,J,C,K,b8⟩;exact⟨sm,.inr ⟨_,_,_,_,_,rfl,u,l1,l2,J,C,b8 ⋯⟩⟩
  ·rintro c a8 ⟨sm,⟨r,L,rfl,U⟩|⟨g,d,out,F,D,rfl,u,l1,l2,J,C,K⟩⟩
   ·exact zH ⟨sm,_,_,rfl,U⟩
   dsimp only;refine zG (rL (wR ⟨rfl,?_⟩));refine zG (wJ (xF (I:=λy c v=>Sm st v/\E6 λ(g d:Nat)(out:Array Keyed)(I F D:Nat)=>A7 (c=(none,g,d,out,I,F,D)) (MH κ a b out g d) (0<g) (g<a.size) (1<d) (d<=b.size) (x+1+g+d<a.size+b.size))
    (Q:=λc v=>Sm st v/\((∃r L,c=(some r,L)/\Res κ a.toList b.toList r.toList)\/E6 λ(g d:Nat)(out:Array Keyed)(I F D:Nat)=>A7 (c=(none,g,d,out,I,F,D)) (MH κ a b out g d) (0<g) (g<a.size) (1<d) (d<=b.size) (x+1+g+d<a.size+b.size))) ?_ ?_ ⟨sm,_,_,_,_,_,_,rfl,u,l1,l2,J,C,K⟩) ?_)
   ·rintro y c a5 _ b9 ⟨sm,g,d,out,I,F,D,rfl,u,l1,l2,J,C,K⟩;dsimp only
    revert I
    refine Gh (λI=>?_) λ_=>rfl;rw[bJ];refine zG (wQ ?_);refine zG (lC (arr:=b) (i:=d-1) ⋯ λp e=>?_);refine zG (Rv Z (show kindOf _=kd from sm.k.trans Y) G.sa G.ga (b1 _ _ e) (show 0+g<=a.size by omega) ⋯ λk c3 b0 b4=>?_);have mk:=Rx (m:=k) G u ⋯ c3 C ⋯ e λi x hi R S=>mT (b4 i x hi R (by rw[wP];exact S));dsimp only;refine oX (λa9=>?_) λa9=>?_
    ·refine oX (λz=>?_) λz=>?_
     ·have j:k=0:=yL z;subst j;exact zH ⟨sm.set _,.inl ⟨_,_,rfl,hJ G mk C⟩⟩
     have c2:k≠0:=λe=>z (pV.mpr e)
     -- the other's last comes out
     obtain⟨m,rfl⟩:∃m,d=m+1:=⟨d-1,⋯⟩;have O:=Bh G mk (show m<b.size by omega) ⋯ e λi y hi l=>b0 i y hi (by rw[wP];exact l);refine zG (mS (show b[m+1-1]?=some p from e) ?_);refine oX (λz=>?_) λz=>?_
     ·have j:m=1:=yL z;subst j;exact zH ⟨sm.set _,.inl ⟨_,_,rfl,fC G O ⋯⟩⟩
     have c0:m≠1:=λe=>z (pV.mpr e);have b6:0<m:=⋯
     refine zG (lC (arr:=a) (i:=k-1) ⋯ λq f=>?_);refine zG (bI Z (show kindOf _=kd from sm.k.trans Y) G.sb G.gb (a0 _ _ f) (show 0+(m+1-1)<=b.size by omega) ⋯ λk2 N T a4=>?_);replace N:k2<=m:=N;have t:=Gc (m:=k2) G O ⋯ N ⋯ ⋯ f λi x hi R S=>a4 i x hi R (by rw[wP];exact S);obtain⟨n,W⟩:∃n,k=n+1:=⟨k-1,⋯⟩;dsimp only;refine oX (λP=>?_) λP=>?_
     ·refine oX (λz=>?_) λz=>?_
      ·have j:k2=1:=yL z;subst j;exact zH ⟨sm.set _,.inl ⟨_,_,rfl,fC G t ⋯⟩⟩
      have c1:k2≠1:=λe=>z (pV.mpr e);refine oX (λz=>?_) λz=>?_
      ·have j:k2=0:=yL z;subst j;exact zH ⟨sm.set _,.inl ⟨_,_,rfl,Gf G t ⋯⟩⟩
      have b2:k2≠0:=λe=>z (pV.mpr e);rw[W]at t f ⊢;have o:=fD G t (show n<a.size by omega) ⋯ f λi y hi l=>mT (T i y hi (by rw[wP];exact l));refine zG (mS (show a[n+1-1]?=some q from f) ?_);refine oX (λz=>?_) λz=>?_
      ·have j:n=0:=yL z;subst j;exact zH ⟨sm.set _,.inl ⟨_,_,rfl,hJ G o ⋯⟩⟩
      have a1:n≠0:=λe=>z (pV.mpr e);refine oX (λ_=>?_) λ_=>?_
      ·exact zH ⟨sm.set _,.inr ⟨n,_,_,_,_,_,rfl,o,⋯,⋯,⋯,⋯,⋯⟩⟩
      ·exact zH ⟨sm.set _,n,_,_,_,_,_,rfl,o,⋯,⋯,⋯,⋯,⋯⟩
     ·have a2:k2=m:=by
       have:¬ m-k2 > 0:=P;omega
      subst a2;rw[Bg]at t;rw[W]at t f ⊢;have o:=fD G t (show n<a.size by omega) ⋯ f λi y hi l=>mT (T i y hi (by rw[wP];exact l));refine zG (mS (show a[n+1-1]?=some q from f) ?_);refine oX (λz=>?_) λz=>?_
      ·have j:n=0:=yL z;subst j;exact zH ⟨sm.set _,.inl ⟨_,_,rfl,hJ G o ⋯⟩⟩
      have a1:n≠0:=λe=>z (pV.mpr e);refine oX (λ_=>?_) λ_=>?_
      ·exact zH ⟨sm.set _,.inr ⟨n,_,_,_,_,_,rfl,o,⋯,⋯,⋯,⋯,⋯⟩⟩
      ·exact zH ⟨sm.set _,n,_,_,_,_,_,rfl,o,⋯,⋯,⋯,⋯,⋯⟩
    ·have k0:k=g:=by
      have:¬ g-k > 0:=a9;omega
     subst k0;rw[Bg]at mk
     -- the other's last comes out
     obtain⟨m,rfl⟩:∃m,d=m+1:=⟨d-1,⋯⟩;have O:=Bh G mk (show m<b.size by omega) ⋯ e λi y hi l=>b0 i y hi (by rw[wP];exact l);refine zG (mS (show b[m+1-1]?=some p from e) ?_);refine oX (λz=>?_) λz=>?_
     ·have j:m=1:=yL z;subst j;exact zH ⟨sm.set _,.inl ⟨_,_,rfl,fC G O ⋯⟩⟩
     have c0:m≠1:=λe=>z (pV.mpr e);have b6:0<m:=⋯
     refine zG (lC (arr:=a) (i:=k-1) ⋯ λq f=>?_);refine zG (bI Z (show kindOf _=kd from sm.k.trans Y) G.sb G.gb (a0 _ _ f) (show 0+(m+1-1)<=b.size by omega) ⋯ λk2 N T a4=>?_);replace N:k2<=m:=N;have t:=Gc (m:=k2) G O ⋯ N ⋯ ⋯ f λi x hi R S=>a4 i x hi R (by rw[wP];exact S);obtain⟨n,W⟩:∃n,k=n+1:=⟨k-1,⋯⟩;dsimp only;refine oX (λP=>?_) λP=>?_
     ·refine oX (λz=>?_) λz=>?_
      ·have j:k2=1:=yL z;subst j;exact zH ⟨sm.set _,.inl ⟨_,_,rfl,fC G t ⋯⟩⟩
      have c1:k2≠1:=λe=>z (pV.mpr e);refine oX (λz=>?_) λz=>?_
      ·have j:k2=0:=yL z;subst j;exact zH ⟨sm.set _,.inl ⟨_,_,rfl,Gf G t ⋯⟩⟩
      have b2:k2≠0:=λe=>z (pV.mpr e);rw[W]at t f ⊢;have o:=fD G t (show n<a.size by omega) ⋯ f λi y hi l=>mT (T i y hi (by rw[wP];exact l));refine zG (mS (show a[n+1-1]?=some q from f) ?_);refine oX (λz=>?_) λz=>?_
      ·have j:n=0:=yL z;subst j;exact zH ⟨sm.set _,.inl ⟨_,_,rfl,hJ G o ⋯⟩⟩
      have a1:n≠0:=λe=>z (pV.mpr e);refine oX (λ_=>?_) λ_=>?_
      ·exact zH ⟨sm.set _,.inr ⟨n,_,_,_,_,_,rfl,o,⋯,⋯,⋯,⋯,⋯⟩⟩
      ·exact zH ⟨sm.set _,n,_,_,_,_,_,rfl,o,⋯,⋯,⋯,⋯,⋯⟩
     ·have a2:k2=m:=by
       have:¬ m-k2 > 0:=P;omega
      subst a2;rw[Bg]at t;rw[W]at t f ⊢;have o:=fD G t (show n<a.size by omega) ⋯ f λi y hi l=>mT (T i y hi (by rw[wP];exact l));refine zG (mS (show a[n+1-1]?=some q from f) ?_);refine oX (λz=>?_) λz=>?_
      ·have j:n=0:=yL z;subst j;exact zH ⟨sm.set _,.inl ⟨_,_,rfl,hJ G o ⋯⟩⟩
      have a1:n≠0:=λe=>z (pV.mpr e);refine oX (λ_=>?_) λ_=>?_
      ·exact zH ⟨sm.set _,.inr ⟨n,_,_,_,_,_,rfl,o,⋯,⋯,⋯,⋯,⋯⟩⟩
      ·exact zH ⟨sm.set _,n,_,_,_,_,_,rfl,o,⋯,⋯,⋯,⋯,⋯⟩
   ·rintro c a5 ⟨sm,g,d,out,I,F,D,rfl,u,l1,l2,J,C,K⟩;exact⟨sm,.inr ⟨_,_,_,_,_,_,rfl,u,l1,l2,J,C,K⟩⟩
   ·rintro c a5 ⟨sm,⟨r,L,rfl,U⟩|⟨g,d,out,I,F,D,rfl,u,l1,l2,J,C,K⟩⟩
    ·exact zH ⟨sm,_,_,rfl,U⟩
    dsimp only;rw[bJ];refine zG (wQ (zH ⟨sm.set _,_,_,_,_,rfl,u,l1,l2,J,C,K⟩))
 ·rintro c a3 ⟨sm,g,d,out,I,rfl,u,l1,l2,J,C,K⟩;omega
 ·rintro c a3 ⟨sm,r,L,rfl,U⟩;exact zH (h r a3 sm U)
end
theorem Rt(i:Nat):mergeAt' i=(do
 let s ←get
 let (some (sa,na,power),some (sb,nb,_)):=((pendingOf s)[i]?,(pendingOf s)[i+1]?)|unsupported "internal:list.sort.pending"
 set (SortSt.mk' (kindOf s) (arrOf s) (((pendingOf s).setIfInBounds i (sa,na+nb,power)).eraseIdxIfInBounds (i+1)) (gallopOf s) (failedOf s))
 let some k ←lZ false (←elem' (arrOf s) sb) (arrOf s) sa na 0|return false
 let (sa,na):=(sa+k,na-k)
 if na == 0 then return true
 let some nb ←lZ true (←elem' (arrOf s) (sa+na-1)) (arrOf s) sb nb (nb-1)|return false
 if nb == 0 then return true
 let x:=(arrOf s).extract sa sb
 let y:=(arrOf s).extract sb (sb+nb)
 let b ←if na<=nb then Bm x y else Bk x y
 modify λs=>setArr s (b.toList.zipIdx.foldl (λa(p,j)=>a.setIfInBounds (sa+j) p) (arrOf s))
 return (failedOf (←get)).isNone):=rfl
section
variable {prog:Program} {w:World} {A:Around} {E:VP} {s:Shared} {κ:PyProof.Rows.KeyKind} {kd:SortKind}
def seg(l:List Keyed)(i j:Nat):List Keyed:=(l.drop i).take (j-i)
theorem Rr{st a:SortSt}{Q:PUnit->SortSt->Prop}(h:Q ⟨⟩ a):wpS (model prog w) A E s (set a:StateT SortSt Sem PUnit) Q st:=by
 unfold wpS;rw[StateT.run_set];exact zB ⟨rfl,h⟩
theorem Bf{l:List Keyed}{i j k:Nat}(b:i<=j)(a:j<=k):seg l i k=seg l i j++seg l j k:=by
 unfold seg;rw[show k-i=(j-i)+(k-j) by omega,qD,pH,show i+(j-i)=j by omega]
theorem Gb{l:List Keyed}{i j:Nat}(h:i<=j):l.take i++seg l i j++l.drop j=l:=by
 unfold seg;have:l.take j=l.take i++(l.drop i).take (j-i):=by
  conv=>lhs;rw[show j=i+(j-i) by omega]
  exact qD
 rw[←this,xX]
theorem dC{l:List Keyed}{i j t:Nat}:(seg l i j)[t]?=if t<j-i then l[i+t]? else none:=by
 unfold seg;rw[List.getElem?_take];split
 ·rw[uN]
 ·rfl
theorem jC{l:List Keyed}{i j:Nat}{x:Keyed}(h:x∈seg l i j):∃t,t<j-i/\l[i+t]?=some x:=gY h
theorem Be{l:List Keyed}{i j:Nat}(h:j<=l.length):(seg l i j).length=j-i:=by
 unfold seg;rw[yI,uG];omega
theorem bN{l:List Keyed}{i j:Nat}(d:Srt κ (seg l i j)){a u:Nat}{x y:Keyed}(e:a<=u)(b:u<j-i)(f:l[i+a]?=some x)(c:l[i+u]?=some y):le' κ x y:=
 iD d e (by rw[dC,zE ⋯];exact f) (by rw[dC,zE b];exact c)
theorem jD(a:Array Keyed)(i j:Nat):(a.extract i j).toList=seg a.toList i j:=by
 unfold seg;simp only[Array.toList_extract,List.extract_eq_take_drop]
theorem Ga:∀(m:List Keyed)(b c:Nat)(a:Array Keyed),c+b+m.length<=a.size->((m.zipIdx b).foldl (λa(x:Keyed×Nat)=>a.setIfInBounds (c+x.2) x.1) a).toList=a.toList.take (c+b)++m++a.toList.drop (c+b+m.length)
 |[],b,c,a,_=>by simp
 | p:: m,b,c,a,h=>by
  rw[zV]at h;have hl:c+b<a.toList.length:=by rw[zK];omega
  rw[vZ,wE,Ga m (b+1) c _ (by rw[Array.size_setIfInBounds];omega),Array.toList_setIfInBounds,zV];show List.take (c+(b+1)) (a.toList.set (c+b) p)++m++List.drop (c+(b+1)+m.length) (a.toList.set (c+b) p)=_;have e1:List.take (c+(b+1)) (a.toList.set (c+b) p)=a.toList.take (c+b)++[p]:=by
   rw[show c+(b+1)=c+b+1 by omega,xJ,List.take_set_of_le (zF _),wN hl];rfl
  have d:List.drop (c+(b+1)+m.length) (a.toList.set (c+b) p)=a.toList.drop (c+b+(m.length+1)):=by
   rw[List.drop_set_of_lt ⋯,show c+(b+1)+m.length=c+b+(m.length+1) by omega]
  rw[e1,d];simp
theorem Rq(o:Cmp prog w A s κ kd){st:SortSt}{b:Array Keyed}{ib c:Nat}{q:Keyed}{n:Nat}{Q:Option Nat->SortSt->Prop}(C:kindOf st=kd)(t:∀i j x y,i<=j->j<n->b[ib+i]?=some x->b[ib+j]?=some y->le' κ x y)(f:∀x∈b.toList,Gd κ x)(v:Gd κ q)(F:ib+n<=b.size)(hh:c<n)
  (h:∀k,k<=n->(∀i x,i<k->b[ib+i]?=some x->le' κ x q)->(∀i x,k<=i->i<n->b[ib+i]?=some x->lq κ q x=true)->Q (some k) st):wpS (model prog w) A E s (lZ false q b ib n c) Q st:=by
 refine eZ o (B:=λi=>!lq κ q (b.getD (ib+i) q)) C v hh (λi hi=>?_) (λi j D m d=>?_) λk u l z=>h k u (λi x hi e=>?_) λi x hi g e=>?_
 ·obtain⟨p,e⟩:=mE (a:=b) (i:=ib+i) ⋯;refine⟨p,e,f p (yD (oV.mp e)),?_⟩;rw[show b.getD (ib+i) q=p by simp[Array.getD_eq_getD_getElem?,e]];rfl
 ·obtain⟨p,e⟩:=mE (a:=b) (i:=ib+i) ⋯;obtain⟨r,a⟩:=mE (a:=b) (i:=ib+j) ⋯;rw[show b.getD (ib+j) q=r by simp[Array.getD_eq_getD_getElem?,a]]at d;rw[show b.getD (ib+i) q=p by simp[Array.getD_eq_getD_getElem?,e]];have l1:le' κ r q:=by unfold le';simpa using d
  have:=mP (t i j p r D m e a) l1;unfold le' at this;rw[this];rfl
 ·have:=l i hi;rw[show b.getD (ib+i) q=x by simp[Array.getD_eq_getD_getElem?,e]]at this;unfold le';simpa using this
 ·have:=z i hi g;rw[show b.getD (ib+i) q=x by simp[Array.getD_eq_getD_getElem?,e]]at this;simpa using this
theorem Rp(o:Cmp prog w A s κ kd){st:SortSt}{b:Array Keyed}{ib c:Nat}{q:Keyed}{n:Nat}{Q:Option Nat->SortSt->Prop}(C:kindOf st=kd)(t:∀i j x y,i<=j->j<n->b[ib+i]?=some x->b[ib+j]?=some y->le' κ x y)(f:∀x∈b.toList,Gd κ x)(v:Gd κ q)(F:ib+n<=b.size)(hh:c<n)
  (h:∀k,k<=n->(∀i x,i<k->b[ib+i]?=some x->lq κ x q=true)->(∀i x,k<=i->i<n->b[ib+i]?=some x->le' κ q x)->Q (some k) st):wpS (model prog w) A E s (lZ true q b ib n c) Q st:=by
 refine eZ o (B:=λi=>lq κ (b.getD (ib+i) q) q) C v hh (λi hi=>?_) (λi j D m d=>?_) λk u l z=>h k u (λi x hi e=>?_) λi x hi g e=>?_
 ·obtain⟨p,e⟩:=mE (a:=b) (i:=ib+i) ⋯;refine⟨p,e,f p (yD (oV.mp e)),?_⟩;rw[show b.getD (ib+i) q=p by simp[Array.getD_eq_getD_getElem?,e]];rfl
 ·obtain⟨p,e⟩:=mE (a:=b) (i:=ib+i) ⋯;obtain⟨r,a⟩:=mE (a:=b) (i:=ib+j) ⋯;rw[show b.getD (ib+j) q=r by simp[Array.getD_eq_getD_getElem?,a]]at d;rw[show b.getD (ib+i) q=p by simp[Array.getD_eq_getD_getElem?,e]];exact KeyOrd.klt_of_kle_of_klt (O:=κ.toKeyOrd) (t i j p r D m e a) d
 ·have:=l i hi;rw[show b.getD (ib+i) q=x by simp[Array.getD_eq_getD_getElem?,e]]at this;exact this
 ·have:=z i hi g;rw[show b.getD (ib+i) q=x by simp[Array.getD_eq_getD_getElem?,e]]at this;exact this
theorem Ro(O:Cmp prog w A s κ kd){st:SortSt}{i b c N f c0:Nat}{Q:Bool->SortSt->Prop}(b6:kindOf st=kd)(V:∀x∈(arrOf st).toList,Gd κ x)(hf:failedOf st=none)(e1:(pendingOf st)[i]?=some (b,c,N))(W:(pendingOf st)[i+1]?=some (b+c,f,c0))
  (d0:1<=c)(d1:1<=f)(hz:b+c+f<=(arrOf st).size)(J:Srt κ (seg (arrOf st).toList b (b+c)))(I:Srt κ (seg (arrOf st).toList (b+c) (b+c+f)))
  (h:∀n X,kindOf n=kd->failedOf n=none->pendingOf n=((pendingOf st).setIfInBounds i (b,c+f,N)).eraseIdxIfInBounds (i+1)->(arrOf n).toList=(arrOf st).toList.take b++X++(arrOf st).toList.drop (b+c+f)->X.Perm (seg (arrOf st).toList b (b+c+f))->Srt κ X->Q true n):
  wpS (model prog w) A E s (mergeAt' i) Q st:=by
 rw[Rt];refine zG (tE ?_);rw[e1,W];dsimp only;refine zG (Rr ?_);generalize hst:SortSt.mk' (kindOf st) (arrOf st) (((pendingOf st).setIfInBounds i (b,c+f,N)).eraseIdxIfInBounds (i+1)) (gallopOf st) (failedOf st)=C;have k1:kindOf C=kd:=by rw[←hst];exact b6
 have Z:arrOf C=arrOf st:=by rw[←hst]
 have Y:pendingOf C=((pendingOf st).setIfInBounds i (b,c+f,N)).eraseIdxIfInBounds (i+1):=by rw[←hst]
 have a2:failedOf C=none:=by rw[←hst];exact hf
 clear hst e1 W;generalize harr:arrOf st=arr at*
 generalize pendingOf st=c7 at*;have c6:arr.toList.length=arr.size:=zK;have L:∀d x,arr[d]?=some x->Gd κ x:=λd x e=>V x (yD (oV.mp e))
 -- already in order
 have stay:Srt κ (seg arr.toList b (b+c+f))->Q true C:=λso=>h C _ k1 a2 Y (by rw[Z,Gb ⋯]) (List.Perm.refl _) so;have P:seg arr.toList b (b+c+f)=seg arr.toList b (b+c)++seg arr.toList (b+c) (b+c+f):=Bf ⋯ ⋯;refine zG (lC (arr:=arr) (i:=b+c) ⋯ λp ep=>?_);refine zG (Rq O k1 (λd u x y S c1 o F=>bN J S ⋯ (oV.mp o) (oV.mp F)) V (L _ _ ep) ⋯ ⋯ λk d5 a4 b5=>?_);dsimp only;have R:∀y∈seg arr.toList (b+c) (b+c+f),le' κ p y:=λy m=>by
  obtain⟨d,v,l⟩:=jC m;exact bN I (yB d) v (oV.mp ep) l
 refine oX (λz=>?_) λz=>?_
 ·have d3:c-k=0:=yL z;refine zH (stay ?_);rw[P];refine oC.mpr ⟨J,I,λx g y m=>?_⟩;obtain⟨d,v,l⟩:=jC g;exact mP (a4 d x ⋯ (oV.mpr l)) (R y m)
 have d4:c-k≠0:=λe=>z (pV.mpr e);refine zG (lC (arr:=arr) (i:=b+k+(c-k)-1) ⋯ λq M=>?_);rw[show b+k+(c-k)-1=b+(c-1) by omega]at M;refine zG (Rp O k1 (λd u x y S c1 o F=>bN I S ⋯ (oV.mp o) (oV.mp F)) V (L _ _ M) ⋯ ⋯ λk2 c9 b7 a1=>?_);dsimp only;have a0:∀x∈seg arr.toList b (b+c),le' κ x q:=λx g=>by
  obtain⟨d,v,l⟩:=jC g;exact bN J (show d<=c-1 by omega) ⋯ l (oV.mp M)
 refine oX (λy=>?_) λy=>?_
 ·have d2:k2=0:=yL y;refine zH (stay ?_);rw[P];refine oC.mpr ⟨J,I,λx g y m=>?_⟩;obtain⟨d,v,l⟩:=jC m;exact mP (a0 x g) (a1 d y ⋯ ⋯ (oV.mpr l))
 have c8:k2≠0:=λe=>y (pV.mpr e)
 -- the parts
 have U:seg arr.toList b (b+c)=seg arr.toList b (b+k)++seg arr.toList (b+k) (b+c):=Bf ⋯ ⋯;have K:seg arr.toList (b+c) (b+c+f)=seg arr.toList (b+c) (b+c+k2)++seg arr.toList (b+c+k2) (b+c+f):=Bf ⋯ ⋯;have a3:=J;have a8:=I;rw[U]at a3;rw[K]at a8;obtain⟨b3,c5,b1⟩:=oC.mp a3;obtain⟨b9,c3,b2⟩:=oC.mp a8;have a5:∀x∈seg arr.toList b (b+k),le' κ x p:=λx g=>by
  obtain⟨d,v,l⟩:=jC g;exact a4 d x ⋯ (oV.mpr l)
 have b4:∀x∈seg arr.toList (b+k) (b+c),le' κ p x:=λx g=>by
  obtain⟨d,v,l⟩:=jC g;exact mT (b5 (k+d) x ⋯ ⋯ (by rw[show b+(k+d)=b+k+d by omega];exact oV.mpr l))
 have c2:∀y∈seg arr.toList (b+c) (b+c+k2),le' κ y q:=λy m=>by
  obtain⟨d,v,l⟩:=jC m;exact mT (b7 d y ⋯ (oV.mpr l))
 have a9:∀y∈seg arr.toList (b+c+k2) (b+c+f),le' κ q y:=λy m=>by
  obtain⟨d,v,l⟩:=jC m;exact a1 (k2+d) y ⋯ ⋯ (by rw[show b+c+(k2+d)=b+c+k2+d by omega];exact oV.mpr l)
 have G:MG κ (arr.extract (b+k) (b+c)) (arr.extract (b+c) (b+c+k2)):=by
  refine⟨by rw[jD];exact c5,by rw[jD];exact b9,λx g=>?_,λx g=>?_,by rw[rT];omega,by rw[rT];omega,λx o y m=>?_,λx y o F=>?_⟩
  ·rw[jD]at g;obtain⟨d,_,l⟩:=jC g;exact L _ x (oV.mpr l)
  ·rw[jD]at g;obtain⟨d,_,l⟩:=jC g;exact L _ x (oV.mpr l)
  ·rw[jD]at m;rw[oV,jD,dC,rT]at o;split at o
   ·rw[show b+k+(min (b+c) arr.size-(b+k)-1)=b+(c-1) by omega,oV.mp M]at o;cases o;exact c2 y m
   ·cases o
  ·rw[oV,jD,dC,zE ⋯,tO,oV.mp ep]at o;cases o;rw[oV,jD]at F;exact b4 y (yD F)
 have a6:∀(r:Array Keyed)(n:SortSt),Sm C n->Res κ (arr.extract (b+k) (b+c)).toList (arr.extract (b+c) (b+c+k2)).toList r.toList->wpS (model prog w) A E s (do
   modify λs=>setArr s (r.toList.zipIdx.foldl (λa(p,j)=>a.setIfInBounds (b+k+j) p) (arrOf s))
   return (failedOf (←get)).isNone) Q n:=λr n sm t=>by
  rw[jD,jD]at t;refine zG (wQ (zG (tE (zH ?_))));have a7:failedOf n=none:=sm.f.trans a2;show Q (failedOf n).isNone _;rw[a7];have b0:r.toList.length=(c-k)+k2:=by
   rw[t.1.length_eq,zX,Be ⋯,Be ⋯];omega
  refine h _ (seg arr.toList b (b+k)++r.toList++seg arr.toList (b+c+k2) (b+c+f)) (sm.k.trans k1) a7 (sm.p.trans Y) ?_ ?_ ?_
  ·show(List.foldl _ (arrOf n) _).toList=_;rw[sm.a,Z,Ga r.toList 0 (b+k) arr ⋯,b0];have c4:arr.toList.take (b+k+0)=arr.toList.take b++seg arr.toList b (b+k):=by
    unfold seg;rw[tO,qD,show b+k-b=k by omega]
   have b8:arr.toList.drop (b+k+0+(c-k+k2))=seg arr.toList (b+c+k2) (b+c+f)++arr.toList.drop (b+c+f):=by
    unfold seg;rw[show b+k+0+(c-k+k2)=b+c+k2 by omega]
    conv=>lhs;rw[←xX (b+c+f-(b+c+k2)) (arr.toList.drop (b+c+k2))]
    rw[pH,show b+c+k2+(b+c+f-(b+c+k2))=b+c+f by omega]
   rw[c4,b8];simp only[List.append_assoc]
  ·rw[P,U,K];have:=(t.1.append_left (seg arr.toList b (b+k))).append_right (seg arr.toList (b+c+k2) (b+c+f));simp only[List.append_assoc]at this ⊢;exact this
  ·have mem:∀x∈r.toList,x∈seg arr.toList (b+k) (b+c)\/x∈seg arr.toList (b+c) (b+c+k2):=λx g=>oB.mp (t.1.mem_iff.mp g);refine oC.mpr ⟨oC.mpr ⟨b3,t.2,λx g y m=>?_⟩,c3,λx g y m=>?_⟩
   ·rcases mem y m with D|D
    ·exact b1 x g y D
    ·exact mP (a5 x g) (R y (by rw[K];exact xP _ D))
   ·rcases oB.mp g with D|D
    ·exact mP (a5 x D) (R y (by rw[K];exact yN _ m))
    ·rcases mem x D with T|T
     ·exact mP (a0 x (by rw[U];exact yN _ T)) (a9 y m)
     ·exact b2 x T y m
 refine oX (λ_=>?_) λ_=>?_
 ·exact zG (Qa O k1 G λr n sm t=>a6 r n sm t)
 ·exact zG (Ru O k1 G λr n sm t=>a6 r n sm t)
theorem dD(e:Cmp prog w A s κ kd){st:SortSt}{i j:Nat}{Q:Option Bool->SortSt->Prop}(f:kindOf st=kd)(b:∀x∈(arrOf st).toList,Gd κ x)(hi:i<(arrOf st).size)(d:j<(arrOf st).size)
  (h:∀x y,(arrOf st)[i]?=some x->(arrOf st)[j]?=some y->Q (some (lq κ x y)) st):wpS (model prog w) A E s (ltAt' i j) Q st:=by
 rw[ltAt'_eq];refine zG (tE ?_);refine zG (lC hi λx c=>?_);refine zG (lC d λy a=>?_);exact eY e f (b x (yD (oV.mp c))) (b y (yD (oV.mp a))) (h x y c a)
structure Ch(lo hi:Nat)(st st':SortSt):Prop where
 k:kindOf st'=kindOf st
 p:pendingOf st'=pendingOf st
 f:failedOf st'=failedOf st
 z:(arrOf st').size=(arrOf st).size
 m:(arrOf st').Perm (arrOf st)
 o:∀i,i<lo\/hi<=i->(arrOf st')[i]?=(arrOf st)[i]?
theorem Ch.refl(lo hi:Nat)(st:SortSt):Ch lo hi st st:=⟨rfl,rfl,rfl,rfl,Array.Perm.refl _,λ_ _=>rfl⟩
theorem Ch.trans{lo hi:Nat}{a b c:SortSt}(e:Ch lo hi a b)(d:Ch lo hi b c):Ch lo hi a c:=⟨d.k.trans e.k,d.p.trans e.p,d.f.trans e.f,d.z.trans e.z,d.m.trans e.m,λi hi=>(d.o i hi).trans (e.o i hi)⟩
theorem Ch.wide{lo hi hi':Nat}{a b:SortSt}(h:Ch lo hi a b)(hh:hi<=hi'):Ch lo hi' a b:=⟨h.k,h.p,h.f,h.z,h.m,λi hi=>h.o i ⋯⟩
theorem Ch.good{lo hi:Nat}{a b:SortSt}(h:Ch lo hi a b)(c:∀x∈(arrOf a).toList,Gd κ x):∀x∈(arrOf b).toList,Gd κ x:=λx d=>c x ((h.m.toList.mem_iff).mp d)
def Up(κ:PyProof.Rows.KeyKind)(a:Array Keyed)(lo hi:Nat):Prop:=∀i j x y,lo<=i->i<=j->j<hi->a[i]?=some x->a[j]?=some y->le' κ x y
def Dn(κ:PyProof.Rows.KeyKind)(a:Array Keyed)(lo hi:Nat):Prop:=∀i j x y,lo<=i->i<=j->j<hi->a[i]?=some x->a[j]?=some y->le' κ y x
theorem Up.one{a:Array Keyed}{lo:Nat}:Up κ a lo (lo+1):=λi j x y d f e c b=>by
 have:i=j:=⋯
 subst this;rw[c]at b;cases b;exact jR _
theorem Up.more{a:Array Keyed}{lo hi hi':Nat}(h:Up κ a lo hi)(hl:lo<hi)(hz:hi<a.size)(f:∀x y,a[hi-1]?=some x->a[hi]?=some y->le' κ x y)(l:hi'=hi+1:=by omega):Up κ a lo hi':=λi j x y d m n c b=>by
 subst l;rcases uY j hi with q|q
 ·exact h i j x y d m q c b
 ·have k:j=hi:=⋯
  subst k;rcases uY i j with g|g
  ·obtain⟨u,e⟩:=mE (a:=a) (i:=j-1) ⋯;exact mP (h i (j-1) x u d ⋯ ⋯ c e) (f u y e b)
  ·have:i=j:=⋯
   subst this;rw[c]at b;cases b;exact jR _
theorem Up.same{a b:Array Keyed}{lo hi:Nat}(h:Up κ a lo hi)(e:∀i,lo<=i->i<hi->b[i]?=a[i]?):Up κ b lo hi:=λi j x y c k d g f=>h i j x y c k d (by rw[←e i c ⋯];exact g) (by rw[←e j ⋯ d];exact f)
theorem Dn.more{a:Array Keyed}{lo hi hi':Nat}(h:Dn κ a lo hi)(hl:lo<hi)(hz:hi<a.size)(f:∀x y,a[hi-1]?=some x->a[hi]?=some y->le' κ y x)(l:hi'=hi+1:=by omega):Dn κ a lo hi':=λi j x y d m n c b=>by
 subst l;rcases uY j hi with q|q
 ·exact h i j x y d m q c b
 ·have k:j=hi:=⋯
  subst k;rcases uY i j with g|g
  ·obtain⟨u,e⟩:=mE (a:=a) (i:=j-1) ⋯;exact mP (f u y e b) (h i (j-1) x u d ⋯ ⋯ c e)
  ·have:i=j:=⋯
   subst this;rw[c]at b;cases b;exact jR _
abbrev mir(a:Array Keyed)(i j:Nat):Array Keyed:=mirror a i j ((j-i)/2)
theorem iE{a:Array Keyed}{i j k:Nat}(b:j<=a.size):(mir a i j)[k]?=if i<=k/\k<j then a[i+j-1-k]? else a[k]?:=getElem?_mirror_all b k
theorem Dn.turned{a:Array Keyed}{lo hi c b:Nat}(h:Dn κ a lo hi)(u:Up κ a c b)(hl:lo<=c)(n:b<=hi)(hz:hi<=a.size):Dn κ (mir a c b) lo hi:=λi j x y g m k e d=>by
 rw[iE ⋯]at e d
 by_cases l:c<=i/\i<b
 ·rw[zE l]at e
  by_cases f:c<=j/\j<b
  ·rw[zE f]at d;exact u _ _ y x ⋯ (show c+b-1-j<=c+b-1-i by omega) ⋯ d e
  ·rw[zD f]at d;exact h _ _ x y ⋯ (show c+b-1-i<=j by omega) k e d
 ·rw[zD l]at e
  by_cases f:c<=j/\j<b
  ·rw[zE f]at d;exact h _ _ x y g (show i<=c+b-1-j by omega) ⋯ e d
  ·rw[zD f]at d;exact h _ _ x y g m k e d
theorem Dn.up{a:Array Keyed}{lo hi:Nat}(h:Dn κ a lo hi)(hz:hi<=a.size):Up κ (mir a lo hi) lo hi:=λi j x y d f e c b=>by
 rw[iE hz,zE ⟨d,⋯⟩]at c;rw[iE hz,zE ⟨⋯,e⟩]at b;exact h _ _ y x ⋯ (show lo+hi-1-j<=lo+hi-1-i by omega) ⋯ b c
theorem bO{st:SortSt}{i j:Nat}{Q:Unit->SortSt->Prop}(b:j<=(arrOf st).size)(h:∀a,Ch i j st a->arrOf a=mir (arrOf st) i j->Q () a):wpS (model prog w) A E s (reverseSlice' i j) Q st:=by
 rw[reverseSlice'_eq];refine wQ (h _ ⟨rfl,rfl,rfl,mirror_size _ _ _ _,mirror_perm _ _ _ _,λk c=>?_⟩ rfl);exact(iE b).trans (zD ⋯)
theorem Hz(z:Cmp prog w A s κ kd){st:SortSt}{lo a b:Nat}{f:Nat->Option (Option Nat)×Nat->StateT SortSt Sem (ForInStep (Option (Option Nat)×Nat))}{Q:Option (Option Nat)×Nat->SortSt->Prop}(m:kindOf st=kd)(C:∀x∈(arrOf st).toList,Gd κ x)(hz:lo+b<=(arrOf st).size)(J:1<=a)(F:a<=b)(r:Up κ (arrOf st) lo (lo+a))
  (hf:∀x c,f x c=(do
   let o ←ltAt' (lo+c.2) (lo+c.2-1)
   match o with
    |some D=>if D=true then pure (ForInStep.done (none,c.2)) else pure (ForInStep.yield (none,c.2+1))
    |_=>pure (ForInStep.done (some none,c.2))))
  (h:∀n,a<=n->n<=b->Up κ (arrOf st) lo (lo+n)->(n=b\/∀x y,(arrOf st)[lo+n]?=some x->(arrOf st)[lo+n-1]?=some y->lq κ x y=true)->Q (none,n) st):
  wpS (model prog w) A E s (forIn [a:b] ((none,a):Option (Option Nat)×Nat) f) Q st:=by
 refine wJ (xF (I:=λx c d=>d=st/\c=(none,x)/\a<=x/\x<=b/\Up κ (arrOf st) lo (lo+x))
  (Q:=λc d=>d=st/\∃n,c=(none,n)/\a<=n/\n<=b/\Up κ (arrOf st) lo (lo+n)/\(n=b\/∀x y,(arrOf st)[lo+n]?=some x->(arrOf st)[lo+n-1]?=some y->lq κ x y=true)) ?_ ?_ ⟨rfl,rfl,zF _,F,r⟩) ?_
 ·rintro x c d I G ⟨rfl,rfl,g,j,e⟩;rw[hf];dsimp only;refine zG (dD z m C ⋯ ⋯ λp q ep l=>?_);dsimp only;cases hl:lq κ p q with
  |true =>
   rw[zE rfl];refine zH ⟨rfl,x,rfl,g,j,e,.inr λu v i k=>?_⟩;rw[ep]at i;rw[l]at k;cases i;cases k;exact hl
  |false =>
   rw[zD (by simp)];refine zH ⟨rfl,rfl,⋯,⋯,?_⟩;refine Up.more e ⋯ ⋯ λu v i k=>?_;rw[l]at i;rw[ep]at k;cases i;cases k;exact hl
 ·rintro c d ⟨rfl,rfl,g,j,e⟩;exact⟨rfl,_,rfl,g,j,e,.inl ⋯⟩
 ·rintro c d ⟨rfl,n,rfl,g,j,e,t⟩;exact h n g j e t
theorem Hy{b:Type}{c:Prop}[Decidable c]{P T:StateT SortSt Sem b}{R:SortSt->Prop}{st:SortSt}{Q:b->SortSt->Prop}(e:c->(∀a,R a->wpS (model prog w) A E s P Q a)->wpS (model prog w) A E s T Q st)(d:¬ c->R st)(go:∀a,R a->wpS (model prog w) A E s P Q a):wpS (model prog w) A E s (if c then T else P) Q st:=
 oX (λx=>e x go) λx=>go st (d x)
theorem Rn(G:Cmp prog w A s κ kd){st:SortSt}{lo r:Nat}{Q:Option Nat->SortSt->Prop}(L:kindOf st=kd)(N:∀x∈(arrOf st).toList,Gd κ x)(hz:lo+r<=(arrOf st).size)(a3:1<=r)
  (h:∀n b,1<=n->n<=r->Ch lo (lo+n) st b->Up κ (arrOf b) lo (lo+n)->Q (some n) b):wpS (model prog w) A E s (countRun' lo r) Q st:=by
 rw[countRun'_eq];refine zG (Hz G L N hz (zF _) a3 Up.one (λx c=>rfl) λn T X up nx=>?_);dsimp only;refine oX (λz=>?_) λz=>?_
 ·exact zH (h n st T X (Ch.refl _ _ _) up)
 have S:n≠r:=λe=>z (pV.mpr e);have Z:=nx.resolve_left S;refine Hy (R:=λD=>Ch lo (lo+n) st D/\Dn κ (arrOf D) lo (lo+n+1)) (λy go=>?_) (λy=>?_) λD a8=>?_
 ·refine zG (dD G L N ⋯ ⋯ λp q ep o=>?_);dsimp only;cases hl:lq κ p q with
  |true =>
   rw[zE rfl];exact zH (h n st T X (Ch.refl _ _ _) up)
  | false =>
   rw[zD (by simp)];refine zG (bO ⋯ λD C U=>?_);refine go D ⟨C,Dn.more (hi:=lo+n) ?_ ⋯ (by rw[C.z];omega) λu v f g=>?_⟩
   ·-- all alike
    rw[U];intro i j x y b1 b2 V J t;rw[iE ⋯,zE ⟨b1,⋯⟩]at J;rw[iE ⋯,zE ⟨⋯,V⟩]at t;exact up _ _ y x ⋯ (show lo+(lo+n)-1-j<=lo+(lo+n)-1-i by omega) ⋯ t J
   ·rw[C.o _ (.inr (zF _))]at g;rw[U,iE ⋯,zE ⋯,show lo+(lo+n)-1-(lo+n-1)=lo by omega,ep]at f;cases f;exact mP (mT (Z v q g o)) hl
 ·have:n=1:=⋯
  subst this;refine⟨Ch.refl _ _ _,Dn.more (hi:=lo+1) (λi j x y b1 b2 V J t=>?_) ⋯ ⋯ λu v f g=>mT (Z v u g f)⟩;have:i=j:=⋯
  subst this;rw[J]at t;cases t;exact jR _
 ·obtain⟨C,k⟩:=a8;refine zG (rL (wR ⟨rfl,?_⟩));refine zG (wJ (xF (I:=λx c b=>∃d,c=(none,x,d)/\n+1<=x/\x<=r/\d+1<=x/\Ch lo (lo+x) st b/\Dn κ (arrOf b) lo (lo+x)/\Up κ (arrOf b) (lo+x-(d+1)) (lo+x))
   (Q:=λc b=>∃x d,c=(none,x,d)/\n+1<=x/\x<=r/\d+1<=x/\Ch lo (lo+x) st b/\Dn κ (arrOf b) lo (lo+x)/\Up κ (arrOf b) (lo+x-(d+1)) (lo+x)) ?_ ?_ ⟨0,rfl,zF _,⋯,⋯,C.wide ⋯,k,by rw[show lo+(n+1)=lo+n+1 by omega];exact Up.one⟩) ?_)
  ·rintro x c b b7 b4 ⟨d,rfl,K,F,M,ch,k,up⟩;have a0:kindOf b=kd:=ch.k.trans L;have Y:=ch.good N;have S:=ch.z;dsimp only;refine zG (dD G a0 Y ⋯ ⋯ λp q ep o=>?_);dsimp only;cases hl:lq κ p q with
   |true =>
    rw[zE rfl];refine oX (λO=>?_) λO=>?_
    ·refine zG (bO ⋯ λl a I=>zH ?_);have R:Ch lo (lo+x) b l:=⟨a.k,a.p,a.f,a.z,a.m,λi hi=>a.o i ⋯⟩;refine⟨0,rfl,⋯,⋯,⋯,(ch.trans R).wide ⋯,?_,by rw[show lo+(x+1)-(0+1)=lo+x by omega];exact Up.one⟩;refine Dn.more (hi:=lo+x) (by rw[I];exact Dn.turned k up ⋯ (zF _) ⋯) ⋯ (by rw[a.z];omega) λu v f g=>?_;rw[a.o _ (.inr (zF _)),ep]at g;cases g;rw[I,iE ⋯,zE ⋯]at f;have l1:le' κ q u:=k _ _ u q ⋯ (show lo+x-(d+1)+(lo+x)-1-(lo+x-1)<=lo+x-1 by omega) ⋯ f o;exact mP (mT hl) l1
    ·refine zH ⟨0,rfl,⋯,⋯,⋯,ch.wide ⋯,?_,by rw[show lo+(x+1)-(0+1)=lo+x by omega];exact Up.one⟩;refine Dn.more k ⋯ ⋯ λu v f g=>?_;rw[o]at f;rw[ep]at g;cases f;cases g;exact mT hl
   | false =>
    rw[zD (by simp)];refine zG (dD G a0 Y ⋯ ⋯ λb6 b9 a1 a2=>?_);rw[o]at a1;rw[ep]at a2;cases a1;cases a2;dsimp only;cases hl2:lq κ q p with
    |true =>
     rw[zE rfl];exact zH ⟨x,d,rfl,K,F,M,ch,k,up⟩
    | false =>
     rw[zD (by simp)];refine zH ⟨d+1,rfl,⋯,⋯,⋯,ch.wide ⋯,?_,?_⟩
     ·refine Dn.more k ⋯ ⋯ λu v f g=>?_;rw[o]at f;rw[ep]at g;cases f;cases g;exact hl2
     ·have:=Up.more (hi':=lo+(x+1)) up ⋯ ⋯ λu v f g=>by
       rw[o]at f;rw[ep]at g;cases f;cases g;exact hl
      rw[show lo+(x+1)-(d+1+1)=lo+x-(d+1) by omega];exact this
  ·rintro c b ⟨d,rfl,K,F,M,ch,k,up⟩;exact⟨_,d,rfl,K,F,M,ch,k,up⟩
  ·rintro c b ⟨x,d,rfl,K,F,M,ch,k,up⟩;dsimp only;refine Hy (R:=λl=>Ch lo (lo+x) st l/\Dn κ (arrOf l) lo (lo+x)) (λO a9=>?_) (λO=>⟨ch,k⟩) λl a4=>?_
   ·have S:=ch.z;refine zG (bO ⋯ λl a I=>?_);have R:Ch lo (lo+x) b l:=⟨a.k,a.p,a.f,a.z,a.m,λi hi=>a.o i ⋯⟩;exact a9 l ⟨ch.trans R,by rw[I];exact Dn.turned k up ⋯ (zF _) ⋯⟩
   ·obtain⟨a,a7⟩:=a4;have c0:=a.z;refine zG (bO ⋯ λb0 W a5=>?_);have P:=a.trans W;have b5:=W.z;refine zG (Hz G (P.k.trans L) (P.good N) ⋯ ⋯ F (by rw[a5];exact Dn.up a7 ⋯) (λ_ _=>rfl) λm b8 b3 a6 _=>?_);dsimp only;exact zH (h m b0 ⋯ b3 (P.wide ⋯) a6)
theorem Rm{x y z:Keyed}(b:lq κ x y=true)(a:le' κ y z):lq κ x z=true:=KeyOrd.klt_of_klt_of_kle (O:=κ.toKeyOrd) b a
theorem Up.put{a:Array Keyed}{lo k l:Nat}{p:Keyed}(d:Up κ a lo (lo+k))(hz:lo+k<a.size)(ep:a[lo+k]?=some p)(hl:l<=k)(m:∀i u,lo<=i->i<lo+l->a[i]?=some u->le' κ u p)(o:∀i u,lo+l<=i->i<lo+k->a[i]?=some u->lq κ p u=true):
  Up κ (bubble a (lo+k) (lo+k-(lo+l))) lo (lo+(k+1)):=λi j x y e n q c b=>by
 rw[getElem?_bubble hz _ ⋯,show lo+k-(lo+k-(lo+l))=lo+l by omega]at c b
 by_cases g:i=lo+l
 ·rw[zE g,ep]at c;cases c
  by_cases b1:j=lo+l
  ·rw[zE b1,ep]at b;cases b;exact jR _
  ·rw[zD b1,zE ⋯]at b;exact mT (o _ _ ⋯ ⋯ b)
 ·rw[zD g]at c
  by_cases f:lo+l<i/\i<=lo+k
  ·rw[zE f]at c;rw[zD ⋯,zE ⋯]at b;exact d _ _ _ _ ⋯ (show i-1<=j-1 by omega) ⋯ c b
  ·rw[zD f]at c
   by_cases b1:j=lo+l
   ·rw[zE b1,ep]at b;cases b;exact m _ _ e ⋯ c
   ·rw[zD b1]at b
    by_cases b2:lo+l<j/\j<=lo+k
    ·rw[zE b2]at b;exact d _ _ _ _ e (show i<=j-1 by omega) ⋯ c b
    ·rw[zD b2]at b;exact d _ _ _ _ e n ⋯ c b
theorem Rl(R:Cmp prog w A s κ kd){st:SortSt}{lo n ok:Nat}{Q:Bool->SortSt->Prop}(L:kindOf st=kd)(S:∀x∈(arrOf st).toList,Gd κ x)(hz:lo+n<=(arrOf st).size)(C:1<=ok)(G:ok<=n)(P:Up κ (arrOf st) lo (lo+ok))
  (h:∀a,Ch lo (lo+n) st a->Up κ (arrOf a) lo (lo+n)->Q true a):wpS (model prog w) A E s (binarySort' lo n ok) Q st:=by
 rw[binarySort'_eq];refine zG (wJ (xF (I:=λk c a=>c=(none,())/\ok<=k/\k<=n/\Ch lo (lo+n) st a/\Up κ (arrOf a) lo (lo+k))
  (Q:=λc a=>c=(none,())/\Ch lo (lo+n) st a/\Up κ (arrOf a) lo (lo+n)) ?step ?fin ?init) ?post)
 case post =>
  rintro c a ⟨rfl,b,d⟩;exact zH (h a b d)
 case init=>rw[show max ok 1=ok by omega];exact⟨rfl,zF _,G,Ch.refl _ _ _,P⟩
 case fin =>
  rintro c a ⟨z,I,O,b,d⟩;rw[show max (max ok 1) n=n by omega]at d;exact⟨z,b,d⟩
 case step =>
  rintro k c a Y U ⟨rfl,I,O,b,d⟩;have V:=b.z;have M:kindOf a=kd:=b.k.trans L;have K:=b.good S;obtain⟨p,ep⟩:=mE (a:=arrOf a) (i:=lo+k) ⋯;refine zG (wJ (xF (I:=λx c g=>g=a/\∃l r,c=(none,l,r)/\l<=r/\r<=k/\r-l<=k-x /\
    (∀i u,lo<=i->i<lo+l->(arrOf a)[i]?=some u->le' κ u p)/\(∀i u,lo+r<=i->i<lo+k->(arrOf a)[i]?=some u->lq κ p u=true))
   (Q:=λc g=>g=a/\∃l r,c=(none,l,r)/\l<=k /\
    (∀i u,lo<=i->i<lo+l->(arrOf a)[i]?=some u->le' κ u p)/\(∀i u,lo+l<=i->i<lo+k->(arrOf a)[i]?=some u->lq κ p u=true)) ?istep ?ifin ?iinit) ?ipost)
  case iinit=>exact⟨rfl,0,k,rfl,⋯,⋯,⋯,λi u _ hi=>⋯,λi u C X=>⋯⟩
  case ifin =>
   rintro c g ⟨rfl,l,r,rfl,D,j,F,e,f⟩;have:l=r:=⋯
   subst this;exact⟨rfl,l,l,rfl,j,e,f⟩
  case istep =>
   rintro x c g _ T ⟨rfl,l,r,rfl,D,j,F,e,f⟩;dsimp only;refine oX (λN=>?_) λN=>?_
   ·have:l=r:=⋯
    subst this;exact zH ⟨rfl,l,l,rfl,j,e,f⟩
   ·refine zG (dD R M K ⋯ ⋯ λW q v t=>?_);rw[ep]at v;cases v;dsimp only;cases hless:lq κ p q with
    |true =>
     rw[zE rfl];refine zH ⟨rfl,l,(l+r)/2,rfl,⋯,⋯,⋯,e,λi u m y o=>?_⟩;exact Rm hless (d _ _ _ _ ⋯ m y t o)
    |false =>
     rw[zD (by simp)];refine zH ⟨rfl,(l+r)/2+1,r,rfl,⋯,⋯,⋯,λi u m y o=>?_,f⟩;exact mP (d _ _ _ _ m (show i<=lo+(l+r)/2 by omega) ⋯ o t) hless
  case ipost =>
   rintro c g ⟨rfl,l,r,rfl,J,e,f⟩;show wpS _ _ _ _ (do moveDown' (lo+k) (lo+l);pure (ForInStep.yield (none,()))) _ _;rw[moveDown'_eq];refine zG (wQ (zH ⟨rfl,⋯,⋯,b.trans ⟨rfl,rfl,rfl,bubble_size _ _ _,bubble_perm _ _ _,λi hi=>?_⟩,d.put ⋯ ep J e f⟩));exact(getElem?_bubble ⋯ _ ⋯ i).trans (by rw[zD ⋯,zD ⋯])
def Run(κ:PyProof.Rows.KeyKind)(a:Array Keyed):Nat->List (Nat×Nat×Nat)->Nat->Prop
 |s,[],e=>s=e
 |s,x:: xs,e=>x.1=s/\1<=x.2.1/\Up κ a s (s+x.2.1)/\Run κ a (s+x.2.1) xs e
theorem Run.le{a:Array Keyed}:∀{xs:List (Nat×Nat×Nat)}{s e:Nat},Run κ a s xs e->s+xs.length<=e
 |[],s,e,h=>by have:s=e:=h;simp[this]
 |x:: xs,s,e,h=>by have:=Run.le h.2.2.2;have:=h.2.1;simp only[List.length_cons];omega
theorem Run.app{a:Array Keyed}:∀{xs ys:List (Nat×Nat×Nat)}{s e:Nat},Run κ a s (xs++ys) e ↔ ∃m,Run κ a s xs m/\Run κ a m ys e
 |[],ys,s,e=>⟨λh=>⟨s,rfl,h⟩,λ⟨m,b,c⟩=>by cases(show s=m from b);exact c⟩
 |x:: xs,ys,s,e=>⟨λ⟨b,c,f,d⟩=>let ⟨m,i,j⟩:=Run.app.mp d;⟨m,⟨b,c,f,i⟩,j⟩,λ⟨m,⟨b,c,f,d⟩,g⟩=>⟨b,c,f,Run.app.mpr ⟨m,d,g⟩⟩⟩
theorem Run.same{a b:Array Keyed}:∀{xs:List (Nat×Nat×Nat)}{s e:Nat},(∀i,s<=i->i<e->b[i]?=a[i]?)->Run κ a s xs e->Run κ b s xs e
 |[],_,_,_,h=>h
 |x:: xs,s,e,q,h=>by
  have:=Run.le h.2.2.2;exact⟨h.1,h.2.1,h.2.2.1.same λi d c=>q i d ⋯,Run.same (λi d c=>q i ⋯ c) h.2.2.2⟩
theorem Bd{a:Array Keyed}{i j:Nat}(h:Up κ a i j):Srt κ (seg a.toList i j):=by
 rw[Srt,List.pairwise_iff_getElem];intro d u e c f;have e1:=yZ e;have b:=yZ c;rw[dC]at e1 b;split at e1
 ·split at b
  ·exact h _ _ _ _ ⋯ (show i+d<=i+u by omega) ⋯ (oV.mpr e1) (oV.mpr b)
  ·cases b
 ·cases e1
theorem Rk{a:Array Keyed}{l X r:List Keyed}{i j:Nat}(e:a.toList=l++X++r)(hl:l.length=i)(k:X.length=j-i)(h:Srt κ X):Up κ a i j:=λp q x y m o n d b=>by
 have d:=oV.mp d;have b:=oV.mp b;rw[e,yE,zT ⋯,yA ⋯]at d b;rcases uY p q with c|c
 ·have g:p-l.length<X.length:=⋯
  have f:q-l.length<X.length:=⋯
  rw[yZ g]at d;rw[yZ f]at b;cases d;cases b;exact(List.pairwise_iff_getElem.mp h) _ _ g f ⋯
 ·have:p=q:=⋯
  subst this;rw[d]at b;cases b;exact jR _
structure Wt(κ:PyProof.Rows.KeyKind)(kd:SortKind)(a₀:Array Keyed)(hi:Nat)(st:SortSt):Prop where
 k:kindOf st=kd
 f:failedOf st=none
 m:(arrOf st).Perm a₀
 r:Run κ (arrOf st) 0 (pendingOf st).toList hi
theorem Wt.z{a₀:Array Keyed}{hi:Nat}{st:SortSt}(h:Wt κ kd a₀ hi st):(arrOf st).size=a₀.size:=h.m.size_eq
theorem Wt.good{a₀:Array Keyed}{hi:Nat}{st:SortSt}(h:Wt κ kd a₀ hi st)(a:∀x∈a₀.toList,Gd κ x):∀x∈(arrOf st).toList,Gd κ x:=λx b=>a x ((h.m.toList.mem_iff).mp b)
theorem Rj{p:Array (Nat×Nat×Nat)}{xs ys:List (Nat×Nat×Nat)}{e f g:Nat×Nat×Nat}(h:p.toList=xs++e:: f:: ys):((p.setIfInBounds xs.length g).eraseIdxIfInBounds (xs.length+1)).toList=xs++g:: ys:=by
 have hz:xs.length+1<(p.setIfInBounds xs.length g).size:=by
  rw[Array.size_setIfInBounds,←zK,h];simp
 rw[Array.eraseIdxIfInBounds,dif_pos hz,Array.toList_eraseIdx,Array.toList_setIfInBounds,h,List.set_append_right _ _ (zF _),wX];rw[vW ⋯];simp
theorem Bc(C:Cmp prog w A s κ kd){a₀:Array Keyed}(D:∀x∈a₀.toList,Gd κ x){st:SortSt}{i hi:Nat}{xs ys:List (Nat×Nat×Nat)}{e f:Nat×Nat×Nat}{Q:Bool->SortSt->Prop}(c:Wt κ kd a₀ hi st)(hh:hi<=a₀.size)(g:(pendingOf st).toList=xs++e:: f:: ys)(r:i=xs.length)
  (h:∀a,Wt κ kd a₀ hi a->(pendingOf a).toList=xs++(e.1,e.2.1+f.2.1,e.2.2):: ys->(∀j,hi<=j->(arrOf a)[j]?=(arrOf st)[j]?)->Q true a):wpS (model prog w) A E s (mergeAt' i) Q st:=by
 subst r;have hr:=c.r;rw[g]at hr;obtain⟨m,r1,k,v,p,z,t,F,r2⟩:=Run.app.mp hr;have l1:=r1.le;have l2:=r2.le;have hz:=c.z;have e1:(pendingOf st)[xs.length]?=some (m,e.2.1,e.2.2):=by
  rw[←yM,g,zT (zF _),wX,←k];rfl
 have o:(pendingOf st)[xs.length+1]?=some (m+e.2.1,f.2.1,f.2.2):=by
  rw[←yM,g,zT ⋯,Nat.add_sub_cancel_left,←z];rfl
 refine Ro C c.k (c.good D) c.f e1 o v t ⋯ (Bd p) (Bd F) λa X y G u d l I=>?_;have J:X.length=e.2.1+f.2.1:=by rw[l.length_eq,Be (by rw[zK];omega)];omega
 have lt:((arrOf st).toList.take m).length=m:=by rw[yI,zK];omega
 have ps:(pendingOf a).toList=xs++(e.1,e.2.1+f.2.1,e.2.2):: ys:=by
  rw[u,←k];exact Rj g
 have up:Up κ (arrOf a) m (m+e.2.1+f.2.1):=Rk d lt ⋯ I;have lo:∀j,j<m->(arrOf a)[j]?=(arrOf st)[j]?:=λj b=>by
  rw[←yM,←yM,d,yE,yA ⋯,uA b]
 have n:∀j,m+e.2.1+f.2.1<=j->(arrOf a)[j]?=(arrOf st)[j]?:=λj b=>by
  rw[←yM,←yM,d,zT (by rw[zX];omega),uN];congr 1;rw[zX];omega
 refine h a ⟨y,G,?_,?_⟩ ps λj b=>n j ⋯
 ·refine Array.Perm.trans (Array.perm_iff_toList_perm.mpr ?_) c.m;have q:=(l.append_left ((arrOf st).toList.take m)).append_right ((arrOf st).toList.drop (m+e.2.1+f.2.1));rw[Gb ⋯]at q;rw[d];exact q
 ·rw[ps];refine Run.app.mpr ⟨m,r1.same λj _ b=>lo j b,k,(show 1<=e.2.1+f.2.1 by omega),?_,?_⟩
  ·show Up κ _ m (m+(e.2.1+f.2.1));rw[←sH];exact up
  ·show Run κ _ (m+(e.2.1+f.2.1)) _ _;rw[←sH];exact r2.same λj b _=>n j b
theorem Run.modify{a:Array Keyed}{f:Nat×Nat×Nat->Nat×Nat×Nat}(hf:∀e,(f e).1=e.1/\(f e).2.1=e.2.1):∀{xs:List (Nat×Nat×Nat)}{i s e:Nat},Run κ a s xs e->Run κ a s (xs.modify i f) e
 |[],i,s,e,h=>by cases i <;> exact h
 |x:: xs,0,s,e,h=>by
  show(f x).1=s/\1<=(f x).2.1/\Up κ a s (s+(f x).2.1)/\Run κ a (s+(f x).2.1) xs e;rw[(hf x).1,(hf x).2];exact h
 |x:: xs,i+1,s,e,h=>⟨h.1,h.2.1,h.2.2.1,Run.modify hf h.2.2.2⟩
theorem Ri{b:Prop}[Decidable b]{z:Nat}(h:¬ z<=1):(if b then z-2-1 else z-2)+1<z:=by split <;> omega
theorem Bb{p:Array (Nat×Nat×Nat)}{i:Nat}(h:i+1<p.size):∃xs e f ys,p.toList=xs++e:: f:: ys/\xs.length=i:=by
 have h':i+1<p.toList.length:=by rw[zK];exact h
 refine⟨p.toList.take i,p.toList[i],p.toList[i+1],p.toList.drop (i+2),?_,by rw[yI];omega⟩;rw[←vV,←vV,xX]
theorem Wt.push{a₀:Array Keyed}{lo n:Nat}{st:SortSt}(h:Wt κ kd a₀ lo st)(b:1<=n)(a:Up κ (arrOf st) lo (lo+n)):Wt κ kd a₀ (lo+n) (setPending st ((pendingOf st).push (lo,n,0))):=
 ⟨h.k,h.f,h.m,by
  show Run κ (arrOf st) 0 ((pendingOf st).push (lo,n,0)).toList (lo+n);rw[uW];exact Run.app.mpr ⟨lo,h.r,rfl,b,a,rfl⟩⟩
theorem Rh(I:Cmp prog w A s κ kd){a₀:Array Keyed}(J:∀x∈a₀.toList,Gd κ x){st:SortSt}{Q:Unit->SortSt->Prop}(a4:kindOf st=kd)(hf:failedOf st=none)(a7:pendingOf st=#[])(T:arrOf st=a₀)
  (h:∀a,kindOf a=kd->failedOf a=none->(arrOf a).Perm a₀->Up κ (arrOf a) 0 a₀.size->Q () a):wpS (model prog w) A E s sortRuns' Q st:=by
 rw[sortRuns'_eq];refine zG (tE ?_);rw[T];dsimp only;have a5:Wt κ kd a₀ 0 st:=⟨a4,hf,by rw[T],by rw[a7];rfl⟩;refine zG (wJ (xF (I:=λx c a=>∃lo,c=(none,lo)/\x<=lo/\lo<=a₀.size/\Wt κ kd a₀ lo a)
  (Q:=λc a=>c=(none,a₀.size)/\Wt κ kd a₀ a₀.size a) ?step ?fin ⟨0,rfl,zF _,yB _,a5⟩) ?post)
 case fin =>
  rintro c a ⟨lo,rfl,Y,P,g⟩;have:lo=a₀.size:=⋯
  subst this;exact⟨rfl,g⟩
 case step =>
  rintro x c a b2 b0 ⟨lo,rfl,Y,P,g⟩;dsimp only;refine oX (λz=>?_) λz=>?_
  ·have:lo=a₀.size:=⋯
   subst this;exact zH ⟨rfl,g⟩
  have hz:=g.z;refine zG (Rn I g.k (g.good J) ⋯ ⋯ λn U M b1 k S=>?_);dsimp only;have V:∀l,kindOf l=kindOf a->pendingOf l=pendingOf a->failedOf l=failedOf a->(arrOf l).Perm (arrOf a)->(∀i,i<lo->(arrOf l)[i]?=(arrOf a)[i]?)->Wt κ kd a₀ lo l:=λl e1 Z a0 a1 a8=>⟨e1.trans g.k,a0.trans g.f,a1.trans g.m,by rw[Z];exact g.r.same λi _ hi=>a8 i hi⟩;refine oX (λy=>?_) λy=>?_
  ·refine zG (rL (wR ⟨rfl,?_⟩));have b3:=k.z;refine zG (Rl I (k.k.trans g.k) (k.good (g.good J)) ⋯ M ⋯ S λl C t=>?_);rw[zD (by simp)];obtain⟨G,K,r,t⟩:Wt κ kd a₀ lo l/\1<=min (a₀.size-lo) (minRun' a₀.size a₀.size 0)/\lo+min (a₀.size-lo) (minRun' a₀.size a₀.size 0)<=a₀.size/\Up κ (arrOf l) lo (lo+min (a₀.size-lo) (minRun' a₀.size a₀.size 0)):=⟨V l (C.k.trans k.k) (C.p.trans k.p) (C.f.trans k.f) (C.m.trans k.m) λi hi=>(C.o i (.inl hi)).trans (k.o i (.inl hi)),⋯,⋯,t⟩
   revert K r t
   generalize min (a₀.size-lo) (minRun' a₀.size a₀.size 0)=n;intro K r t;refine zG (tE ?_);cases hb:(pendingOf l).back? with
   |none =>
    dsimp only;exact zG (wQ (zH ⟨lo+n,rfl,⋯,r,G.push K t⟩))
   | some u =>
    obtain⟨D,k1,a2⟩:=u;dsimp only;generalize power' a₀.size (2*D+k1) (2*D+k1+k1+n) a₀.size=v;refine zG (wJ (xF (I:=λx c a=>c=(none,())/\Wt κ kd a₀ lo a/\Up κ (arrOf a) lo (lo+n))
     (Q:=λc a=>c=(none,())/\Wt κ kd a₀ lo a/\Up κ (arrOf a) lo (lo+n)) ?istep1 (λc a hh=>hh) ⟨rfl,G,t⟩) ?ipost1)
    case istep1 =>
     rintro x c b _ _ ⟨rfl,d,m⟩;refine zG (tE ?_)
     by_cases F:(pendingOf b).size > 1
     ·rw[zE F];obtain⟨xs,e,f,ys,ep,p⟩:=Bb (p:=pendingOf b) (i:=(pendingOf b).size-2) ⋯;have O:(pendingOf b)[(pendingOf b).size-2]?=some e:=by
       rw[←yM,ep,zT ⋯,p,wX];rfl
      rw[O];dsimp only;refine oX (λ_=>zH ⟨rfl,d,m⟩) λ_=>?_;refine zG (Bc I J d P ep p.symm λW o N R=>?_);rw[zD (by simp)];exact zH ⟨rfl,o,m.same λi hi _=>R i hi⟩
     ·rw[zD F];exact zH ⟨rfl,d,m⟩
    case ipost1 =>
     rintro c b ⟨rfl,d,m⟩;dsimp only;refine zG (wQ ?_);have o:Wt κ kd a₀ lo (setPending b ((pendingOf b).modify ((pendingOf b).size-1) λx=>(x.1,x.2.1,v))):=⟨d.k,d.f,d.m,by
      show Run κ (arrOf b) 0 ((pendingOf b).modify _ _).toList lo;rw[Array.toList_modify];exact Run.modify (f:=λx=>(x.1,x.2.1,v)) (λe=>⟨rfl,rfl⟩) d.r⟩
     exact zG (wQ (zH ⟨lo+n,rfl,⋯,r,o.push K m⟩))
  ·have G:=V U k.k k.p k.f k.m λi hi=>k.o i (.inl hi);have r:lo+n<=a₀.size:=⋯
   refine zG (tE ?_);cases hb:(pendingOf U).back? with
   |none =>
    dsimp only;exact zG (wQ (zH ⟨lo+n,rfl,⋯,r,G.push M S⟩))
   | some u =>
    obtain⟨D,k1,a2⟩:=u;dsimp only;generalize power' a₀.size (2*D+k1) (2*D+k1+k1+n) a₀.size=v;refine zG (wJ (xF (I:=λx c a=>c=(none,())/\Wt κ kd a₀ lo a/\Up κ (arrOf a) lo (lo+n))
     (Q:=λc a=>c=(none,())/\Wt κ kd a₀ lo a/\Up κ (arrOf a) lo (lo+n)) ?istep (λc a hh=>hh) ⟨rfl,G,S⟩) ?ipost)
    case istep =>
     rintro x c b _ _ ⟨rfl,d,m⟩;refine zG (tE ?_)
     by_cases F:(pendingOf b).size > 1
     ·rw[zE F];obtain⟨xs,e,f,ys,ep,p⟩:=Bb (p:=pendingOf b) (i:=(pendingOf b).size-2) ⋯;have O:(pendingOf b)[(pendingOf b).size-2]?=some e:=by
       rw[←yM,ep,zT ⋯,p,wX];rfl
      rw[O];dsimp only;refine oX (λ_=>zH ⟨rfl,d,m⟩) λ_=>?_;refine zG (Bc I J d P ep p.symm λW o N R=>?_);rw[zD (by simp)];exact zH ⟨rfl,o,m.same λi hi _=>R i hi⟩
     ·rw[zD F];exact zH ⟨rfl,d,m⟩
    case ipost =>
     rintro c b ⟨rfl,d,m⟩;dsimp only;refine zG (wQ ?_);have o:Wt κ kd a₀ lo (setPending b ((pendingOf b).modify ((pendingOf b).size-1) λx=>(x.1,x.2.1,v))):=⟨d.k,d.f,d.m,by
      show Run κ (arrOf b) 0 ((pendingOf b).modify _ _).toList lo;rw[Array.toList_modify];exact Run.modify (f:=λx=>(x.1,x.2.1,v)) (λe=>⟨rfl,rfl⟩) d.r⟩
     exact zG (wQ (zH ⟨lo+n,rfl,⋯,r,o.push M m⟩))
 case post =>
  rintro c a ⟨rfl,g⟩;dsimp only;have X:=g.r.le;rw[zK]at X;refine zG (wJ (xF (I:=λx c a=>c=(none,())/\Wt κ kd a₀ a₀.size a/\((pendingOf a).size<=1\/(pendingOf a).size+x<=a₀.size))
   (Q:=λc a=>c=(none,())/\Wt κ kd a₀ a₀.size a/\(pendingOf a).size<=1) ?fstep ?ffin ⟨rfl,g,.inr ⋯⟩) ?fpost)
  case ffin =>
   rintro c b ⟨rfl,d,L⟩;exact⟨rfl,d,⋯⟩
  case fstep =>
   rintro x c b _ _ ⟨rfl,d,L⟩;refine zG (tE ?_);refine oX (λq=>zH ⟨rfl,d,q⟩) λq=>?_;generalize hi:(if Option.any (λx=>decide (x<(pendingOf b)[(pendingOf b).size-2+1]?.elim 0 λx=>x.2.1)) (if(pendingOf b).size-2 > 0 then Option.map (λx=>x.2.1) (pendingOf b)[(pendingOf b).size-2-1]? else none)=true then(pendingOf b).size-2-1 else(pendingOf b).size-2)=i;have hi':i+1<(pendingOf b).size:=by
    rw[←hi];exact Ri q
   obtain⟨xs,e,f,ys,ep,p⟩:=Bb hi';refine zG (Bc I J d (zF _) ep p.symm λW o N _=>?_);rw[zD (by simp)];refine zH ⟨rfl,o,.inr ?_⟩;have a6:=wY List.length ep;have a9:=wY List.length N;simp only[Array.length_toList,List.length_append,List.length_cons]at a6 a9;omega
  case fpost =>
   rintro c b ⟨rfl,d,L⟩;refine zH (h b d.k d.f d.m ?_);have hr:=d.r;rw[←zK]at L
   match hl:(pendingOf b).toList,hr,L with
   |[],hr,_ =>
    have:0=a₀.size:=hr;rw[←this];exactλi j x y _ _ a3=>absurd a3 (Nat.not_lt_zero _)
   |[u],hr,_ =>
    have:0+u.2.1=a₀.size:=hr.2.2.2;rw[←this];exact hr.2.2.1
end
def dE(prog:Program)(w:World)(n:Nat):Prop:=∀{A:Around}{E:VP}{s:Shared}{κ:PyProof.Rows.KeyKind}{kd:SortKind}{a₀:Array Keyed}{st:SortSt}{Q:Unit->SortSt->Prop},a₀.size=n->2<=n->Cmp prog w A s κ kd->(∀x∈a₀.toList,Gd κ x)->kindOf st=kd->failedOf st=none->pendingOf st=#[]->arrOf st=a₀ ->
 (∀st',kindOf st'=kd->failedOf st'=none->(arrOf st').Perm a₀->Up κ (arrOf st') 0 a₀.size->Q () st')->wpS (model prog w) A E s sortRuns' Q st
section
variable {prog:Program} {w:World}
theorem Rg(n:Nat):dE prog w n:=λ_ _ a b c hf d e h=>Rh a b c hf d e h
end
mutual
def fl:PyData->LI'
 |.int i=>[i]
 |.tuple xs=>flA xs
 |_=>[]
def flA:List PyData->LI'
 |[]=>[]
 |d:: ds=>fl d++flA ds
end
mutual
def sm:PyData->PyData->Bool
 |.int _,.int _=>true
 |.tuple xs,.tuple ys=>smA xs ys
 |_,_=>false
def smA:List PyData->List PyData->Bool
 |[],[]=>true
 |x:: xs,y:: ys=>sm x y && smA xs ys
 |_,_=>false
end
mutual
theorem bP:∀(x y:PyData),sm x y=true->(fl x).length=(fl y).length
 |.int _,y,h=>by cases y <;> simp[sm]at h <;> simp[fl]
 |.tuple xs,y,h=>by cases y <;> simp[sm]at h <;> simp[fl];exact Hx _ _ h
 |.none,y,h=>by simp[sm]at h
 |.bool _,y,h=>by simp[sm]at h
 |.str _,y,h=>by simp[sm]at h
 |.list _,y,h=>by simp[sm]at h
 |.dict _,y,h=>by simp[sm]at h
theorem Hx:∀(xs ys:List PyData),smA xs ys=true->(flA xs).length=(flA ys).length
 |[],ys,h=>by cases ys <;> simp[smA]at h <;> rfl
 |x:: xs,ys,h=>by
  cases ys <;> simp[smA]at h;simp only[flA,List.length_append];rw[bP _ _ h.1,Hx _ _ h.2]
end
mutual
theorem bQ:∀(x y:PyData),sm x y=true->fl x=fl y->x=y
 |.int _,y,h,e=>by cases y <;> simp[sm]at h;simp[fl]at e;rw[e]
 |.tuple xs,y,h,e=>by cases y <;> simp[sm]at h;simp only[fl]at e;rw[Hw _ _ h e]
 |.none,y,h,e=>by simp[sm]at h
 |.bool _,y,h,e=>by simp[sm]at h
 |.str _,y,h,e=>by simp[sm]at h
 |.list _,y,h,e=>by simp[sm]at h
 |.dict _,y,h,e=>by simp[sm]at h
theorem Hw:∀(xs ys:List PyData),smA xs ys=true->flA xs=flA ys->xs=ys
 |[],ys,h,e=>by cases ys <;> simp[smA]at h;rfl
 |x:: xs,ys,h,e=>by
  cases ys <;> simp[smA]at h;simp only[flA]at e;obtain⟨e1,a⟩:=List.append_inj e (bP _ _ h.1);rw[bQ _ _ h.1 e1,Hw _ _ h.2 a]
end
def lx(a b:LI'):Bool:=decide (a<b)
theorem Ba:∀(a l1 l2:LI'),lx (a++l1) (a++l2)=lx l1 l2
 |[],_,_=>rfl
 |x:: a,l1,l2=>by
  rw[←Ba a l1 l2]
  refine decide_eq_decide.mpr ?_
  simp[List.cons_lt_cons_iff]
theorem Cz:∀(a b l1 l2:LI'),a.length=b.length->a≠b->lx (a++l1) (b++l2)=lx a b
 |[],[],_,_,_,h=>absurd rfl h
 |[],_:: _,_,_,h,_=>by simp at h
 |_:: _,[],_,_,h,_=>by simp at h
 |x:: a,y:: b,l1,l2,h,c=>by
  refine decide_eq_decide.mpr ?_
  simp only[List.cons_append,List.cons_lt_cons_iff]
  by_cases e:x=y
  ·subst e;have:=decide_eq_decide.mp (Cz a b l1 l2 (by simpa using h) (by simpa using c));rw[this]
  ·simp[e]
section
variable {prog:Program} {w:World} {E:VP}
theorem eqT{n:Nat}(g:n<=4){A:Around}{s:Shared}{v u:Value}{x y:PyData}{as bs:LA}{Q:Bool->Shared->Prop}(d:tT n x=true)(c:tT n y=true)(r1:Reads s.heap v x as)(r2:Reads s.heap u y bs)(f:A.units+8<cLine)(h:Q (decide (x=y)) s):wpAny (model prog w) A (eqBool v u) Q E s:=by
 have b:=iV n _ d;have a:=iV n _ c;have l1:=jP n _ b;have l2:=jP n _ a;refine PySem.SeqAt.eqBoolOverData _ _ _ _ _ _ _ _ _ _ _ _ r1 r2 l1.1 l2.1 ⋯ ?_;rw[←SeqAt.same_eq_eqv _ _ (cY n _ _ b a)];have e:=cZ n _ _ b a
 by_cases z:x=y
 ·rw[zQ z]at h;rw[e.mpr z];exact h
 ·rw[zO z]at h;have:same x y=false:=by
   cases q:same x y with
   |false=>rfl
   |true=>exact absurd (e.mp q) z
  rw[this];exact h
theorem ltT:∀(n:Nat),n<=4->∀{A:Around}{s:Shared}{v u:Value}{x y:PyData}{as bs:LA}{Q:VP},tT n x=true->tT n y=true->sm x y=true->Reads s.heap v x as->Reads s.heap u y bs->A.units+8+n<cLine->Q (.bool (lx (fl x) (fl y))) s->wpAny (model prog w) A (richCompare .Lt v u) Q E s:=by
 intro n
 induction n with
 |zero =>
  intro a7 A s v u x y as bs Q D t z r1 r2 a4 h;cases r1 <;> simp[tT]at D;cases r2 <;> simp[tT]at t;refine wpAny_lt_int ?_;simpa [fl,lx,uZ]using h
 | succ n P =>
  intro a7 A s v u x y as bs Q D t z r1 r2 a4 h;cases r1 <;> simp only[tT,Bool.false_eq_true]at D
  case int =>
   cases r2 <;> simp only[sm,Bool.false_eq_true]at z;refine wpAny_lt_int ?_;simpa [fl,lx,uZ]using h
  case tuple a o vs m xs hg hc hd hr =>
   cases r2 <;> simp only[sm,Bool.false_eq_true]at z;rename_i b a0 us b6 ys M Z Y S;simp only[tT]at t;have N:s.TypeIs (.ref a) "tuple" := ⟨o,hg,hc⟩;have L:s.TypeIs (.ref b) "tuple" := ⟨a0,M,Z⟩;refine wpAny_richCompare_same_room (op:=.Lt) N L PySem.F.slot_tuple_lt (xS PySem.F.slot_tuple_lt N PySem.F.entry_tuple_lt ?_ (PySem.F.args_tuple_lt_2 _ _)) ⋯;show wpAny _ _ (isInstance (.ref b) (.type "tuple") >>= _) _ _ s;refine zA (uB L isSubtype_tuple_tuple ?_);simp only[Bool.not_true,Bool.false_eq_true,if_false];refine zA (rO hg hd ?_);refine zA (rO M Y ?_);refine zA ?_;refine wpAny_forIn_list _
    (λrest r i=>r.1=none/\i=s/\∃g f j k G J,rest=List.zip j k/\ReadsAll s.heap j g G/\ReadsAll s.heap k f J/\g.all (tT n)=true/\f.all (tT n)=true/\smA g f=true/\lx (flA g) (flA f)=lx (flA xs) (flA ys)/\(j.length+us.size=k.length+vs.size))
    _ ?_ ?_ _ _ ⟨rfl,rfl,xs,ys,vs.toList,us.toList,_,_,rfl,hr,S,D,t,z,rfl,by simp;omega⟩
   ·rintro⟨p,q⟩ rest r i ⟨K,rfl,g,f,j,k,G,J,hz,F,C,l,tb,c,d,I⟩;cases F with
    |nil=>simp at hz
    | @cons b4 V d' U a9 b3 r1 a5 =>
     cases C with
     |nil=>simp[smA]at c
     |@cons b2 T O a6 b1 b0 r2 W =>
      simp only[List.zip_cons_cons,List.cons.injEq,Prod.mk.injEq]at hz;obtain⟨⟨rfl,rfl⟩,rfl⟩:=hz;rw[xE,zR]at l tb;simp only[smA,Bool.and_eq_true]at c;refine zA (eqT (n:=n) ⋯ l.1 tb.1 r1 r2 (by show A.units+1+8<cLine;omega) ?_)
      by_cases e:d'=O
      ·subst e;rw[zQ rfl];simp only[Bool.not_true,Bool.false_eq_true,if_false];refine zB ⟨rfl,rfl,U,a6,V,T,_,_,rfl,a5,W,l.2,tb.2,c.2,?_,by simp at I;omega⟩;rw[←d];simp only[flA];rw[Ba]
      ·rw[zO e];simp only[Bool.not_false,if_true];have a3:fl d'≠fl O:=λq=>e (bQ _ _ c.1 q);simp only[flA]at d;rw[Cz _ _ _ _ (bP _ _ c.1) a3]at d;refine zA (wR ?_);refine zA (P ⋯ l.1 tb.1 c.1 r1 r2 (by show A.units+1+8+n<cLine;omega) ?_);rw[d];exact zA (zB (zB (zB ⟨_,rfl,(λe=>nomatch e),h⟩)))
   ·rintro⟨r1,r2⟩ i ⟨K,rfl,g,f,j,k,G,J,hz,F,C,l,tb,c,d,I⟩;simp only at K;subst K;cases F with
    |cons b5 a8 =>
     cases C with
     |nil=>simp[smA]at c
     |cons a2 a1=>simp at hz
    | nil =>
     cases C with
     |cons a2 a1=>simp[smA]at c
     |nil =>
      have R:vs.size=us.size:=by simp at I;omega
      have X:lx (flA xs) (flA ys)=false:=by rw[←d];simp[flA,lx]
      refine zB ⟨_,rfl,(λe=>nomatch e),?_⟩;show Q (.bool (decide (vs.size<us.size))) i;have h':Q (.bool (lx (flA xs) (flA ys))) i:=h;rw[X]at h';rw[R,zO (yW _)];exact h'
end
mutual
theorem Hv:∀(d x y:PyData),sm d x=true->sm d y=true->sm x y=true
 |.int _,x,y,a,b=>by cases x <;> simp[sm]at a;cases y <;> simp[sm]at b;simp[sm]
 |.tuple xs,x,y,a,b=>by cases x <;> simp[sm]at a;cases y <;> simp[sm]at b;simp only[sm];exact Hu _ _ _ a b
 |.none,x,y,a,b=>by simp[sm]at a
 |.bool _,x,y,a,b=>by simp[sm]at a
 |.str _,x,y,a,b=>by simp[sm]at a
 |.list _,x,y,a,b=>by simp[sm]at a
 |.dict _,x,y,a,b=>by simp[sm]at a
theorem Hu:∀(d x y:List PyData),smA d x=true->smA d y=true->smA x y=true
 |[],x,y,b,a=>by cases x <;> simp[smA]at b;cases y <;> simp[smA]at a;simp[smA]
 |d:: ds,x,y,b,a=>by
  cases x <;> simp[smA]at b;cases y <;> simp[smA]at a;simp only[smA,Bool.and_eq_true];exact⟨Hv _ _ _ b.1 a.1,Hu _ _ _ b.2 a.2⟩
end
theorem bR(a:LI'):lx a a=false:=zO (List.lt_irrefl a)
theorem Ht(a b c:LI')(e:lx a b=true)(d:lx b c=true):lx a c=true:=zQ (List.lt_trans (xW e) (xW d))
theorem Hs(a b:LI')(d:lx a b=false)(c:lx b a=false):a=b:=List.le_antisymm (oF.mp (uM c)) (oF.mp (uM d))
theorem Rf(a b c:LI')(h:lx a c=true):lx a b=true\/lx b c=true:=by
 cases h1:lx a b with
 |true=>exact .inl rfl
 | false =>
  refine .inr ?_;cases h2:lx b c with
  |true=>rfl
  |false =>
   have e1:b<=a:=oF.mp (uM h1);have d:c<=b:=oF.mp (uM h2);exact absurd (xW h) (oF.mpr (List.le_trans d e1))
open Classical in
def keyT(h:Heap)(d0:PyData)(v:Value):Option (LI'):=if q:∃d,tT 4 d=true/\sm d0 d=true/\∃as,Reads h v d as then some (fl q.choose) else none
theorem Hr{h:Heap}{d0 d:PyData}{v:Value}{as:LA}(b:tT 4 d=true)(z:sm d0 d=true)(r:Reads h v d as):keyT h d0 v=some (fl d):=by
 have q:∃d,tT 4 d=true/\sm d0 d=true/\∃as,Reads h v d as:=⟨d,b,z,as,r⟩;unfold keyT;rw[dif_pos q];obtain⟨t',c,e,a⟩:=q.choose_spec;rw[PySem.SeqAt.Reads.unique _ _ _ _ _ (jP 4 _ (iV 4 _ t')).1 a r]
theorem Hq{h:Heap}{d0:PyData}{v:Value}{a:LI'}(e:keyT h d0 v=some a):∃d as,tT 4 d=true/\sm d0 d=true/\Reads h v d as/\a=fl d:=by
 unfold keyT at e
 by_cases q:∃d,tT 4 d=true/\sm d0 d=true/\∃as,Reads h v d as
 ·rw[dif_pos q]at e;obtain⟨t',c,f,b⟩:=q.choose_spec;exact⟨_,f,t',c,b,by cases e;rfl⟩
 ·rw[dif_neg q]at e;cases e
def fE(h:Heap)(d0:PyData):PyProof.Rows.KeyKind where
 α:=LI'
 blt:=lx
 irrefl:=bR
 trans:=Ht
 negTrans:=Rf
 total:=Hs
 keyOf:=keyT h d0
 dflt:=[]
section
variable {prog:Program} {w:World} {A:Around} {s:Shared}
theorem katT(o:A.units+16<cLine){Q:Bool->Shared->Prop}:∀(c a:List PyData)(g j:LW)(n m:LA)(i:Nat),ReadsAll s.heap g c n->ReadsAll s.heap j a m->c.all (tT 3)=true->a.all (tT 3)=true->smA c a=true->Q (lx (flA c) (flA a)) s->PySem.W.KatLex prog w A false false Q (g.zip j) i s
 | [],a,g,j,n,m,i,k,l,_,_,b,h=>by
  cases k;cases a with
  |cons _ _=>simp[smA]at b
  |nil =>
   cases l;refine PySem.W.kat_nil ?_;simpa [flA,lx]using h
 | d :: c,a,g,j,n,m,i,k,l,f,tb,b,h=>by
  cases a with
  |nil=>simp[smA]at b
  | cons e a =>
   cases k with
   | cons r1 p =>
    cases l with
    |cons r2 r =>
     rw[xE,zR]at f tb;simp only[smA,Bool.and_eq_true]at b;rw[rZ];refine PySem.W.kat_cons (eqT (n:=3) ⋯ f.1 tb.1 r1 r2 ⋯ ?_);simp only[flA]at h
     by_cases z:d=e
     ·subst z;rw[zQ rfl];rw[Ba]at h;exact PySem.W.kat_yes (katT o c a _ _ _ _ (i+1) p r f.2 tb.2 b.2 h)
     ·rw[zO z];rw[Cz _ _ _ _ (bP _ _ b.1) λq=>z (bQ _ _ b.1 q)]at h;refine PySem.W.kat_no ?_;show wpAny (model prog w) A (oneLt' false _ _) Q _ s;exact PySem.W.kat_one _ _ (ltT 3 ⋯ f.1 tb.1 b.1 r1 r2 ⋯ h)
theorem cmpT(p:A.units+16<cLine){d0:PyData}(f:∃l,d0=.tuple l):Cmp prog w A s (fE s.heap d0) (tuples' false):=by
 intro E x y a b Q q t h;obtain⟨l,rfl⟩:=f;obtain⟨d,as,n,k,r1,rfl⟩:=Hq q;obtain⟨e,bs,g,i,r2,rfl⟩:=Hq t;have z:=Hv _ _ _ k i;cases r1 <;> simp only[sm,Bool.false_eq_true]at k
 case tuple a o vs m xs hg hc f hr =>
  cases r2 <;> simp only[sm,Bool.false_eq_true]at i;rename_i b F us G ys v D C j;simp only[tT]at n g;simp only[sm]at z;have hl:vs.size=us.size:=by
   have e1:∀{h:Heap}{vs:LW}{xs:List PyData}{as:LA},ReadsAll h vs xs as->vs.length=xs.length:=by
    intro h vs xs as r
    induction xs generalizing vs as with
    |nil=>cases r;rfl
    |cons x xs c=>cases r with|cons r1 r2=>simp[c r2]
   have u:∀{xs ys:List PyData},smA xs ys=true->xs.length=ys.length:=by
    intro xs
    induction xs with
    |nil=>intro ys h;cases ys <;> simp[smA]at h;rfl
    |cons x xs c=>intro ys h;cases ys <;> simp[smA]at h;simp[c h.2]
   have:=e1 hr;have:=e1 j;have:=u z;simp only[Array.length_toList]at*
   omega
  refine PySem.W.kat_lt hg f v C ?_;rw[zO ⋯];exact katT p xs ys _ _ _ _ 0 hr j n g z h
end
theorem Cy{h h':Heap}(g:∀b o,h.get? b=some o->o.cls=.type "tuple" -> h'.get? b=some o):∀(n:Nat){v:Value}{d:PyData}{as:LA},tT n d=true->Reads h v d as->Reads h' v d as:=by
 intro n
 induction n with
 |zero =>
  intro v d as c r;cases r <;> simp[tT]at c;exact .int _ _
 | succ n e =>
  have all:∀(xs:List PyData)(vs:LW)(as:LA),xs.all (tT n)=true->ReadsAll h vs xs as->ReadsAll h' vs xs as:=by
   intro xs
   induction xs with
   |nil=>intro vs as _ r;cases r;exact .nil
   | cons d ds f =>
    intro vs as c r;cases r with
    |cons r1 r2 =>
     rw[xE,zR]at c;exact .cons (e c.1 r1) (f _ _ c.2 r2)
  intro v d as c r;cases r <;> simp only[tT,Bool.false_eq_true]at c
  case int=>exact .int _ _
  case tuple a o vs k xs hg hc hdd hr=>exact .tuple (g _ _ hg hc) hc hdd (all _ _ _ c hr)
theorem Paired.perm{g f:Type}{F:g->f->Prop}{ys i:List f}(p:ys.Perm i):∀{xs:List g},Paired F xs ys->∃e,e.Perm xs/\Paired F e i:=by
 induction p with
 |nil=>intro xs h;exact⟨xs,List.Perm.refl _,h⟩
 | cons x p j =>
  intro xs h;cases h with
  |@cons a b l1 l2 c d =>
   obtain⟨e,t,h'⟩:=j d;exact⟨a:: e,t.cons _,.cons c h'⟩
 | swap x y l =>
  intro xs h;cases h with
  |@cons a b l1 l2 c d =>
   cases d with
   |@cons r I n G m w=>exact⟨r:: a:: n,List.Perm.swap ..,.cons m (.cons c w)⟩
 |trans C D v u =>
  intro xs h;obtain⟨z,q,c⟩:=v h;obtain⟨k,o,d⟩:=u c;exact⟨k,o.trans q,d⟩
theorem Paired.mem{c b:Type}{F:c->b->Prop}{xs:List c}{ys:List b}(h:Paired F xs ys):∀x∈xs,∃y∈ys,F x y:=by
 induction h with
 |nil=>intro x a;cases a
 |cons g i d =>
  intro x a;rcases xC.mp a with e|a
  ·subst e;exact⟨_,.head _,g⟩
  ·obtain⟨y,f,q⟩:=d x a;exact⟨y,.tail _ f,q⟩
theorem ord_of{κ:PyProof.Rows.KeyKind}{d:Type}{F:d->Value->Prop}{k:d->κ.α}(c:∀p v,F p v->κ.keyOf v=some (k p)):∀(L:List Keyed)(ps:List d),(∀e∈L,e.1=e.2)->L.Pairwise (le' κ)->Paired F ps (L.map (·.2))->ps.Pairwise λp q=>κ.blt (k q) (k p)=false
 |[],ps,_,_,h=>by cases h;exact .nil
 | e:: L,ps,f,a,h=>by
  cases h with
  |@cons p b l1 l2 o j =>
   rw[pY]at a;refine .cons (λq t=>?_) (ord_of c L l1 (λx n=>f x (.tail _ n)) a.2 j);obtain⟨v,r,m⟩:=Paired.mem j q t;obtain⟨y,i,rfl⟩:=pZ.mp r;have l:=a.1 y i;have k1:ky κ e=k p:=by unfold ky;rw[f e (.head _),c _ _ o];rfl
   have k2:ky κ y=k q:=by unfold ky;rw[f y (.tail _ i),c _ _ m];rfl
   have g:κ.blt (ky κ y) (ky κ e)=false:=l;rw[k1,k2]at g;exact g
structure TV(K:Frag)(H:Hp)(d0:PyData)(p:V×PyData)(v:Value):Prop where
 r:RelV p.1 v
 t:tT 4 p.2=true
 z:sm d0 p.2=true
 d:Dt K H p.1 p.2
theorem TV.vals{K:Frag}{H:Hp}{d0:PyData}{ps:List (V×PyData)}{vs:LW}(h:Paired (TV K H d0) ps vs):Vals (ps.map (·.1)) vs:=by
 induction h with
 |nil=>exact .nil
 |cons b _ a=>exact .cons b.r a
theorem Cv:∀{vs:LW}{e:Keyed},e∈vs.zip vs->e.1=e.2
 |[],e,h=>by cases h
 |v:: vs,e,h=>by
  rw[rZ]at h;rcases xC.mp h with h|h
  ·rw[h]
  ·exact Cv h
theorem mG{a b:Type}{F:a->b->Prop}{xs:List a}{ys:List b}(h:Paired F xs ys):xs.length=ys.length:=by
 induction h with
 |nil=>rfl
 |cons _ _ c=>simp[c]
theorem Cu{c b:Type}{F:c->b->Prop}{xs:List c}{ys:List b}(h:Paired F xs ys):∀y∈ys,∃x∈xs,F x y:=by
 induction h with
 |nil=>intro x a;cases a
 |cons g i d =>
  intro x a;rcases xC.mp a with e|a
  ·subst e;exact⟨_,.head _,g⟩
  ·obtain⟨y,f,q⟩:=d x a;exact⟨y,.tail _ f,q⟩
theorem Re{l:List Keyed}{n:Nat}(h:l.length=n):seg l 0 n=l:=by
 unfold seg;rw[List.drop_zero,Nat.sub_zero,yR ⋯]
section
variable {X:Cx} {pins:PN} {σ:St} {H:Hp} {s:Shared} {a:Addr} {A:Around} {E:VP} {vs:LW} {ps:List (V×PyData)} {n0:Nat} {R:VP} {d0:PyData} {l0 l1:List PyData}
theorem Rb(a6:dE X.prog X.w vs.length)(c0:A.units+16<cLine)(I:Inv X pins σ H s)(c5:FpOk X pins H a)(y:s.heap.get? a=some (seqObj "list" vs.toArray n0))(hz:vs.length<=sizeLine)(a2:d0=.tuple (.tuple l1:: l0))(w:Paired (TV X.K H d0) ps vs)
  (h:∀(n:List (V×PyData)) H' F,Inv X pins σ H' F->Same H H'->H' a=some (.lst (n.map (·.1)))->n.Perm ps->n.Pairwise (λp q=>lx (fl q.2) (fl p.2)=false)->R .none F):
  wpAny (model X.prog X.w) A (Builtin.«list.sort» ⟨[.ref a],[]⟩) (λM F=>∃v,M=.done (.ret v)/\R v F) E s:=by
 obtain⟨W,U,c9,a4,Z,a1⟩:=c5;rw[list_sort_plain];have c7:a<s.heap.objs.size:=zL y;refine zA (listItems_at y rfl ?_);refine zA (listUpdate_at y rfl ?_ (by rw[zW];exact hz) (yB _));obtain⟨e1,a0⟩:∃e1,(s.heap.update a (Obj.mapSeq λ_=>(#[]:Array Value))).get? a=some (seqObj "list" #[] e1):=⟨_,get?_update_seq y (λ_=>#[])⟩;have b1:=wM s.heap a (Obj.mapSeq λ_=>(#[]:Array Value));have c4:Inv X pins σ H {s with heap:=s.heap.update a (Obj.mapSeq λ_=>(#[]:Array Value)),toks:=s.toks}:=I.turned (λb o j q=>(b1.2 b j).trans q) W U a4 Z a1;refine zA (seqEpoch_at a0 rfl ?_);refine zA (pJ ?_ hz);refine zA (wpAny_newList ?_ (yB _));refine yT ?_;have G:(((s.heap.update a (Obj.mapSeq λ_=>(#[]:Array Value))).push (seqObj "tuple" vs.toArray 0)).push (seqObj "list" #[] 0)).get? a=some (seqObj "list" #[] e1):=zC _ (zC _ a0);have C:Inv X pins σ H {s with heap:=((s.heap.update a (Obj.mapSeq λ_=>(#[]:Array Value))).push (seqObj "tuple" vs.toArray 0)).push (seqObj "list" #[] 0),toks:=s.toks}:=c4.kept λb o q=>zC _ (zC _ q);show wpAny (model X.prog X.w) A _ _ E {s with heap:=((s.heap.update a (Obj.mapSeq λ_=>(#[]:Array Value))).push (seqObj "tuple" vs.toArray 0)).push (seqObj "list" #[] 0),toks:=s.toks};generalize ((s.heap.update a (Obj.mapSeq λ_=>(#[]:Array Value))).push (seqObj "tuple" vs.toArray 0)).push (seqObj "list" #[] 0)=f at*
 dsimp only;have M:∀d:SortSt,(arrOf d).Perm (pairsOf vs)->Srt (fE f d0) (arrOf d).toList->R .none {s with heap:=f.update a (Obj.mapSeq λ_=>(arrOf d).map (·.2))}:=by
  intro d K so;have pl:(arrOf d).toList.Perm (vs.zip vs):=by rw[←pairsOf_toList];exact Array.perm_iff_toList_perm.mp K
  have T:∀e∈(arrOf d).toList,e.1=e.2:=λe T=>Cv (pl.mem_iff.mp T);have c3:vs.Perm ((arrOf d).toList.map (·.2)):=by
   have:=(pl.map (·.2)).symm;rw[List.map_snd_zip (zF _)]at this;exact this
  obtain⟨n,Y,a3⟩:=Paired.perm c3 w;have b6:∀p v,TV X.K H d0 p v->(fE f d0).keyOf v=some (fl p.2):=λp v i=>by
   obtain⟨as,r⟩:=i.d.reads C i.r;exact Hr i.t i.z r
  have b0:=ord_of (κ:=fE f d0) (k:=λp:V×PyData=>fl p.2) b6 _ n T so a3;have b9:((arrOf d).map (·.2)).toList=(arrOf d).toList.map (·.2):=Array.toList_map ..;generalize (arrOf d).map (·.2)=out at*
  have J:=wM f a (Obj.mapSeq λ_=>out);obtain⟨P,S⟩:∃P,(f.update a (Obj.mapSeq λ_=>out)).get? a=some (seqObj "list" (out) P):=⟨_,get?_update_seq G λ_=>out⟩;generalize f.update a (Obj.mapSeq λ_=>out)=b3 at*
  refine h n (upd H a (.lst (n.map (·.1)))) _ ?_ ?_ oP Y b0
  ·have D:∀b u,H b=some u->b≠a:=λb u e z=>by rw[z,W]at e;cases e
   refine Inv.step (s:={s with heap:=f,toks:=s.toks}) (h':=b3) (H':=upd H a (.lst (n.map (·.1)))) (I:=C) (g':=s.gens) (d':=s.drawn) (t':=s.toks) (ch:=[a]) (λb j=>?_) (λb o _ _ g e _=>(J.2 b (λz=>g (by simp[z]))).trans e) (λb o _ _ g e _=>⟨o.slots,(J.2 b (λz=>g (by simp[z]))).trans e⟩)
    (λb o g e q=>by rw[oR (λz=>g (by simp[z]))];exact q) (λb o g e=>⟨o,(J.2 b (λz=>g (by simp[z]))).trans e⟩) (λb xs e=>by rw[oR (D _ _ e)];exact e) (λb o u e=>by rw[oR (D _ _ e)];exact e)
    (λb ps e=>⟨#[],by rw[oR (D _ _ e),e];simp⟩) (λm N=>?_) (λb u e=>?_) C.bare
   ·have e:b=a:=by simpa using j
    subst e;exact⟨a4,U,Z,a1⟩
   ·obtain⟨o,es,ep,y,r⟩:=N;exact⟨o,es,ep,(J.2 _ (yF U)).trans y,r⟩
   ·by_cases j:b=a
    ·subst j;rw[oP]at e;cases e;refine⟨?_,(arrOf d).toList.map (·.2),P,TV.vals a3,by rw[S,←b9]⟩;rw[yO,Y.length_eq,mG w];exact hz
    ·rw[oR j]at e;refine(C.hok b u e).stay (λc v g q=>(J.2 c ?_).trans q) (λc q=>by rw[oR (D _ _ q)];exact q) λc xs q=>by rw[oR (D _ _ q)];exact q
     rcases g with z|z
     ·rw[z];exact j
     ·exact D c _ z
  ·intro b u q;rw[oR (λz=>by rw[z,W]at q;cases q)];exact q
 have hsz:vs.toArray.size=vs.length:=by simp
 by_cases t:vs.toArray.size<2
 ·rw[zE t,zE t];refine zA (zB ?_);rw[StateT.run_pure];refine zA (zB ?_);dsimp only;refine zA (seqEpoch_at G rfl ?_);refine zA (listUpdate_at G rfl ?_ (yB _) (by rw[Array.size_map];show(pairsOf vs).size<=_;rw[pairsOf_size];omega));simp only[bne_self_eq_false,Bool.false_eq_true,if_false];refine zB ⟨_,rfl,M (SortSt.mk' general' (vs.toArray.zip vs.toArray) #[] 7 none) (Array.Perm.refl _) ?_⟩;show Srt _ (pairsOf vs).toList;rw[pairsOf_toList]
  match vs,hsz,t with
  |[],_,_=>exact .nil
  |[_],_,_=>exact .cons (λ_ h=>nomatch h) .nil
  |_:: _:: _,_,t=>simp at t;omega
 ·rw [zD t,zD t];have a8:∀{ps:List (V×PyData)}{vs:LW},Paired (TV X.K H d0) ps vs->∃fs,PySem.W.KatTups f vs fs/\fs.length=vs.length/\∀v∈fs,∃b o,v=.ref b/\f.get? b=some o/\o.cls=.type "tuple" := by
   intro ps vs w
   induction w with
   |nil=>exact⟨[],PySem.W.KatTups.nil,rfl,λ_ h=>nomatch h⟩
   | @cons p v ps vs i _ a5 =>
    obtain⟨fs,k,l,a7⟩:=a5;obtain⟨as,r⟩:=i.d.reads C i.r;have z:=i.z;rw[a2]at z;generalize p.2=dd at*
    cases r <;> simp only[sm,Bool.false_eq_true]at z
    case tuple b o us m xs hg g hd hr =>
     cases xs with
     |nil=>simp[smA]at z
     | cons x xs =>
      simp only[smA,Bool.and_eq_true]at z;cases hr0:us.toList with
      |nil=>rw[hr0]at hr;cases hr
      | cons u c8 =>
       rw[hr0]at hr;cases hr with
       | cons r1 r2 =>
        have b8:=z.1;cases r1 <;> simp only[sm,Bool.false_eq_true]at b8
        case tuple b2 o2 us2 m2 xs2 hg2 S hd2 hr2 =>
         refine⟨.ref b2:: fs,PySem.W.KatTups.cons hg g hd ?_ k,by simp[l],λv L=>?_⟩
         ·rw[←yM,hr0];rfl
         ·rcases xC.mp L with e|L
          ·exact⟨b2,o2,e,hg2,S⟩
          ·exact a7 v L
  obtain⟨fs,a9,c6,b5⟩:=a8 w;refine zA (PySem.W.kat_kind (s:={s with heap:=f,toks:=s.toks}) (T:=.type "tuple") a9 ⋯ (λv L=>?_) rfl ?_)
  ·obtain⟨b,o,rfl,j,g⟩:=b5 v L;exactλA Q E s k q=>uH (T:= "tuple") ⟨o,k _ _ j,g⟩ q
  have c1:(Value.type "tuple" != Value.type "tuple")=false:=∅
  rw[c1];refine zA (yQ (a6 (κ:=fE f d0) (kd:=tuples' false) (a₀:=pairsOf vs) (st:=SortSt.mk' (tuples' false) (vs.toArray.zip vs.toArray) #[] 7 none)
   (Q:=λ_ d=>(arrOf d).Perm (pairsOf vs)/\failedOf d=none/\Up (fE f d0) (arrOf d) 0 (pairsOf vs).size) (pairsOf_size _) ⋯ (cmpT (s:={s with heap:=f,toks:=s.toks}) c0 ⟨_,a2⟩) (λx O=>?_) rfl rfl rfl rfl λd _ b7 b4 c2=>⟨b4,b7,c2⟩) ?_ λ_ _ e=>e)
  ·rw[pairsOf_toList]at O;have e:=Cv O;have N:x.2∈vs:=(rE (a:=x.1) (b:=x.2) O).2;obtain⟨p,_,i⟩:=Cu w x.2 N;obtain⟨as,r⟩:=i.d.reads C i.r;exact⟨fl p.2,by rw[e];exact Hr i.t i.z r⟩
  rintro⟨⟨⟩,d⟩ F ⟨rfl,K,hf,up⟩;dsimp only;refine zA (seqEpoch_at G rfl ?_);refine zA (listUpdate_at G rfl ?_ (yB _) (by refine yC (sT ((Array.size_map ..).trans (K.size_eq.trans (pairsOf_size _)))) ?_;omega));rw[hf];simp only[bne_self_eq_false,Bool.false_eq_true,if_false];refine zB ⟨_,rfl,M d K ?_⟩;have:=Bd up
  rwa[Re (by rw[zK];exact K.size_eq)]at this
end
abbrev Asc(ps:List (V×PyData)):Prop:=ps.Pairwise λp q=>lx (fl q.2) (fl p.2)=false
section
variable {X:Cx} {pins:PN} {σ:St} {H:Hp} {s:Shared} {d0:PyData} {l0 l1:List PyData}
theorem Ra{N:Nat}(k:∀n,n<=N->dE X.prog X.w n)(x:X.A.units+64<cLine){ps:List (V×PyData)}{its:LW}{v:Value}{Q:VK}(hz:its.length<=sizeLine)(w:its.length<=N)(r:d0=.tuple (.tuple l1:: l0))(u:Paired (TV X.K H d0) ps its)
  (t:∀(g:LW->Shared->Prop)(m:VP),(∀a,Inv X pins σ H a->g its a)->wpAny (model X.prog X.w) X.A.in1 (collect v) g m s)
  (h:∀q(c:List (V×PyData)) H',Same H H'->H q=none->H' q=some (.lst (c.map (·.1)))->c.Perm ps->Asc c->Q (.ref q) H'):
  wpAny (model X.prog X.w) X.A (call (.builtin "sorted") [v]) (EP X pins σ Q) X.xe s:=by
 refine Calls.call_function_entry kind_sorted plain_sorted entry_sorted (args_sorted1 _) ?_;unfold Builtin.«sorted»;refine zA (m:=checkCount "sorted" 1 1 _) (zB ?_);refine zA (t _ _ λa I=>?_);refine zA (wpAny_newList ?_ hz);have f:(a.heap.push (seqObj "list" its.toArray 0)).get? a.heap.objs.size=some (seqObj "list" its.toArray 0):=zP _ rfl;have d:H a.heap.objs.size=none:=I.hok.fresh (zF _);have i:=I.fpOk (zF _) d;have l:Inv X pins σ H {a with heap:=a.heap.push (seqObj "list" its.toArray 0),toks:=a.toks}:=I.kept λb o q=>zC _ q;refine zA (yT (xS slot_list_sort ⟨_,f,rfl⟩ entry_list_sort ?body (args_list_sort _)));show wpAny (model X.prog X.w) X.A.in1.in1 (Builtin.«list.sort» ⟨[.ref a.heap.objs.size],[]⟩) _ _ {a with heap:=a.heap.push (seqObj "list" its.toArray 0),toks:=a.toks};refine Rb (k _ w) (A:=X.A.in1.in1) (by show X.A.units+1+1+16<cLine;omega) l i f hz r u λc H' y j sm e p o=>?_;exact zB ⟨_,rfl,.ref a.heap.objs.size,H',j,rfl,h _ c H' sm d e p o⟩
end
def RawD(h:Heap)(d:Addr)(es:Array DictEntry)(ep:Nat):Prop:=∃o,h.get? d=some o/\o.ExactDict/\o.data=.dict es ep
theorem RawD.at{h h':Heap}{d:Addr}{es:Array DictEntry}{ep:Nat}(x:RawD h d es ep)(e:∀o,h.get? d=some o->h'.get? d=some o):RawD h' d es ep:=let ⟨o,a,r⟩:=x;⟨o,e _ a,r⟩
section
variable {prog:Program} {w:World} {A:Around} {E:VP} {s:Shared} {d it:Addr} {es:Array DictEntry} {ep i:Nat}
theorem RawD.typeIs(x:RawD s.heap d es ep):s.TypeIs (.ref d) "dict" := let ⟨o,b,a,_⟩:=x;⟨o,b,a.1⟩
theorem Sz{Q:VP}(f:(d == sysModules)=false)(b:RawD s.heap d es ep)
  (g:Q (.ref s.heap.objs.size) {s with heap:=s.heap.push {cls:=.type "dict_keyiterator",data:=.fields #[.ref d,.int 0 0,.int es.size 0,.int ep 0]}}):wpAny (model prog w) A (pyIter (.ref d)) Q E s:=by
 obtain⟨o,e,j,c⟩:=id b;have a:=b.typeIs;refine wpAny_pyIter_slot a PySem.F.slot_dict_iter (xS PySem.F.slot_dict_iter a PySem.F.entry_dict_iter ?_ (PySem.F.args_dict_iter_1 _));unfold Builtin.«dict.__iter__»;refine zA ?_;unfold Builtin.Dict.dictSlotNone;refine zA (wpAny_notOrdered_dict a ?_);show wpAny _ _ (pure (Value.ref d)) _ _ s;refine zB ?_;show wpAny _ _ (Builtin.Dict.showsAll d >>= _) _ _ s;unfold Builtin.Dict.showsAll;rw[zD (by rw[f];exact yH)];refine zA (zB ?_);refine zA (uV e c ?_);refine zA (qX e c ?_);exact zA (xG (zB ⟨_,rfl,"dict_keyiterator",_,⟨_,zP _ rfl,rfl⟩,PySem.F.slot_dict_keyiterator_next.lookup,g⟩))
theorem Sy{Q:Option Value->Shared->Prop}(a:s.heap.IsKeyIter it d i es.size ep)(k:RawD s.heap d es ep)(hi:i<es.size)
  (l:∀h',h'.IsKeyIter it d (i+1) es.size ep->Heap.SameBut it s.heap h'->Q (some es[i].key) {s with heap:=h'}):wpAny (model prog w) A (pyNext (.ref it)) Q E s:=by
 obtain⟨o,c,j,b⟩:=id a;obtain⟨n,e,p,f⟩:=id k;unfold pyNext;refine zA (vN (wB (name:=Str.ofString "__next__") a.typeIs wK
  (xS wK a.typeIs PySem.F.entry_dict_keyiterator_next ?_ (PySem.F.args_dict_keyiterator_next_1 _))))
 refine zA (zB ?_);refine zA ?_;refine zA ?_
 first|refine zA (wZ a.typeIs (zB ?_))|refine zA (uD a.typeIs (zB ?_))
 refine zA (wpAny_fieldsOf c b ?_);have m:Builtin.Dict_items.ownsTuple "dict_keyiterator"=false:=∅
 simp only[m,Bool.false_eq_true,if_false];show wpAny _ _ (if(Value.ref d == Value.none)=true then _ else _) _ _ s;rw[zD (show¬ ((Value.ref d == Value.none)=true) from yH)];refine zA (zB ?_);refine zA (uV e f ?_);rw[zD (by simp)];refine zA (zB ?_);refine zA (qX e f ?_);rw[zD (by simp)];refine zB ?_;simp only[show¬ ((i:Int)<0) from⋯,if_false,Int.toNat_natCast,Array.getElem?_eq_getElem hi];refine zA ?_
 first|refine zA (wZ a.typeIs (zB ?_))|refine zA (uD a.typeIs (zB ?_))
 refine zA (wpAny_isOneOf_keyiter a.typeIs ?_);show wpAny _ _ (setField (.ref it) 1 (rawInt ((i:Int)+1)) >>= _) _ _ s;refine zA (tS c b (by simp) ?_);have g:(s.heap.update it (Obj.mapFields (·.setIfInBounds 1 (rawInt ((i:Int)+1))))).IsKeyIter it d (i+1) es.size ep:=
  ⟨_,wA _ c (Obj.isFreed_of_fields (tP b _)),(Obj.cls_mapFields ..).trans j,by rw[tP b];simp[rawInt]⟩
 refine zA (yT ?_);refine zA (wpAny_isOneOf_keyiter (s:={s with heap:=s.heap.update it (Obj.mapFields (·.setIfInBounds 1 (rawInt ((i:Int)+1))))}) g.typeIs ?_);show wpAny _ _ (pure es[i].key) _ _ _;exact zB (zB ⟨_,rfl,zB (l _ g (wM ..))⟩)
theorem Sx{Q:Option Value->Shared->Prop}(hh:A.handled=none)(a:s.heap.IsKeyIter it d es.size es.size ep)(g:RawD s.heap d es ep)
  (j:∀h',Heap.ExtBut it s.heap h'->Q none {s with heap:=h'}):wpAny (model prog w) A (pyNext (.ref it)) Q E s:=by
 obtain⟨o,f,l,e⟩:=id a;obtain⟨m,b,n,c⟩:=id g;unfold pyNext;refine zA (vN (wB (name:=Str.ofString "__next__") a.typeIs wK
  (xS wK a.typeIs PySem.F.entry_dict_keyiterator_next ?_ (PySem.F.args_dict_keyiterator_next_1 _))))
 refine zA (zB ?_);refine zA ?_;refine zA ?_
 first|refine zA (wZ a.typeIs (zB ?_))|refine zA (uD a.typeIs (zB ?_))
 refine zA (wpAny_fieldsOf f e ?_);have k:Builtin.Dict_items.ownsTuple "dict_keyiterator"=false:=∅
 simp only[k,Bool.false_eq_true,if_false];show wpAny _ _ (if(Value.ref d == Value.none)=true then _ else _) _ _ s;rw[zD (show¬ ((Value.ref d == Value.none)=true) from yH)];refine zA (zB ?_);refine zA (uV b c ?_);rw[zD (by simp)];refine zA (zB ?_);refine zA (qX b c ?_);rw[zD (by simp)];refine zB ?_;simp only[show¬ ((es.size:Int)<0) from⋯,if_false,Int.toNat_natCast,Array.getElem?_eq_none (Nat.le_refl _)];refine zA ?_
 first|refine zA (wZ a.typeIs (zB ?_))|refine zA (uD a.typeIs (zB ?_))
 show wpAny _ _ (setField (.ref it) 0 .none >>= _) _ _ s;refine zA (tS f e (by simp) ?_);show wpAny _ _ (newExc (.type "StopIteration") [] >>= _) _ _ _;refine zA ?_;simp only[newExc,newTuple];refine zA (xG ?_ (by size_fits));refine zA (m:=firstArgMember _ _) (wpAny_of_eq (a:=Value.none) (by first|rfl|(simp only[firstArgMember];rfl)) ?_);refine xG ?_ (by size_fits);simp only[raiseNew];refine zA (wpAny_handled ?_);rw[show A.in1.handled=none from hh];refine zA (zB (wpAny_throw ?_));refine zA (uB (T:= "StopIteration") (b:=true) ⟨_,zP _ rfl,rfl⟩ pI ?_);exact zB (j _ (((wM ..).extBut.push _).push _))
theorem Sw(hh:A.handled=none)(I d:Addr)(l:d≠I)(es:Array DictEntry)(ep:Nat):
  Walks prog w A I [I,d] [I] es.size (λi v=>(es[i]?).map (·.key)=some v) (λi h=>h.IsKeyIter I d i es.size ep/\RawD h d es ep) where
 sub:=λb a=>by simp at a;simp[a]
 frame:=λ_ _ _ st g=>⟨st.1.at λo e=>g I (by simp) o e,st.2.at λo e=>g d (by simp) o e⟩
 item:=λi s Q E hi st c=>by
  refine Sy st.1 st.2 hi λh' k f=>?_;exact c _ h' s.toks (by simp[hi]) ⟨k,st.2.at λo e=>(f.2 d l).trans e⟩ λb o a e=>(f.2 b (λh=>a (by simp[h]))).trans e
 done:=λs Q E st c=>Sx hh st.1 st.2 λh' j=>c h' s.toks λb o a e=>j b o (λh=>a (by simp[h])) e
 self:=λ_ _ _ _ st c=>wpAny_pyIter_keyiter st.1 c
theorem Sv:typeLookup (.type "dict") "__len__"=pure (some (.builtin "dict.__len__")):=PySem.F.slot_dict_len.lookup
theorem Su{Q:LW->Shared->Prop}(hh:A.handled=none)(O:(d == sysModules)=false)(c:RawD s.heap d es ep)(hz:es.size<=sizeLine)
  (h:∀h' tk,(∀b o,s.heap.get? b=some o->h'.get? b=some o)->Q (es.toList.map (·.key)) {s with heap:=h',toks:=tk}):wpAny (model prog w) A (collect (.ref d)) Q E s:=by
 obtain⟨o,T,V,X⟩:=id c;have u:@LT.lt Nat _ d s.heap.objs.size:=zL T;unfold collect;refine zA (wpAny_runValue (tM PySem.F.entry_proto_collect ?_));rw[tG PySem.F.plain_proto_collect _];show wpAny _ A.in1 (newList [] >>= λl=>again (.builtin "list.__iadd__" ⟨[l,.ref d],[]⟩)) _ _ s;refine zA (xG ?_);refine zB ⟨qE PySem.F.plain_list_iadd _,tM PySem.F.entry_list_iadd ?_⟩;rw[tG PySem.F.plain_list_iadd _];have J:(s.heap.push {cls:=.type "list",data:=.seq ([]:LW).toArray}).get? s.heap.objs.size=some {cls:=.type "list",data:=.seq ([]:LW).toArray}:=zP _ rfl;have q:RawD (s.heap.push {cls:=.type "list",data:=.seq ([]:LW).toArray}) d es ep:=c.at λo e=>zC _ e;have k1:∀b o,s.heap.get? b=some o->(s.heap.push {cls:=.type "list",data:=.seq ([]:LW).toArray}).get? b=some o:=λb o e=>zC _ e;have t:(s.heap.push {cls:=.type "list",data:=.seq ([]:LW).toArray}).objs.size=s.heap.objs.size+1:=size_push' _ _;show wpAny _ A.in1 (Builtin.List.listExtendWith (.ref s.heap.objs.size) (.ref d) (.ref s.heap.objs.size)) _ _ {s with heap:=s.heap.push {cls:=.type "list",data:=.seq ([]:LW).toArray}};generalize s.heap.push {cls:=.type "list",data:=.seq ([]:LW).toArray}=a at*
 unfold Builtin.List.listExtendWith;refine zA (uH (s:={s with heap:=a}) (T:= "dict") (RawD.typeIs (s:={s with heap:=a}) q) ?_);have e1:Builtin.List.listSameRef (.ref s.heap.objs.size) (.ref d)=false:=by simp only[Builtin.List.listSameRef,beq_eq_false_iff_ne];exact yF (zZ u)
 rw[zD (by rw[e1];decide)];refine zA (Sz (s:={s with heap:=a}) O q ?_);have p:RawD (a.push {cls:=.type "dict_keyiterator",data:=.fields #[.ref d,.int 0 0,.int es.size 0,.int ep 0]}) d es ep:=q.at λo e=>zC _ e;have I:(a.push {cls:=.type "dict_keyiterator",data:=.fields #[.ref d,.int 0 0,.int es.size 0,.int ep 0]}).IsKeyIter a.objs.size d 0 es.size ep:=⟨_,zP _ rfl,rfl,rfl⟩;have C:(a.push {cls:=.type "dict_keyiterator",data:=.fields #[.ref d,.int 0 0,.int es.size 0,.int ep 0]}).get? s.heap.objs.size=_:=zC _ J;have k2:∀b o,a.get? b=some o->(a.push {cls:=.type "dict_keyiterator",data:=.fields #[.ref d,.int 0 0,.int es.size 0,.int ep 0]}).get? b=some o:=λb o e=>zC _ e;generalize a.push {cls:=.type "dict_keyiterator",data:=.fields #[.ref d,.int 0 0,.int es.size 0,.int ep 0]}=f at*
 refine zA (yT ?_);unfold Builtin.List.listLengthHint;refine zA (wpAny_specialOf (s:={s with heap:=f}) (RawD.typeIs (s:={s with heap:=f}) p) Sv ?_);generalize hid:("dict.__len__" :String)=G
 (fail_if_success (clear hid G))
 wp_delta
 rw[show splitId G=some ("dict","__len__") from by subst hid;decide +kernel];subst hid;refine zA (uB (b:=true) (RawD.typeIs (s:={s with heap:=f}) p) (by rw[isSubtype_type];kernel_rfl) ?_);refine zA (uH (s:={s with heap:=f}) (T:= "dict") (RawD.typeIs (s:={s with heap:=f}) p) ?_);refine zB ?_;rw[zE ∅];refine zA (wR ?_);refine zA ?_;show wpAny _ A.in1 (updateSeq s.heap.objs.size (·.push .none) >>= λ_=>updateSeq s.heap.objs.size (·.pop)) _ _ _;refine zA (wpAny_updateSeq C rfl ?_);have y:=wA (Obj.mapSeq (·.push Value.none)) C rfl;refine wpAny_updateSeq y rfl ?_;have K:=wA (Obj.mapSeq (·.pop)) y rfl;have P:d≠a.objs.size:=zZ (by rw[t];exact qM u);have F:s.heap.objs.size≠a.objs.size:=by rw[t];exact zZ (vE _)
 have x:s.heap.objs.size≠d:=yF (zZ u);have r:∀b o,b≠s.heap.objs.size->f.get? b=some o->((f.update s.heap.objs.size (Obj.mapSeq (·.push Value.none))).update s.heap.objs.size (Obj.mapSeq (·.pop))).get? b=some o:=
  λb o m e=>(vI _ _ (yF m)).trans ((vI _ _ (yF m)).trans e)
 have L:=(Sw (prog:=prog) (w:=w) (A:=A.in1) hh a.objs.size d P es ep).toS;refine zB ⟨qE PySem.F.plain_extend_loop _,codeAny_extend_loopS L hz s.heap.objs.size (λc=>by rcases xC.mp c with z|z;exact F z;exact x (rX.mp z)) _ es.size 0 _ _ _ rfl (yB _)
  ⟨I.at λo e=>r _ _ (yF F) e,p.at λo e=>r _ _ (yF x) e⟩ K (ItemsOf.nil _) λk n W c M D=>?_⟩
 show wpAny _ A (load s.heap.objs.size >>= _) _ _ k;refine zA (wpAny_load M ?_);have S:n.toList=es.toList.map (·.key):=by
  refine List.ext_getElem? ?_
  intro j;rw[zM,yM,yM];cases hj:n[j]? with
  |some v=>exact(D.2 j v hj).symm
  |none =>
   have:n.size<=j:=Array.getElem?_eq_none_iff.mp hj;rw[Array.getElem?_eq_none (by rw[←D.1];exact this)];rfl
 show wpAny _ _ (pure n.toList) Q E k;rw[S];have N:k={s with heap:=k.heap,toks:=k.toks}:=by
  obtain⟨_,g,U,R,_⟩:=c;cases k;cases g;cases U;cases R;rfl
 rw[N];refine zB (h _ _ λb o e=>c.heap b o ?_ (r b o ?_ (k2 _ _ (k1 _ _ e))))
 ·have m:@LT.lt Nat _ b s.heap.objs.size:=zL e;intro c;rcases xC.mp c with z|z
  ·exact absurd z (zZ m)
  ·rw[rX.mp z,t]at m;exact absurd m (Nat.not_lt.mpr (uR _))
 ·exact zZ (zL e)
end
def Ss(K:Frag)(N:Nat):List V->Hp->VK->Prop:=λxs H Q=>∃(a:Addr)(kvs:List (PyData×V))(l0 l1:List PyData),xs=[.ref a]/\kvs.length<=N/\DTr K H a kvs/\(∀kv∈kvs,sm (.tuple (.tuple l1:: l0)) kv.1=true) /\
 ∀q(ps':List (V×PyData)) H',Same H H'->H q=none->H' q=some (.lst (ps'.map (·.1)))->(∀p∈ps',tT 4 p.2=true/\Dt K H p.1 p.2)->(ps'.map (·.2)).Perm (kvs.map (·.1))->Asc ps'->Q (.ref q) H'
section
variable {X:Cx}
theorem Sr{N:Nat}(J:∀n,n<=N->dE X.prog X.w n)(a1:X.A.units+64<cLine)(G:X.calm=true):mJ X (.builtin "sorted") (Ss X.K N):=by
 intro a7 s a9 H xs us Q I r h;obtain⟨a,kvs,d,l1,rfl,b3,g,c,q⟩:=h;obtain⟨u,rfl,a0⟩:=kC r;cases a0;obtain⟨xs,e,f,dd⟩:=iC I g;obtain⟨o,es,ep,L,Y,M,w,_⟩:=id dd;have b0:=g.len;have P:RawD s.heap a es ep:=⟨o,L,Y,M⟩;have T:es.toList.map (·.key)=xs.map λx=>Value.ref x.2.1:=by rw[w,xO];rfl
 have S:∀{kvs:List (PyData×V)}{xs:List (PyData×Addr×Value)},KP X.K H kvs xs->(∀i∈kvs,sm (.tuple (.tuple l1:: d)) i.1=true)->Paired (TV X.K H (.tuple (.tuple l1:: d))) (xs.map λx=>(V.ref x.2.1,x.1)) (xs.map λx=>Value.ref x.2.1)/\(xs.map (·.1))=kvs.map (·.1):=by
  intro kvs xs f
  induction f with
  |nil=>intro _;exact⟨.nil,rfl⟩
  |@cons p q ps a8 b a5 C =>
   intro c;obtain⟨W,K⟩:=C λi R=>c i (.tail _ R);have z:=c p (.head _);rw[b.1]at z;have y:=b.2.1.1;have l:=b.2.1.2;rw[b.1]at y l;refine⟨.cons ⟨rfl,y,z,l⟩ W,?_⟩;rw[zI,zI,K,b.1]
 obtain⟨j,m⟩:=S f c;have b1:xs.length=kvs.length:=by have:=wY List.length m;simpa using this
 have le:es.size=xs.length:=by have:=wY List.length w;simpa using this
 refine Ra J a1 (d0:=.tuple (.tuple l1:: d)) (its:=xs.map λx=>Value.ref x.2.1) (ps:=xs.map λx=>(V.ref x.2.1,x.1)) (by rw[yO];omega) (by rw[yO];omega) rfl j (λb2 a6 U=>?_) λO D H' a3 a4 a2 k as=>?_
 ·refine Su (I.ok.hd G) g.sys P ⋯ λh' tk F=>?_;rw[T];exact U _ (I.kept (t':=tk) F)
 ·refine q O D H' a3 a4 a2 (λp Z=>?_) ?_ as
  ·obtain⟨v,_,t⟩:=Paired.mem j p (k.mem_iff.mp Z);exact⟨t.t,t.d⟩
  ·have:=k.map (·.2);rw[xO]at this;rw[←m];exact this
end
open Sem (wp)
theorem So:typeLookup (.type "list") (Str.ofString "keys")=pure none:=am_miss_of_fast (by kernel_rfl)
theorem Sn:typeLookup (.type "list") "__getattr__"=pure none:=by rw[typeLookup_type,builtinLookup_eq_fast];kernel_rfl
section
variable {prog:Program} {w:World} {A:Around} {E:VP} {h:Heap} {g:Array GenState} {d:Drawn} {t:Nat} {os:OsState} {a:Addr} {o:Obj}
theorem Sl{tk:Tok}{Q:PySem.Fin->Shared->Prop}(hh:A.handled=none)(c:h.get? a=some o)(b:o.cls=.type "list")(j:o.dict=none){xs:Array Value}{n:Nat}(f:o.data=.seq xs n)(i:∀h' tk e,Heap.NewAttrErr h h' e (.ref a) (Str.ofString "keys")->E (.ref e) ⟨h',g,d,tk,os⟩):
  wpAny (model prog w) A (Builtin.«object.__getattribute__» ⟨[.ref a,.str (Str.ofString "keys") tk],[]⟩) Q E ⟨h,g,d,t,os⟩:=by
 have l:(⟨h,g,d,t,os⟩:Shared).TypeIs (.ref a) "list" := ⟨_,c,b⟩;have k:=So;unfold Builtin.«object.__getattribute__»
 repeat (any_goals (first|assumption|wp_step))
 rw[f];dsimp only;unfold instanceDict
 repeat (any_goals (first|assumption|wp_step))
 rw[b,j];dsimp only;simp only[Bool.not_false,Bool.true_or,if_true]
 repeat (any_goals (first|assumption|wp_step))
 exact wpAny_raiseAttrError hh i (attrMsg_fits (nofun) (by size_fits))
theorem Sk{Q:Option Value->Shared->Prop}(hh:A.handled=none)(c:h.get? a=some o)(f:o.cls=.type "list")(m:o.dict=none){xs:Array Value}{n:Nat}(k:o.data=.seq xs n)(l:∀h' tk,(∀b i,h.get? b=some i->h'.get? b=some i)->Q none ⟨h',g,d,tk,os⟩):
  wpAny (model prog w) A (getAttr? (.ref a) (Str.ofString "keys")) Q E ⟨h,g,d,t,os⟩:=by
 have j:∀t,(⟨h,g,d,t,os⟩:Shared).TypeIs (.ref a) "list" := λt=>⟨_,c,f⟩;have y:(⟨h,g,d,t+1,os⟩:Shared).TypeIs (.ref a) "list" := ⟨_,c,f⟩;have u:=sub_AttributeError;have q:=PySem.F.slot_list_getattribute.lookup;have v:=PySem.F.slot_list_getattribute.bind (.ref a);have r:=Sn;unfold getAttr? getAttrBy?;refine zA (wpAny_mkText ?_);refine zA (vN ?_);unfold getAttrBy
 repeat (any_goals (first|assumption|((with_reducible show wpAny _ _ (call (Value.builtin "list.__getattribute__") _ _) _ _ _);refine xS PySem.F.slot_list_getattribute (j _) PySem.F.entry_list_ga (Sl hh c f m k λh' z e c=>?_) (PySem.F.args_list_getattribute_2 _ _))|wp_step))
 obtain⟨t',p,x⟩:=c.there
 repeat (any_goals (first|assumption|wp_step))
 exact l _ _ c.keeps
end
theorem bT:plainId "dict.update.loop"=true:=nofun
theorem Ho:entryFor table "dict.update.loop"=some Builtin.«dict.update.loop»:=entryFor_of_fast (by kernel_rfl)
structure Ent where
 p:Addr
 k:PyData
 b:Addr
 v:Value
def Ent.ok(h:Heap)(t:Ent):Prop:=(∃o n,h.get? t.p=some o/\o.cls=.type "tuple" /\ o.data=.seq #[.ref t.b,t.v] n)/\isT h t.k t.b
theorem Ent.up{h h':Heap}{a:Ent}(x:a.ok h)(e:∀b o,h.get? b=some o->o.cls=.type "tuple" -> h'.get? b=some o):a.ok h':=by
 obtain⟨⟨o,n,g,d,i⟩,c,as,f⟩:=x;exact⟨⟨o,n,e _ _ g d,d,i⟩,c,as,Cy e 4 c f⟩
def putP(xs:List (PyData×Addr×Value))(t:Ent):List (PyData×Addr×Value):=storedH xs t.k t.b t.v
theorem Sj(xs:List (PyData×Addr×Value))(k:PyData)(b:Addr)(v:Value):(storedH xs k b v).length<=xs.length+1:=by
 unfold storedH;split <;> simp
section
variable {prog:Program} {w:World} {A:Around} {R:Result->Shared->Prop} {d it l:Addr} {items:Array Value}
theorem Hn(hh:A.handled=none)(b3:A.units+32<cLine)(p:d≠it)(S:d≠l)(N:l≠it):
  ∀(rest:List Ent)(i:Nat)(xs:List (PyData×Addr×Value))(s:Shared),(∀j,items[i+j]?=rest[j]?.map λa=>Value.ref a.p)->s.heap.IsListIter it l i->s.heap.IsList l items->s.heap.DictOfH (mO prog w) d xs->(∀a∈rest,a.ok s.heap)->xs.length+rest.length<=sizeLine ->
  (∀h' tk,(∀b o,b≠it->b≠d->s.heap.get? b=some o->h'.get? b=some o)->h'.DictOfH (mO prog w) d (rest.foldl putP xs)->R (.ok (.ret .none)) {s with heap:=h',toks:=tk}) ->
  codeAny (model prog w) A (.builtin "dict.update.loop" ⟨[.ref d,.ref it,.int i 0,.none],[]⟩) R s
 | [],i,xs,s,q,m,hl,J,_,_,y=>by
  refine tM Ho ?_;rw[tG bT _];show wpAny _ A.in1 (pyNext (.ref it) >>= _) _ _ s;refine zA (wpAny_pyNext_list_end (i:=i) hh m hl (by simpa using q 0) λh' F=>?_);show wpAny _ _ (Builtin.Dict.addKeywords d [] >>= _) _ _ _;refine zA (zB (zB ?_));obtain⟨o,es,ep,c,K⟩:=J;exact y h' s.toks (λb o a0 _ e=>F b o a0 e) ⟨o,es,ep,F d o p c,by
   obtain⟨f,D,C,G,I⟩:=K;refine⟨f,D,C,λx v=>?_,I⟩;obtain⟨a,as,r⟩:=G x v;refine⟨a,as,Cy (λb o e g=>F b o (λz=>?_) e) 4 a r⟩;obtain⟨a1,e1,X,_⟩:=m;rw[z,e1]at e;cases e;rw[X]at g;simp at g⟩
 | a:: rest,i,xs,s,q,m,hl,J,Z,hz,y=>by
  refine tM Ho ?_;rw[tG bT _];show wpAny _ A.in1 (pyNext (.ref it) >>= _) _ _ s;have a7:items[i]?=some (.ref a.p):=by simpa using q 0
  refine zA (wpAny_pyNext_list_item (i:=i) m hl a7 λc W t=>?_);obtain⟨a1,b4,b0,_⟩:=id m;have L:∀b o,s.heap.get? b=some o->o.cls=.type "tuple" -> c.get? b=some o:=λb o e g=>(t.2 b (λz=>by rw[z,b4]at e;cases e;rw[b0]at g;simp at g)).trans e;have P:c.DictOfH (mO prog w) d xs:=by
   obtain⟨o,es,ep,k,f,D,C,G,I⟩:=J;exact⟨o,es,ep,(t.2 d p).trans k,f,D,C,λx v=>let ⟨a,as,r⟩:=G x v;⟨a,as,Cy L 4 a r⟩,I⟩
  have a3:c.IsList l items:=by
   obtain⟨o,k,f⟩:=hl;exact⟨o,(t.2 l N).trans k,f⟩
  have O:∀t'∈a:: rest,t'.ok c:=λt' u=>Ent.up (Z t' u) L;obtain⟨⟨op,c1,M,a8,V⟩,b6⟩:=O a (.head _);refine zA (yT ?_);have a2:xs.length<=sizeLine:=by
   have:=hz;simp only[List.length_cons]at this;omega
  refine zA (wpAny_tryCatch ?_);unfold Builtin.Dict.pairItems;refine zA (uH (s:={s with heap:=c}) (T:= "tuple") ⟨op,M,a8⟩ ?_);rw[zE ∅];refine zA (wI (s:={s with heap:=c}) M V (zB ?_));show wpAny _ A.in1 (holding [.ref a.b,a.v] (dictSet d (.ref a.b) a.v)) _ _ _;refine yT ?_;refine wpAny_dictSet_heap (knd:=mO prog w) (s:={s with heap:=c}) (hsz:=a2) (show A.units+1+8<cLine by omega) b6 P λK a6 n=>?_;obtain⟨b8,b7,c0,U,T,b9,_⟩:=id P;have b5:∀b o,c.get? b=some o->o.cls=.type "tuple" -> K.get? b=some o:=λb o e g=>(n.2 b (λz=>by rw[z,U]at e;cases e;rw[T.1]at g;simp at g)).trans e;refine zB ⟨qE bT _,?_⟩;have a4:(rawInt ((i:Int)+1))=.int ((i+1:Nat):Int) 0:=rfl;rw[a4];refine Hn hh b3 p S N rest (i+1) (storedH xs a.k a.b a.v) _ (λj=>?_) ?_ ?_ a6 (λt' u=>Ent.up (O t' (.tail _ u)) b5) ?_ λY a5 k3 a9=>?_
  ·have:=q (j+1);rw[List.getElem?_cons_succ]at this;rw[←this];congr 1;omega
  ·obtain⟨o,k,f⟩:=W;exact⟨o,(n.2 it (yF p)).trans k,f⟩
  ·obtain⟨o,k,f⟩:=a3;exact⟨o,(n.2 l (yF S)).trans k,f⟩
  ·have:=Sj xs a.k a.b a.v;have:=hz;simp only[List.length_cons]at this;omega
  ·exact y Y a5 (λb o b1 b2 e=>k3 b o b1 b2 ((n.2 b b2).trans ((t.2 b b1).trans e))) a9
end
section
variable {prog:Program} {w:World} {A:Around} {E:VP} {s:Shared} {l:Addr}
theorem Si{Q:VP}{es:List Ent}{o:Obj}{n:Nat}(hh:A.handled=none)(V:A.units+48<cLine)(d:s.heap.get? l=some o)(f:o.cls=.type "list")(F:o.dict=none)(k:o.data=.seq (es.map λc=>Value.ref c.p).toArray n)(J:∀c∈es,c.ok s.heap)(hz:es.length<=sizeLine)
  (h:∀h' tk,(∀b o,s.heap.get? b=some o->h'.get? b=some o)->h'.DictOfH (mO prog w) s.heap.objs.size (es.foldl putP [])->Q (.ref s.heap.objs.size) {s with heap:=h',toks:=tk}):
  wpAny (model prog w) A (call (.type "dict") [.ref l]) Q E s:=by
 have v:@LT.lt Nat _ l s.heap.objs.size:=zL d;refine callType_codes (Q₁:=λC z=>C=.ref s.heap.objs.size/\z={s with heap:=s.heap.push {cls:=.type "dict",data:=.dict #[]}}) PySem.F.kt_called_dict (PySem.F.kt_typeCall_dict_1 _) PySem.F.entry_dict_init (kt_code_dict_new _ ⟨rfl,rfl⟩) ?_;rintro C z ⟨rfl,rfl⟩;have m:(s.heap.push {cls:=.type "dict",data:=.dict #[]}).DictOfH (mO prog w) s.heap.objs.size []:=Heap.DictOfH.new s.heap;have k1:∀b o,s.heap.get? b=some o->(s.heap.push {cls:=.type "dict",data:=.dict #[]}).get? b=some o:=λb o e=>zC _ e;have U:(s.heap.push {cls:=.type "dict",data:=.dict #[]}).objs.size=s.heap.objs.size+1:=size_push' _ _;generalize s.heap.push {cls:=.type "dict",data:=.dict #[]}=i at*
 have y:=Heap.DictOfH.typeIs (s:={s with heap:=i}) m;refine⟨y,PySem.F.args_dict_init_2 _ _,?_⟩;unfold Builtin.«dict.__init__»;refine zA ?_;unfold Builtin.Dict.selfAndRest;refine zA (wpAny_notOrdered_dict y ?_);show wpAny _ _ (pure (s.heap.objs.size,[Value.ref l])) _ _ _;refine zB ?_;show wpAny _ _ (Builtin.Dict.updateFrom "dict.__init__" s.heap.objs.size (.ref l) [] .none) _ _ {s with heap:=i};unfold Builtin.Dict.updateFrom;refine zA (uH (s:={s with heap:=i}) (T:= "list") ⟨o,k1 _ _ d,f⟩ ?_);rw[zE ∅];refine zA (Sk (A:=A.in1.in1) hh (k1 _ _ d) f F k λa q k2=>?_);rw[zE (by rfl)];refine zA (wR ?_);have I:a.IsList l (es.map λc=>Value.ref c.p).toArray:=⟨o,k2 _ _ (k1 _ _ d),f,n,k⟩;refine zA (tX (s:={s with heap:=a,toks:=q}) I ?_);have p:s.heap.objs.size+1<=a.objs.size:=by
  obtain⟨u,_,_,e,_⟩:=id m;exact(show @LT.lt Nat _ s.heap.objs.size a.objs.size from zL (k2 _ _ e))
 have k3:∀b o,a.get? b=some o->(a.push {cls:=.type "list_iterator",data:=.fields #[.ref l,.int 0 0]}).get? b=some o:=λb o e=>zC _ e;have T:(a.push {cls:=.type "list_iterator",data:=.fields #[.ref l,.int 0 0]}).IsListIter a.objs.size l 0:=⟨_,zP _ rfl,rfl,rfl⟩;show wpAny _ _ _ _ _ {s with heap:=a.push {cls:=.type "list_iterator",data:=.fields #[.ref l,.int 0 0]},toks:=q};generalize a.push {cls:=.type "list_iterator",data:=.fields #[.ref l,.int 0 0]}=G at*
 have g:∀b o,s.heap.get? b=some o->G.get? b=some o:=λb o e=>k3 _ _ (k2 _ _ (k1 _ _ e));refine zA (zB ?_);refine zB ⟨qE bT _,?_⟩;refine Hn (A:=A.in1) (items:=(es.map λc=>Value.ref c.p).toArray) hh (by show A.units+1+32<cLine;omega) (zZ (zJ (vE _) p)) (yF (zZ v)) (zZ (zJ (qM v) p)) es 0 [] _ (λj=>by simp) T
  ⟨o,g _ _ d,f,n,k⟩ ?_ (λc N=>Ent.up (J c N) λb o e _=>g b o e) (by simpa using hz) λR K M P=>?_
 ·obtain⟨u,O,ep,e,r⟩:=id m;obtain⟨r1,r2,D,_,S⟩:=r;exact⟨u,O,ep,k3 _ _ (k2 _ _ e),r1,r2,D,λx L=>(nomatch L),S⟩
 ·refine⟨rfl,h R K (λb o e=>?_) P⟩;have t:@LT.lt Nat _ b s.heap.objs.size:=zL e;exact M b o (zZ (zJ (qM t) p)) (zZ t) (g _ _ e)
end
def Sh(K:Frag):List V->Hp->VK->Prop:=λxs H Q=>∃(l:Addr)(ts:List (Addr×PyData×Addr×V)),xs=[.ref l]/\SqL K H l (ts.map λt=>V.ref t.1)/\(∀t∈ts,SqT K H t.1 [.ref t.2.2.1,t.2.2.2]/\tT 4 t.2.1=true/\Dt K H (.ref t.2.2.1) t.2.1)/\(ts.map (·.2.1)).Nodup /\
 ∀D H',Same H H'->H D=none->DTr K H' D (ts.map λt=>(t.2.1,t.2.2.2))->Q (.ref D) H'
theorem Sg{kvs:List (PyData×V)}{k:PyData}(h:k∉kvs.map (·.1)):vT kvs k=none:=by
 induction kvs with
 |nil=>rfl
 |cons p r a =>
  rw[zI,xC,not_or]at h;rw[gU (λe=>h.1 e.symm)];exact a h.2
section
variable {X:Cx}
theorem Sf(b0:X.A.units+64<cLine)(v:X.calm=true):mJ X (.type "dict") (Sh X.K):=by
 intro a6 s a7 H xs us Q I r h;obtain⟨l,ts,rfl,a1,b,a3,q⟩:=h;obtain⟨u,rfl,Z⟩:=kC r;cases Z;obtain⟨its,J,⟨o,a4,e,c,M,dd⟩,hz⟩:=I.list a1;have mk:∀(ts:List (Addr×PyData×Addr×V))(its:LW),Vals (ts.map λa=>V.ref a.1) its->(∀a∈ts,SqT X.K H a.1 [.ref a.2.2.1,a.2.2.2]/\tT 4 a.2.1=true/\Dt X.K H (.ref a.2.2.1) a.2.1) ->
   ∃es:List Ent,its=es.map (λa=>Value.ref a.p)/\Paired (λa(e:Ent)=>e.k=a.2.1/\e.b=a.2.2.1/\RelV a.2.2.2 e.v/\e.ok s.heap) ts es:=by
  intro ts
  induction ts with
  |nil=>intro its r _;cases r;exact⟨[],rfl,.nil⟩
  | cons a ts i =>
   intro its r b;cases r with
   | cons r1 r2 =>
    obtain⟨es,e1,g⟩:=i _ r2 λx m=>b x (.tail _ m);obtain⟨d,n,k⟩:=b a (.head _);obtain⟨b1,Y,⟨op,U,a2,W,L⟩,_⟩:=I.tuple d;cases Y with
    | cons y p =>
     cases p with
     |cons p S =>
      cases S;cases y;cases r1;rename_i v2;refine⟨⟨a.1,a.2.1,a.2.2.1,v2⟩:: es,by rw[zI,←e1],.cons ⟨rfl,rfl,p,⟨op,W,U,a2,L⟩,iB I n k⟩ g⟩
 obtain⟨es,e1,g⟩:=mk ts its J b;subst e1;have N:ts.length=es.length:=mG g;refine Si (es:=es) (I.ok.hd v) ⋯ e c M (by rw[dd]) (λa j=>?_) (by rw[←N];simpa using hz) λh' tk w D=>?_
 ·obtain⟨_,_,z⟩:=Cu g a j;exact z.2.2.2
 have G:∀(ts:List (Addr×PyData×Addr×V))(es:List Ent),Paired (λa(e:Ent)=>e.k=a.2.1/\e.b=a.2.2.1/\RelV a.2.2.2 e.v/\e.ok s.heap) ts es->(∀a∈ts,tT 4 a.2.1=true/\Dt X.K H (.ref a.2.2.1) a.2.1)->∀(kvs:List (PyData×V))(xs:List (PyData×Addr×Value)),KP X.K H kvs xs->(kvs.map (·.1)++ts.map (·.2.1)).Nodup->KP X.K H (kvs++ts.map λa=>(a.2.1,a.2.2.2)) (es.foldl putP xs):=by
  intro ts es O
  induction O with
  |nil=>intro _ kvs xs f _;rw[qO,xQ];exact f
  | @cons a e ts es R _ i =>
   intro b kvs xs f nd;obtain⟨d,n,k,_⟩:=R;have st:=f.put a.2.1 (b a (.head _)).1 (b a (.head _)).2 k;have K:a.2.1∉kvs.map (·.1):=λF=>by
    have:=(qF.mp nd).2.2 _ F a.2.1 (by simp);exact this rfl
   have ep:pT kvs a.2.1 a.2.2.2=kvs++[(a.2.1,a.2.2.2)]:=by
    unfold pT;rw[Sg K];rfl
   rw[ep,←d,←n]at st;have:=i (λx m=>b x (.tail _ m)) _ _ st (by rw[yV,yE];simpa [d]using nd);rw[yE]at this;rw[d]at this;show KP X.K H _ (List.foldl putP (storedH xs e.k e.b e.v) es);rw[d];exact this
 have f:=G ts es g (λa j=>(b a j).2) [] [] .nil (by simpa using a3);rw[List.nil_append]at f;obtain⟨a5,a9,a8,C,t,P,a0,_,T⟩:=D;have hf:H s.heap.objs.size=none:=I.hok.fresh (zF _);have sm:Same H (upd H s.heap.objs.size (nR s.heap.objs.size (es.foldl putP []))):=Same.new hf;refine⟨.ref s.heap.objs.size,_,I.laid (a:=s.heap.objs.size) (o:=nR s.heap.objs.size (es.foldl putP [])) (t':=tk) w (zF _) (eX C t P a0),rfl,?_⟩;refine q _ _ sm hf ⟨by rw[yO];simpa using hz,pW.mpr (yF (zZ (Bp I))),_,oP,T,f.keeps (mW sm)⟩
end
open Classical in
structure FunD(K:Frag)(x qual:Str)(st:Stmt)(f:Addr)(fd:FuncData)(ds:LW):Prop where
 ex:∃(oc:Value)(od:Option Addr)(T:Addr)(kV doc pm:Value)(an:Option Addr)(cdv ct:Value)(osl:Array (Option Value)),
  fd=PySem.W.fnOf x qual (kW st) (lR st) (oQ st) (.ref T) kV doc pm an cdv ct/\K.lookup f=some ⟨oc,od,.func fd,osl⟩/\PySem.W.codeIn K cdv qual=true/\∃(o2:Value)(d2:Option Addr)(n2:Nat)(s2:Array (Option Value)),K.lookup T=some ⟨o2,d2,.seq ds.toArray n2,s2⟩
 kp:PySem.W.keepIn K (.ref f)=true
section
variable {P:Program} {w:World} {K:Frag} {mg:MT} {base:Heap}
theorem FunD.ok{x b:Str}{st:Stmt}{f:Addr}{d:FuncData}{ds:LW}{N ps:List Str}{k:Nat}{c:Sp}(F:FunD K x b st f d ds)(g:nB N ps (oQ st))(len:∀vs H Q E,c vs H Q E->vs.length=ps.length)
  (j:∀(cdv:Value)(A:Around)(outer:List Env)(s:Shared)(H:Hp)(vs:List V)(Q:VK)(E:XK),Room k (A.deeper (envOfC b (oQ st) s.heap.objs.size f cdv))->c vs H Q E ->
   ∃a,PSs (cxOf CX0 P w K mg base N b (oQ st) f cdv A outer s H E).nox (lR st) a/\a {nx:=λ_ H'=>Q .non H',rt:=Q} (start N vs) H):FnOk P w K mg base CX0 (k+1) f d ps c:=by
 obtain⟨n,o,T,kV,r,t,m,cdv,p,u,rfl,e,l,_⟩:=F.ex;refine cP e l g len λA outer s H vs Q E hr i=>?_;obtain⟨a,h,q⟩:=j cdv A outer s H vs Q E hr i;exact⟨a,h.nox,q⟩
theorem FunD.binds{x g:Str}{st:Stmt}{f:Addr}{e:FuncData}{ps:List Str}{ds:LW}(F:FunD K x g st f e ds)
  (h:∀(T:Addr)(kV c d:Value)(a:Option Addr)(cdv b:Value)(us:LW),us.length+ds.length=ps.length->∃k,bindArgs (PySem.W.fnOf x g (kW st) (lR st) (oQ st) (.ref T) kV c d a cdv b) ⟨us,[]⟩=seqItems? (.ref T) >>= k/\k (some ds.toArray)=pure (ps.zip (us++ds))):mF K e ps ds:=by
 obtain⟨m,n,T,kV,c,d,a,cdv,b,r,rfl,o,u,q,l,t,p,lt⟩:=F.ex;intro s us i hl;obtain⟨k,e1,j⟩:=h T kV c d a cdv b us (by simpa using hl);exact BindsTo.of_defaults (T:=T) rfl (i _ _ lt) rfl e1 j
theorem FunD.bindsA{x g:Str}{st:Stmt}{f:Addr}{e:FuncData}{ps:List Str}{ds:LW}(F:FunD K x g st f e ds)
  (h:∀(T:Addr)(kV c d:Value)(a:Option Addr)(cdv b:Value)(us:LW),us.length=ps.length->∃k,bindArgs (PySem.W.fnOf x g (kW st) (lR st) (oQ st) (.ref T) kV c d a cdv b) ⟨us,[]⟩=seqItems? (.ref T) >>= k/\k (some ds.toArray)=pure (ps.zip us)):mF K e ps []:=by
 obtain⟨m,n,T,kV,c,d,a,cdv,b,r,rfl,o,u,q,l,t,p,lt⟩:=F.ex;intro s us i hl;rw[xQ]at hl ⊢;obtain⟨k,e1,j⟩:=h T kV c d a cdv b us hl;exact BindsTo.of_defaults (T:=T) rfl (i _ _ lt) rfl e1 j
theorem Se{x a:Str}{st:Stmt}{f T:Addr}{j o:Value}{m i b:Option Addr}{p n:Array (Option Value)}{kV e g cdv d:Value}{ds:LW}{q:Nat}(l:K.lookup f=some ⟨j,m,.func (PySem.W.fnOf x a (kW st) (lR st) (oQ st) (.ref T) kV e g b cdv d),p⟩)
  (c:PySem.W.codeIn K cdv a=true)(k:PySem.W.keepIn K (.ref f)=true)(l2:K.lookup T=some ⟨o,i,.seq ds.toArray q,n⟩):FunD K x a st f (PySem.W.fnOf x a (kW st) (lR st) (oQ st) (.ref T) kV e g b cdv d) ds:=⟨⟨j,m,T,kV,e,g,b,cdv,d,p,rfl,l,c,o,i,q,n,l2⟩,k⟩
end
end L2
namespace PySem
section
variable {prog:Program} {w:World} {A:Around} {E:VP} {h:Heap} {g:Array GenState} {d:Drawn} {t:Nat} {os:OsState}
variable {nm q:Str} {C N:Addr} {bs bm bmB:LW} {hdct:Bool} {sn:List Str} {sub:LW} {ab:Bool} {col:Option Bool} {dd:Option Addr} {k0 k1 k2 k3 k5:Option Value} {B newId initId:String}
abbrev xTup(us:LW):Obj:={cls:=.type "tuple",data:=.seq us.toArray}
abbrev xExc(C t:Addr)(dx:Option Addr):Obj:={cls:=.ref C,dict:=dx,data:=.fields #[.ref t,.none,.none,.none,.bool false,.none]}
abbrev iF(h:Heap)(C:Addr)(us:LW):Heap:=(h.push (xTup us)).push (xExc C h.objs.size none)
theorem Sd(F:ExcBaseFacts B newId initId bmB)(T:OwnTail h bmB bm){mN:MT}{us:LW}{f:Addr}{k:Obj}{Q:Fin->Shared->Prop}
  (a:h.get? C=some (excClassObj nm q C N bs bm hdct sn sub ab col dd k0 k1 k2 k3 k5 newId))(D:h.Ns N mN)(hi:mN "__init__"=some (.ref f))(m:h.get? f=some k)(n:k.cls=.type "function")(hz:us.length<=sizeLine)
  (z:wpAny (model prog w) A (call (.ref f) (.ref (h.objs.size+1):: us)) (λr j=>r=.none/\Q (.done (.ret (.ref (h.objs.size+1)))) j) E ⟨iF h C us,g,d,t,os⟩):
  wpAny (model prog w) A (Builtin.«type.__call__» ⟨.ref C:: us,[]⟩) Q E ⟨h,g,d,t,os⟩:=by
 repeat (first|with_reducible refine uT a ?_|with_reducible refine wpAny_madeBy_exc a ?_|wp_step)
 refine codeAny_call_builtin_code (rP _ F.quiet) (wpAny_check_new_subT F T a (codeAny_exc_new_subT F T a ?_ hz));show wpAny _ _ _ _ _ _;have c:∀b o,h.get? b=some o->(iF h C us).get? b=some o:=λb o e=>zC _ (zC _ e);have i:=c _ _ a;have p:=c _ _ m;have G:=D.keeps c;have l:(iF h C us).get? (h.objs.size+1)=some (xExc C h.objs.size none):=by heap_get
 have v:(Value.ref C:: bm).contains (.ref C)=true:=by simp
 have u:=T.keeps c;unfold isInstance
 repeat (first|with_reducible refine uT l ?_|(with_reducible refine wpAny_isSubtype_exc i ?_;rw[v])|wp_step)
 show wpAny _ _ (typeLookup (.ref C) _) _ _ _;refine wpAny_typeLookup_tail i G u F.mroIs F.init.lookup ?_;rw[hi];refine yT (zA ?_);unfold bindSpecial;refine zA (uH (T:= "function") ⟨_,p,n⟩ ?_);rw[zE ∅];refine zB (zA (yQ z (λr j hr=>?_) λ_ _ x=>x));obtain⟨rfl,y⟩:=hr
 wp_walk
 exact y
theorem Sc(F:ExcBaseFacts B newId initId bmB)(T:OwnTail h bmB bm){mN:MT}{us:LW}{b:Addr}{c:Obj}{Q:VP}
  (a:h.get? C=some (excClassObj nm q C N bs bm hdct sn sub ab col dd k0 k1 k2 k3 k5 newId))(k:h.Ns N mN)(hi:mN "__init__"=some (.ref b))(e:h.get? b=some c)(f:c.cls=.type "function")(hz:us.length<=sizeLine)
  (j:wpAny (model prog w) (A.under (.builtin "type.__call__" ⟨.ref C:: us,[]⟩)) (call (.ref b) (.ref (h.objs.size+1):: us)) (λr i=>r=.none/\Q (.ref (h.objs.size+1)) i) E ⟨iF h C us,g,d,t,os⟩):
  wpAny (model prog w) A (call (.ref C) us) Q E ⟨h,g,d,t,os⟩:=by
 have l:=tc_lookup;have n:=tc_bind (.ref C);have m:(⟨h,g,d,t,os⟩:Shared).TypeIs (.ref C) "type" := ⟨_,a,rfl⟩;refine uO (codeAny_of_tree ?_);show wpAny _ _ (callAny (.ref C) _) _ _ _
 repeat (any_goals (first|assumption|with_reducible refine uT a ?_|wp_step))
 refine⟨rfl,codeAny_call_builtin_at (rP _ (nofun)) entry_typeCall (wpAny_check_type_call_sub a (Sd F T a k hi e f hz ?_))⟩;exact j
theorem Sb{env:Env}{s:Shared}{x:Sem Value}{Q:Flow->Shared->Prop}(j:bm.contains (.type "BaseException")=true)(hh:A.handled=none){M:Model}
  (h:wpAny M A x (λv a=>∃e t b,v=.ref e/\a.heap.get? C=some (excClassObj nm q C N bs bm hdct sn sub ab col dd k0 k1 k2 k3 k5 newId)/\a.heap.get? e=some (xExc C t b)/\E (.ref e) a) E s):
  wpAny M A (raiseStmt env (some x) none) Q E s:=by
 have i:(Value.ref C:: bm).contains (.type "BaseException")=true:=by rw[List.contains_cons,j,Bool.or_true]
 unfold raiseStmt;refine zA (yQ h (λv a l=>?_) λ_ _ x=>x);obtain⟨e,t,b,rfl,c,k,f⟩:=l;obtain⟨m,g,d,tk,os⟩:=a
 repeat (first|with_reducible refine uT k ?_|with_reducible refine uT c ?_|(with_reducible refine wpAny_isSubtype_exc c ?_;rw[i])|wp_step)
 exact wpAny_raiseNew_none hh f
end
end PySem
namespace L2
open PySem PySem.Spec PyProof.Rows
open PySem.W (Frag)
def XObj(e C:Addr)(b:Bool):HO:=.ext λh=>∃t dx,h.get? e=some (xExc C t dx)/\(b=true->dx=none)
theorem Ct{P:Program}{w:World}{H:Hp}{h:Heap}{e C c:Addr}{a:Option Addr}{b:Bool}(q:h.get? e=some (xExc C c a))(d:b=true->a=none):nI P w H h e (XObj e C b):=⟨⟨c,a,q,d⟩,⟨_,q⟩,λ_ _⟨c,a,z,y⟩k=>⟨c,a,k _ z,y⟩⟩
def rmv(H:Hp)(e:Addr):Hp:=λb=>if b=e then none else H b
theorem iG{H:Hp}{e b:Addr}(h:b≠e):rmv H e b=H b:=zD h
theorem Cs{H:Hp}{e:Addr}:rmv H e e=none:=zE rfl
theorem Sa{H:Hp}{e:Addr}{o:HO}(h:H e=some o):upd H e o=H:=by
 funext b
 by_cases q:b=e
 ·rw[q,oP,h]
 ·exact oR q
section
variable {X:Cx} {pins:PN} {σ:St} {H:Hp} {s:Shared} {e C:Addr} {b0:Bool}
theorem Inv.untrack(I:Inv X pins σ H s)(l:H e=some (XObj e C b0)):Inv X pins σ (rmv H e) s:=by
 have u:=I.base;have w:∀{b o},rmv H e b=some o->b≠e/\H b=some o:=λ{b o}z=>by
  by_cases q:b=e
  ·rw[q,Cs]at z;cases z
  ·rw[iG q]at z;exact⟨q,z⟩
 have f:∀{b o},H b=some o->o≠XObj e C b0->b≠e:=λ{b o}z d q=>by rw[q,l]at z;exact d (zU z).symm
 have g:∀b,H b=none->rmv H e b=none:=λb z=>by
  by_cases q:b=e
  ·rw[q,Cs]
  ·rw[iG q];exact z
 refine⟨I.ok,I.os,I.bare,⟨u.keep,u.slot,λb o q n i=>g _ (u.free b o q n i),u.there,λb xs q=>?_,λb o v q=>?_,λb ps q=>?_⟩,I.loc,I.cell,g _ I.free,λx c q=>g _ (I.freeC x c q),λp t=>?_,λa o q=>?_,I.len⟩
 ·have:=u.tups b xs q;rw[iG (f this (by intro z;cases z))];exact this
 ·have:=u.frzs b o v q;rw[iG (f this (by intro z;cases z))];exact this
 ·obtain⟨m,e1⟩:=u.tbls b ps q;exact⟨m,by rw[iG (f e1 (by intro z;cases z))];exact e1⟩
 ·obtain⟨e1,j,r⟩:=I.pin p t;exact⟨e1,g _ j,r⟩
 ·obtain⟨_,k⟩:=w q;exact(I.hok a o k).stay (λ_ _ _ z=>z) (λb z=>by rw[iG (f z (by intro z;cases z))];exact z) λb xs z=>by rw[iG (f z (by intro z;cases z))];exact z
end
def Hm(X:Cx)(EX:XE):Prop:=∀(pins:PN)(σ:St)(H:Hp)(s:Shared)(e C t:Addr)(dx:Option Addr),Inv X pins σ H s->H e=none->X.s₀.heap.get? e=none->s.heap.get? e=some (xExc C t dx)->EX σ (.ref C) H->X.xe (.ref e) s
section
variable {P:Program} {w:World} {K:Frag} {mg:MT} {base:Heap} {N:List Str} {qual:Str} {scope:Scope} {f:Addr} {cd:Value} {A:Around} {outer:List Env} {s₀:Shared} {H₀:Hp} {E:XK}
theorem Tz:Hm (cxOf (CX1 P w) P w K mg base N qual scope f cd A outer s₀ H₀ E) (λ_ C H=>E C none H):=by
 intro G J H s e C k L I F r n j;have u:=PySem.W.funFrames_hide (as:=e:: frs (cxOf (CX1 P w) P w K mg base N qual scope f cd A outer s₀ H₀ E).stack) I.stack (λenv d a m=>.tail _ (oA.mpr ⟨env,d,m⟩));refine wpAny_leaving_firstW (a0:=.ref k) I.ok.frames u rfl n (λb o q=>rV _ q) (rF _ (.head _)) rfl rfl rfl λh' D=>?_;obtain⟨g,⟨_,_,p⟩,t,x⟩:=D;obtain⟨un,ok,y⟩:=cR I rfl rfl rfl g x λb o q l i=>rJ _ q λd=>by
  rcases xC.mp d with z|z
  ·subst z;rcases i with⟨M,c⟩|⟨v,c⟩
   ·rw[r]at c;cases c
   ·rw[F]at c;cases c
  ·exact l z
 exact⟨e,.ref C,H,_,_,rfl,I.os,I.bare,un,ok,⟨g,rF _ (.head _),p,t⟩,y,j⟩
end
def bU(K:Frag)(C:Addr)(bmB:LW)(newId:String)(f:Addr):Bool:=
 (K.lookup f).any (λo=>o.cls == .type "function") &&
 (K.lookup C).any λob=>match ob with
  |⟨.type "type",_,.cls c1,sl⟩=>(match c1.mro,sl.toList with
   |.ref C1:: bm,[_,_,_,_,some (.builtin nw),_]=>C1 == C && nw == newId && !c1.hasDel && PySem.W.tailIn K bmB bm && PySem.W.nsOkIn K c1.ns && PySem.W.nsIn K c1.ns "__init__" == some (some (.ref f))
   |_,_=>false)
  |_=>false
theorem Ty{K:Frag}{h:Heap}{N:Addr}{x:Str}{v:Value}(X:K.In h)(G:h.Ns N (h.nsMap N))(e:PySem.W.nsIn K N x=some (some v)):h.nsMap N x=some v:=by
 obtain⟨o,es,ep,f,a,_,hf⟩:=G;unfold PySem.W.nsIn at e;split at e
 ·rename_i c d i j g q;have:=X _ _ q;rw[f]at this;cases this;cases a;split at e
  ·rename_i b;cases e;rw[←hf];unfold nsFind findBy;rw[←Array.find?_toList,b];rfl
  ·split at e <;> cases e
 ·cases e
theorem Hl{K:Frag}{h:Heap}{C f:Addr}{g:LW}{newId:String}(KX:K.In h)(j:bU K C g newId f=true):
  ∃bm N nm d bs e sn sub ab col dd k0 k1 k2 k3 k5 mN b,h.get? C=some (excClassObj nm d C N bs bm e sn sub ab col dd k0 k1 k2 k3 k5 newId)/\h.Ns N mN/\mN "__init__"=some (.ref f)/\OwnTail h g bm/\h.get? f=some b/\b.cls=.type "function" := by
 unfold bU at j;obtain⟨c,a⟩:=Bool.and_eq_true_iff.mp j;obtain⟨b,n,c⟩:=sI c;obtain⟨G,D,a⟩:=sI a;split at a
 ·next dd w i =>
  split at a
  ·next F bm k0 k1 k2 k3 r k5 z es =>
   simp only[Bool.and_eq_true,beq_iff_eq,Bool.not_eq_true']at a;obtain⟨⟨⟨⟨⟨e1,m⟩,o⟩,p⟩,k⟩,q⟩:=a;subst e1 m;cases w with
   | mk nm bs u ns d e sn sub ab col v =>
    have y:u=Value.ref F:: bm:=z;have t:v=false:=o;subst y t;have x:i=#[k0,k1,k2,k3,some (Value.builtin r),k5]:=by
     cases i with
     |mk l=>exact wY Array.mk es
    subst x;exact⟨bm,ns,nm,d,bs,e,sn,sub,ab,col,dd,k0,k1,k2,k3,k5,_,b,KX _ _ D,qZ (rS KX k),Ty KX (qZ (rS KX k)) q,PySem.W.tail_of_in KX p,KX _ _ n,pV.mp c⟩
  ·cases a
 ·cases a
section
variable {X:Cx} {CX:CXT} {EX:XE} {k:Nat} {C f:Addr} {fd:FuncData} {ps:List Str} {sp:Sp} {dvs:List V} {ds:LW} {x:Str} {np p cpos pos:Pos} {e e₀:Expr} {es rest:List Expr} {t:TA} {bmB:LW} {B newId initId:String}
def Tx(C:Addr)(sp:Sp)(EX:XE)(t:TA):TS:=λ_ σ H=>t σ H λvs H1=>vs.length<=sizeLine/\∀e,H1 e=none->sp (.ref e:: vs) (upd H1 e (XObj e C true)) (λv H2=>v=.non/\H2 e=some (XObj e C false)/\EX σ (.ref C) (rmv H2 e)) E0
theorem Tw(W:X.calm=true)(a6:Hm X EX)(a4:Gl X x)(a0:X.mg x=some (.ref C))(b8:bU X.K C bmB newId f=true)(J:ExcBaseFacts B newId initId bmB)(F:FnOk X.prog X.w X.K X.mg X.base CX k f fd ps sp)
  (hr:Room (k+1) X.A)(a2:mF X.K fd ps [])(b7:jV CX X E0)(a3:PA X (e₀:: rest) t)
  (b1:(x == ("__debug__" :Str))=false:=by decide)(M:starEach (e₀:: rest) X.env=(false,eval e₀ X.env):: starEach rest X.env:=by rfl)(b3:(backTo cpos (starEach rest X.env)).any (·.1)=false:=by rfl):
  PS X (.Raise (some (.Call (.Name x np) (e₀:: rest) [] cpos)) none pos) (Tx C sp EX t):=by
 intro g s i H D I h;obtain⟨bm,N,nm,q,bs,b4,sn,sub,ab,col,dd,k0,k1,k2,k3,k5,mN,c6,R,a9,b6,T,b2,a7⟩:=Hl I.mod.kin b8;have G:(backTo cpos (starEach (e₀:: rest) X.env)).any (·.1)=false:=by
  rw[M];show(false || (backTo cpos (starEach rest X.env)).any (·.1))=false;rw[b3];rfl
 rw[arm_exec_Raise];refine zA (wS (Sb (C:=C) (nm:=nm) (q:=q) (N:=N) (bs:=bs) (bm:=bm) (hdct:=b4) (sn:=sn) (sub:=sub) (ab:=ab) (col:=col) (dd:=dd) (k0:=k0) (k1:=k1) (k2:=k2) (k3:=k3) (k5:=k5) (newId:=newId) (T.hasType J.hasBase) (I.ok.hd W)
  (zA (yQ (wpAny_Call_ofName (jL I a4 a0 ?_ b1)) (λv c5 c0=>zA (wS (zB c0))) λ_ _ x=>x))))
 unfold callWith;have y:=a3 cpos g s i H _ I h;rw[M]at y G ⊢;refine zA (yT (yQ (vU (Q:=λa c=>∃us,a=⟨us,[]⟩/\AP X g i _ us c) (thn y λus c2 z=>⟨us,rfl,z⟩)) (λa c Y=>zA (wS ?_)) λ_ _ x=>x));obtain⟨us,rfl,vs,H1,d,r,hz,b0⟩:=Y;simp only[G];have K:=d.bk _ _ R;have hl:us.length<=sizeLine:=by rw[←r.length];exact hz
 have U:=b0 (c.heap.objs.size+1) (d.hok.fresh (uR _));have Z:∀b o,c.heap.get? b=some o->(iF c.heap C us).get? b=some o:=λb o e=>zC _ (zC _ e);have b5:(iF c.heap C us).get? (c.heap.objs.size+1)=some (xExc C c.heap.objs.size none):=by
  have:=zP (c.heap.push (xTup us)) (o:=xExc C c.heap.objs.size none) rfl
  rwa[xM]at this
 have l:Inv X g i (upd H1 (c.heap.objs.size+1) (XObj (c.heap.objs.size+1) C true)) {c with heap:=iF c.heap C us}:=d.laid (t':=c.toks) Z (uR _) (Ct b5 λ_=>rfl);have r2:Vals (V.ref (c.heap.objs.size+1):: vs) (Value.ref (c.heap.objs.size+1):: us):=.cons rfl r;have a8:(Value.ref (c.heap.objs.size+1):: us++[]).length=ps.length:=by rw[xQ,←r2.length];exact F.len _ _ _ _ U
 have O:=a2 {c with heap:=iF c.heap C us} (Value.ref (c.heap.objs.size+1):: us) l.kIn a8;rw[xQ]at O;have run:=F.run _ X.stack _ _ ⟨Value.ref (c.heap.objs.size+1):: us,[]⟩ _ _ _ E0 (hr.make C us []) (l.env0.make C us []) O r2 U;obtain⟨c4,c8,c1,c3,c7⟩:=c;refine zA (wpAny_keeperOf_exc K ?_);refine zA (Sc J (T.keeps d.bk) K (a9.keeps d.bk) b6 (d.bk _ _ b2) a7 hl (uO (uJ run λa5 m j=>?_)));cases a5 with
 |error w=>exact b7 g i _ _ w m l j
 | ok fl =>
  cases fl with
  |ret u =>
   obtain⟨v,H',n,a1,w,L,b9⟩:=l.after j;subst w;refine⟨a1,zA (yT (wpAny_point (zB ?_)))⟩;obtain⟨⟨t',S,P,_⟩,_⟩:=(show nI X.prog X.w H' m.heap _ (XObj _ C false) from n.hok _ _ L);refine⟨_,t',S,rfl,n.bk _ _ R,P,a6 g i (rmv H' _) m _ C t' S (n.untrack L) Cs (Heap.get?_none_of_le (yC d.sz (uR _))) P b9⟩
  |next=>exact False.elim j
  |brk=>exact False.elim j
  |cont=>exact False.elim j
def Hk(C:Addr)(sp:Sp)(dvs:List V)(EX:XE)(t:TA):TE:=λσ H Q=>t σ H λvs H1=>∀x dx,H1 x=none->H1 dx=none->dx≠x ->
 sp (.ref x:: (vs++dvs)) (upd (upd H1 dx (.own x)) x (.ins C dx [])) (λv H2=>v=.non/\Q (.ref x) H2) λC' _ H'=>EX σ C' H'
theorem Tv{g:PN}{c:St}{H:Hp}{s:Shared}{Q:VK}{us:LW}{vs:List V}(M:Mk X.K C f)(F:FnOk X.prog X.w X.K X.mg X.base (CX1 X.prog X.w) k f fd ps sp)(hr:Room (k+1) X.A)(l:mF X.K fd ps ds)(W:Vals dvs ds)
  (P:gK X EX)(Z:X.ex=[])(I:Inv X g c H s)(r:Vals vs us)
  (h:∀x i,H x=none->H i=none->i≠x->sp (.ref x:: (vs++dvs)) (upd (upd H i (.own x)) x (.ins C i [])) (λv H2=>v=.non/\Q (.ref x) H2) λm _ H'=>EX c m H'):
  wpAny (model X.prog X.w) X.A (call (.ref C) us) (EP X g c Q) X.xe s:=by
 have J:=h (s.heap.objs.size+1) s.heap.objs.size (I.hok.fresh (uR _)) (I.hok.fresh (zF _)) (zZ (vE _));have a:=Inv.made (C:=C) I;have r2:Vals (V.ref (s.heap.objs.size+1):: (vs++dvs)) (Value.ref (s.heap.objs.size+1):: (us++ds)):=.cons rfl (r.append W);have hl:(Value.ref (s.heap.objs.size+1):: us++ds).length=ps.length:=r2.length.symm.trans (F.len _ _ _ _ J);refine uO (Eo (f:=f) I.kIn M.makes M.init (pV.mp M.fn) (uJ (F.run _ X.stack _ _ ⟨Value.ref (s.heap.objs.size+1):: us,[]⟩ (Value.ref (s.heap.objs.size+1):: (us++ds)) _ _ _ (hr.make C us [])
  (a.env0.make C us []) (l _ (Value.ref (s.heap.objs.size+1):: us) a.kIn hl) r2 J) λO w d=>?_))
 cases O with
 | error G =>
  obtain⟨e,m,H',a2,a0,rfl,Y,a3,un,ok,fl,n,q⟩:=d;have D:Inv X g c H' w:=a.call' Y un ok a3 λb z=>absurd z (by simp);refine P g c H' w e m D ⟨a2,a0,fl,λb o e1 l j=>n b o e1 l ?_,λp y=>?_⟩ q
  ·rcases j with⟨S,a4⟩|j
   ·obtain⟨T,L⟩:=a.base.there b S a4 (by rw[Z];simp);exact .inl ⟨T,L⟩
   ·exact .inr j
  ·obtain⟨e1,a6,a5,a1,_⟩:=D.pin p y;refine n p.1 p.2 e1 (λK=>?_) (.inl ⟨_,(a.pin p y).1⟩);rcases xC.mp (a.stkSub p.1 K) with z|z
   ·exact a5 z
   ·exact a1 z
 | ok fl =>
  cases fl with
  |ret u =>
   obtain⟨v,H',U,N,G,R⟩:=a.after d;subst G;exact⟨N,⟨V.ref (s.heap.objs.size+1),H',U,rfl,R⟩⟩
  |next=>exact False.elim d
  |brk=>exact False.elim d
  |cont=>exact False.elim d
theorem Tu(M:Mk X.K C f)(F:FnOk X.prog X.w X.K X.mg X.base (CX1 X.prog X.w) k f fd ps sp)(hr:Room (k+1) X.A)(b:Gl X x)(j:X.mg x=some (.ref C))(o:mF X.K fd ps ds)(m:Vals dvs ds)(c:gK X EX)
  (v:PA X (e:: es) t)(i:X.ex=[]:=by rfl)(g:(x == ("__debug__" :Str))=false:=by decide)(n:starEach (e:: es) X.env=(false,eval e X.env):: starEach es X.env:=by rfl)(l:(backTo pos (starEach es X.env)).any (·.1)=false:=by rfl):
  PE X (.Call (.Name x p) (e:: es) [] pos) (Hk C sp dvs EX t):=by
 intro u s d H Q I h;refine wG (jL I b j ?_ g);refine tQ (h₀:=X.base) I.ok.mod.kin M.kp (thn (v pos u s d H _ I h) λus w⟨vs,H1,a,r,q⟩=>⟨a.kIn,?_⟩) n l;exact Tv M F hr o m c i a r q
theorem FunD.okX{P:Program}{w:World}{K:Frag}{b:MT}{base:Heap}{x a:Str}{st:Stmt}{f:Addr}{fd:FuncData}{ds:LW}{N ps:List Str}{k:Nat}{sp:Sp}(F:FunD K x a st f fd ds)(d:nB N ps (oQ st))(len:∀vs H Q E,sp vs H Q E->vs.length=ps.length)
  (i:∀(cdv:Value)(A:Around)(outer:List Env)(s:Shared)(H:Hp)(vs:List V)(Q:VK)(E:XK),Room k (A.deeper (envOfC a (oQ st) s.heap.objs.size f cdv))->sp vs H Q E ->
   ∃t,PSs (cxOf (CX1 P w) P w K b base N a (oQ st) f cdv A outer s H E) (lR st) t/\t {nx:=λ_ H'=>Q .non H',rt:=Q} (start N vs) H):FnOk P w K b base (CX1 P w) (k+1) f fd ps sp:=by
 obtain⟨m,n,T,kV,q,r,l,cdv,o,u,rfl,c,j,_⟩:=F.ex;exact cP c j d len λA outer s H vs Q E hr g=>i cdv A outer s H vs Q E hr g
end
structure XIn(K:Frag)(C C0 f:Addr):Prop where
 cl:bU K C [.type "ValueError",.type "Exception",.type "BaseException",.type "object"] "ValueError.__new__" f=true
 ga:PySem.W.specialIn K (.ref C0) "__getattribute__"=some (some (.builtin "type.__getattribute__"))
 rd:PySem.W.readsIn K C0 (.type "type")=true
 fi:PySem.W.findCls K (.ref C0) (.type "type") "__init__"=some (.val (.builtin "ValueError.__init__"))
def Cr:LW->Bool
 |.ref _:: r=>Cr r
 |l=>l == [.type "ValueError",.type "Exception",.type "BaseException",.type "object"]
theorem Hj(a:Value):∀{l:LW},Cr l=true->refuseLoop a "__setattr__" l=pure ()/\l.contains (.type "object")=true
 |.ref c:: r,e=>by
  obtain⟨d,b⟩:=Hj a (l:=r) e;exact⟨by rw[refuseLoop_ref];exact d,by rw[List.contains_cons,b,Bool.or_true]⟩
 |[],e=>by cases e
 |.type n:: r,e=>by rw[show Value.type n:: r=_ from pV.mp e];exact⟨PySem.F.store_ValueError.passes a,∅⟩
structure XSt(K:Frag)(C:Addr)(x:Str):Prop where
 sa:PySem.W.findIn K (.ref C) "__setattr__"=some (some (.builtin "object.__setattr__"))
 mr:((PySem.W.clsIn K C).any λc1=>Cr c1.mro && c1.hasDict)=true
 tk:PySem.W.takerIn K C x=some none
section
variable {X:Cx} {C C0 f:Addr} {x nm:Str} {np apos cpos pos:Pos} {e o:Expr} {es:List Expr} {te to:TE} {t:TA}
def Hi(C:Addr)(t:TA):TE:=λσ H Q=>t σ H λvs H1=>∃p b r,vs=.ref p:: r/\H1 p=some (XObj p C b)/\r.length<=sizeLine/\Q .non H1
theorem Tt{pl:Sem Bool}(S:Gl X x)(J:X.mg x=some (.ref C0))(g:XIn X.K C C0 f)(R:PA X (e:: es) t)(Y:(x == ("__debug__" :Str))=false:=by decide)
  (a3:starEach (e:: es) X.env=(false,eval e X.env):: starEach es X.env:=by rfl)(a0:(backTo cpos (starEach es X.env)).any (·.1)=false:=by rfl)
  (W:eval (.Call (.Attribute (.Name x np) "__init__" apos) (e:: es) [] cpos) X.env=(do
   let v ←eval (.Name x np) X.env
   standAt apos.atName
   let (f,first) ←holding [v] (getMethod v "__init__" pl)
   callWith cpos f first (backTo cpos (starEach (e:: es) X.env)) (backToKw cpos (keywordEach [] X.env))):=by rfl):
  PE X (.Call (.Attribute (.Name x np) "__init__" apos) (e:: es) [] cpos) (Hi C t):=by
 intro O s V H Q I h;refine PySem.W.methodCall_KW (pl:=pl) (jL I S J ?_ Y) W;refine PySem.W.method_cls I.kIn g.ga (PySem.W.cls_value I.kIn g.rd g.fi (by rfl) ?_);have G:=I.tok (s.toks+1);have w:=R cpos O _ V H _ G h;show wpAny _ _ (callWith cpos (.builtin "ValueError.__init__") [] (backTo cpos (starEach (e:: es) X.env)) []) _ _ _;rw[a3]at w ⊢;refine sD (by show(false || (backTo cpos (starEach es X.env)).any (·.1))=false;rw[a0];rfl) (vU (thn w λus n⟨vs,H1,l,r,q⟩=>?_));obtain⟨p,b,Z,rfl,j,hz,a1⟩:=q;obtain⟨u,d,rfl,P,U⟩:∃u d,us=u:: d/\RelV (.ref p) u/\Vals Z d:=by cases r with|cons a b=>exact⟨_,_,rfl,a,b⟩
 obtain rfl:u=Value.ref p:=P;obtain⟨⟨t',D,k,K⟩,_⟩:=(show nI X.prog X.w H1 n.heap _ (XObj _ C b) from l.hok _ _ j);obtain⟨bm,N,nm,q,bs,b0,sn,sub,ab,col,dd,k0,k1,k2,k3,k5,mN,a7,a2,a6,b2,T,a8,a5⟩:=Hl l.kIn g.cl;have F:=xB;have hl:d.length<=sizeLine:=by rw[←U.length];exact hz
 obtain⟨c,b3,a4,L,a9⟩:=n;refine uO (vS F.init.plain F.initEntry (wpAny_check_init_subT F T a2 k rfl ?_));have b1:p≠c.objs.size:=zZ (zL k);have i:(c.push (xTup d)).get? p=some (xExc C t' D):=zC _ k;unfold Builtin.«BaseException.__init__»;refine zA (pJ ?_ hl);refine zA (zA (xR i rfl rfl (zA (tS i rfl (by show 0<6;decide) (rM (zB ?_))))));have m:((c.push (xTup d)).update p (Obj.mapFields (·.setIfInBounds 0 (.ref c.objs.size)))).get? p=some (xExc C c.objs.size D):=wA _ i rfl;refine⟨.non,H1,?_,rfl,a1⟩;have y:=l.write (h':=(c.push (xTup d)).update p (Obj.mapFields (·.setIfInBounds 0 (.ref c.objs.size)))) (x:=p) (e:=p) (t':=L) (o:=XObj p C b) (by rw[j];exact True.intro) (.inl rfl) (λb u M z=>(vI _ _ (yF M)).trans (zC _ z)) ⟨_,m⟩ (Ct m K);rw[Sa j]at y;exact y
def Hh(C:Addr)(te to:TE):TS:=λD σ H=>te σ H λ_ H1=>to σ H1 λy H2=>∃p,y=.ref p/\H2 p=some (XObj p C true)/\D.nx σ (upd H2 p (XObj p C false))
open Builtin Builtin.ObjectAttr in
theorem Ts(xs:XSt X.K C nm)(w:PE X e te)(a5:PE X o to)(a7:swapsWith e (some (.Attribute o nm apos)) pos.line X.env=pure false:=by rfl):PS X (.Assign [.Attribute o nm apos] e pos) (Hh C te to):=by
 intro J s L H D I h;refine plainObj_wpAny_Assign_Attribute (thn (w J s L H _ I h) λu a2⟨v,H1,b8,c4,a6⟩=>thn (a5 J a2 L H1 _ b8 a6) λa9 c⟨y,H2,r,U,p,a0,O,b1⟩=>?_) a7;subst a0;obtain rfl:a9=Value.ref p:=U;obtain⟨⟨t',c7,j,Y⟩,_⟩:=(show nI X.prog X.w H2 c.heap _ (XObj _ C true) from r.hok _ _ O);obtain rfl:=Y rfl;have g:=r.kIn;have ia:PySem.W.InstAt c.heap p (xExc C t' none) C none:=⟨j,rfl,rfl,trivial⟩;refine PySem.W.set_plain g ia xs.sa ?_;have i:=PySem.F.store_object;obtain⟨F,k,a3⟩:=sI xs.mr;obtain⟨l,a4⟩:=Bool.and_eq_true_iff.mp a3;obtain⟨c1,b6⟩:=Hj (.ref p) l;have c2:F.mro.isEmpty=false:=by cases q:F.mro with|nil=>rw[q]at l;cases l|cons _ _=>rfl
 have sub:PySem.W.Looks (model X.prog X.w) c.heap (isInstance (.ref p) (.type "object")) true:=ia.type.andThen (rK g (by unfold PySem.W.mroIn;rw[k,Option.bind_some,zD (by rw[c2];decide),b6]));refine vS i.slot.plain i.entry (@PySem.W.check_slot (model X.prog X.w) _ _ {c with toks:=c.toks+1} "object.__setattr__" "object" "__setattr__" (.ref p) [.str nm c.toks,u] [] _ i.kind i.split sub (i.args (.ref p) (.str nm c.toks) u) ?_);obtain⟨R,b3,hr⟩:=Option.bind_eq_some_iff.mp xs.tk;have b5:PySem.W.Looks (model X.prog X.w) c.heap (mroOf (.ref C)) F.mro:=(rG g k).andThen .now;have Z:PySem.W.Looks (model X.prog X.w) c.heap (storeTaker? R) none:=by
  cases R with
  |none=>exact .now
  |some a =>
   obtain⟨b,n,W⟩:=Option.map_eq_some_iff.mp hr;refine(PySem.W.looks_takesIn g n).andThen ?_;cases b
   ·exact .now
   ·cases W
 have up:∀{S:Type}{m:Sem S}{a:S},PySem.W.Looks (model X.prog X.w) c.heap m a->PySem.W.Looks (model X.prog X.w) {c with toks:=c.toks+1}.heap m a:=λz=>z;rw[PySem.W.osa_eq,refuse_eq];refine zA (zA (wT (up ia.type) (zA (wT (up b5) ?_))));rw[c1];refine zB (zA (wT (up ia.type) (zA (wT (up (vQ g b3)) (zA (wT (up Z) ?_))))));obtain⟨d,b9,T,G,a8⟩:=c;have c0:d.get? p=some ⟨.ref C,none,.fields #[.ref t',.none,.none,.none,.bool false,.none],#[]⟩:=j;refine zA (zB (zA (zA (pG c0 (zA (wT (s:=⟨d,b9,T,G+1,a8⟩) (rG g k) ?_))))));rw[a4];have N:p≠d.objs.size:=zZ (zL j);have K:(d.push {cls:=.type "dict",data:=.dict #[]}).get? p=some (xExc C t' none):=zC _ j;refine zA (wpAny_alloc' (zA (wpAny_update' K (zB ?_))));have b7:((d.push {cls:=.type "dict",data:=.dict #[]}).update p λo=>{cls:=o.cls,dict:=some d.objs.size,data:=o.data,slots:=o.slots}).get? d.objs.size=some {cls:=.type "dict",data:=.dict #[]}:=
  (Heap.get?_update_ne _ _ _ _ N.symm).trans (Heap.get?_push_at rfl rfl)
 have a1:((d.push {cls:=.type "dict",data:=.dict #[]}).update p λo=>{cls:=o.cls,dict:=some d.objs.size,data:=o.data,slots:=o.slots}).Ns d.objs.size (λ_=>none):=
  ⟨_,#[],_,b7,rfl,λe w=>absurd w (by simp),λ_=>rfl⟩
 show wpAny _ _ (storeInDict d.objs.size (.str nm G) nm u) _ _ _;unfold storeInDict newKeyGuard;refine zA (zB (zA (wpAny_nsSet1 (Heap.Ns1.of_empty a1) λh' b0 P=>?_)));obtain⟨c5,c3,c6,V,b2,b4⟩:=b0.count (Within.cons nm u Within.nil);refine zA (wpAny_lookBehind V (by rw[b2];exact pastItsLine_dict (yC b4 (by rw[zV,List.length_nil,sizeLine_eq];omega))) (zB ?_));have M:h'.get? p=some (xExc C t' (some d.objs.size)):=(P.2 p N).trans (wA _ K rfl);refine⟨_,_,?_,b1⟩;exact r.write (h':=h') (x:=p) (e:=p) (o:=XObj p C false) (by rw[O];exact True.intro) (.inl rfl) (λb q n z=>(P.2 b (zZ (zL z))).trans ((Heap.get?_update_ne _ _ _ _ n).trans (zC _ z))) ⟨_,M⟩ (Ct M (by intro z;cases z))
end
def eT(kvs:List (PyData×V))(k:PyData):List (PyData×V):=kvs.filter λkv=>decide (kv.1≠k)
theorem Hg{b:Type}:∀(xs:List (PyData×b))(k:PyData)(j:Nat)(p:b),(xs.map (·.1)).Nodup->xs[j]?=some (k,p)->xs.eraseIdx j=xs.filter λx=>decide (x.1≠k)
 |[],k,j,p,_,e=>by simp at e
 |x:: xs,k,0,p,nd,e=>by
  cases e;rw[zI,wU]at nd;rw[uE,zD (by simp)];show xs=_;exact(List.filter_eq_self.mpr λy c=>zQ (show y.1≠k fromλz=>nd.1 (pZ.mpr ⟨y,c,z⟩))).symm
 |x:: xs,k,j+1,p,nd,e=>by
  rw[zI,wU]at nd;have a:xs[j]?=some (k,p):=by simpa using e
  rw[uE,zE (zQ (show x.1≠k fromλz=>nd.1 (pZ.mpr ⟨_,yD a,z.symm⟩)))];show x:: xs.eraseIdx j=_;rw[Hg xs k j p nd.2 a]
theorem bV{a b:Type}(f:a->b):∀(l:List a)(j:Nat),(l.map f).eraseIdx j=(l.eraseIdx j).map f
 |[],_=>rfl
 |_:: _,0=>rfl
 |x:: l,j+1=>by show f x:: (l.map f).eraseIdx j=_;rw[bV f l j];rfl
theorem KP.era{K:Frag}{H:Hp}{kvs:List (PyData×V)}{xs:List (PyData×Addr×Value)}(r:KP K H kvs xs)(k:PyData):KP K H (eT kvs k) (xs.filter λx=>decide (x.1≠k)):=by
 unfold eT
 induction r with
 |nil=>exact .nil
 |@cons p q ps b h c a =>
  rw[uE,uE,h.1]
  by_cases z:q.1=k
  ·rw[zD (by simp[z]),zD (by simp[z])];exact a
  ·rw[zE (by simp[z]),zE (by simp[z])];exact .cons h a
section
variable {X:Cx}
def Tr(K:Frag):V->List V->Hp->VK->Prop:=λx vs H Q=>∃a kvs b k v,x=.ref a/\vs=[.ref b]/\DTr K H a kvs/\tT 4 k=true/\Dt K H (.ref b) k/\vT kvs k=some v/\∀H',(∀c,c≠a->H' c=H c)->DTr K H' a (eT kvs k)->Q v H'
theorem Tq(a2:X.A.units+64<cLine):MtM X "dict.pop" (Tr X.K):=by
 intro Y s Z H x vs v us Q I V K h;obtain⟨a,kvs,b,k,y,rfl,rfl,g,tk,L,R,q⟩:=h;cases V;obtain⟨u,rfl,M⟩:=K.one;cases M;obtain⟨xs,e,r,dd⟩:=iC I g;have J:=dd.typeIs;have F:=iB I tk L;have N:∀ys,¬ Rd H a (.tup ys):=λys z=>by
  rcases z with z|⟨a0,z⟩
  ·rw[e]at z;cases z
  ·rw[e]at z;cases z
 have i:=r.val k;rw[R]at i;obtain⟨o,es,ep,t,f,d,m,S,w⟩:=dd;have hz:es.size<=sizeLine:=by rw[size_of_entries m,←pM r];exact g.len
 refine uO (vS PySem.F.slot_dict_pop.plain PySem.F.entry_dict_pop (PySem.F.slot_dict_pop.check _ _ _ _ _ _ _ _ J (PySem.F.args_dict_pop_2 _ _) ?_));unfold Builtin.«dict.pop» Builtin.Dict.keyAndDefault Builtin.Dict.notOrdered Builtin.Dict.nameIsSure;refine zA (zA ?_);rw[zE ∅];refine zA (uH J ?_);rw[zD ∅];refine zB (zA (zB (zA (zB (zA (zB ?_))))));refine zB ?_;dsimp only;rw[zD (by simp[keyPart])];refine zA (uV t d (zA (zB ?_)));obtain⟨p,n,O⟩:∃p,atKey xs k=some p/\RelV y p.2:=by
  cases z:atKey xs k with
  |none=>rw[z]at i;exact i.elim
  |some p=>rw[z]at i;exact⟨p,rfl,i⟩
 have U:es.isEmpty=false:=by
  cases es with
  |mk l =>
   cases xs with
   |nil=>simp[atKey]at n
   |cons x W=>rw[show l=_ from m];rfl
 rw[U,zD ∅];refine zA ?_;unfold Builtin.Dict.takeOut;have G:(mO X.prog X.w).room X.A.in1:=show X.A.units+1+8<cLine by omega
 refine yT (zA ((mO X.prog X.w).pyHash G F (zA (wpAny_dictFind_heap (s:={s with toks:=s.toks+(mO X.prog X.w).draws k}) G F t d m S w ?_ ?_))))
 ·intro T;rw[atKey_none_of_get T]at n;cases n
 ·intro j a1 C;rw[atKey_of_get w C]at n;cases n;refine zA (uV (s:={s with toks:=s.toks+(mO X.prog X.w).draws k}) t d ?_);rw[entry_at m j,C];refine zA (wpAny_updateDictKeys (hz:=hz) (hf:=by rw[←zK,Array.toList_eraseIdxIfInBounds,←zK];have:=List.length_eraseIdx_le es.toList j;omega) (s:={s with toks:=s.toks+(mO X.prog X.w).draws k}) t d (zB ?_));refine zA (rM (zB ?_));have D:=wA (h:=s.heap) (Obj.mapDictKeys λx=>x.eraseIdxIfInBounds j) t (Obj.isFreed_of_dict (Obj.data_mapDictKeys d _));have P:Heap.SameBut a s.heap (s.heap.update a (Obj.mapDictKeys λx=>x.eraseIdxIfInBounds j)):=wM ..;have hl:(es.eraseIdxIfInBounds j).toList=(xs.filter λx=>decide (x.1≠k)).map λx=>⟨kR x.1,.ref x.2.1,x.2.2⟩:=by
   rw[←Hg xs k j _ w C,Array.toList_eraseIdxIfInBounds,m,bV];rfl
  refine⟨y,upd H a (nR a (xs.filter λx=>decide (x.1≠k))),I.write (t':=s.toks+(mO X.prog X.w).draws k) (x:=a) (e:=a) (by rw[e];exact True.intro) (.inl rfl) (λc o f z=>(P.2 c f).trans z) ⟨_,D⟩ (eX D (f.mapDictKeys _) (Obj.data_mapDictKeys d _) hl),O,?_⟩;refine q _ (λc f=>oR f) ⟨yC (List.length_filter_le _ _) g.len,g.sys,_,oP,?_,(r.era k).keeps (Br N)⟩;exact(List.Sublist.map _ List.filter_sublist).nodup w
end
def Tp:List V->Hp->VK->Prop:=λvs H Q=>∃x p b,vs=[x,.ref p]/\H p=some (.tup [.ty "list",.ty "tuple"])/\((∃i,x=.int i/\b=false)\/∃a xs,x=.ref a/\H a=some (.lst xs)/\b=true)/\Q (.bl b) H
theorem Hf{X:Cx}(f:PySem.W.kitOne X.K (.type "int") (.type "list")=some false)(y:PySem.W.kitOne X.K (.type "int") (.type "tuple")=some false):mJ X (.builtin "isinstance") Tp:=by
 intro l s o H xs us Q I k h;obtain⟨x,p,b,rfl,C,r,q⟩:=h;obtain⟨u,v,rfl,r1,r2⟩:=k.two;cases r2;have e:∀tk,EP X l o Q (.bool b) {s with toks:=tk}:=λtk=>⟨.bl b,H,I.tok tk,rfl,q⟩;obtain⟨_,its,g,⟨⟨L,F,M,K⟩,e1,d,n,c⟩⟩:=(show nI X.prog X.w H s.heap p (.tup _) from I.hok p _ C);obtain⟨G,J,rfl,w,t⟩:=g.two;cases w;cases t;dsimp only at d c;subst d c;rcases r with⟨i,rfl,rfl⟩|⟨a,ys,rfl,m,rfl⟩
 ·obtain⟨D,rfl⟩:=r1;exact PySem.W.kia_tup PySem.W.kitx_int I.kIn True.intro e1 (by unfold PySem.W.kitAny;rw[f];show PySem.W.kitAny _ _ _=_;unfold PySem.W.kitAny;rw[y];rfl) (λz=>nomatch z) e
 ·cases r1;obtain⟨_,_,n,_,j⟩:=(show nI X.prog X.w H s.heap a (.lst ys) from I.hok a _ m);exact PySem.W.kia_tup qJ I.kIn ⟨_,j,rfl⟩ e1 (by rfl) (λz=>nomatch z) e
end L2
namespace Cw
open PySem L2
abbrev pa':List Str:=["_law_script","_law_at","_law_d","_law_spot","_law_sort"]
abbrev pb':List Str:=["_law_d","_law_makers_here","_law_members","_law_cell"]
abbrev pc':List Str:=["_law_rows_here","_law_tops","_law_under"]
abbrev pd':List Str:=["_law_sort","_law_cell","_law_d"]
abbrev pe':List Str:=["_law_rows_here","_law_cell"]
abbrev pf':List Str:=["_law_d","_law_makers_here"]
abbrev pg':List Str:=["self","d","makers","most"]
abbrev ph':List Str:=["_law_one","_law_other"]
abbrev pi':List Str:=["_law_d","_law_members"]
abbrev pj':List Str:=["_law_script","_law_k"]
abbrev pk':List Str:=["_law_one","_law_cell"]
abbrev pl':List Str:=["rows","tops","under"]
abbrev pm':List Str:=["_law_cell","_law_d"]
abbrev pn':List Str:=["d","makers","most"]
abbrev po':List Str:=["self","apart"]
abbrev pp':List Str:=["rows","i","k"]
abbrev pq':List Str:=["one","other"]
abbrev pr':List Str:=["rows","spot"]
abbrev pt':List Str:=["_law_script"]
abbrev pu':List Str:=["rows"]
abbrev pv':List Str:=["self"]
open PySem.W (nsIn keepIn codeIn findIn fnOf mg_of kitOne)
open PyProof.Rows (mulOk_of_bits)
theorem zqe{a b:Type}{l:List a}{f:a->b}:(l.map f).length=l.length:=yO ..
theorem zqa{b:Type}{l:List b}{i:Nat}{a:b}(h:l[i]?=some a):∃h:i<l.length,l[i]=a:=oE.mp h
theorem zqb{b:Type}{l:List b}{i:Nat}{a:b}(h:l[i]?=some a):a∈l:=yD h
theorem zqc{b:Type}{l:List b}{i:Nat}{a:b}:l.getD i a=l[i]?.getD a:=tJ
theorem zqd{a:Type}{l:List a}{i:Nat}(h:i<l.length):l[i]?=some l[i]:=yZ h
open PySem.W (Frag)
abbrev LM:=List (LI')
def top(i:Nat):Stmt:=PySem.Challenge.pw_crystalwords_k44_other_makers.main.body.getD i (.Pass ⟨0,0,0,0⟩)
abbrev bW:Stmt:=top 2
abbrev N_w:List Str:=["thing"]
abbrev s_3:Stmt:=eI (top 7) 0
abbrev N_3:List Str:=po'
abbrev Cq:Stmt:=top 9
abbrev N_t:List Str:=["one","other","greater","lesser","remainder"]
abbrev bX:Stmt:=top 11
abbrev N_x:List Str:=["tops","under","common","top"]
abbrev bY:Stmt:=top 12
abbrev N_h:List Str:=["one","under"]
abbrev bZ:Stmt:=top 14
abbrev N_j:List Str:=["size"]
abbrev s_16:Stmt:=top 15
abbrev N_16:List Str:=pq'
abbrev aA:Stmt:=top 16
abbrev N_z:List Str:=pu'
abbrev aB:Stmt:=top 17
abbrev N_v:List Str:=pp'
abbrev s_5:Stmt:=top 18
abbrev N_5:List Str:=["rows","total","sign","k","number"]
abbrev aC:Stmt:=top 20
abbrev N_u:List Str:=pr'
abbrev s_13:Stmt:=top 21
abbrev N_13:List Str:=["rows","tops","under","axes"]
abbrev s_11:Stmt:=top 22
abbrev N_11:List Str:=["d"]
abbrev s_10:Stmt:=top 23
abbrev N_10:List Str:=["one","spot","tops"]
abbrev aD:Stmt:=top 24
abbrev N_y:List Str:=["one","other","columns","rows"]
abbrev s_14:Stmt:=top 25
abbrev N_14:List Str:=["one"]
abbrev Cp:Stmt:=top 28
abbrev N_m:List Str:=["most"]
abbrev Co:Stmt:=top 29
abbrev N_k:List Str:=["d","makers","maker"]
abbrev dF:Stmt:=top 30
abbrev N_r:List Str:=["d","makers","most","steps","found","words","at","number","step","reached"]
abbrev s_0:Stmt:=eI (top 31) 0
abbrev N_0:List Str:=["self","d","makers","most","words"]
abbrev s_7:Stmt:=eI (top 31) 2
abbrev N_7:List Str:=pv'
abbrev s_1:Stmt:=eI (top 31) 3
abbrev N_1:List Str:=pv'
abbrev s_8:Stmt:=eI (top 31) 4
abbrev N_8:List Str:=pv'
abbrev s_4:Stmt:=top 33
abbrev N_4:List Str:=pj'
abbrev Cn:Stmt:=top 35
abbrev N_d:List Str:=ph'
abbrev aE:Stmt:=top 36
abbrev N_p:List Str:=["_law_d"]
abbrev aF:Stmt:=top 37
abbrev N_g:List Str:=["_law_one","_law_other","_law_d","_law_found","_law_i"]
abbrev Cm:Stmt:=top 38
abbrev N_n:List Str:=["_law_cell","_law_d","_law_rows_here","_law_k"]
abbrev aG:Stmt:=top 39
abbrev N_c:List Str:=["_law_cell","_law_d","_law_left","_law_rows_here","_law_i","_law_at"]
abbrev Cl:Stmt:=top 40
abbrev N_s:List Str:=pd'
abbrev aH:Stmt:=top 41
abbrev N_e:List Str:=["_law_rows_here","_law_cell","_law_d","_law_k","_law_i","_law_j","_law_by","_law_row"]
abbrev dG:Stmt:=top 42
abbrev N_o:List Str:=["_law_rows_here","_law_tops","_law_under","_law_by","_law_top"]
abbrev dH:Stmt:=top 43
abbrev N_q:List Str:=["_law_rows_here","_law_tops","_law_under","_law_by","_law_top"]
abbrev aI:Stmt:=top 44
abbrev N_f:List Str:=["_law_script","_law_at","_law_d","_law_spot","_law_sort","_law_cell","_law_rows_here","_law_near","_law_under","_law_tops","_law_i","_law_far"]
abbrev dI:Stmt:=top 45
abbrev N_a:List Str:=["_law_script","_law_start","_law_d","_law_cell","_law_under","_law_spot","_law_sort","_law_many"]
abbrev aJ:Stmt:=top 46
abbrev N_b:List Str:=["_law_one","_law_other","_law_rows_here","_law_tops","_law_i","_law_far"]
abbrev Ck:Stmt:=top 47
abbrev N_l:List Str:=["_law_d","_law_makers_here","_law_group_here"]
abbrev s_2:Stmt:=top 48
abbrev N_2:List Str:=["_law_one","_law_cell","_law_tops","_law_i"]
abbrev Cj:Stmt:=top 49
abbrev N_i:List Str:=["_law_d","_law_members","_law_group_here","_law_word"]
abbrev s_6:Stmt:=top 50
abbrev N_6:List Str:=["_law_d","_law_makers_here","_law_members","_law_cell","_law_at","_law_less","_law_left","_law_one","_law_shared_out","_law_other","_law_onward"]
abbrev s_17:Stmt:=top 51
abbrev N_17:List Str:=["_law_script","_law_d","_law_makers_here","_law_group_here","_law_members","_law_more","_law_cell"]
local macro_rules | `(tactic| walk_at "s")=>`(tactic| exact ⟨rfl,rfl,rfl,by decide +kernel,rfl,by decide +kernel,by decide +kernel⟩)
local macro_rules | `(tactic| walk_at "v")=>`(tactic| (intro _ _ _ _ h; first | (obtain ⟨_,hh,_⟩:=h; subst hh; rfl) | (obtain ⟨_,_,hh,_⟩:=h; subst hh; rfl) | (obtain ⟨_,_,_,hh,_⟩:=h; subst hh; rfl) | (obtain ⟨_,_,_,_,hh,_⟩:=h; subst hh; rfl) | (obtain ⟨_,_,_,_,_,hh,_⟩:=h; subst hh; rfl) | (obtain ⟨_,_,_,_,_,_,hh,_⟩:=h; subst hh; rfl) | (obtain ⟨_,_,_,_,_,_,_,hh,_⟩:=h; subst hh; rfl) | (obtain ⟨_,_,_,_,_,_,_,_,hh,_⟩:=h; subst hh; rfl) | (obtain ⟨_,_,_,_,_,_,_,_,_,hh,_⟩:=h; subst hh; rfl)))
theorem sc_w:nB N_w ["thing"] (oQ bW):=by walk_at "s"
theorem sc_3:nB N_3 po' (oQ s_3):=by walk_at "s"
theorem sc_t:nB N_t pq' (oQ Cq):=by walk_at "s"
theorem sc_x:nB N_x ["tops","under"] (oQ bX):=by walk_at "s"
theorem sc_h:nB N_h ["one"] (oQ bY):=by walk_at "s"
theorem sc_j:nB N_j ["size"] (oQ bZ):=by walk_at "s"
theorem sc_16:nB N_16 pq' (oQ s_16):=by walk_at "s"
theorem sc_z:nB N_z pu' (oQ aA):=by walk_at "s"
theorem sc_v:nB N_v pp' (oQ aB):=by walk_at "s"
theorem sc_5:nB N_5 pu' (oQ s_5):=by walk_at "s"
theorem sc_u:nB N_u pr' (oQ aC):=by walk_at "s"
theorem sc_13:nB N_13 pl' (oQ s_13):=by walk_at "s"
theorem sc_11:nB N_11 ["d"] (oQ s_11):=by walk_at "s"
theorem sc_10:nB N_10 ["one","spot"] (oQ s_10):=by walk_at "s"
theorem sc_y:nB N_y pq' (oQ aD):=by walk_at "s"
theorem sc_14:nB N_14 ["one"] (oQ s_14):=by walk_at "s"
theorem sc_m:nB N_m ["most"] (oQ Cp):=by walk_at "s"
theorem sc_k:nB N_k ["d","makers"] (oQ Co):=by walk_at "s"
theorem sc_r:nB N_r pn' (oQ dF):=by walk_at "s"
theorem sc_0:nB N_0 pg' (oQ s_0):=by walk_at "s"
theorem sc_7:nB N_7 pv' (oQ s_7):=by walk_at "s"
theorem sc_1:nB N_1 pv' (oQ s_1):=by walk_at "s"
theorem sc_8:nB N_8 pv' (oQ s_8):=by walk_at "s"
theorem sc_4:nB N_4 pj' (oQ s_4):=by walk_at "s"
theorem sc_d:nB N_d ph' (oQ Cn):=by walk_at "s"
theorem sc_p:nB N_p ["_law_d"] (oQ aE):=by walk_at "s"
theorem sc_g:nB N_g ph' (oQ aF):=by walk_at "s"
theorem sc_n:nB N_n pm' (oQ Cm):=by walk_at "s"
theorem sc_c:nB N_c pm' (oQ aG):=by walk_at "s"
theorem sc_s:nB N_s pd' (oQ Cl):=by walk_at "s"
theorem sc_e:nB N_e pe' (oQ aH):=by walk_at "s"
theorem sc_o:nB N_o pc' (oQ dG):=by walk_at "s"
theorem sc_q:nB N_q pc' (oQ dH):=by walk_at "s"
theorem sc_f:nB N_f pa' (oQ aI):=by walk_at "s"
theorem sc_a:nB N_a pt' (oQ dI):=by walk_at "s"
theorem sc_b:nB N_b ph' (oQ aJ):=by walk_at "s"
theorem sc_l:nB N_l pf' (oQ Ck):=by walk_at "s"
theorem sc_2:nB N_2 pk' (oQ s_2):=by walk_at "s"
theorem sc_i:nB N_i pi' (oQ Cj):=by walk_at "s"
theorem sc_6:nB N_6 pb' (oQ s_6):=by walk_at "s"
theorem sc_17:nB N_17 pt' (oQ s_17):=by walk_at "s"
set_option genInjectivity false in
structure Adr where
 (a_w a_3 a_t a_x a_h a_j a_16 a_z a_v a_5 a_u a_13 a_11 a_10 a_y a_14 a_m a_k a_r a_0 a_7 a_1 a_8 a_4 a_d a_p a_g a_n a_c a_s a_e a_o a_q a_f a_a a_b a_l a_2 a_i a_6 a_17:Addr)
 (d_w d_3 d_t d_x d_h d_j d_16 d_z d_v d_5 d_u d_13 d_11 d_10 d_y d_14 d_m d_k d_r d_0 d_7 d_1 d_8 d_4 d_d d_p d_g d_n d_c d_s d_e d_o d_q d_f d_a d_b d_l d_2 d_i d_6 d_17:FuncData)
 a_15:Addr
 a_19:Addr
 a_18:Addr
 a_12:Addr
 a_1a:Addr
 a_9:Addr
 k_0:Tok
structure Txt(K:Frag)(mg:MT)(t:Adr):Prop where
 F_w:FunT K mg "copied" bW t.a_w t.d_w ["thing"]
 F_3:Fun K "__init__" "TooMany.__init__" s_3 t.a_3 t.d_3
 b_3:mF K t.d_3 po' []
 F_t:FunT K mg "divisor" Cq t.a_t t.d_t pq'
 F_x:FunT K mg "place" bX t.a_x t.d_x ["tops","under"]
 F_h:FunT K mg "rest_place" bY t.a_h t.d_h ["one"]
 F_j:FunT K mg "still_rows" bZ t.a_j t.d_j ["size"]
 F_16:FunT K mg "dot" s_16 t.a_16 t.d_16 pq'
 F_z:FunT K mg "turned" aA t.a_z t.d_z pu'
 F_v:FunT K mg "without" aB t.a_v t.d_v pp'
 F_5:FunT K mg "determinant" s_5 t.a_5 t.d_5 pu'
 F_u:FunT K mg "joined" aC t.a_u t.d_u pr'
 F_13:FunT K mg "deed" s_13 t.a_13 t.d_13 pl'
 F_11:FunT K mg "still" s_11 t.a_11 t.d_11 ["d"]
 F_10:FunT K mg "moved" s_10 t.a_10 t.d_10 ["one","spot"]
 F_y:FunT K mg "behind" aD t.a_y t.d_y pq'
 F_14:FunT K mg "rest" s_14 t.a_14 t.d_14 ["one"]
 F_m:FunT K mg "check_most" Cp t.a_m t.d_m ["most"]
 F_k:FunT K mg "check_axes" Co t.a_k t.d_k ["d","makers"]
 F_r:FunT K mg "closed" dF t.a_r t.d_r pn'
 F_0:FunD K "__init__" "Group.__init__" s_0 t.a_0 t.d_0 [.int 200 t.k_0]
 bd_Group___init__:mF K t.d_0 pg' [.int 200 t.k_0]
 b_0:mF K t.d_0 pg' []
 F_7:Fun K "makers" "Group.makers" s_7 t.a_7 t.d_7
 b_7:mF K t.d_7 pv' []
 F_1:Fun K "members" "Group.members" s_1 t.a_1 t.d_1
 b_1:mF K t.d_1 pv' []
 F_8:Fun K "words" "Group.words" s_8 t.a_8 t.d_8
 b_8:mF K t.d_8 pv' []
 F_4:FunT K mg "_law_cell_at" s_4 t.a_4 t.d_4 pj'
 F_d:FunT K mg "_law_common" Cn t.a_d t.d_d ph'
 F_p:FunT K mg "_law_still" aE t.a_p t.d_p ["_law_d"]
 F_g:FunT K mg "_law_times" aF t.a_g t.d_g ph'
 F_n:FunT K mg "_law_sixty" Cm t.a_n t.d_n pm'
 F_c:FunT K mg "_law_signed" aG t.a_c t.d_c pm'
 F_s:FunT K mg "_law_rows" Cl t.a_s t.d_s pd'
 F_e:FunT K mg "_law_based" aH t.a_e t.d_e pe'
 F_o:FunT K mg "_law_rest" dG t.a_o t.d_o pc'
 F_q:FunT K mg "_law_low" dH t.a_q t.d_q pc'
 F_f:FunT K mg "_law_maker" aI t.a_f t.d_f pa'
 F_a:FunT K mg "_law_makers" dI t.a_a t.d_a pt'
 F_b:FunT K mg "_law_product" aJ t.a_b t.d_b ph'
 F_l:FunT K mg "_law_group" Ck t.a_l t.d_l pf'
 F_2:FunT K mg "_law_wholly_moved" s_2 t.a_2 t.d_2 pk'
 F_i:FunT K mg "_law_by_all" Cj t.a_i t.d_i pi'
 F_6:FunT K mg "_law_by_fewer" s_6 t.a_6 t.d_6 pb'
 F_17:FunT K mg "law" s_17 t.a_17 t.d_17 pt'
 z_any:mg "any"=none
 z_sum:mg "sum"=none
 z_zip:mg "zip"=none
 z_enumerate:mg "enumerate"=none
 z_range:mg "range"=none
 z_len:mg "len"=none
 z_abs:mg "abs"=none
 z_isinstance:mg "isinstance"=none
 z_int:mg "int"=none
 z_list:mg "list"=none
 z_tuple:mg "tuple"=none
 z_sorted:mg "sorted"=none
 z_dict:mg "dict"=none
 z_reversed:mg "reversed"=none
 m_15:mg "CrystalError"=some (.ref t.a_15)
 m_19:mg "NoPlace"=some (.ref t.a_19)
 m_18:mg "NoDeed"=some (.ref t.a_18)
 m_12:mg "TooMany"=some (.ref t.a_12)
 m_1a:mg "NoNumber"=some (.ref t.a_1a)
 m_9:mg "Group"=some (.ref t.a_9)
 g_MOST_MEMBERS:∃u,mg "MOST_MEMBERS"=some u/\RelV (.int 200) u
 h_f:kitOne K (.type "list") (.type "list")=some true
 x_19:PySem.W.excIn K t.a_19 [.type "ValueError",.type "Exception",.type "BaseException",.type "object"] "ValueError.__new__"=true
 x_18:PySem.W.excIn K t.a_18 [.type "ValueError",.type "Exception",.type "BaseException",.type "object"] "ValueError.__new__"=true
 cl_9:L2.Cls K t.a_9
 mk_9:L2.Mk K t.a_9 t.a_0
 me_1:L2.Meth K t.a_9 "members" t.a_1
 h_3:findIn K (.ref t.a_9) "dimension"=some none
 h_e:findIn K (.ref t.a_9) "given"=some none
 h_5:findIn K (.ref t.a_9) "ordered"=some none
 h_4:findIn K (.ref t.a_9) "shortest"=some none
 h_6:findIn K (.ref t.a_9) "numbers"=some none
 me_7:L2.Meth K t.a_9 "makers" t.a_7
 me_8:L2.Meth K t.a_9 "words" t.a_8
 h_g:kitOne K (.type "int") (.type "list")=some false
 h_h:kitOne K (.type "int") (.type "tuple")=some false
 h_7:L2.XIn K t.a_12 t.a_15 t.a_3
 h_8:L2.XSt K t.a_12 "apart"
 h_a:PySem.W.exmOne K (.ref t.a_12) (.ref t.a_12)=some true
 bl:∀(s:Shared)(u:Value),BindsTo s t.d_17 ⟨[u],[]⟩ [("_law_script",u)]
local macro_rules | `(tactic| walk_at "r")=>`(tactic| simp only [tSeq,tAsg,oW,tVar,qVar,tC,tOp,s_A,t_p,t_q,tUn,cK,tB,tIfS,tIf,tAnd,tOr,tNot,t_l,tOrV,t_m,tRet,t_n,Lb,fV,lF,Ov,nD,tNil,tCB,tTup,tLst,tPar,Fo,tBM,tBM0,tSl,Aj,Ak,List.getElem?_cons_zero,List.getElem?_cons_succ,Option.some.injEq,exists_eq_left',exists_eq_left,List.set_cons_zero,List.set_cons_succ,List.cons.injEq,V.int.injEq,V.bl.injEq,V.ref.injEq,and_true,true_and,List.append_nil,ne_eq,exists_and_left,and_assoc,↓reduceIte,Bool.not_true,Bool.not_false,Bool.false_eq_true])
set_option hygiene false in
local macro_rules | `(tactic|apply $e:term)=>`(tactic|refine $e (by walk_at "v") (λcdv A outer s H vs Q E hr h=>?_))
set_option hygiene false in
local macro_rules | `(tactic|left)=>`(tactic|(subst e1;refine st λN1 e1=>?_;ext))
set_option hygiene false in
local macro_rules | `(tactic|right)=>`(tactic|(refine st λN1 e1=>?_;ext))
set_option hygiene false in
local macro_rules | `(tactic|symm)=>`(tactic|(subst e1;ext))
set_option hygiene false in
local macro_rules | `(tactic|exfalso)=>`(tactic|(refine nL λB eB=>?_;simp only[iSeq];ext))
def gcdI(a b:Int):Int:=(Int.gcd a b:Int)
def absI(u:Int):Int:=if u<0 then -u else u
def gl(u:Int)(ns:LI'):Int:=ns.foldl gcdI (absI u)
theorem To(u:Int):0<=absI u:=by unfold absI;split <;> omega
theorem Tn{d u:Int}:d∣absI u↔d∣u:=by
 unfold absI;split
 ·exact Int.dvd_neg
 ·exact Iff.rfl
theorem He{d:Int}:∀(ns:LI')(c:Int),d∣ns.foldl gcdI c↔d∣c/\∀f∈ns,d∣f
 |[],c=>by simp
 | f:: r,c=>by
  rw[wE,He r];unfold gcdI;rw[Int.dvd_coe_gcd_iff];constructor
  ·rintro⟨⟨g,a⟩,i⟩;refine⟨g,λx b=>?_⟩;rcases xC.mp b with e|e
   ·rw[e];exact a
   ·exact i x e
  ·rintro⟨g,a⟩;exact⟨⟨g,a f zY⟩,λx b=>a x (zN _ b)⟩
theorem fF{d u:Int}{ns:LI'}:d∣gl u ns↔d∣u/\∀t∈ns,d∣t:=by
 unfold gl;rw[He,Tn]
theorem Hd:∀(ns:LI')(c:Int),0<=c->0<=ns.foldl gcdI c
 |[],_,h=>h
 |t:: r,c,_=>Hd r _ (Int.natCast_nonneg _)
theorem aK(u:Int)(ns:LI'):0<=gl u ns:=Hd ns _ (To u)
theorem gl_u(u:Int)(ns:LI'):gl u ns∣u:=(fF.mp (qW _)).1
theorem aL{u t:Int}{ns:LI'}(h:t∈ns):gl u ns∣t:=(fF.mp (qW _)).2 t h
theorem Ci{u:Int}(ns:LI')(h:u≠0):0<gl u ns:=by
 have:=aK u ns;rcases Int.lt_or_eq_of_le this with q|q
 ·exact q
 ·obtain⟨k,e⟩:=gl_u u ns;rw[←q,vY]at e;exact absurd e h
theorem Tm{u v:Int}{ns ms:LI'}(h:∀d:Int,(d∣u/\∀t∈ns,d∣t)↔(d∣v/\∀t∈ms,d∣t)):gl u ns=gl v ms:=
 Int.dvd_antisymm (aK _ _) (aK _ _) (fF.mpr ((h _).mp (fF.mp (qW _)))) (fF.mpr ((h _).mpr (fF.mp (qW _))))
theorem Tl(u:Int)(ns:LI')(t:Int):gl u (ns++[t])=gcdI (gl u ns) t:=by unfold gl;rw[uX];rfl
def cs(u:Int)(ns:LI'):Int:=if u<0 then -(gl u ns) else gl u ns
theorem fG{u:Int}(ns:LI')(h:u≠0):cs u ns≠0:=by
 have:=Ci ns h;unfold cs;split <;> omega
theorem jE{u x:Int}{ns:LI'}(h:gl u ns∣x):cs u ns∣x:=by
 unfold cs;split
 ·exact Int.neg_dvd.mpr h
 ·exact h
theorem iH{c x:Int}(a:c≠0)(h:c∣x):x.fdiv c*c=x:=by
 obtain⟨k,e⟩:=h;subst e;rw[wV c k,Int.mul_fdiv_cancel _ a]
theorem aM{u:Int}(ns:LI')(h:u≠0):0<u.fdiv (cs u ns):=by
 have e:=iH (fG ns h) (jE (gl_u u ns));have g:=Ci ns h;rcases Int.lt_trichotomy (u.fdiv (cs u ns)) 0 with q|q|q
 ·refine False.elim ?_;unfold cs at e q;split at e
  ·rename_i a;rw[zE a]at q;have:=Int.mul_nonneg_of_nonpos_of_nonpos (uC q) (show -(gl u ns)<=0 by omega);omega
  ·rename_i a;rw[zD a]at q;have:=Int.mul_neg_of_neg_of_pos q g;omega
 ·rw[q,vY]at e;exact absurd e.symm h
 ·exact q
theorem Tk{u:Int}{ns:LI'}(h:0<u)(g:gl u ns=1):cs u ns=1:=by
 unfold cs;rw[zD ⋯,g]
theorem Tj{u:Int}{ns:LI'}(h:0<u)(g:gl u ns=1):(ns.map λt=>t.fdiv (cs u ns))=ns/\u.fdiv (cs u ns)=u:=by
 rw[Tk h g];refine⟨?_,Int.fdiv_one u⟩;rw[show(λt:Int=>t.fdiv 1)=id from funext λt=>Int.fdiv_one t,pU]
theorem Ti{u:Int}(b:0<u)(a:Int):(a.fmod u-a).fmod u=0:=by
 rw[wC a (uC b),wC _ (uC b)];exact Int.emod_eq_zero_of_dvd (by
  have:=Int.emod_add_mul_ediv a u;exact⟨-(a/u),by rw[Int.mul_neg];omega⟩)
theorem Hc(g l:Int):Int.gcd l (Int.fmod g l)=Int.gcd g l:=by
 rw[Int.fmod_def,Int.gcd_sub_mul_left_right,Int.gcd_comm]
theorem Hb(a b:Int):Int.gcd (if a<0 then -a else a) (if b<0 then -b else b)=Int.gcd a b:=by
 split <;> split <;> simp
theorem aN(a:Int):0<=(if a<0 then -a else a):=by split <;> omega
theorem Ha{g l a b:Int}(h:Int.gcd g l=Int.gcd a b)(c:0<=g)(z:l=0):g=gcdI a b:=by
 rw[z,Int.gcd_zero_right]at h;unfold gcdI;rw[←h];omega
def Cg:Sp:=λvs H Q _=>∃a b,vs=[.int a,.int b]/\Q (.int (gcdI a b)) H
abbrev sp_t:Sp:=Cg
abbrev sp_d:Sp:=Cg
def kS(H:Hp)(p:Addr)(ns:LI')(u:Int):Prop:=∃q,H p=some (.tup [.ref q,.int u])/\H q=some (.tup (ns.map V.int))
theorem kS.up{H H':Hp}{p:Addr}{ns:LI'}{u:Int}(h:kS H p ns u)(s:Same H H'):kS H' p ns u:=let ⟨q,b,a⟩:=h;⟨q,s _ _ b,s _ _ a⟩
def lN(n:Int):Prop:=n.natAbs<2^8990
theorem Iz{c:Int}(h:lN c)(z:c≠0):c.natAbs.log2<9000:=zJ ((Nat.log2_lt ⋯).mpr h) ∅
theorem Iy{c u:Int}(h:lN u)(z:u≠0)(d:c∣u):lN c:=by
 have:=Int.natAbs_dvd_natAbs.mpr d;have:=Nat.le_of_dvd ⋯ this;unfold lN at*
 omega
def redT(u:Int)(ns:LI'):LI':=ns.map λt=>t.fdiv (cs u ns)
def redU(u:Int)(ns:LI'):Int:=u.fdiv (cs u ns)
def nV(u:Int)(ns:LI'):LI':=ns.map λt=>t.fmod u
def sp_x(K:Frag)(C:Addr):Sp:=λvs H Q E=>E4 λ(b:Bool)(a:Addr)(ns:LI')(u:Int)=>A6 (vs=[.ref a,.int u]) (SqB b K H a (ns.map V.int)) (ns.length<=100) (lN u) (((u=0\/ns=[])->E (.ref C) none H)) ((u≠0->ns≠[]->∀p H',Same H H'->kS H' p (redT u ns) (redU u ns)->Q (.ref p) H'))
theorem Th{a:Type}{ns:List a}{i:Nat}{n:a}(h:ns[i]?=some n):ns.take (i+1)=ns.take i++[n]:=by
 rw[xJ,h];rfl
def sp_16(K:Frag):Sp:=λvs H Q _=>E6 λ(b1 b2:Bool)(p q:Addr)(ms ns:LI')=>A7 (vs=[.ref p,.ref q]) (SqB b1 K H p (ms.map V.int)) (SqB b2 K H q (ns.map V.int)) (ms.length=ns.length) (ms.length<=1000) ((∀(i:Nat) m n,ms[i]?=some m->ns[i]?=some n->IntMulOk m n)) (∀H',Same H H'->Q (.int (dotI ms ns)) H')
def sp_z(K:Frag):Sp:=λvs H Q _=>E5 λ(b1 b2:Bool)(a:Addr)(rows:LM)(w:Nat)=>A7 (vs=[.ref a]) (MatB b1 b2 K H a rows) (rows≠[]) ((∀r∈rows,r.length=w)) (w<=1000) (rows.length<=1000) (∀r H',H r=none->Same H H'->MatL H' r (bB w rows)->Q (.ref r) H')
def jF(i k:Nat)(rows:LM):LM:=(rows.eraseIdx i).map λr=>r.eraseIdx k
def sg(k:Nat):Int:=if k%2=0 then 1 else -1
def altS(f:Nat->Int):Nat->Int
 |0=>0
 |k+1=>altS f k+sg k*f k
def detM:Nat->LM->Int
 |0,_=>1
 |1,rows=>(rows.getD 0 []).getD 0 0
 |n+2,rows=>altS (λk=>(rows.getD 0 []).getD k 0*detM (n+1) (jF 0 k rows)) (n+2)
def Sq(n:Nat)(rows:LM):Prop:=rows.length=n/\∀r∈rows,r.length=n
def nP(B:Nat)(rows:LM):Prop:=∀r∈rows,∀x∈r,x.natAbs<2^B
theorem Tg(k:Nat):-sg k=sg (k+1):=by
 unfold sg
 by_cases h:k%2=0
 ·rw[zE h,zD ⋯]
 ·rw[zD h,zE ⋯];rfl
theorem Ix(k:Nat):(sg k).natAbs=1:=by unfold sg;split <;> rfl
theorem Sq.minor{n i k:Nat}{a:LM}(h:Sq (n+1) a)(hi:i<n+1)(b:k<n+1):Sq n (jF i k a):=by
 refine⟨?_,λr hr=>?_⟩
 ·unfold jF;rw[zqe,rD,h.1,zE hi];rfl
 ·obtain⟨z,hz,rfl⟩:=pZ.mp hr;have hl:=h.2 z (wH hz);rw[rD,hl,zE b];rfl
theorem nP.minor{B i k:Nat}{a:LM}(h:nP B a):nP B (jF i k a):=λr hr x b=>by
 obtain⟨z,hz,rfl⟩:=pZ.mp hr;exact h z (wH hz) x (wH b)
theorem Iw{f:Nat->Int}{M:Nat}:∀n:Nat,(∀k<n,(f k).natAbs<=M)->(altS f n).natAbs<=n*M
 |0,_=>by simp[altS]
 |n+1,h=>by
  have c:=Iw n λk d=>h k ⋯;have b:=h n ⋯;show(altS f n+sg n*f n).natAbs<=_;have a:=vP (altS f n) (sg n*f n);rw[xN,Ix,Nat.one_mul]at a;rw[rC];omega
theorem row0{n:Nat}{a:LM}(h:Sq (n+1) a):a[0]?=some (a.getD 0 [])/\a.getD 0 []∈a:=by
 have hl:0<a.length:=by have:=h.1;omega
 have e:a.getD 0 []=a[0]:=by simp[hl]
 rw[e];exact⟨by simp[hl],vD hl⟩
theorem Iv{B:Nat}:∀(n:Nat)(a:LM),1<=n->n<=4->Sq n a->nP B a->(detM n a).natAbs<=2^(n*(B+2))
 |0,_,h,_,_,_=>⋯
 |1,a,_,_,b,c=>by
  have hr:=row0 b;have hl:0<(a.getD 0 []).length:=by rw[b.2 _ hr.2];decide
  have:=c _ hr.2 _ (L2.getD_mem hl);show((a.getD 0 []).getD 0 0).natAbs<=_;have:2^B<=2^(1*(B+2)):=yP ∅ ⋯;omega
 | n+2,a,_,j,b,c=>by
  have hr:=row0 b;have g:∀k<n+2,((a.getD 0 []).getD k 0*detM (n+1) (jF 0 k a)).natAbs<=2^B*2^((n+1)*(B+2)):=λk d=>by
   have hl:k<(a.getD 0 []).length:=by rw[b.2 _ hr.2];exact d
   have f:=c _ hr.2 _ (L2.getD_mem hl);have i:=Iv (n+1) (jF 0 k a) ⋯ ⋯ (b.minor ⋯ d) c.minor;rw[xN];exact vF (wO f) i
  have:=Iw (n+2) g;have e:2^((n+2)*(B+2))=4*(2^B*2^((n+1)*(B+2))):=by
   rw[←uS,show(4:Nat)=2^2 from rfl,←uS];congr 1;rw[Nat.add_mul,Nat.add_mul];omega
  show(altS _ (n+2)).natAbs<=_;rw[e];refine yC this (vR _ ⋯)
theorem nW{x:Int}{B:Nat}(h:x.natAbs<2^B):Builtin.Int.intBits x<=B:=intBits_le_iff.mpr h
def sp_v(K:Frag):Sp:=λvs H Q _=>E7 λ(b1 b2:Bool)(a:Addr)(rows:LM)(i k w:Nat)=>A7 (vs=[.ref a,.int i,.int k]) (MatB b1 b2 K H a rows) ((∀r∈rows,r.length=w)) (k<w) (w<=1000) (rows.length<=1000) (∀r H',H r=none->Same H H'->MatL H' r (jF i k rows)->Q (.ref r) H')
def sp_5(K:Frag):Nat->Sp
 |0=>λ_ _ _ _=>False
 |n+1=>λvs H Q _=>∃(b1 b2:Bool)(a:Addr)(rows:LM)(B:Nat),vs=[.ref a]/\MatB b1 b2 K H a rows/\Sq (n+1) rows/\n<=3/\nP B rows/\B<=1000000/\∀H',Same H H'->Q (.int (detM (n+1) rows)) H'
section
variable {g:TG} {tt:TOx} {fr:List (Str×Nat)} {σ:St} {a:Addr} {H:Hp} {Q:VK} {K:Frag}
theorem Tf{b:Bool}{l:Addr}{xs:List V}(P:Nat->List V->Hp->Prop)(F:H a=none)(c:SqB b K H l xs)(hz:xs.length<=1000)(j:P 0 [] (upd H a (.lst [])))
  (hl:∀i zs H1,P i zs H1->zs.length<=i)(mono:∀i zs H1 H2,P i zs H1->lY a H1 H2->P i zs H2)
  (z:∀i x H1 zs,xs[i]?=some x->Same H H1->H1 a=some (.lst zs)->P i zs H1->∀C:Option V->Hp->Prop,
   (∀y H2,Same H1 H2->P (i+1) (zs++[y]) H2->C (some y) H2)->(∀H2,Same H1 H2->P (i+1) zs H2->C none H2)->tt (some (.int i):: some x:: mL fr σ) H1 C)
  (u:∀H1 ys,Same H H1->H1 a=some (.lst ys)->P xs.length ys H1->Q (.ref a) H1):
  lH (Ite K b l) (gTup K 2 (mU (oW 0) (mU (oW 1) gNil))) tt 2 fr σ a H Q:=by
 refine Bv xs.length P F hz j hl mono (λi H1 hi s=>⟨xs,xs[i],c.up s,by simp[hi]⟩) (λH1 s=>⟨xs,c.up s,rfl⟩) ?_ u;intro i H1 zs hi e k p t x H3 w m C n v;obtain⟨q,x,rfl,D,rfl,f⟩:=m;refine⟨q,[.int i,x],rfl,SqT.of oP,rfl,_,[x],rfl,x,[],rfl,rfl,?_⟩;have sn:Same H1 (upd H1 q (.tup [.int i,x])):=Same.new D
 match t,w with
 |[o,G],_ =>
  exact⟨⟨[some (.int i),some x],rfl,rfl⟩,z i x _ zs (f xs (c.up e)) (e.trans sn) (sn _ _ k) (mono _ _ _ _ p sn.x) C (λy H2 d r=>n y H2 (sn.trans d) r) λH2 d r=>v H2 (sn.trans d) r⟩
end
theorem SqB.cut{b:Bool}{K:Frag}{H:Hp}{p:Addr}{xs:List V}:SqB b K (upd H p (seqO b xs)) p xs:=by
 cases b
 ·exact SqB.lst oP
 ·exact SqB.tup oP
theorem Te{d:Type}{b:List d}{c a:Nat}{r:d}(e:b[a]?=some r):(b.take (a+1)).eraseIdx c=if a=c then(b.take a).eraseIdx c else(b.take a).eraseIdx c++[r]:=by
 have g:a<b.length:=(zqa e).1;have hl:(b.take a).length=a:=by rw[yI];omega
 rw[xJ,e];show(b.take a++[r]).eraseIdx c=_
 by_cases h:a=c
 ·rw[zE h,vW ⋯,hl,h,wX,tI (l:=b.take c) (by rw[yI];omega)];simp
 ·rw[zD h]
  by_cases f:c<a
  ·rw[List.eraseIdx_append_of_lt_length ⋯]
  ·rw[vW ⋯,hl,tI (l:=b.take a) ⋯];congr 1;rw[tI];simp;omega
theorem aO{B C:Nat}:∀(ms ns:LI'),(∀x∈ms,x.natAbs<2^B)->(∀y∈ns,y.natAbs<2^C)->(dotI ms ns).natAbs<=ms.length*2^(B+C)
 |[],ns,_,_=>by simp[dotI]
 |m:: ms,[],_,_=>by simp[dotI]
 | m:: ms,n:: ns,a,b=>by
  have i:=aO ms ns (λx c=>a x (zN _ c)) (λy d=>b y (zN _ d));have e:dotI (m:: ms) (n:: ns)=m*n+dotI ms ns:=by simp[dotI]
  have f:=a m zY;have g:=b n zY;have k:(m*n).natAbs<=2^(B+C):=by
   rw[xN,uS];exact vF (wO f) (wO g)
  have j:=vP (m*n) (dotI ms ns);rw[e,zV,rC];omega
def idM(d:Nat):LM:=(List.range d).map λi=>(List.range d).map λk=>if i=k then(1:Int) else 0
def sp_j:Sp:=λvs H Q _=>E1 λ(n:Nat)=>A3 (vs=[.int n]) (n<=1000) (∀r H',H r=none->Same H H'->MatL H' r (idM n)->Q (.ref r) H')
def mX(K:Frag)(H:Hp)(p:Addr)(M:LM)(ts:LI')(u:Int):Prop:=∃pr pt,H p=some (.tup [.ref pr,.ref pt,.int u])/\MatB true true K H pr M/\H pt=some (.tup (ts.map V.int))
theorem mX.up{K:Frag}{H H':Hp}{p:Addr}{M:LM}{ts:LI'}{u:Int}(h:mX K H p M ts u)(s:Same H H'):mX K H' p M ts u:=let ⟨d,pt,b,a,c⟩:=h;⟨d,pt,s _ _ b,a.up s,s _ _ c⟩
def sp_u(K:Frag):Sp:=λvs H Q _=>E7 λ(b1 b2:Bool)(a p:Addr)(M:LM)(ts:LI')(u:Int)=>A5 (vs=[.ref a,.ref p]) (MatB b1 b2 K H a M) (kS H p ts u) (M.length<=100) (∀q H',Same H H'->mX K H' q M ts u->Q (.ref q) H')
def PlS(K:Frag)(H:Hp)(p:Addr)(ns:LI')(u:Int):Prop:=∃q,SqT K H p [.ref q,.int u]/\SqT K H q (ns.map V.int)
theorem kS.s{K:Frag}{H:Hp}{p:Addr}{ns:LI'}{u:Int}(h:kS H p ns u):PlS K H p ns u:=let ⟨q,b,a⟩:=h;⟨q,SqT.of b,SqT.of a⟩
theorem PlS.up{K:Frag}{H H':Hp}{p:Addr}{ns:LI'}{u:Int}(h:PlS K H p ns u)(s:Same H H'):PlS K H' p ns u:=let ⟨q,b,a⟩:=h;⟨q,mW s _ _ b,mW s _ _ a⟩
theorem Iu{K:Frag}{H:Hp}{p:Addr}{ns:LI'}{u:Int}{Q:VK}(h:PlS K H p ns u)(k:∀q,SqT K H q (ns.map V.int)->Q (.ref q) H):rIxB K (.ref p) (.int 0) H Q:=let ⟨q,b,a⟩:=h;⟨true,p,_,_,_,rfl,rfl,(b:SqB true K H p _),rfl,k q a⟩
theorem Cf{K:Frag}{H:Hp}{p:Addr}{ns:LI'}{u:Int}{Q:VK}(h:PlS K H p ns u)(k:Q (.int u) H):rIxB K (.ref p) (.int 1) H Q:=let ⟨q,a,b⟩:=h;⟨true,p,_,_,_,rfl,rfl,(a:SqB true K H p _),rfl,k⟩
def sp_h(K:Frag):Sp:=λvs H Q _=>E3 λ(p:Addr)(ns:LI')(u:Int)=>A5 (vs=[.ref p]) (PlS K H p ns u) (ns.length<=100) (0<u) (∀p' H',Same H H'->kS H' p' (nV u ns) u->Q (.ref p') H')
def kA(K:Frag)(H:Hp)(p:Addr)(M:LM)(ts:LI')(u:Int):Prop:=∃v0 v1,SqT K H p [.ref v0,.ref v1,.int u]/\MatB true true K H v0 M/\SqT K H v1 (ts.map V.int)
theorem kA.up{K:Frag}{H H':Hp}{p:Addr}{M:LM}{ts:LI'}{u:Int}(h:kA K H p M ts u)(s:Same H H'):kA K H' p M ts u:=let ⟨a,b,c,e,d⟩:=h;⟨a,b,mW s _ _ c,e.up s,mW s _ _ d⟩
theorem mX.s{K:Frag}{H:Hp}{p:Addr}{M:LM}{ts:LI'}{u:Int}(h:mX K H p M ts u):kA K H p M ts u:=let ⟨a,c,b,e,d⟩:=h;⟨a,c,SqT.of b,e,SqT.of d⟩
theorem jS{K:Frag}{H:Hp}{p:Addr}{M:LM}{ts:LI'}{u:Int}{Q:VK}(h:kA K H p M ts u)(q:∀x,MatB true true K H x M->Q (.ref x) H):rIxB K (.ref p) (.int 0) H Q:=let ⟨x,y,b,a,c⟩:=h;⟨true,p,_,_,_,rfl,rfl,(b:SqB true K H p _),rfl,q x a⟩
theorem hX{K:Frag}{H:Hp}{p:Addr}{M:LM}{ts:LI'}{u:Int}{Q:VK}(h:kA K H p M ts u)(q:∀x,SqT K H x (ts.map V.int)->Q (.ref x) H):rIxB K (.ref p) (.int 1) H Q:=let ⟨x,y,a,c,b⟩:=h;⟨true,p,_,_,_,rfl,rfl,(a:SqB true K H p _),rfl,q y b⟩
theorem jG{K:Frag}{H:Hp}{p:Addr}{M:LM}{ts:LI'}{u:Int}{Q:VK}(h:kA K H p M ts u)(q:Q (.int u) H):rIxB K (.ref p) (.int 2) H Q:=let ⟨x,y,a,b,c⟩:=h;⟨true,p,_,_,_,rfl,rfl,(a:SqB true K H p _),rfl,q⟩
def movT(M:LM)(ts:LI')(u:Int)(ns:LI')(v:Int):LI':=List.zipWith (λr t=>dotI r ns*u+t*v) M ts
def lV(B:Nat)(ns:LI'):Prop:=∀x∈ns,x.natAbs<2^B
structure Fine(d:Nat)(M:LM)(ts:LI')(u:Int):Prop where
 sq:Sq d M
 len:ts.length=d
 pos:0<u
 bm:nP 200000 M
 bt:lV 200000 ts
 bu:u<2^1500
def sp_10(K:Frag):Sp:=λvs H Q _=>E8 λ(p q:Addr)(M:LM)(ts ns:LI')(u v:Int)(d:Nat)=>A11 (vs=[.ref p,.ref q]) (kA K H p M ts u) (PlS K H q ns v) (Fine d M ts u) (1<=d) (d<=4) (ns.length=d) (lV 200000 ns) (0<v) (v<2^1500) (∀r H',Same H H'->kS H' r (redT (u*v) (movT M ts u ns v)) (redU (u*v) (movT M ts u ns v))->Q (.ref r) H')
def sp_y(K:Frag):Sp:=λvs H Q _=>E9 λ(p q:Addr)(M N:LM)(ts ns:LI')(u v:Int)(d:Nat)=>A8 (vs=[.ref p,.ref q]) (kA K H p M ts u) (kA K H q N ns v) (Fine d M ts u) (Fine d N ns v) (1<=d) (d<=4) (∀r H',Same H H'->mX K H' r (mulM d N M) (redT (v*u) (movT N ns v ts u)) (redU (v*u) (movT N ns v ts u))->Q (.ref r) H')
def sp_14(K:Frag):Sp:=λvs H Q _=>E4 λ(p:Addr)(M:LM)(ts:LI')(u:Int)=>A6 (vs=[.ref p]) (kA K H p M ts u) (M.length<=100) (ts.length<=100) (0<u) (∀r H',Same H H'->mX K H' r M (nV u ts) u->Q (.ref r) H')
theorem fH{u:Int}(b:0<u)(a:u<2^1500):u.natAbs<2^1500:=by
 have e:((2^1500:Nat):Int)=(2:Int)^1500:=nofun
 omega
theorem Ce{u:Int}{B:Nat}(h:u.natAbs<2^B)(a:B<=8990):lN u:=zJ h (yP ∅ a)
theorem Td{u v:Int}(b:0<u)(c:u<2^1500)(a:0<v)(d:v<2^1500):lN (u*v)/\0<u*v:=by
 refine⟨Ce (B:=1500+1500) ?_ ∅,xT b a⟩;rw[xN,uS];exact qV (fH b c) (fH a d)
theorem nP.le{B C:Nat}{M:LM}(h:nP B M)(a:B<=C):nP C M:=λr hr x b=>zJ (h r hr x b) (yP ∅ a)
section
variable {P:Program} {w:World} {K:Frag} {mg:MT} {base:Heap} {t:Adr}
theorem Tc{ns:LI'}{k:Int}(a:0<=k)(b:k<ns.length):atI (ns.map V.int) k=some (.int (ns.getD k.toNat 0)):=by
 obtain⟨j,rfl⟩:=Int.eq_ofNat_of_zero_le a;exact mZ (jA (getD_at ⋯)) rfl
def sp_4(K:Frag):Sp:=λvs H Q _=>E3 λ(p:Addr)(ns:LI')(k:Int)=>A4 (vs=[.ref p,.int k]) (SqL K H p (ns.map V.int)) (0<=k) (Q (.int (ns.getD k.toNat 0)) H)
theorem ok_4(T:Txt K mg t):FnOk P w K mg base CX0 1 t.a_4 t.d_4 pj' (sp_4 K):=by
 apply T.F_4.ok sc_4
 ·obtain⟨p,ns,k,rfl,a,b,q⟩:=h;refine⟨_,(oM (nK (nE fY (pq 1) (nY T.z_len (pq 0)) (nF _))
   (oO (oY (nO ix_B (pq 0) (pq 1) (λ_ _=>rfl))))
   nJ)
   (oO (oY oK))),?_⟩
  show tSeq _ _ _ [some (.ref p),some (.int k)] H;ext;refine bE (b:=false) a ?_;ext
  by_cases z:k<ns.length
  ·rw[zQ z];exact iteT ⟨false,p,_,_,_,rfl,rfl,a,Tc b z,q⟩
  ·rw[zO z];refine iteF ?_;have e:ns.getD k.toNat 0=0:=by
    rw[zqc,vL ⋯];rfl
   rw[e]at q;exact q
theorem Ta{a b:Int}{H:Hp}{Q:VK}{E:XK}:Cg [.int a,.int b] H Q E=Q (.int (gcdI a b)) H:=propext ⟨λ⟨_,_,e,q⟩=>by cases e;exact q,λq=>⟨_,_,rfl,q⟩⟩
theorem ok_t(T:Txt K mg t):FnOk P w K mg base CX0 1 t.a_t t.d_t pq' sp_t:=by
 apply T.F_t.ok sc_t
 ·obtain⟨a,b,rfl,k⟩:=h;refine⟨_,(oM (oT (i:=2) sc_t.nd rfl (Or.inl rfl) (mY gG rfl T.z_abs (nofun) (oH (pq 0) oJ)))
   (oM (oT (i:=3) sc_t.nd rfl (Or.inl rfl) (mY gG rfl T.z_abs (nofun) (oH (pq 1) oJ)))
   (oM (cE yG (nE iQ (pq 3) oK (nF _))
   (oM (oT (i:=4) sc_t.nd rfl (Or.inl rfl) (oN nM (pq 2) (pq 3)))
   (oM (oT (i:=2) sc_t.nd rfl (Or.inl rfl) (pq 3))
   (oO (oT (i:=3) sc_t.nd rfl (Or.inl rfl) (pq 4))))))
   (oO (oY (pq 2)))))),?_⟩
  show tSeq _ _ _ [some (.int a),some (.int b),none,none,none] H;ext;refine⟨λm d H1=>∃g l r,d=[some (.int a),some (.int b),some (.int g),some (.int l),r]/\H1=H/\0<=g/\0<=l/\Int.gcd g l=Int.gcd a b/\m=l.toNat,
   ⟨_,_,_,_,rfl,rfl,aN a,aN b,Hb a b,rfl⟩,?_⟩
  rintro m d H1 ⟨g,l,r,rfl,rfl,f,hl,e,rfl⟩;ext
  by_cases z:l=0
  ·rw[zQ z];refine iteF ?_;rw[Ha e f z];exact k
  ·rw[zO z];refine iteT ⟨λc H'=>c=[some (.int a),some (.int b),some (.int l),some (.int (g.fmod l)),some (.int (g.fmod l))]/\H'=H1,?_,z,rfl,rfl⟩;rintro c H' ⟨rfl,rfl⟩;have l1:=rW g (show 0<l by omega);have l2:=sG g (show 0<l by omega);exact⟨(g.fmod l).toNat,⋯,_,_,_,rfl,rfl,hl,l2,by rw[Hc];exact e,rfl⟩
theorem ok_x(T:Txt K mg t):FnOk P w K mg base (CX1 P w) 2 t.a_x t.d_x ["tops","under"] (sp_x K t.a_19):=by
 have S:=@ok_t P w K mg base t T;refine T.F_x.okX sc_x (λvs H Q E h=>?_) (λcdv A outer s H vs Q E hr h=>?_)
 ·obtain⟨b,a,ns,u,rfl,_⟩:=h;rfl
 ·obtain⟨b,a,ns,u,rfl,c,hl,N,m,R⟩:=h;refine⟨_,(oM (nK (nE lG (pq 1) oK (nF _))
   (oO (gO rfl gM rfl T.m_19 T.x_19 xB (oH iL oJ)))
   nJ)
   (oM (nK (nE lG (nY T.z_len (pq 0)) oK (nF _))
   (oO (gO rfl gM rfl T.m_19 T.x_19 xB (oH iL oJ)))
   nJ)
   (oM (oT (i:=2) sc_x.nd rfl (Or.inr rfl) (mY gG rfl T.z_abs (nofun) (oH (pq 1) oJ)))
   (oM (PS.nox (mI yG rfl (nQ (pq 0)) (nS (i:=3) sc_x.nd rfl (Or.inl rfl))
   (oO (oT (i:=2) sc_x.nd rfl (Or.inr rfl) (nA S hr.mo T.F_t (oH (pq 2) (oH (pq 3) oJ)))))))
   (oM (nK (nE fY (pq 1) oK (nF _))
   (oO (oT (i:=2) sc_x.nd rfl (Or.inr rfl) (cH cI (pq 2))))
   nJ)
   (oO (oY (lE (oH (mK kO rfl T.z_tuple (nofun) (oH (mD (sc:=oQ bX) (N:=N_x) (fr:=[("common",2)]) (te:=(tOp (rI kX λi j=>.int (i.fdiv j)) (tVar 0) (tVar 1))) rfl rfl (nofun) rfl (nofun) (nQ (pq 0)) (λ_ _ _ a0=>(oN nU (pv 0) (pv 1)))) oJ)) (oH (oN nU (pq 1) (pq 2)) oJ)))))))))),?_⟩
  show tSeq _ _ _ [some (.ref a),some (.int u),none,none] H;refine st λN1 e1=>?_;simp only[jO];ext;refine ite2 (λz=>⟨∅,m (.inl (xW z))⟩) (λz=>?_);have g:u≠0:=λq=>z (zQ q);subst e1;refine st λN1 e1=>?_;simp only[jO];ext;refine bE c ?_;ext;refine ite2 (λz=>⟨∅,m (.inr ?_)⟩) (λz=>?_)
  ·have:=xW z;exact vA ⋯
  have W:ns≠[]:=λq=>z (zQ (by rw[q];rfl));left;subst e1;refine st λN1 e1=>mM λB eB=>?_;simp only[iSeq];ext;refine⟨b,⟨_,c⟩,?_⟩;refine kQ (g:=oW 3) (tb:=B) (λi f H1=>∃v3,f=[some (.ref a),some (.int u),some (.int (gl u (ns.take i))),v3]/\H1=H) ⟨_,rfl,rfl⟩ (λi f H1 _⟨_,_,e⟩=>e ▸ c) ?_ ?_
  ·rintro i x f H1 hi ⟨v3,rfl,rfl⟩;obtain⟨n,k,rfl⟩:=kP hi;subst eB;ext;simp only[Ta];rw[Th k,Tl]
   first|trivial|exact⟨_,rfl,rfl⟩
  ·rintro f H1 ⟨v3,rfl,rfl⟩;rw[zqe,uF];subst e1;refine st λI D=>?_;have d:I [some (.ref a),some (.int u),some (.int (cs u ns)),v3] H1:=by
    subst D;have Z:lN (cs u ns):=Iy N g (jE (gl_u u ns));have o:∀x,kX x (cs u ns):=λx=>⟨fG ns g,Iz Z (fG ns g)⟩;ext;exfalso;refine⟨b,⟨_,c⟩,λG Y=>lJ (λj y _=>∃n,ns[j]?=some n/\y=.int (n.fdiv (cs u ns))) Y c (by rw[zqe];omega) (λ_ _ _ _ r _=>r) ?_ ?_⟩
    ·intro i x H2 zs L _ _ F U;obtain⟨n,k,rfl⟩:=kP L;subst eB;show tOp _ _ _ [some (.int n),some (.int (cs u ns))] H2 F;ext;exact⟨o n,U _ H2 (Same.refl _) ⟨n,k,rfl⟩⟩
    ·intro H2 ys O e1 X C;have M:ys=(redT u ns).map V.int:=by
      unfold redT;rw[xO];exact mV (by simpa using X) C
     subst M;refine⟨G,_,rfl,.inl ⟨SqL.of e1,λl J=>?_⟩⟩;ext;refine⟨o u,(by show 2<=sizeLine;decide),λp v=>R g W p _ ((O.trans (Same.new J)).trans (Same.new v)) ⟨l,oP,?_⟩⟩;rw[oR (nN oP v)];exact oP
   ext;unfold cs at d;refine ite2 (λz=>?_) (λz=>?_)
   ·rw[zE (xW z)]at d;exact d
   ·rw[zD (λq=>z (zQ q))]at d;exact d
theorem Uz{H:Hp}{p:Addr}{ns:LI'}{u:Int}{Q:VK}(h:kS H p ns u)(q:∀x,H x=some (.tup (ns.map V.int))->Q (.ref x) H):rIxB K (.ref p) (.int 0) H Q:=let ⟨x,b,a⟩:=h;⟨true,p,_,_,_,rfl,rfl,SqB.tup b,rfl,q x a⟩
theorem Uy{H:Hp}{p:Addr}{ns:LI'}{u:Int}{Q:VK}(h:kS H p ns u)(q:Q (.int u) H):rIxB K (.ref p) (.int 1) H Q:=let ⟨x,a,b⟩:=h;⟨true,p,_,_,_,rfl,rfl,SqB.tup a,rfl,q⟩
theorem ok_h(T:Txt K mg t):FnOk P w K mg base CX0 1 t.a_h t.d_h ["one"] (sp_h K):=by
 apply T.F_h.ok sc_h
 ·obtain⟨p,ns,u,rfl,c,hl,F,o⟩:=h;refine⟨_,(oM (oT (i:=1) sc_h.nd rfl (Or.inr rfl) (nC (pq 0)))
   (oO (oY (lE (oH (mK kO rfl T.z_tuple (nofun) (oH (mD (sc:=oQ bY) (N:=N_h) (fr:=[("under",1)]) (te:=(tOp (rI (λ_ j=>j≠0) λi j=>.int (i.fmod j)) (tVar 0) (tVar 1))) rfl rfl (nofun) rfl (nofun) (nQ (nC (pq 0))) (λ_ _ _ G=>(oN nM (pv 0) (pv 1)))) oJ)) (oH (pq 1) oJ)))))),?_⟩
  show tSeq _ _ _ [some (.ref p),none] H;right;refine Cf c ?_;symm;exfalso;refine Iu c λx a=>⟨true,x,rfl,⟨_,(show SqB true K H x _ from a)⟩,λe m=>lJ (λj y _=>∃n,ns[j]?=some n/\y=.int (n.fmod u)) m ((show SqB true K H x _ from a)) (by rw[zqe];omega) (λ_ _ _ _ r _=>r) ?_ ?_⟩
  ·intro i x H1 zs a _ _ z q;obtain⟨n,C,rfl⟩:=kP a;subst eB;show tOp _ _ _ [some (.int n),some (.int u)] H1 z;ext;exact⟨⋯,q _ H1 (Same.refl _) ⟨n,C,rfl⟩⟩
  ·intro H1 ys v e1 k f;have d:ys=(nV u ns).map V.int:=by
    unfold nV;rw[xO];exact mV (by simpa using k) f
   subst d;refine⟨e,_,rfl,.inl ⟨SqL.of e1,λl D=>?_⟩⟩;refine⟨(by show 2<=sizeLine;decide),λg b=>o g _ ((v.trans (Same.new D)).trans (Same.new b)) ⟨l,oP,?_⟩⟩;rw[oR (nN oP b)];exact oP
theorem ok_16(T:Txt K mg t):FnOk P w K mg base CX0 1 t.a_16 t.d_16 pq' (sp_16 K):=by
 apply T.F_16.ok sc_16
 ·obtain⟨b1,b2,p,q,ms,ns,rfl,k,o,hl,hz,v,z⟩:=h;refine⟨_,(oO (oY (mY (cW rfl) rfl T.z_sum (nofun) (oH (iA (xs:=["left","right"]) (fr:=[]) (g:=(gTup K 2 (mU (oW 0) (mU (oW 1) gNil)))) (tt:=(tEl (tOp (rI (λi j=>IntMulOk i j) λi j=>.int (i*j)) (tVar 0) (tVar 1)))) (kN (sc:=oQ s_16) (N:=N_16) rfl rfl (nofun)) rfl (Fb rfl T.z_zip (oH (pq 0) (oH (pq 1) oJ))) (λ_ _ _ f=>(iN rfl (lQ (kZ (N:=["left","right"]) (i:=0) f rfl (nofun)) (lQ (kZ (N:=["left","right"]) (i:=1) f rfl (nofun)) iM)))) (λ_ _ _ f=>(kY (oN nT (pv 0) (pv 1))))) oJ)))),?_⟩;show tRet _ _ [some (.ref p),some (.ref q)] H;ext;refine nL λB eB=>?_;simp only[iZip];ext;refine⟨b1,⟨_,k⟩,b2,⟨_,o⟩,λa I=>?_⟩;refine Gz (λj y _=>∃m n,ms[j]?=some m/\ns[j]?=some n/\y=.int (m*n)) I k o (by simpa using hl) (by simpa using hz) (λ_ _ _ _ r _=>r) ?_ ?_
  ·intro i x y H1 zs F d l g G C;obtain⟨m,c,rfl⟩:=kP F;obtain⟨n,b,rfl⟩:=kP d;subst eB;show tOp _ _ _ [some (.int m),some (.int n)] H1 G;ext;exact⟨v i m n c b,C _ _ (Same.refl _) ⟨m,n,c,b,rfl⟩⟩
  ·intro H1 zs l g D u;have d:zs=(List.zipWith (·*·) ms ns).map V.int:=by
    refine mV (by simp at D ⊢;omega) λj y e=>?_;obtain⟨m,n,c,b,rfl⟩:=u j y e;exact⟨m*n,by rw[wF,c,b],rfl⟩
   subst d;exact⟨_,rfl,_,SqL.of g,z H1 l⟩
theorem ok_z(T:Txt K mg t):FnOk P w K mg base CX0 1 t.a_z t.d_z pu' (sp_z K):=by
 apply T.F_z.ok sc_z
 ·obtain⟨b1,b2,a,b,w,rfl,C,Z,o,a2,a3,W⟩:=h;refine⟨_,(oO (oY (iA (xs:=["k"]) (fr:=[("rows",0)]) (g:=(oW 0)) (tt:=(tEl (lI (iSeq K (tVar 1)) (oW 0) (tEl (tOp (rIxB K) (tVar 0) (tVar 1))) 1 [("k",0)]))) (kN (sc:=oQ aA) (N:=N_z) rfl rfl (nofun)) rfl (mH rfl T.z_range (oH (nY T.z_len (nC (pq 0))) oJ)) (λ_ _ _ f=>(eN (N:=["k","rows"]) (i:=0) f rfl (nofun) rfl)) (λ_ _ _ f=>(kY (mD (N:=["k","rows"]) (fr:=[("k",0)]) (te:=(tOp (rIxB K) (tVar 0) (tVar 1))) f rfl (nofun) rfl (nofun) (nQ (pv 1)) (λ_ _ _ a6=>(nO ix_B (pv 0) (pv 1) (λ_ _=>rfl))))))))),?_⟩;show tRet _ _ [some (.ref a)] H;ext;refine nL λB eB=>?_;simp only[nZ];ext;obtain⟨c,u⟩:∃c,b[0]?=some c:=by cases b with|nil=>exact absurd rfl Z|cons r _=>exact⟨r,rfl⟩
  have S:c.length=w:=o c (zqb u);obtain⟨ps,p,k1,k2,k3,R⟩:=C.row u;refine⟨b1,a,_,0,_,rfl,rfl,k1,mZ k2 rfl,b2,p,_,rfl,R,?_⟩;rw[zqe,S];refine⟨_,rfl,⋯,⋯,λl z=>?_⟩;rw[zS];refine kE (RowR l λk=>colI k b) z a2 (RowR.mono (a:=l)) ?_ ?_
  ·intro i H1 zs hi m F L X;subst eB;show lI _ _ _ _ _ [some (.int (0+(i:Int))),some (.ref a)] H1 L;exfalso;obtain⟨xs,q,a7,D⟩:=(C.up m).walk;refine⟨b1,⟨_,q⟩,λY n=>?_⟩;refine lJ (λj y _=>∃r,b[j]?=some r/\y=.int (r.getD i 0)) n q ⋯ (λ_ _ _ _ r _=>r) ?_ ?_
   ·intro j x H2 a5 J g a4 O U;obtain⟨p,r,rfl,d,a0⟩:=D j x J;subst eB;show tOp _ _ _ [some (.ref p),some (.int (0+(i:Int)))] H2 O;ext;have a1:i<r.length:=by rw[o r (zqb d)];exact hi
    exact⟨b2,p,_,_,_,rfl,rfl,a0.up g,mZ (jA (getD_at a1)) ⋯,U _ _ (Same.refl _) ⟨r,d,rfl⟩⟩
   ·intro H2 ys g I v G;have N:ys=(colI i b).map V.int:=by
     refine mV (by simp[colI];omega) λj y e=>?_;obtain⟨r,d,rfl⟩:=G j y e;exact⟨r.getD i 0,by unfold colI;rw[zM,d];rfl,rfl⟩
    subst N;exact X _ _ g ⟨Y,rfl,yF (nN F n),I⟩
  ·intro H1 ys m e1 v M;have:=MatL.of e1 M;rw[v]at this;exact W l H1 z m this
theorem ok_v(T:Txt K mg t):FnOk P w K mg base CX0 1 t.a_v t.d_v pp' (sp_v K):=by
 apply T.F_v.ok sc_v
 ·obtain⟨b1,b2,a,J,c,k,w,rfl,a7,W,b5,b7,b3,a4⟩:=h;refine⟨_,(oO (oY (iA (xs:=["at","row"]) (fr:=[("i",1),("k",2)]) (g:=(gTup K 2 (mU (oW 0) (mU (oW 1) gNil)))) (tt:=(gQ (cK (tOp (rI0 λi j=>.bl (!decide (i=j))) (tVar 0) (tVar 2))) (tOp rCat (tCB (cX K) (nD (tSl (rSlB K) (tVar 1) Ak (Aj (tVar 3))) tNil)) (tCB (cX K) (nD (tSl (rSlB K) (tVar 1) (Aj (tOp (rI0 λi j=>.int (i+j)) (tVar 3) (tC (.int 1)))) Ak) tNil))))) (kN (sc:=oQ aB) (N:=N_v) rfl rfl (nofun)) rfl (cV rfl T.z_enumerate (oH (pq 0) oJ)) (λ_ _ _ v=>(iN rfl (lQ (kZ (N:=["at","row","i","k"]) (i:=0) v rfl (nofun)) (lQ (kZ (N:=["at","row","i","k"]) (i:=1) v rfl (nofun)) iM)))) (λ_ _ _ v=>(Og (nE iQ (pv 0) (pv 2) (nF _)) (oN eH (mK gR rfl T.z_list (nofun) (oH (gJ sl_B (pv 1) eG (iP (pv 3))) oJ)) (mK gR rfl T.z_list (nofun) (oH (gJ sl_B (pv 1) (iP (oN mC (pv 3) oK)) eG) oJ)))))))),?_⟩;show tRet _ _ [some (.ref a),some (.int c),some (.int k)] H;ext;refine Pk λb4 b0 a0 eB=>?_;simp only[eO];ext;obtain⟨xs,O,a6,X⟩:=a7.walk;refine⟨b1,⟨_,O⟩,λN S=>?_⟩;refine Tf (λt zs H1=>lK N H1 zs (((J.take t).eraseIdx c).map λ(r:LI')=>r.eraseIdx k)) S O ⋯ lK.nil ?_ (λ_ _ _ _ r s=>r.mono s) ?_ ?_
  ·intro i zs H1 p;rw[p.len,zqe,rD];have:=List.length_take_le i J;split <;> omega
  ·intro i x H1 zs a2 F Y p C G y;obtain⟨I,r,rfl,U,u⟩:=X i x a2;have b6:r.length=w:=W r (zqb U);replace u:=u.up F;rw[Te U]at G y;subst a0 eB;show gQ _ _ [some (.int i),some (.ref I),some (.int c),some (.int k)] H1 C;simp only[gQ];ext
   by_cases z:i=c
   ·subst z;rw[zE rfl]at y;rw[zQ rfl];exact y H1 (Same.refl _) p
   ·rw[zD z]at G;rw[zO (show¬ (i:Int)=c by omega)];refine iteT ?_;refine⟨b2,I,_,rfl,u,λ_=>by rw[zqe,HT.sIx_none,HT.sIx_nat];omega,λf a8=>?_⟩;have sq1:SqB b2 K (upd H1 f (seqO b2 (cutV (r.map V.int) none (some (k:Int))))) f (cutV (r.map V.int) none (some (k:Int))):=SqB.cut;have n:Same H1 (upd H1 f (seqO b2 (cutV (r.map V.int) none (some (k:Int))))):=Same.new a8;generalize upd H1 f _=H2 at sq1 n;rw[Pg ⋯]at sq1;refine⟨b2,f,_,rfl,sq1,λd a1=>?_⟩;have L:(upd H2 d (.lst ((r.take k).map V.int))) d=some (.lst ((r.take k).map V.int)):=oP;have q:Same H2 (upd H2 d (.lst ((r.take k).map V.int))):=Same.new a1;generalize upd H2 d _=H3 at L q;refine⟨b2,I,_,rfl,(u.up n).up q,λ_=>by rw[zqe,HT.sIx_none,show(k:Int)+1=((k+1:Nat):Int) by omega,HT.sIx_nat];omega,λb a5=>?_⟩;have sq3:SqB b2 K (upd H3 b (seqO b2 (cutV (r.map V.int) (some ((k:Int)+1)) none))) b (cutV (r.map V.int) (some ((k:Int)+1)) none):=SqB.cut;have l:Same H3 (upd H3 b (seqO b2 (cutV (r.map V.int) (some ((k:Int)+1)) none))):=Same.new a5;generalize upd H3 b _=o at sq3 l;rw[show(k:Int)+1=((k+1:Nat):Int) by omega,Pf ⋯]at sq3;refine⟨b2,b,_,rfl,sq3,λg a9=>?_⟩;have m:Same o (upd o g (.lst ((r.drop (k+1)).map V.int))):=Same.new a9;have M:(upd o g (.lst ((r.drop (k+1)).map V.int))) g=some (.lst ((r.drop (k+1)).map V.int)):=oP;generalize upd o g _=Z at M m;refine⟨d,g,_,_,rfl,rfl,m _ _ (l _ _ L),M,by rw[zqe,zqe,yI,uG];exact wO (kL ⋯),λa3 D=>?_⟩;have R:Same H1 (upd Z a3 (.lst ((r.take k).map V.int++(r.drop (k+1)).map V.int))):=(((n.trans q).trans l).trans m).trans (Same.new D);refine G _ _ R ?_;rw[yV];refine(p.mono R.x).snoc (λe=>?_) ?_
    ·subst e;rw[m _ _ (l _ _ (q _ _ (n _ _ Y)))]at D;cases D
    ·rw[oP];dsimp only;rw[List.eraseIdx_eq_take_drop_succ,yV]
  ·intro H1 ys F e1 p;rw[a6,uF]at p;exact a4 N H1 S F (lK.mat e1 p)
theorem ok_5(T:Txt K mg t):∀n:Nat,FnOk P w K mg base CX0 (n+1) t.a_5 t.d_5 pu' (sp_5 K n)
 |0=>⟨λ_ _ _ _ h=>h.elim,λ_ _ _ _ _ _ _ _ _ _ _ _ _ h=>h.elim⟩
 | n+1=>by
  have R:FnOk P w K mg base CX0 (n+1) t.a_5 t.d_5 pu' (sp_5 K n):=ok_5 T n;have X:=@ok_v P w K mg base t T;apply T.F_5.ok sc_5
  ·obtain⟨b1,b2,a,c,B,rfl,e,d,a6,u,U,F⟩:=h;refine⟨_,(oM (nK (nE lG (nY T.z_len (pq 0)) oK (nF _))
   (oO (oY (nC (nC (pq 0)))))
   nJ)
   (oM (oT (i:=1) sc_5.nd rfl (Or.inl rfl) oK)
   (oM (oT (i:=2) sc_5.nd rfl (Or.inl rfl) oK)
   (oM (mI yG rfl (cV rfl T.z_enumerate (oH (nC (pq 0)) oJ)) (iN rfl (lQ (nS (i:=3) sc_5.nd rfl (Or.inl rfl)) (lQ (nS (i:=4) sc_5.nd rfl (Or.inl rfl)) iM)))
   (oM (nK (nE iQ (pq 4) oK (nF _))
   (oO (Eu (i:=1) sc_5.nd rfl (Or.inl rfl) (oN nT (oN nT (pq 2) (pq 4)) (nA R hr.mo T.F_5 (oH (nA X hr.mo T.F_v (oH (pq 0) (oH oK (oH (pq 3) oJ)))) oJ))) Et))
   nJ)
   (oO (oT (i:=2) sc_5.nd rfl (Or.inl rfl) (cH cI (pq 2))))))
   (oO (oY (pq 1))))))),?_⟩
   show tSeq _ _ _ [some (.ref a),none,none,none,none] H;obtain⟨y,G⟩:=row0 d;have a0:(c.getD 0 []).length=n+1:=d.2 _ G;right;refine iU e ?_;ext;rw[d.1]
   by_cases z:n=0
   ·subst z;rw[zQ (by rfl)];exact iteT (iS e y (getD_at (k:=0) ⋯) rfl rfl (F H (Same.refl _)))
   ·rw[zO (show¬ ((n+1:Nat):Int)=1 by omega)];refine iteF ?_;obtain⟨n,rfl⟩:∃m,n=m+1:=⟨n-1,⋯⟩;left;left;subst e1;refine st λN1 e1=>mM λa3 eB=>?_;simp only[eO];ext;refine Ph e y rfl λp J=>⟨b2,_,rfl,⟨_,J⟩,?_⟩;generalize hf:(λk=>(c.getD 0 []).getD k 0*detM (n+1) (jF 0 k c))=f;refine Gw (nx:=N1) (rt:=Q) (λk i H1=>∃v3 o,i=[some (.ref a),some (.int (altS f k)),some (.int (sg k)),v3,o]/\Same H H1) ⟨_,_,rfl,Same.refl _⟩ (λ_ _ _ _⟨_,_,_,b⟩=>J.up b) ?_ ?_
    ·rintro k x q i H1 V ⟨v3,o,rfl,b⟩ a2;obtain⟨x,L,rfl⟩:=kP V;have C:k<n+2:=by have:=(zqa L).1;omega
     refine⟨q,[.int k,.int x],rfl,SqT.of oP,rfl,_,_,rfl,_,_,rfl,rfl,?_⟩;replace b:=b.trans (Same.new (o:=.tup [.int k,.int x]) a2);generalize upd H1 q (.tup [.int k,.int x])=H2 at b;subst eB;show tSeq _ _ _ [some (.ref a),some (.int (altS f k)),some (.int (sg k)),some (.int k),some (.int x)] H2;refine st λW S=>?_;have v:∀H3(j:Int),Same H H3->j=altS f (k+1)->W [some (.ref a),some (.int j),some (.int (sg k)),some (.int k),some (.int x)] H3:=by
      intro H3 j l a1;subst S a1;ext;rw[Tg];exact⟨rfl,l⟩
     ext;have I:(c.getD 0 []).getD k 0=x:=Pj L;have M:f k=x*detM (n+1) (jF 0 k c):=by rw[←hf];dsimp only;rw[I]
     have N:=d.minor (i:=0) (k:=k) ⋯ C;have D:nP B (jF 0 k c):=u.minor
     by_cases g:x=0
     ·rw[zQ g];refine iteF (v H2 _ b ?_);show _=altS f k+sg k*f k;rw[M,g];simp
     ·rw[zO g];refine iteT ?_;simp only[tAug,ipI];ext;refine⟨vG (by unfold sg;split <;> decide),b1,b2,a,c,0,k,_,rfl,e.up b,d.2,C,⋯,by rw[d.1];omega,λr H3 _ l Y=>?_⟩;refine⟨false,false,r,_,B,rfl,Y.b,N,⋯,D,U,λZ O=>?_⟩;ext;have a4:=u _ G x (by rw[←I];exact L2.getD_mem ⋯);have a5:=Iv (n+1) _ ⋯ ⋯ N D;refine⟨xL (m:=B+1) (n:=(n+1)*(B+2)+1) (nW ?_) (nW ?_) ?_,?_⟩
      ·rw[xN,Ix,Nat.one_mul,qU];omega
      ·rw[qU];have:=rB ((n+1)*(B+2));omega
      ·have:(n+1)*(B+2)<=4*1000002:=vF ⋯ ⋯;omega
      ·refine v Z _ ((b.trans l).trans O) ?_;show _=altS f k+sg k*f k;rw[M,Int.mul_assoc]
    ·rintro i H1 ⟨v3,o,rfl,b⟩;symm;rw[zqe,a0];have:altS f (n+2)=detM (n+2) c:=by rw[←hf];rfl
     rw[this];exact F H1 b
theorem ok_j(T:Txt K mg t):FnOk P w K mg base CX0 1 t.a_j t.d_j ["size"] sp_j:=by
 apply T.F_j.ok sc_j
 ·obtain⟨n,rfl,q,L⟩:=h;refine⟨_,(oO (oY (iA (xs:=["i"]) (fr:=[("size",0)]) (g:=(oW 0)) (tt:=(tEl (lI (nZ (nD (tVar 1) tNil)) (oW 0) (tEl (tIf (cK (tOp (rI0 λi j=>.bl (decide (i=j))) (tVar 1) (tVar 0))) (tC (.int 1)) (tC (.int 0)))) 1 [("i",0)]))) (kN (sc:=oQ bZ) (N:=N_j) rfl rfl (nofun)) rfl (mH rfl T.z_range (oH (pq 0) oJ)) (λ_ _ _ a=>(eN (N:=["i","size"]) (i:=0) a rfl (nofun) rfl)) (λ_ _ _ a=>(kY (mD (N:=["i","size"]) (fr:=[("i",0)]) (te:=(tIf (cK (tOp (rI0 λi j=>.bl (decide (i=j))) (tVar 1) (tVar 0))) (tC (.int 1)) (tC (.int 0)))) a rfl (nofun) rfl (nofun) (mH rfl T.z_range (oH (pv 1) oJ)) (λ_ _ _ O=>(Lc (nE lG (pv 1) (pv 0) (nF _)) oK oK)))))))),?_⟩;show tRet _ _ [some (.int n)] H;ext;refine nL λB eB=>?_;simp only[nZ];ext;refine⟨⋯,⋯,λb o=>?_⟩;rw[zS];refine kE (RowR b λi=>(List.range n).map λk=>if i=k then(1:Int) else 0) o q (RowR.mono (a:=b)) ?_ ?_
  ·intro i H2 zs hi f u D M;subst eB;show lI _ _ _ _ _ [some (.int (0+(i:Int))),some (.int n)] H2 D;refine nL λB eB=>?_;simp only[nZ];ext;refine⟨⋯,⋯,λN d=>?_⟩;rw[zS];refine kE (λk y _=>k<n/\y=.int (if i=k then 1 else 0)) d q (λ_ _ _ _ r _=>r) ?_ ?_
   ·intro k H3 R g m S J l;subst eB;show tIf _ _ _ [some (.int (0+(k:Int))),some (.int (0+(i:Int)))] H3 J;ext
    by_cases z:i=k
    ·rw[zQ ⋯];exact iteT (l _ _ (Same.refl _) ⟨g,by rw[zE z]⟩)
    ·rw[zO ⋯];exact iteF (l _ _ (Same.refl _) ⟨g,by rw[zD z]⟩)
   ·intro H3 ys m x c F;have G:ys=((List.range n).map λk=>if i=k then(1:Int) else 0).map V.int:=by
     refine mV (by simpa using c) λj y e=>?_;obtain⟨I,rfl⟩:=F j y e;exact⟨_,by rw[zM,xA I];rfl,rfl⟩
    subst G;exact M _ _ m ⟨N,rfl,yF (nN u d),x⟩
  ·intro H2 ys f C c v;have p:=MatL.of C v;rw[c]at p;exact L b H2 o f p
theorem Cd{H:Hp}{a c:Addr}{M:LM}{R:St}{Q:VK}{b1 b2:Bool}(D:MatB b1 b2 K H a M)(hl:M.length<=1000)(v:H c=none)
  (n:∀H1 zs,Same H H1->H1 c=some (.lst zs)->(∀l,H1 l=none->MatB true true K (upd H1 l (.tup zs)) l M)->Q (.ref c) H1):lH (Its K b1 a) (oW 0) (tEl (tCB (gS K) (nD (tVar 0) tNil))) 1 [] R c H Q:=by
 cases b2 with
 |false =>
  refine Pe D hl v λH1 b m=>?_;obtain⟨zs,hz,_⟩:=id m;refine n H1 _ b hz λl f=>?_;obtain⟨Y,g,N⟩:=m.tuple (K:=K) f;rw[hz]at g;cases g;exact N
 | true =>
  obtain⟨xs,S,a2,G⟩:=D.walk;refine lJ (λj y _=>∃p r,y=.ref p/\M[j]?=some r/\SqB true K H p (r.map V.int)) v S ⋯ (λ_ _ _ _ r _=>r) ?_ ?_
  ·intro i x H1 zs O b X Z T;obtain⟨p,r,rfl,W,o⟩:=G i x O;exact⟨_,rfl,p,_,rfl,.inr ⟨o.up b,T _ _ (Same.refl _) ⟨p,r,rfl,W,o⟩⟩⟩
  ·intro H1 ys b e1 u k;have U:∃ps:LA,ys=ps.map V.ref:=by
    clear e1 u;have:∀(zs:List V),(∀(j:Nat) y,zs[j]?=some y->∃p:Addr,y=.ref p)->∃ps:LA,zs=ps.map V.ref:=by
     intro zs
     induction zs with
     |nil=>intro _;exact⟨[],rfl⟩
     |cons z r F =>
      intro hz;obtain⟨p,e⟩:=hz 0 z rfl;obtain⟨ps,d⟩:=F λj y q=>hz (j+1) y (by simpa using q);exact⟨p:: ps,by rw[e,d];rfl⟩
    exact this ys λj y e=>let ⟨p,r,e1,_⟩:=k j y e;⟨p,e1⟩
   obtain⟨ps,rfl⟩:=U;refine n H1 _ b e1 λl f=>⟨ps,SqB.tup oP,by simp at u;omega,λi p r d I=>?_⟩;obtain⟨a1,a0,J,C,L⟩:=k i (.ref p) (by simp[d]);cases J;rw[I]at C;cases C;exact L.up (b.trans (Same.new f))
theorem ok_u(T:Txt K mg t):FnOk P w K mg base CX0 1 t.a_u t.d_u pr' (sp_u K):=by
 apply T.F_u.ok sc_u
 ·obtain⟨b1,b2,a,p,M,ts,u,rfl,e,f,hl,m⟩:=h;refine⟨_,(oO (oY (lE (oH (mK kO rfl T.z_tuple (nofun) (oH (mD (sc:=oQ aC) (N:=N_u) (fr:=[]) (te:=(tCB (gS K) (nD (tVar 0) tNil))) rfl rfl (nofun) rfl (nofun) (nQ (pq 0)) (λ_ _ _ r=>(mK kO rfl T.z_tuple (nofun) (oH (pv 0) oJ)))) oJ)) (oH (nC (pq 1)) (oH (nC (pq 1)) oJ)))))),?_⟩;show tRet _ _ [some (.ref a),some (.ref p)] H;ext;exfalso;obtain⟨xs,j,_⟩:=e.walk;refine⟨b1,⟨_,j⟩,λo k=>?_⟩;subst eB;refine Cd e ⋯ k λH1 zs n hz c=>?_;refine⟨o,_,rfl,.inl ⟨SqL.of hz,λl g=>?_⟩⟩;have b:Same H (upd H1 l (.tup zs)):=n.trans (Same.new g);replace c:=c l g;generalize upd H1 l (.tup zs)=H2 at b c;refine Uz (f.up b) λx i=>Uy (f.up b) ⟨(by show 3<=sizeLine;decide),λq d=>m q _ (b.trans (Same.new d)) ⟨l,x,oP,c.up (Same.new d),Same.new d _ _ i⟩⟩
theorem ok_14(T:Txt K mg t):FnOk P w K mg base CX0 2 t.a_14 t.d_14 ["one"] (sp_14 K):=by
 have j:=@ok_u P w K mg base t T;have d:=@ok_h P w K mg base t T;apply T.F_14.ok sc_14
 ·obtain⟨p,M,ts,u,rfl,a,hl,r,e,k⟩:=h;refine⟨_,(oO (oY (nA j hr.mo T.F_u (oH (nC (pq 0)) (oH (nA d hr.mo T.F_h (oH (lE (oH (nC (pq 0)) (oH (nC (pq 0)) oJ))) oJ)) oJ))))),?_⟩;show tRet _ _ [some (.ref p)] H;ext;refine jS a λx f=>hX a λy g=>jG a ⟨(by show 2<=sizeLine;decide),λl v=>?_⟩;have b:Same H (upd H l (.tup [.ref y,.int u])):=Same.new v;refine⟨l,ts,u,rfl,⟨y,SqT.of oP,mW b _ _ g⟩,r,e,λi H2 c o=>?_⟩;exact⟨true,true,x,i,M,_,u,rfl,f.up (b.trans c),o,hl,λq H3 n m=>k q H3 ((b.trans c).trans n) m⟩
theorem ok_10(T:Txt K mg t):FnOk P w K mg base CX0 3 t.a_10 t.d_10 ["one","spot"] (sp_10 K):=by
 have W:=@ok_16 P w K mg base t T;have b1:=@ok_x P w K mg base t T;apply T.F_10.ok sc_10
 ·obtain⟨p,q,M,ts,ns,u,v,d,rfl,f,o,a,c0,b7,b8,N,D,C,a7⟩:=h;refine⟨_,(oM (Bx (i:=2) (xs:=["row","top"]) (fr:=[("one",0),("spot",1)]) (g:=(gTup K 2 (mU (oW 0) (mU (oW 1) gNil)))) (tt:=(tEl (tOp (rI0 λi j=>.int (i+j)) (tOp (rI (λi j=>IntMulOk i j) λi j=>.int (i*j)) (lF (sp_16 K) [] E0 (nD (tVar 0) (nD (tOp (rIxB K) (tVar 3) (tC (.int 0))) tNil))) (tOp (rIxB K) (tVar 2) (tC (.int 2)))) (tOp (rI (λi j=>IntMulOk i j) λi j=>.int (i*j)) (tVar 1) (tOp (rIxB K) (tVar 3) (tC (.int 1))))))) (kN (sc:=oQ s_10) (N:=N_10) rfl rfl (nofun)) rfl sc_10.nd rfl rfl (Fb rfl T.z_zip (oH (nC (pq 0)) (oH (nC (pq 0)) oJ))) (λ_ _ _ k=>(iN rfl (lQ (kZ (N:=["row","top","one","spot"]) (i:=0) k rfl (nofun)) (lQ (kZ (N:=["row","top","one","spot"]) (i:=1) k rfl (nofun)) iM)))) (λ_ _ _ k=>(kY (oN mC (oN nT (nA W hr.mo T.F_16 (oH (pv 0) (oH (nC (pv 3)) oJ))) (nC (pv 2))) (oN nT (pv 1) (nC (pv 3)))))))
   (oO (oY (cO b1 hr.mo rfl T.F_x.m T.F_x.kp T.F_x.b .nil gN (oH (pq 2) (oH (oN nT (nC (pq 0)) (nC (pq 1))) oJ)))))),?_⟩
  show tSeq _ _ _ [some (.ref p),some (.ref q),none] H;right;refine nL λB eB=>?_;simp only[iZip];ext;refine jS f λx a1=>hX f λy R=>?_;obtain⟨xs,I,F,S⟩:=a1.walk;refine⟨true,true,x,rfl,y,rfl,⟨_,I⟩,⟨_,(R:SqB true K H y _)⟩,λY b2=>?_⟩;have U:∀(i:Nat)(r:LI')(tt:Int),M[i]?=some r->ts[i]?=some tt->(movT M ts u ns v)[i]?=some (dotI r ns*u+tt*v):=λi r tt e1 l=>by
   unfold movT;rw[wF,e1,l]
  refine Gz (λj z _=>∃n,(movT M ts u ns v)[j]?=some n/\z=.int n) b2 I ((R:SqB true K H y _)) (by rw[F,a.sq.1,zqe,a.len]) (by rw[F,a.sq.1];omega) (λ_ _ _ _ r _=>r) ?_ ?_
  ·intro i a4 c2 H1 zs b4 a9 b b6 Z a8;obtain⟨L,r,rfl,G,b0⟩:=S i a4 b4;obtain⟨tt,O,rfl⟩:=kP a9;have b9:r.length=d:=a.sq.2 r (zqb G);have J:=a.bm r (zqb G);subst eB;show tOp _ _ _ [some (.ref L),some (.int tt),some (.ref p),some (.ref q)] H1 Z;ext;refine Iu (o.up b) λz hz=>?_;refine⟨true,true,L,z,r,ns,rfl,b0.up b,(hz:SqB true K H1 z _),⋯,⋯,λb5 m n e1 l=>xL (nW (J m (zqb e1))) (nW (N n (zqb l))) ∅,λH2 c=>?_⟩;refine jG (f.up (b.trans c)) ?_;ext;have c1:=aO r ns J N;have a5:(dotI r ns).natAbs<2^400010:=by
    have:r.length*2^(200000+200000)<=4*2^(200000+200000):=vR _ ⋯;have e:(2:Nat)^400010=1024*2^(200000+200000):=by rw[show(400010:Nat)=10+(200000+200000) from rfl,uS]
    have:=rB (200000+200000);omega
   refine⟨xL (nW a5) (nW (fH a.pos a.bu)) ∅,?_⟩;refine Cf (o.up (b.trans c)) ?_;ext;refine⟨xL (nW (a.bt tt (zqb O))) (nW (fH D C)) ∅,?_⟩;exact a8 _ _ c ⟨_,U i r tt G O,rfl⟩
  ·intro H1 zs b a6 X a0;have g:(movT M ts u ns v).length=d:=by unfold movT;rw[xU,a.sq.1,a.len];omega
   have a2:zs=(movT M ts u ns v).map V.int:=mV (by rw[X,F,a.sq.1,g]) a0;subst a2;symm;refine jG (f.up b) ?_;refine Cf (o.up b) ?_;ext;have b3:=Td a.pos a.bu D C;refine⟨xL (nW (fH a.pos a.bu)) (nW (fH D C)) ∅,?_⟩;refine⟨false,Y,_,_,rfl,SqB.lst a6,⋯,b3.1,λz=>?_,λ_ _ r H2 c a3=>a7 r H2 (b.trans c) a3⟩;rcases z with z|z
   ·omega
   ·rw[z]at g;simp at g;omega
theorem ok_y(T:Txt K mg t):FnOk P w K mg base CX0 4 t.a_y t.d_y pq' (sp_y K):=by
 have b7:=@ok_16 P w K mg base t T;have b5:=@ok_z P w K mg base t T;have e5:=@ok_10 P w K mg base t T;have e0:=@ok_u P w K mg base t T;apply T.F_y.ok sc_y
 ·obtain⟨p,q,M,N,ts,ns,u,v,d,rfl,R,Y,a,o,d4,b4,d2⟩:=h;refine⟨_,(oM (oT (i:=2) sc_y.nd rfl (Or.inr rfl) (nA b5 hr.mo T.F_z (oH (nC (pq 0)) oJ)))
   (oM (Bx (i:=3) (xs:=["row"]) (fr:=[("columns",2)]) (g:=(oW 0)) (tt:=(tEl (lI (iSeq K (tVar 1)) (oW 0) (tEl (lF (sp_16 K) [] E0 (nD (tVar 1) (nD (tVar 0) tNil)))) 1 [("row",0)]))) (kN (sc:=oQ aD) (N:=N_y) rfl rfl (nofun)) rfl sc_y.nd rfl rfl (nQ (nC (pq 1))) (λ_ _ _ I=>(eN (N:=["row","columns"]) (i:=0) I rfl (nofun) rfl)) (λ_ _ _ I=>(kY (mD (N:=["row","columns"]) (fr:=[("row",0)]) (te:=(lF (sp_16 K) [] E0 (nD (tVar 1) (nD (tVar 0) tNil)))) I rfl (nofun) rfl (nofun) (nQ (pv 1)) (λ_ _ _ f1=>(nA b7 hr.mo T.F_16 (oH (pv 1) (oH (pv 0) oJ))))))))
   (oO (oY (nA e0 hr.mo T.F_u (oH (pq 3) (oH (nA e5 hr.mo T.F_10 (oH (pq 1) (oH (lE (oH (nC (pq 0)) (oH (nC (pq 0)) oJ))) oJ))) oJ))))))),?_⟩
  show tSeq _ _ _ [some (.ref p),some (.ref q),none,none] H;right;have d6:M≠[]:=λz=>by have:=a.sq.1;rw[z]at this;simp at this;omega
  refine jS R λx c5=>⟨true,true,x,M,d,rfl,c5,d6,a.sq.2,⋯,by rw[a.sq.1];omega,λc H1 e6 a2 d9=>?_⟩;left;exfalso;refine jS (Y.up a2) λy d8=>?_;obtain⟨xs,a1,a6,a8⟩:=d8.walk;refine⟨true,y,rfl,⟨_,a1⟩,λJ e2=>?_⟩;refine lJ (RowR J λj=>(List.range d).map λk=>dotI (N.getD j []) (colI k M)) e2 a1 (by rw[a6,o.sq.1];omega) (RowR.mono (a:=J)) ?_ ?_
  ·intro i x H2 zs b9 D b0 c0 d3;obtain⟨O,r,rfl,W,d7⟩:=a8 i x b9;have b6:N.getD i []=r:=by rw[zqc,W];rfl
   have c9:r.length=d:=o.sq.2 r (zqb W);have c7:=o.bm r (zqb W);subst eB;show lI _ _ _ _ _ [some (.ref O),some (.ref c)] H2 c0;exfalso;obtain⟨e8,a5,e9,e3⟩:=((d9.up D).b (K:=K)).walk;refine⟨false,⟨_,a5⟩,λd5 X=>?_⟩;have e7:(bB d M).length=d:=by simp[bB]
   refine lJ (λj y _=>y=.int (dotI r (colI j M))/\j<d) X a5 ⋯ (λ_ _ _ _ r _=>r) ?_ ?_
   ·intro j y H3 f2 L b f3 c8 d0;obtain⟨a3,col,rfl,F,U⟩:=e3 j y L;have g:j<d:=by have:=(zqa F).1;omega
    have d1:col=colI j M:=by
     unfold bB at F;rw[zM,xA g]at F;exact(zU F).symm
    subst eB d1;show lF _ _ _ _ [some (.ref a3),some (.ref O)] H3 c8;ext;refine⟨true,false,O,a3,r,colI j M,rfl,(d7.up D).up b,U.up b,by simp[colI,c9,a.sq.1],⋯,λa9 m n e1 f=>?_,λc6 C=>d0 _ _ C ⟨rfl,g⟩⟩;unfold colI at f;rw[zM]at f;cases eb:M[a9]? with
    |none=>rw[eb]at f;cases f
    |some S =>
     rw[eb]at f;have e4:S.getD j 0=n:=zU f;subst e4;have a4:=zqb eb;exact xL (nW (c7 m (zqb e1))) (nW (a.bm S a4 _ (L2.getD_mem (by rw[a.sq.2 S a4];exact g)))) ∅
   ·intro H3 ys b b8 a7 c4;have L:ys=((List.range d).map λk=>dotI r (colI k M)).map V.int:=by
     refine mV (by simp;omega) λj y e=>?_;obtain⟨rfl,g⟩:=c4 j y e;exact⟨_,by rw[zM,xA g];rfl,rfl⟩
    subst L;exact d3 _ _ b ⟨d5,rfl,yF (nN b0 X),by dsimp only;rw[b6];exact b8⟩
  ·intro H2 ys D f a7 b3;have a0:=MatL.of f b3;have e:(List.range ys.length).map (λj=>(List.range d).map λk=>dotI (N.getD j []) (colI k M))=mulM d N M:=by
    rw[a7,a6];unfold mulM;refine uI (by simp) λi Z f0=>?_;simp at Z;simp[Z]
   rw[e]at a0;have G:=a2.trans D;symm;refine hX (R.up G) λz hz=>jG (R.up G) ⟨(by show 2<=sizeLine;decide),λl c3=>?_⟩;have b:Same H2 (upd H2 l (.tup [.ref z,.int u])):=Same.new c3;refine⟨q,l,N,ns,ts,v,u,d,rfl,(Y.up G).up b,⟨z,SqT.of oP,mW b _ _ hz⟩,o,d4,b4,a.len,a.bt,a.pos,a.bu,λr c6 C c1=>?_⟩;exact⟨false,false,J,r,_,_,_,rfl,((a0.up b).up C).b,c1,by simp[mulM,o.sq.1];omega,λc2 b1 b2 U=>d2 c2 b1 (((G.trans b).trans C).trans b2) U⟩
def Cc(rows:LM)(tops:LI')(u:Int):Prop:=(rows.length=2\/rows.length=3)/\(∀r∈rows,r.length=rows.length)/\tops.length=rows.length/\u≠0/\(detM rows.length rows=1\/detM rows.length rows=-1)
def sp_13(K:Frag)(C:Addr):Sp:=λvs H Q E=>E9 λ(b1 b2 b3:Bool)(a p:Addr)(rows:LM)(tops:LI')(u:Int)(B:Nat)=>A10 (vs=[.ref a,.ref p,.int u]) (MatB b1 b2 K H a rows) (SqB b3 K H p (tops.map V.int)) (rows.length<=100) (tops.length<=100) (nP B rows) (B<=1000000) (lN u) ((¬ Cc rows tops u->∀H',Same H H'->E (.ref C) none H')) ((Cc rows tops u->∀q H',Same H H'->mX K H' q rows (redT u tops) (redU u tops)->Q (.ref q) H'))
theorem inV2(L x y:Int):inV (.int L) [.int x,.int y]=decide (L=x\/L=y):=by
 have e:inV (.int L) [.int x,.int y]=(eqV (.int x) (.int L) || (eqV (.int y) (.int L) || false)):=rfl;have f:∀a b:Int,eqV (.int a) (.int b)=decide (a=b):=λa b=>by
  first|rfl|(unfold eqV;rfl)|(simp only[eqV];by_cases h:a=b <;> simp[h])
 rw[e,f,f,Bool.or_false]
 by_cases d:x=L
 ·rw[zQ d,zQ (p:=L=x\/L=y) (Or.inl d.symm)];rfl
 ·rw[zO d]
  by_cases c:y=L
  ·rw[zQ c,zQ (p:=L=x\/L=y) (Or.inr c.symm)];rfl
  ·rw[zO c,zO (p:=L=x\/L=y) ⋯];rfl
theorem Ux{H:Hp}{Q:VK}{E:XK}{b1 b2:Bool}{a:Addr}{b:LM}{n B:Nat}(e:1<=n)(d:n<=4)(g:MatB b1 b2 K H a b)(c:Sq n b)(i:nP B b)(f:B<=1000000)(q:∀H',Same H H'->Q (.int (detM n b)) H'):sp_5 K n [.ref a] H Q E:=by
 match n,e,d,c,q with
 |m+1,_,d,c,q=>exact⟨b1,b2,a,b,B,rfl,g,c,⋯,i,f,q⟩
theorem ok_13(T:Txt K mg t):FnOk P w K mg base (CX1 P w) 6 t.a_13 t.d_13 pl' (sp_13 K t.a_18):=by
 have c8:=@ok_x P w K mg base t T;have c6:=@ok_u P w K mg base t T;refine T.F_13.okX sc_13 (λvs H Q E h=>?_) (λcdv A outer s H vs Q E hr h=>?_)
 ·obtain⟨b1,b2,U,a,p,c,M,u,B,rfl,_⟩:=h;rfl
 ·obtain⟨b1,b2,U,a,p,c,M,u,B,rfl,v,R,b3,b0,a2,b8,b7,e,c2⟩:=h;obtain⟨n,d4,N⟩:∃n:Nat,n<=3/\((c.length=2\/c.length=3)->n=c.length):=by
   by_cases z:c.length=2\/c.length=3
   ·exact⟨c.length,⋯,λ_=>rfl⟩
   ·exact⟨0,⋯,λh=>absurd h z⟩
  have a0:FnOk P w K mg base CX0 (n+1) t.a_5 t.d_5 pu' (sp_5 K n):=ok_5 T n;refine⟨_,(oM (oT (i:=3) sc_13.nd rfl (Or.inr rfl) (nY T.z_len (pq 0)))
   (oM (nK (nE Af (pq 3) (lE (oH oK (oH oK oJ))) rfl)
   (oO (gO rfl gM rfl T.m_18 T.x_18 xB (oH iL oJ)))
   nJ)
   (oM (nK (PW.pt (fU (fS (mY (Pc rfl) rfl T.z_any (nofun) (oH (mD (sc:=oQ s_13) (N:=N_13) (fr:=[("axes",3)]) (te:=(tOp (rI0 λi j=>.bl (!decide (i=j))) (tCB (eP K) (nD (tVar 0) tNil)) (tVar 1))) rfl rfl (nofun) rfl (nofun) (nQ (pq 0)) (λ_ _ _ d5=>(cJ iQ (nY T.z_len (pv 0)) (pv 1) (nF _)))) oJ))) (fT (nE iQ (nY T.z_len (pq 1)) (pq 3) (nF _)))))
   (oO (gO rfl gM rfl T.m_18 T.x_18 xB (oH iL oJ)))
   nJ)
   (oM (nK (nE lG (pq 2) oK (nF _))
   (oO (gO rfl gM rfl T.m_18 T.x_18 xB (oH iL oJ)))
   nJ)
   (oM (nK (nE Af (nA a0 hr.mo T.F_5 (oH (pq 0) oJ)) (lE (oH oK (oH (cH cI oK) oJ))) rfl)
   (oO (gO rfl gM rfl T.m_18 T.x_18 xB (oH iL oJ)))
   nJ)
   (oO (oY (nA c6 hr.mo T.F_u (oH (pq 0) (oH (cO c8 hr.mo rfl T.F_x.m T.F_x.kp T.F_x.b .nil gN (oH (pq 1) (oH (pq 2) oJ))) oJ)))))))))),?_⟩
  show tSeq _ _ _ [some (.ref a),some (.ref p),some (.int u),none] H;right;refine iU v ?_;subst e1;refine st λN1 e1=>?_;simp only[jO];ext;refine⟨by show 2<=sizeLine;decide,λG c1=>?_⟩;have k:Same H (upd H G (.tup [.int 2,.int 3])):=Same.new c1;refine⟨G,_,rfl,.inr (SqT.of oP),rfl,rfl,_,rfl,?_⟩;generalize upd H G (.tup [.int 2,.int 3])=H1 at k;rw[inV2]
  by_cases J:c.length=2\/c.length=3
  case neg =>
   rw[zO ⋯];refine iteT ?_;simp only[jO];ext;exact⟨∅,e (λg=>J g.1) _ k⟩
  rw[zQ ⋯];refine iteF ?_;replace N:=N J;subst N;left;refine nL λC c0=>?_;simp only[iSeq];ext;obtain⟨xs,X,d7,Z⟩:=(v.up k).walk;refine⟨b1,⟨_,X⟩,λa6 c7=>?_⟩;refine lJ (λj y _=>∃r,c[j]?=some r/\y=.bl (!decide (r.length=c.length))) c7 X ⋯ (λ_ _ _ _ r _=>r) ?_ ?_
  ·intro i x H2 zs a8 F d2 a4 c3;obtain⟨b9,W,rfl,d1,c5⟩:=Z i x a8;subst c0;show tOp _ _ _ [some (.ref b9),some (.int c.length)] H2 a4;ext;refine bE (c5.up F) ?_
   try ext
   refine c3 _ _ (Same.refl _) ⟨W,d1,?_⟩
   by_cases z:W.length=c.length
   ·rw[zQ z,zQ ⋯]
   ·rw[zO z,zO ⋯]
  ·intro H2 ys F a1 d8 D;have b6:ys=(c.map λr=>!decide (r.length=c.length)).map V.bl:=by
    rw[xO];exact mV ⋯ D
   subst b6;refine⟨a6,rfl,_,SqL.of a1,?_⟩
   try ext
   have d:=k.trans F
   by_cases f:∀r∈c,r.length=c.length
   case neg =>
    have I:(c.map λr=>!decide (r.length=c.length)).any id=true:=by
     rw[List.any_eq_true];obtain⟨r,hr⟩:=Classical.not_forall.mp f;obtain⟨b4,D⟩:=Classical.not_imp.mp hr;exact⟨true,pZ.mpr ⟨r,b4,by rw[zO D];rfl⟩,rfl⟩
    rw[I];refine iteT ?_;simp only[jO];ext;exact⟨∅,e (λg=>f g.2.1) _ d⟩
   have I:(c.map λr=>!decide (r.length=c.length)).any id=false:=by
    rw[List.any_eq_false];intro b a3;obtain⟨r,hr,rfl⟩:=pZ.mp a3;rw[zQ (f r hr)]
    decide
   rw[I];refine iteF ?_;refine bE (R.up d) ?_
   try ext
   by_cases l:M.length=c.length
   case neg =>
    rw[zO ⋯];refine iteT ?_;simp only[jO];ext;exact⟨∅,e (λg=>l g.2.2.1) _ d⟩
   rw[zQ ⋯];refine iteF ?_;subst e1;refine st λN1 e1=>?_;simp only[jO];ext;refine ite2 (λz=>⟨∅,e (λg=>g.2.2.2.1 (xW z)) _ d⟩) (λz=>?_);have Y:u≠0:=λq=>z (zQ q);left;refine Ux ⋯ ⋯ (v.up d) ⟨rfl,f⟩ a2 b8 λH3 c4=>?_
   try ext
   refine⟨by show 2<=sizeLine;decide,λL a5=>?_⟩;have O:Same H3 (upd H3 L (.tup [.int 1,.int (-1)])):=Same.new a5;refine⟨L,_,rfl,.inr (SqT.of oP),rfl,rfl,_,rfl,?_⟩;generalize upd H3 L (.tup [.int 1,.int (-1)])=d6 at O;have o:=(d.trans c4).trans O;rw[inV2]
   by_cases m:detM c.length c=1\/detM c.length c=-1
   case neg =>
    rw[zO m];refine iteT ?_;simp only[jO];ext;exact⟨∅,e (λg=>m g.2.2.2.2) _ o⟩
   rw[zQ m];refine iteF ?_;symm;refine⟨U,p,M,u,rfl,R.up o,b0,b7,λz=>?_,λ_ _ d0 d3 S a9=>⟨b1,b2,a,d0,c,_,_,rfl,v.up (o.trans S),a9,b3,λq b5 a7 c9=>c2 ⟨J,f,l,Y,m⟩ q b5 ((o.trans S).trans a7) c9⟩⟩;rcases z with z|z
   ·exact absurd z Y
   ·rw[z]at l;simp at l;omega
def sp_11(K:Frag):Sp:=λvs H Q _=>E1 λ(d:Nat)=>A3 (vs=[.int d]) ((d=2\/d=3)) (∀q H',Same H H'->mX K H' q (idM d) (List.replicate d 0) 1->Q (.ref q) H')
theorem Uw(ns:LI'):gl 1 ns=1:=Int.eq_one_of_dvd_one (aK 1 ns) (gl_u 1 ns)
theorem Uv{d:Nat}(a:d=2\/d=3):Cc (idM d) (List.replicate d 0) 1/\nP 1 (idM d):=by
 rcases a with rfl|rfl
 ·exact⟨⟨.inl rfl,∅,∅,∅,.inl ∅⟩,by intro r hr x b;revert r x;decide⟩
 ·exact⟨⟨.inr rfl,∅,∅,∅,.inl ∅⟩,by intro r hr x b;revert r x;decide⟩
theorem Uu:lN 1:=Ce (B:=1) ∅ ∅
theorem ok_11(T:Txt K mg t):FnOk P w K mg base CX0 8 t.a_11 t.d_11 ["d"] (sp_11 K):=by
 have u:=@ok_13 P w K mg base t T;have v:=@ok_j P w K mg base t T;apply T.F_11.ok sc_11
 ·obtain⟨d,rfl,i,x⟩:=h;refine⟨_,(oO (oY (cO u hr.mo rfl T.F_13.m T.F_13.kp T.F_13.b .nil gN (oH (nA v hr.mo T.F_j (oH (pq 0) oJ)) (oH (oN Oy (nX (oH oK oJ)) (pq 0)) (oH oK oJ)))))),?_⟩;show tRet _ _ [some (.int d)] H;ext;refine⟨d,rfl,⋯,λr H1 _ z p=>?_⟩
  try ext
  refine⟨by show 1<=sizeLine;decide,λl hl=>?_⟩;have a:Same H1 (upd H1 l (.lst [.int 0])):=Same.new hl;have c:(upd H1 l (.lst [.int 0])) l=some (.lst [.int 0]):=oP;generalize upd H1 l (.lst [.int 0])=H2 at a c;refine⟨l,d,_,rfl,rfl,c,⋯,⋯,?_,λl2 C=>?_⟩
  ·rw[zS];show 1*d<=sizeLine;have:3<=sizeLine:=∅
   omega
  have b:Same H2 (upd H2 l2 (.lst (List.replicate (d:Int).toNat [V.int 0]).flatten)):=Same.new C;have f:(upd H2 l2 (.lst (List.replicate (d:Int).toNat [V.int 0]).flatten)) l2=some (.lst ((List.replicate d (0:Int)).map V.int)):=by
   rw[oP,zS];rcases i with rfl|rfl <;> rfl
  generalize upd H2 l2 (.lst (List.replicate (d:Int).toNat [V.int 0]).flatten)=H3 at b f;obtain⟨g,k⟩:=Uv i;have j:=Tj (u:=1) ∅ (Uw (List.replicate d 0));have e1:redT 1 (List.replicate d 0)=List.replicate d 0:=j.1;have y:redU 1 (List.replicate d 0)=1:=j.2;refine⟨false,false,false,r,l2,idM d,List.replicate d 0,1,1,rfl,((p.up a).up b).b,SqB.lst f,by simp[idM];omega,by simp;omega,k,∅,Uu,λn=>absurd g n,λ_ q o m e=>?_⟩;rw[e1,y]at e;exact x q o ((z.trans (a.trans b)).trans m) e
def dJ(M:LM)(ts:LI')(u:Int):PyData:=.tuple [matD true true M,jQ true ts,.int u]
theorem Ut{M N:LM}{ts ns:LI'}{u v:Int}:dJ M ts u=dJ N ns v↔(M=N/\ts=ns/\u=v):=by
 unfold dJ;simp only[PyData.tuple.injEq,List.cons.injEq,PyData.int.injEq,and_true,Pm,Gx]
theorem Dt.deed{K:Frag}{H:Hp}{p:Addr}{M:LM}{ts:LI'}{u:Int}(h:mX K H p M ts u):Dt K H (.ref p) (dJ M ts u):=by
 obtain⟨d,pt,b,a,c⟩:=h;exact .tup (SqT.of b) (.cons (Dt.matB a) (.cons (Dt.intsB (SqB.tup c)) (.cons (.int u) .nil)))
abbrev Dd:=LM×List Int×Int
def dat(x:Dd):PyData:=dJ x.1 x.2.1 x.2.2
theorem hZ{x y:Dd}:dat x=dat y↔x=y:=by
 obtain⟨M,ts,u⟩:=x;obtain⟨N,ns,v⟩:=y;unfold dat;rw[Ut];simp
theorem aP{n:Nat}{ds:List PyData}:tT (n+1) (.tuple ds)=ds.all (tT n):=rfl
theorem lO(x:Dd):tT 4 (dat x)=true:=by
 obtain⟨M,ts,u⟩:=x;have hi:∀(n:Nat)(l:LI'),(l.map PyData.int).all (tT n)=true:=λn l=>by
  rw[vH];intro d a;obtain⟨i,_,rfl⟩:=pZ.mp a;cases n <;> rfl
 show tT 4 (.tuple [.tuple (M.map λr=>.tuple (r.map PyData.int)),.tuple (ts.map PyData.int),.int u])=true;rw[aP,xE,xE,xE,aP,aP,hi];have:(M.map λr=>PyData.tuple (r.map PyData.int)).all (tT 2)=true:=by
  rw[vH];intro d a;obtain⟨r,_,rfl⟩:=pZ.mp a;rw[aP];exact hi 1 r
 rw[this];rfl
def DdAt(K:Frag)(H:Hp)(p:Addr)(x:Dd):Prop:=mX K H p x.1 x.2.1 x.2.2
theorem DdAt.up{K:Frag}{H H':Hp}{p:Addr}{x:Dd}(h:DdAt K H p x)(s:Same H H'):DdAt K H' p x:=mX.up h s
theorem DdAt.dt{K:Frag}{H:Hp}{p:Addr}{x:Dd}(h:DdAt K H p x):Dt K H (.ref p) (dat x):=Dt.deed h
abbrev DdS(K:Frag)(H:Hp)(p:Addr)(x:Dd):Prop:=kA K H p x.1 x.2.1 x.2.2
theorem DdS.up{K:Frag}{H H':Hp}{p:Addr}{x:Dd}(h:DdS K H p x)(s:Same H H'):DdS K H' p x:=kA.up h s
theorem DdAt.s{K:Frag}{H:Hp}{p:Addr}{x:Dd}(h:DdAt K H p x):DdS K H p x:=mX.s h
def oS(x:Dd):Dd:=(x.1,nV x.2.2 x.2.1,x.2.2)
def behD(d:Nat)(x s:Dd):Dd:=(mulM d s.1 x.1,redT (s.2.2*x.2.2) (movT s.1 s.2.1 s.2.2 x.2.1 x.2.2),redU (s.2.2*x.2.2) (movT s.1 s.2.1 s.2.2 x.2.1 x.2.2))
def oU(d:Nat)(x s:Dd):Dd:=oS (behD d x s)
def oZ(d:Nat):Dd:=(idM d,List.replicate d 0,1)
abbrev Tb:=List (Dd×List Nat)
def nxt(d:Nat)(x:Dd)(w:List Nat)(tb:Tb)(ks:Dd×Nat):Tb:=if oU d x ks.1∈tb.map (·.1) then tb else tb++[(oU d x ks.1,w++[ks.2])]
def mQ(d:Nat)(ss:List Dd)(tb:Tb)(i:Nat):Tb:=match tb[i]? with
 |none=>tb
 |some xw=>ss.zipIdx.foldl (nxt d xw.1 xw.2) tb
def nH(d:Nat)(ss:List Dd):Nat->Nat->Tb->Tb
 |0,_,tb=>tb
 |n+1,i,tb=>if i<tb.length then nH d ss n (i+1) (mQ d ss tb i) else tb
theorem Us(d:Nat)(x:Dd)(w:List Nat)(tb:Tb)(ks:Dd×Nat):∃r,nxt d x w tb ks=tb++r:=by
 unfold nxt;split
 ·exact⟨[],by simp⟩
 ·exact⟨_,rfl⟩
theorem dM(d:Nat)(x:Dd)(w:List Nat):∀(l:List (Dd×Nat))(tb:Tb),∃r,l.foldl (nxt d x w) tb=tb++r
 |[],tb=>⟨[],by simp⟩
 |k:: l,tb=>by
  obtain⟨r1,e1⟩:=Us d x w tb k;obtain⟨r2,a⟩:=dM d x w l (nxt d x w tb k);exact⟨r1++r2,by rw[wE,a,e1,yE]⟩
theorem Ir(d:Nat)(ss:List Dd)(tb:Tb)(i:Nat):∃r,mQ d ss tb i=tb++r:=by
 unfold mQ;split
 ·exact⟨[],by simp⟩
 ·exact dM ..
theorem Cb(d:Nat)(ss:List Dd):∀(n i:Nat)(tb:Tb),∃r,nH d ss n i tb=tb++r
 |0,i,tb=>⟨[],by simp[nH]⟩
 |n+1,i,tb=>by
  unfold nH;split
  ·obtain⟨r1,e1⟩:=Ir d ss tb i;obtain⟨r2,a⟩:=Cb d ss n (i+1) (mQ d ss tb i);exact⟨r1++r2,by rw[a,e1,yE]⟩
  ·exact⟨[],by simp⟩
def lD(d:Nat)(x:Dd):Prop:=Fine d x.1 x.2.1 x.2.2
def TbAt(H:Hp)(tb:Tb)(kvs:List (PyData×V)):Prop:=Paired (λ(x:Dd×List Nat)(kv:PyData×V)=>kv.1=dat x.1/\∃p,kv.2=.ref p/\H p=some (.lst (x.2.map λn=>V.int (n:Nat)))) tb kvs
def sp_r(K:Frag)(C:Addr):Sp:=λvs H Q E=>E7 λ(b:Bool)(d:Nat)(a:Addr)(ps:LA)(ms:List Dd)(most:Nat)(G:Dd->Prop)=>A14 (vs=[.int d,.ref a,.int most]) ((d=2\/d=3)) (SqB b K H a (ps.map V.ref)) (Paired (DdS K H) ps ms) (ms.length<=200) ((∀s∈ms,lD d s)) ((∀s∈ms,lD d (oS s))) ((∀x,G x->lD d x)) (G (oZ d)) ((∀x s,G x->s∈ms->G (oU d x (oS s)))) (1<=most) (most<=200) (((nH d (ms.map oS) 201 0 [(oZ d,[])]).length<=most->∀w kvs H',Same H H'->H w=none->DTr K H' w kvs->TbAt H' (nH d (ms.map oS) 201 0 [(oZ d,[])]) kvs->Q (.ref w) H')) ((most<(nH d (ms.map oS) 201 0 [(oZ d,[])]).length->∀H',Same H H'->E (.ref C) none H'))
def sp_m:Sp:=λvs H Q _=>E1 λ(n:Nat)=>A4 (vs=[.int n]) (1<=n) (n<=200) (Q .non H)
def sp_k(K:Frag):Sp:=λvs H Q _=>E5 λ(b:Bool)(d:Nat)(a:Addr)(ps:LA)(ms:List Dd)=>A6 (vs=[.int d,.ref a]) ((d=2\/d=3)) (SqB b K H a (ps.map V.ref)) (Paired (DdS K H) ps ms) ((∀s∈ms,s.1.length=d)) (∀H',Same H H'->Q .non H')
theorem Ur{prog:Program}{w:World}:∀n,n<=200->dE prog w n:=λn _=>Rg n
theorem Ca{K:Frag}{H:Hp}{a b:Addr}{kvs:List (PyData×V)}{k:PyData}{v:V}{Q:VK}(g:DTr K H a kvs)(t:tT 4 k=true)(d:Dt K H (.ref b) k)(e:vT kvs k=some v)(q:Q v H):bF K (.ref a) (.ref b) H Q:=⟨a,kvs,b,k,v,rfl,rfl,g,t,d,e,q⟩
theorem aQ{K:Frag}{H:Hp}{a b:Addr}{kvs:List (PyData×V)}{k:PyData}{c:Bool}{Q:VK}(g:DTr K H a kvs)(t:tT 4 k=true)(d:Dt K H (.ref b) k)(q:Q (.bl (if c=true then !(vT kvs k).isSome else(vT kvs k).isSome)) H):rInT K c (.ref b) (.ref a) H Q:=⟨a,kvs,b,k,rfl,rfl,g,t,d,q⟩
theorem kF{a b:Type}{f:a->b}{l:List a}{i:Nat}{y:b}(h:(l.map f)[i]?=some y):∃x,l[i]?=some x/\y=f x:=by
 rw[zM]at h;cases hx:l[i]? with
 |none=>rw[hx]at h;cases h
 |some x=>rw[hx]at h;exact⟨x,rfl,(zU h).symm⟩
def CpOk:Nat->V->Hp->Prop
 |0,x,_=>∃i,x=.int i
 |n+1,x,H=>∃a xs,x=.ref a/\H a=some (.lst xs)/\xs.length<=1000/\∀y∈xs,CpOk n y H
theorem CpOk.up{H H':Hp}(s:Same H H'):∀{n:Nat}{x:V},CpOk n x H->CpOk n x H'
 |0,_,h=>h
 |_+1,_,⟨a,xs,e,h,l,k⟩=>⟨a,xs,e,s _ _ h,l,λy b=>CpOk.up s (k y b)⟩
def sp_w(n:Nat):Sp:=λvs H Q _=>∃x,vs=[x]/\CpOk n x H/\∀y H',Same H H'->Q y H'
def Uq(C:Addr):Sp:=λvs H Q _=>E2 λ(e:Addr)(x:V)=>A4 (vs=[.ref e,x]) (H e=some (XObj e C true)) (CpOk 2 x H) (∀H',(∀b o,b≠e->H b=some o->H' b=some o)->H' e=some (XObj e C false)->Q .non H')
structure TK(K:Frag)(H H':Hp):Prop where
 k:∀b xs,H b=some (.tup xs)->H' b=some (.tup xs)
 t:∀b xs,SqT K H b xs->SqT K H' b xs
theorem TK.same{K:Frag}{H H':Hp}(s:Same H H'):TK K H H':=⟨λb xs e=>s _ _ e,mW s⟩
theorem TK.trans{K:Frag}{H H1 H2:Hp}(a:TK K H H1)(b:TK K H1 H2):TK K H H2:=⟨λc xs e=>b.k _ _ (a.k _ _ e),λc xs e=>b.t _ _ (a.t _ _ e)⟩
theorem TK.off{K:Frag}{H H':Hp}{a:Addr}{o:HO}(e:H a=some o)(f:∀xs,o≠.tup xs)(hf:∀d u,o≠.frz d u)(h:∀c,c≠a->H' c=H c):TK K H H':=by
 have k:∀b xs,H b=some (.tup xs)->H' b=some (.tup xs):=λb xs q=>by
  rw[h b λz=>f xs (by rw[z,e]at q;exact zU q)];exact q
 refine⟨k,λb xs q=>?_⟩;rcases q with(q|⟨d,q⟩)|q
 ·exact .inl (.inl (k _ _ q))
 ·exact .inl (.inr ⟨d,by rw[h b λz=>hf _ _ (by rw[z,e]at q;exact zU q)];exact q⟩)
 ·exact .inr q
theorem MatB.tk{K:Frag}{H H':Hp}{a:Addr}{M:LM}(h:MatB true true K H a M)(s:TK K H H'):MatB true true K H' a M:=let ⟨ps,d,b,e⟩:=h;⟨ps,s.t _ _ d,b,λi p r e1 c=>s.t _ _ (e i p r e1 c)⟩
theorem DdAt.tk{K:Frag}{H H':Hp}{p:Addr}{x:Dd}(h:DdAt K H p x)(s:TK K H H'):DdAt K H' p x:=let ⟨d,pt,b,a,c⟩:=h;⟨d,pt,s.k _ _ b,MatB.tk a s,s.k _ _ c⟩
theorem DdS.tk{K:Frag}{H H':Hp}{p:Addr}{x:Dd}(h:DdS K H p x)(s:TK K H H'):DdS K H' p x:=let ⟨d,pt,b,a,c⟩:=h;⟨d,pt,s.t _ _ b,MatB.tk a s,s.t _ _ c⟩
theorem DTr.tk{K:Frag}{H H':Hp}{a:Addr}{kvs:List (PyData×V)}(h:DTr K H a kvs)(s:TK K H H')(e:H' a=H a):DTr K H' a kvs:=by
 obtain⟨l,y,xs,b,n,r⟩:=h;exact⟨l,y,xs,e.trans b,n,r.keeps s.t⟩
structure CI(K:Frag)(H0:Hp)(qs:LA)(ss:List Dd)(as af aw:Addr)(tb:Tb)(H:Hp):Prop where
 s:∀b o,H0 b=some o->H b=some o
 st:H as=some (.lst (qs.map V.ref))/\Paired (DdAt K H) qs ss
 fo:∃fs,H af=some (.lst (fs.map V.ref))/\Paired (λp(x:Dd×List Nat)=>DdAt K H p x.1) fs tb
 wo:∃kvs,DTr K H aw kvs/\Paired (λ(x:Dd×List Nat)(kv:PyData×V)=>kv.1=dat x.1/\∃p,kv.2=.ref p/\p≠af/\H p=some (.lst (x.2.map λn=>V.int (n:Nat)))) tb kvs
 n1:H0 as=none
 n2:H0 af=none
 n3:H0 aw=none
 x1:as≠af
theorem CI.up{K:Frag}{c H H':Hp}{a:LA}{ss:List Dd}{as d f:Addr}{tb:Tb}(h:CI K c a ss as d f tb H)(s:Same H H'):CI K c a ss as d f tb H':=by
 obtain⟨v,⟨b1,b2⟩,⟨fs,x,q⟩,⟨kvs,j,g⟩,i,y,u,l⟩:=h;exact⟨λb o e=>s _ _ (v _ _ e),⟨s _ _ b1,Paired.mapP b2 λ_ _ z=>z.up s⟩,⟨fs,s _ _ x,Paired.mapP q λ_ _ z=>z.up s⟩,⟨kvs,j.up s,Paired.mapP g λ_ _ z=>let ⟨r,p,k,m,n⟩:=z;⟨r,p,k,m,s _ _ n⟩⟩,i,y,u,l⟩
theorem Dz{H:Hp}{d:Addr}{x:Dd}:∀{tb:Tb}{kvs:List (PyData×V)},Paired (λ(x:Dd×List Nat)(a:PyData×V)=>a.1=dat x.1/\∃p,a.2=.ref p/\p≠d/\H p=some (.lst (x.2.map λn=>V.int (n:Nat)))) tb kvs ->
  (x∉tb.map (·.1)/\vT kvs (dat x)=none)\/∃w p,(x,w)∈tb/\vT kvs (dat x)=some (.ref p)/\p≠d/\H p=some (.lst (w.map λn=>V.int (n:Nat))):=by
 intro tb kvs h
 induction h with
 |nil=>exact .inl ⟨by simp,rfl⟩
 | @cons y a tb kvs f _ e =>
  obtain⟨e1,p,g,i,j⟩:=f
  by_cases z:y.1=x
  ·refine .inr ⟨y.2,p,by rw[←z];exact .head _,?_,i,j⟩;rw[eW (by rw[e1,z]),g]
  ·have k:¬ a.1=dat x:=λq=>z (hZ.mp (e1.symm.trans q));rw[gU k];rcases e with⟨c,b⟩|⟨w,p,c,b⟩
   ·exact .inl ⟨by rw[zI,xC,not_or];exact⟨λq=>z q.symm,c⟩,b⟩
   ·exact .inr ⟨w,p,.tail _ c,b⟩
theorem Iq{d:Nat}{x:Dd}{w:List Nat}{tb:Tb}{ks:Dd×Nat}(h:(tb.map (·.1)).Nodup):((nxt d x w tb ks).map (·.1)).Nodup:=by
 unfold nxt;split
 ·exact h
 ·next q =>
  rw[yV,qF];refine⟨h,by simp,λy a z hz=>?_⟩;simp only[List.map_cons,List.map_nil,List.mem_singleton]at hz;rw[hz];exactλe=>q (e ▸ a)
theorem Ip{d:Nat}{x:Dd}{w:List Nat}:∀(l:List (Dd×Nat))(tb:Tb),(tb.map (·.1)).Nodup->((l.foldl (nxt d x w) tb).map (·.1)).Nodup
 |[],_,h=>h
 |k:: l,tb,h=>Ip l _ (Iq h)
theorem Io{d:Nat}{x:Dd}{w:List Nat}{tb:Tb}{ks:Dd×Nat}{G:Dd->Prop}(h:∀y∈tb,G y.1)(b:G (oU d x ks.1)):∀y∈nxt d x w tb ks,G y.1:=by
 unfold nxt;split
 ·exact h
 ·intro y a;rcases oB.mp a with a|a
  ·exact h y a
  ·rw[rX.mp a];exact b
theorem Uo{tb:Tb}(h:(tb.map (·.1)).Nodup){i:Nat}{x:Dd}{w b:List Nat}(e:tb[i]?=some (x,w))(m:(x,b)∈tb):w=b:=by
 obtain⟨j,a⟩:=yX m;have e1:(tb.map (·.1))[i]?=some x:=by rw[zM,e];rfl
 have c:(tb.map (·.1))[j]?=some x:=by rw[zM,a];rfl
 have hi:i<(tb.map (·.1)).length:=(zqa e1).1;have:i=j:=(qG hi h).mp (e1.trans c.symm);subst this;rw[e]at a;cases a;rfl
theorem Um{d:Nat}{ss:List Dd}{n i:Nat}{tb:Tb}(h:tb.length<=i):nH d ss n i tb=tb:=by
 cases n with
 |zero=>rfl
 |succ n=>unfold nH;rw[zD ⋯]
theorem Ul{d:Nat}{ss:List Dd}{n i:Nat}{tb:Tb}(h:i<tb.length)(a:0<n):nH d ss n i tb=nH d ss (n-1) (i+1) (mQ d ss tb i):=by
 obtain⟨m,rfl⟩:∃m,n=m+1:=⟨n-1,⋯⟩;show(if i<tb.length then _ else _)=_;rw[zE h];rfl
theorem Uk{d:Nat}{ss:List Dd}{tb:Tb}{i:Nat}{x:Dd}{w:List Nat}(e:tb[i]?=some (x,w)):mQ d ss tb i=ss.zipIdx.foldl (nxt d x w) tb:=by
 unfold mQ;rw[e]
def part(d:Nat)(x:Dd)(w:List Nat)(ss:List Dd)(tb:Tb)(i:Nat):Tb:=(ss.zipIdx.take i).foldl (nxt d x w) tb
theorem dN{d:Nat}{x s:Dd}{w:List Nat}{ss:List Dd}{tb:Tb}{i:Nat}(e:ss[i]?=some s):part d x w ss tb (i+1)=nxt d x w (part d x w ss tb i) (s,i):=by
 unfold part;rw[xJ,rA,e,uX];simp
theorem Uj{d:Nat}{x:Dd}{w:List Nat}{ss:List Dd}{tb:Tb}:part d x w ss tb ss.length=ss.zipIdx.foldl (nxt d x w) tb:=by
 unfold part;rw[yR (by simp)]
theorem Ui{d:Nat}{x:Dd}{w:List Nat}{ss:List Dd}{tb:Tb}(i:Nat):∃r,part d x w ss tb i=tb++r:=dM ..
theorem Im{d:Nat}{x:Dd}{w:List Nat}{ss:List Dd}{tb:Tb}(i:Nat):(part d x w ss tb i).length<=(ss.zipIdx.foldl (nxt d x w) tb).length:=by
 have e:ss.zipIdx.foldl (nxt d x w) tb=(ss.zipIdx.drop i).foldl (nxt d x w) (part d x w ss tb i):=by
  unfold part;rw[←uX,xX]
 obtain⟨r,a⟩:=dM d x w (ss.zipIdx.drop i) (part d x w ss tb i);rw[e,a,zX];omega
def ND(tb:Tb):Prop:=(tb.map (·.1)).Nodup/\∀y∈tb,y.2.length<tb.length
theorem Il{d:Nat}{x:Dd}{w:List Nat}{tb:Tb}{ks:Dd×Nat}(h:ND tb)(b:(x,w)∈tb):ND (nxt d x w tb ks):=by
 refine⟨Iq h.1,?_⟩;have c:=h.2 _ b;unfold nxt;split
 ·exact h.2
 ·intro y a;rw[zX];rcases oB.mp a with a|a
  ·have:=h.2 y a;simp only[List.length_cons,List.length_nil];omega
  ·rw[rX.mp a];simp only[List.length_append,List.length_cons,List.length_nil];have e:w.length<tb.length:=c;omega
theorem ok_m(T:Txt K mg t):FnOk P w K mg base CX0 2 t.a_m t.d_m ["most"] sp_m:=by
 apply T.F_m.ok sc_m
 ·obtain⟨n,rfl,c,b,a⟩:=h;refine⟨_,(oO (nK (PW.pt (fU (nE fY (pq 0) oK (nF _)) (fT (nE fZ (pq 0) (Pd (v:=(.int 200)) rfl T.g_MOST_MEMBERS) (nF _)))))
   (oO An)
   nJ)),?_⟩
  show tIfS _ _ _ _ [some (.int n)] H;ext;rw[zO (show¬ (n:Int)<1 by omega),zO (show¬ (200:Int)<n by omega)];refine iteF (iteF ?_);exact a
theorem lP{a b:Type}{F:a->b->Prop}{xs:List a}{ys:List b}(h:Paired F xs ys):∀{i:Nat}{x:a},xs[i]?=some x->∃y,ys[i]?=some y/\F x y:=by
 induction h with
 |nil=>intro i x e;simp at e
 |cons d _ c =>
  intro i x e;cases i with
  |zero=>cases e;exact⟨_,rfl,d⟩
  |succ i=>exact c (by simpa using e)
theorem ok_k(T:Txt K mg t):FnOk P w K mg base CX0 2 t.a_k t.d_k ["d","makers"] (sp_k K):=by
 apply T.F_k.ok sc_k
 ·obtain⟨b,d,a,ps,ms,rfl,y,k,u,hl,r⟩:=h;refine⟨_,(oM (nK (nE Af (pq 0) (lE (oH oK (oH oK oJ))) rfl)
   (oO An)
   nJ)
   (oO (mI yG rfl (nQ (pq 1)) (nS (i:=2) sc_k.nd rfl (Or.inl rfl))
   (oO (nK (nE iQ (nY T.z_len (nC (pq 2))) (pq 0) (nF _))
   (oO An)
   nJ))))),?_⟩
  show tSeq _ _ _ [some (.int d),some (.ref a),none] H;right;refine⟨by show 2<=sizeLine;decide,λj n=>?_⟩;have g:Same H (upd H j (.tup [.int 2,.int 3])):=Same.new n;refine⟨j,_,rfl,.inr (SqT.of oP),rfl,rfl,_,rfl,?_⟩;generalize upd H j (.tup [.int 2,.int 3])=H1 at g;rw[inV2,zQ ⋯];refine iteF ?_;subst e1;refine mM λB eB=>?_;simp only[iSeq];ext;refine⟨b,⟨_,k.up g⟩,?_⟩;refine kQ (g:=oW 2) (tb:=B) (nx:=λ_ H'=>Q .non H') (rt:=Q) (λi f H2=>∃v,f=[some (.int d),some (.ref a),v]/\Same H H2) ⟨_,rfl,g⟩ (λi f H2 _⟨_,_,c⟩=>k.up c) ?_ ?_
  ·rintro i x f H2 e ⟨v,rfl,c⟩;rw[zM]at e;cases hp':ps[i]? with
   |none=>rw[hp']at e;cases e
   |some q =>
    rw[hp']at e;cases e;obtain⟨m,o,p⟩:=lP u hp';subst eB;show tIfS _ _ _ _ [some (.int d),some (.ref a),some (.ref q)] H2;ext;refine jS (DdS.up p c) λx l=>iU l ?_
    try ext
    rw[hl m (zqb o),zQ rfl];refine iteF ?_;exact c
  ·rintro f H2 ⟨v,rfl,c⟩;exact r H2 c
theorem ok_w(T:Txt K mg t):∀n:Nat,FnOk P w K mg base CX0 (n+2) t.a_w t.d_w ["thing"] (sp_w n):=by
 intro n
 induction n with
 |zero =>
  apply T.F_w.ok sc_w
  ·obtain⟨x,rfl,⟨i,rfl⟩,d⟩:=h;refine⟨_,(oM (nK (fS (mY (Hf T.h_g T.h_h) (by rfl) T.z_isinstance (nofun) (oH (pq 0) (oH (lE (oH (fR (v:=.ty "list") rfl T.z_list (nofun) rfl) (oH (fR (v:=.ty "tuple") rfl T.z_tuple (nofun) rfl) oJ))) oJ)))) La nJ) (oO (oY (pq 0)))),?_⟩;show tSeq _ _ _ [some (.int i)] H;ext;refine⟨by show 2<=sizeLine;decide,λp c=>⟨_,p,false,rfl,oP,.inl ⟨i,rfl,rfl⟩,false,rfl,?_⟩⟩;refine iteF ?_;exact d _ _ (Same.new c)
 | succ n g =>
  have k:=g;apply T.F_w.ok sc_w
  ·obtain⟨x,rfl,⟨a,xs,rfl,f,hl,j⟩,d⟩:=h;refine⟨_,(oM (nK (fS (mY (Hf T.h_g T.h_h) (by rfl) T.z_isinstance (nofun) (oH (pq 0) (oH (lE (oH (fR (v:=.ty "list") rfl T.z_list (nofun) rfl) (oH (fR (v:=.ty "tuple") rfl T.z_tuple (nofun) rfl) oJ))) oJ))))
   (oO (oY (mD (sc:=oQ bW) (N:=N_w) (fr:=[]) (te:=(lF (sp_w n) [] E0 (nD (tVar 0) tNil))) rfl rfl (nofun) rfl (nofun) (nQ (pq 0)) (λ_ _ _ v=>(nA k hr.mo T.F_w (oH (pv 0) oJ))))))
   nJ)
   (oO (oY (pq 0)))),?_⟩
   show tSeq _ _ _ [some (.ref a)] H;ext;refine⟨by show 2<=sizeLine;decide,λp c=>⟨_,p,true,rfl,oP,.inr ⟨a,xs,rfl,Same.new c _ _ f,rfl⟩,true,rfl,?_⟩⟩;refine iteT ?_;have b:Same H (upd H p (.tup [.ty "list",.ty "tuple"])):=Same.new c;generalize upd H p (.tup [.ty "list",.ty "tuple"])=H1 at b;exfalso;refine⟨false,⟨_,SqB.lst (b _ _ f)⟩,λl q=>?_⟩;refine lJ (λ_ _ _=>True) q (SqB.lst (b _ _ f)) hl (λ_ _ _ _ _ _=>trivial) ?_ ?_
   ·intro i x H2 zs r e _ u m;subst eB;show lF _ _ _ _ [some x] H2 u;ext;exact⟨x,rfl,(j x (zqb r)).up (b.trans e),λy H3 o=>m _ _ o trivial⟩
   ·intro H2 ys e _ _ _;exact d _ _ (b.trans e)
theorem ok_3(T:Txt K mg t):FnOk P w K mg base CX0 6 t.a_3 t.d_3 po' (Uq t.a_12):=by
 have f:=ok_w (P:=P) (w:=w) (base:=base) T 2;apply T.F_3.ok sc_3
 ·obtain⟨e,x,rfl,c,d,g⟩:=h;have n:=2;refine⟨_,(oM (kK (Tt rfl T.m_15 T.h_7 (oH (pq 0) (oH iL oJ))))
   (oO (Ts T.h_8 (nA f hr.mo T.F_w (oH (pq 1) oJ)) (pq 0)))),?_⟩
  show tSeq _ _ _ [some (.ref e),some x] H;unfold Hi Hh;ext;refine⟨true,c,by show 1<=sizeLine;decide,x,rfl,d,λy H1 a=>⟨a _ _ c,?_⟩⟩;exact g _ (λb o i z=>by rw[oR i];exact a _ _ z) oP
theorem Dy{d:Nat}{x:Dd}{w:List Nat}{tb:Tb}{ks:Dd×Nat}:(nxt d x w tb ks).length<=tb.length+1:=by
 unfold nxt;split
 ·omega
 ·rw[zX];exact zF _
def offH(a:Addr)(H:Hp):Hp:=λb=>if b=a then none else H b
theorem Dx{a:Addr}{H:Hp}:Same (offH a H) H:=λb o e=>by
 unfold offH at e
 by_cases z:b=a
 ·rw[zE z]at e;cases e
 ·rw[zD z]at e;exact e
theorem dO{a:Addr}{H1 H2:Hp}(s:lY a H1 H2):Same (offH a H1) (offH a H2):=λb o e=>by
 unfold offH at e ⊢
 by_cases z:b=a
 ·rw[zE z]at e;cases e
 ·rw[zD z]at e ⊢;exact s _ _ z e
theorem aR{K:Frag}{a:Addr}{H:Hp}{xs:List V}(e:H a=some (.lst xs)):TK K H (offH a H):=TK.off e (λ_ z=>by cases z) (λ_ _ z=>by cases z) λc b=>by unfold offH;rw[zD b]
def DdR(K:Frag)(a:Addr)(ms:List Dd)(j:Nat)(y:V)(H:Hp):Prop:=∃q m,y=.ref q/\ms[j]?=some m/\DdAt K (offH a H) q m
theorem DdR.mono{K:Frag}{a:Addr}{ms:List Dd}(i:Nat)(y:V)(H1 H2:Hp)(h:DdR K a ms i y H1)(s:lY a H1 H2):DdR K a ms i y H2:=let ⟨q,m,e,b,d⟩:=h;⟨q,m,e,b,d.up (dO s)⟩
theorem Ik{a:Type}{F:Addr->a->Prop}{D:List a}{ys:List V}(hl:ys.length=D.length)(h:∀(j:Nat) y,ys[j]?=some y->∃p e,y=V.ref p/\D[j]?=some e/\F p e):∃ps:LA,ys=ps.map V.ref/\Paired F ps D:=by
 induction D generalizing ys with
 |nil =>
  obtain rfl:=vA hl;exact⟨[],rfl,.nil⟩
 |cons m ms b =>
  obtain⟨y,ys,rfl⟩:=List.exists_cons_of_length_eq_add_one hl;obtain⟨q,l,rfl,f,d⟩:=h 0 y rfl;cases f;obtain⟨c,rfl,g⟩:=b (qQ hl) λj k i=>h (j+1) k i;exact⟨q:: c,rfl,.cons d g⟩
theorem Uh{K:Frag}{a:Addr}{H:Hp}{ms:List Dd}{ys:List V}(hl:ys.length=ms.length)(h:∀j y,ys[j]?=some y->DdR K a ms j y H):∃c:LA,ys=c.map V.ref/\Paired (DdAt K H) c ms:=Ik hl λj y e=>by
 obtain⟨q,m,a,b,d⟩:=h j y e;exact⟨q,m,a,b,d.up Dx⟩
theorem fJ{H:Hp}{p:Addr}{x:V}{xs:List V}{i:Nat}{I:Int}{Q:VK}(e:H p=some (.lst xs))(a:xs[i]?=some x)(hi:I=i)(q:Q x H):rIxB K (.ref p) (.int I) H Q:=⟨false,p,_,_,_,rfl,rfl,SqB.lst e,mZ a hi,q⟩
theorem tyL{H:Hp}{p:Addr}{xs:List V}(e:H p=some (.lst xs)):tyV K "list" (.ref p) H:=.inl ⟨rfl,xs,.inl (.inl e)⟩
def CPv(K:Frag)(H0:Hp)(G:Dd->Prop)(qs:LA)(ss:List Dd)(a as af aw:Addr)(d i most:Nat)(f:Nat->Tb)(k:Nat)(σ:St)(H:Hp):Prop:=
 ∃v7 v8 v9,σ=[some (.int d),some (.ref a),some (.int most),some (.ref as),some (.ref af),some (.ref aw),some (.int i),v7,v8,v9]/\CI K H0 qs ss as af aw (f k) H/\ND (f k)/\(∀y∈f k,G y.1)/\(f k).length<=most
theorem ok_r(T:Txt K mg t):FnOk P w K mg base (CX1 P w) 10 t.a_r t.d_r pn' (sp_r K t.a_12):=by
 have h7:=@ok_14 P w K mg base t T;have o0:=@ok_11 P w K mg base t T;have o6:=@ok_y P w K mg base t T;have o5:=@ok_3 P w K mg base t T;refine T.F_r.okX sc_r (λvs H Q E h=>?_) (λcdv A outer s H vs Q E hr h=>?_)
 ·obtain⟨b,d,a,ps,ms,most,G,rfl,_⟩:=h;rfl
 ·have c3:=hr.units;obtain⟨b,d,a,ps,ms,most,G,rfl,r8,l4,k6,u2,n1,o4,l1,n0,t5,s6,u6,p2,s7⟩:=h;refine⟨_,(oM (Gr (i:=3) (sc:=oQ dF) (N:=N_r) (fr:=[]) (te:=(lF (sp_14 K) [] E0 (nD (tVar 0) tNil))) rfl rfl (nofun) rfl sc_r.nd rfl rfl (nofun) (nQ (pq 1)) (λ_ _ _ q7=>(nA h7 hr.mo T.F_14 (oH (pv 0) oJ))))
   (oM (oT (i:=4) sc_r.nd rfl (Or.inl rfl) (nX (oH (nA o0 hr.mo T.F_11 (oH (pq 0) oJ)) oJ)))
   (oM (oT (i:=5) sc_r.nd rfl (Or.inr rfl) (Qk c3 (nC (pq 4)) (nX oJ)))
   (oM (oT (i:=6) sc_r.nd rfl (Or.inl rfl) oK)
   (oM (cE PassesOwn.leaving (nE fY (pq 6) (nY T.z_len (pq 4)) (nF _))
   (oM (mI PassesOwn.leaving rfl (cV rfl T.z_enumerate (oH (pq 3) oJ)) (iN rfl (lQ (nS (i:=7) sc_r.nd rfl (Or.inl rfl)) (lQ (nS (i:=8) sc_r.nd rfl (Or.inl rfl)) iM)))
   (oM (oT (i:=9) sc_r.nd rfl (Or.inl rfl) (nA h7 hr.mo T.F_14 (oH (nA o6 hr.mo T.F_y (oH (nO ix_B (pq 4) (pq 6) (λ_ _=>rfl)) (oH (pq 8) oJ))) oJ)))
   (oM (nK (nE (Bq c3) (pq 9) (pq 5) rfl)
   (oM (fW (oN eH (nO (ix_T c3) (pq 5) (nO ix_B (pq 4) (pq 6) (λ_ _=>rfl)) (λ_ _=>rfl)) (nX (oH (pq 7) oJ))) (cD (pq 5) (pq 9) (Gq c3)))
   (oO (kK (jX xK xZ xY jY (pq 4) (oH (pq 9) oJ)))))
   nJ)
   (oO (nK (nE fZ (nY T.z_len (pq 4)) (pq 2) (nF _))
   (oO (Tw rfl Tz rfl T.m_12 T.h_7.cl xB o5 hr.mo T.b_3 jZ (oH (mD (sc:=oQ dF) (N:=N_r) (fr:=[("words",5)]) (te:=(tOp (bF K) (tVar 1) (tVar 0))) rfl rfl (nofun) rfl (nofun) (nQ (pq 4)) (λ_ _ _ q7=>(nO (ix_T c3) (pv 1) (pv 0) (λ_ _=>rfl)))) oJ)))
   nJ)))))
   (oO (Eu (i:=6) sc_r.nd rfl (Or.inl rfl) oK Et))))
   (oO (oY (pq 5)))))))),?_⟩
  show tSeq _ _ _ [some (.int d),some (.ref a),some (.int most),none,none,none,none,none,none,none] H;have u4:ps.length=ms.length:=mG k6;right;exfalso;refine⟨b,⟨_,l4⟩,λas k7=>?_⟩;refine lJ (DdR K as (ms.map oS)) k7 l4 (by rw[zqe];omega) DdR.mono ?_ ?_
  ·intro i x H1 zs e5 d1 l5 f0 g5;obtain⟨q,p3,rfl⟩:=kF e5;obtain⟨m,k8,q6⟩:=lP k6 p3;have h2:=n1 m (zqb k8);subst eB;show lF _ _ _ _ [some (.ref q)] H1 f0;ext;refine⟨q,m.1,m.2.1,m.2.2,rfl,DdS.up q6 d1,by rw[h2.sq.1];omega,by rw[h2.len];omega,h2.pos,λr H2 v c5=>?_⟩;refine g5 _ _ v ⟨r,oS m,rfl,by rw[zM,k8];rfl,?_⟩;exact DdAt.tk (show DdAt K H2 r (oS m) from c5) (aR (v _ _ l5))
  ·intro H1 ys d1 b0 l8 d8;obtain⟨R,rfl,j5⟩:=Uh (by rw[l8,zqe,zqe];omega) d8;left;refine⟨d,rfl,r8,λa7 H2 v k0=>⟨by show 1<=sizeLine;decide,λf b7=>?_⟩⟩;have c2:Same H2 (upd H2 f (.lst [.ref a7])):=Same.new b7;have a9:(upd H2 f (.lst [.ref a7])) f=some (.lst [.ref a7]):=oP;generalize upd H2 f (.lst [.ref a7])=H3 at*
   have c9:DdAt K H3 a7 (oZ d):=DdAt.up k0 c2;have e8:=c2 _ _ (v _ _ b0);have j8:=Paired.mapP j5 λ_ _ z=>z.up (v.trans c2);have f8:=(d1.trans v).trans c2;have q4:H f=none:=by
    cases z:H f with
    |none=>rfl
    |some o=>rw[v _ _ (d1 _ _ z)]at b7;cases b7
   have o1:as≠f:=λz=>by rw[z]at b0;rw[v _ _ b0]at b7;cases b7
   subst e1;refine st λN1 e1=>?_;simp only[Gm];ext;intro g U;have N:Same H3 (upd H3 g (nR g [])):=Same.new U;have e4:(upd H3 g (nR g [])) g=some (nR g []):=oP;have i8:H g=none:=by
    cases z:H g with
    |none=>rfl
    |some o=>rw[f8 _ _ z]at U;cases U
   generalize upd H3 g (nR g [])=e2 at*;ext;refine fJ (i:=0) (N _ _ a9) rfl rfl ?_;refine⟨yB _,λa0 b3=>?_⟩;have O:Same e2 (upd e2 a0 (.lst [])):=Same.new b3;have ep:(upd e2 a0 (.lst [])) a0=some (.lst []):=oP;have i6:a0≠f:=λz=>by rw[z,N _ _ a9]at b3;cases b3
   have xw:a0≠g:=λz=>by rw[z,e4]at b3;cases b3
   generalize upd e2 a0 (.lst [])=m6 at*;refine⟨a7,rfl,dat (oZ d),lO _,(DdAt.up c9 (N.trans O)).dt,O _ _ e4,λj7 b8 i2=>?_⟩;have i3:∀b o,H b=some o->b≠g:=λb o e z=>by rw[z,i8]at e;cases e
   have g0:TK K m6 j7:=TK.off (O _ _ e4) (λ_ z=>by cases z) (λ_ _ z=>by cases z) b8;have d7:as≠g:=λz=>by rw[z]at e8;rw[e8]at U;cases U
   have d0:f≠g:=λz=>by rw[z]at a9;rw[a9]at U;cases U
   have M:CI K H R (ms.map oS) as f g [(oZ d,[])] j7:=⟨λb o e=>by rw[b8 b (i3 b o e)];exact O _ _ (N _ _ (f8 _ _ e)),⟨by rw[b8 _ d7];exact O _ _ (N _ _ e8),Paired.mapP j8 λ_ _ z=>DdAt.tk (z.up (N.trans O)) g0⟩,
    ⟨[a7],by rw[b8 _ d0];exact O _ _ (N _ _ a9),.cons (DdAt.tk (DdAt.up c9 (N.trans O)) g0) .nil⟩,⟨_,i2,.cons ⟨rfl,a0,rfl,i6,by rw[b8 _ xw];exact ep⟩ .nil⟩,k7,q4,i8,o1⟩
   clear i2 g0 ep i6 xw b3 O e4 N U j8 e8 c9 a9 c2 b7 k0 v j5 d8 l8 b0 d1 f8 d0 d7 i3 b8;left;subst e1;refine st λN1 e1=>Fi λB eB=>?_;refine⟨λm c0 H'=>∃(i:Nat)(tb:Tb)(D F C:Option V),c0=[some (.int d),some (.ref a),some (.int most),some (.ref as),some (.ref f),some (.ref g),some (.int i),D,F,C]/\CI K H R (ms.map oS) as f g tb H'/\nH d (ms.map oS) (201-i) i tb=nH d (ms.map oS) 201 0 [(oZ d,[])]/\ND tb/\(∀y∈tb,G y.1)/\tb.length<=most/\m=201-i,
    ⟨201,0,_,none,none,none,rfl,M,rfl,⟨by simp,λy h3=>by rw[List.mem_singleton.mp h3];exact Nat.zero_lt_one⟩,λy h3=>by rw[rX.mp h3];exact n0,s6,rfl⟩,?_⟩
   clear M;rintro m c0 s5 ⟨i,tb,D,F,C,rfl,M,S,nd,s3,l6,rfl⟩;ext;obtain⟨fs,p1,p6⟩:=M.fo;have fl:fs.length=tb.length:=mG p6;refine⟨false,f,_,rfl,SqB.lst p1,?_⟩
   try ext
   rw[zqe,fl]
   by_cases hi:i<tb.length
   case neg =>
    rw[zO ⋯];refine iteF ?_;symm;rw[Um ⋯]at S;obtain⟨kvs,c4,a8⟩:=M.wo;refine p2 (by rw[←S];exact l6) g kvs s5 M.s M.n3 c4 ?_;rw[←S];exact Paired.mapP a8 λ_ _ z=>let ⟨a1,p,W,_,d4⟩:=z;⟨a1,p,W,d4⟩
   rw[zQ (show(i:Int)<tb.length by omega)];obtain⟨⟨x,u⟩,e5⟩:∃xw,tb[i]?=some xw:=⟨_,zqd hi⟩;have q2:0<201-i:=⋯
   rw[Ul hi q2,Uk e5]at S;have u7:((ms.map oS).zipIdx.foldl (nxt d x u) tb).length<=(nH d (ms.map oS) 201 0 [(oZ d,[])]).length:=by
    obtain⟨r,q3⟩:=Cb d (ms.map oS) (201-i-1) (i+1) ((ms.map oS).zipIdx.foldl (nxt d x u) tb);rw[←S,q3,zX];omega
   refine iteT ⟨λh8 H'=>∃(a6:Tb)(D F C:Option V),h8=[some (.int d),some (.ref a),some (.int most),some (.ref as),some (.ref f),some (.ref g),some (.int (i+1:Nat)),D,F,C]/\CI K H R (ms.map oS) as f g a6 H'/\nH d (ms.map oS) (201-(i+1)) (i+1) a6=nH d (ms.map oS) 201 0 [(oZ d,[])]/\ND a6/\(∀y∈a6,G y.1)/\a6.length<=most,?_,?_⟩
   ·rintro h8 H' ⟨a6,D,F,C,rfl,k1,k2,k3,f5,k5⟩;exact⟨201-(i+1),⋯,i+1,a6,D,F,C,rfl,k1,k2,k3,f5,k5,rfl⟩
   subst eB;refine st λv8 b5=>mM λB eB=>?_;simp only[eO];ext;refine⟨false,⟨_,SqB.lst M.st.1⟩,?_⟩;refine Gw (g:=gTup K 2 (mU (oW 7) (mU (oW 8) gNil))) (tb:=B) (CPv K H G R (ms.map oS) a as f g d i most (part d x u (ms.map oS) tb))
    ⟨_,_,_,rfl,M,nd,s3,l6⟩ (λk c0 H' _⟨_,_,_,_,c,_⟩=>SqB.lst c.st.1) ?_ ?_
   ·rintro k y p c0 i4 r0 ⟨D,F,C,rfl,a4,a5,c8,f9⟩ q8;obtain⟨q,k4,rfl⟩:=kF r0;obtain⟨l,a2,_⟩:=lP a4.st.2 k4;have n6:=Same.new (o:=.tup [.int (k:Int),.ref q]) q8;refine⟨p,[.int k,.ref q],rfl,SqT.of oP,rfl,_,[.ref q],rfl,_,[],rfl,rfl,?_⟩;have f6:=a4.up n6;generalize upd i4 p (.tup [.int (k:Int),.ref q])=r5 at*
    clear a4;obtain⟨u5,n5⟩:=Ui (d:=d) (x:=x) (w:=u) (ss:=ms.map oS) (tb:=tb) k;have L:(part d x u (ms.map oS) tb k)[i]?=some (x,u):=by rw[n5,yA hi];exact e5
    have u3:=Im (d:=d) (x:=x) (w:=u) (ss:=ms.map oS) (tb:=tb) k;have o7:=Im (d:=d) (x:=x) (w:=u) (ss:=ms.map oS) (tb:=tb) (k+1);have o9:∀D F C H',CI K H R (ms.map oS) as f g (nxt d x u (part d x u (ms.map oS) tb k) (l,k)) H'->G (oU d x l)->(nxt d x u (part d x u (ms.map oS) tb k) (l,k)).length<=most->CPv K H G R (ms.map oS) a as f g d i most (part d x u (ms.map oS) tb) (k+1) [some (.int d),some (.ref a),some (.int most),some (.ref as),some (.ref f),some (.ref g),some (.int i),D,F,C] H':=λD F C H' c gs p4=>⟨D,F,C,rfl,by rw[dN a2];exact c,by rw[dN a2];exact Il a5 (zqb L),by rw[dN a2];exact Io c8 gs,by rw[dN a2];exact p4⟩;rw[dN a2]at o7;generalize CPv K H G R (ms.map oS) a as f g d i most (part d x u (ms.map oS) tb) (k+1)=v6 at*
    generalize part d x u (ms.map oS) tb k=tk at*;obtain⟨j3,l7,j2⟩:∃m∈ms,oS m=l:=by
     have:=zqb a2;obtain⟨m,p9,t4⟩:=pZ.mp this;exact⟨m,p9,t4⟩
    have h9:G x:=c8 _ (zqb L);have gs:G (oU d x l):=by rw[←j2];exact t5 x j3 h9 l7
    have t8:=l1 x h9;have fs':lD d l:=by rw[←j2];exact o4 j3 l7
    have g9:=l1 _ gs;subst eB;show tSeq _ _ _ [some (.int d),some (.ref a),some (.int most),some (.ref as),some (.ref f),some (.ref g),some (.int i),some (.int k),some (.ref q),C] r5;refine st λw1 g7=>?_;ext;obtain⟨u0,r9,m5⟩:=f6.fo;obtain⟨g2,j9⟩:∃g2,u0[i]?=some g2:=⟨_,zqd (by rw[mG m5];exact(zqa L).1)⟩;obtain⟨u8,m2,q9⟩:=lP m5 j9;rw[L]at m2;cases m2;obtain⟨v1,l2,r6⟩:=lP f6.st.2 k4;rw[a2]at l2;cases l2;refine fJ (i:=i) r9 (by rw[zM,j9];rfl) rfl ?_;refine⟨g2,q,x.1,l.1,x.2.1,l.2.1,x.2.2,l.2.2,d,rfl,mX.s q9,mX.s r6,t8,fs',⋯,⋯,λr1 m7 s4 d8=>?_⟩;have s0:DdAt K m7 r1 (behD d x l):=d8;refine⟨r1,_,_,_,rfl,mX.s s0,?_,?_,g9.pos,λr2 Z p0 c5=>?_⟩
    ·have:=g9.sq.1;show(mulM d l.1 x.1).length<=100;have:(mulM d l.1 x.1).length=d:=this;omega
    ·have:=g9.len;have e:(nV (behD d x l).2.2 (behD d x l).2.1).length=(behD d x l).2.1.length:=by unfold nV;simp
     have:(nV (behD d x l).2.2 (behD d x l).2.1).length=d:=this;omega
    have i9:DdAt K Z r2 (oU d x l):=c5;have d6:=f6.up (s4.trans p0);subst g7;show tSeq _ _ _ [some (.int d),some (.ref a),some (.int most),some (.ref as),some (.ref f),some (.ref g),some (.int i),some (.int k),some (.ref q),some (.ref r2)] Z;refine st λn9 c6=>?_;have j1:∀H',CI K H R (ms.map oS) as f g (nxt d x u tk (l,k)) H'->n9 [some (.int d),some (.ref a),some (.int most),some (.ref as),some (.ref f),some (.ref g),some (.int i),some (.int k),some (.ref q),some (.ref r2)] H':=by
     intro H' e0;subst c6;ext;obtain⟨v7,g3,e3⟩:=e0.fo;refine⟨false,f,_,rfl,SqB.lst g3,?_⟩
     try ext
     rw[zqe,mG e3]
     by_cases p8:(nxt d x u tk (l,k)).length<=most
     ·rw[zO ⋯];refine iteF ?_;exact o9 _ _ _ H' e0 gs p8
     ·rw[zQ ⋯];refine iteT ?_;have m8:=s7 ⋯;obtain⟨w0,n4,q1⟩:=e0.wo;exfalso;refine⟨false,⟨_,SqB.lst g3⟩,λh1 f4=>?_⟩;refine lJ (λ_ y H2=>∃p,y=.ref p/\p≠h1/\∃b9:List Nat,b9.length<=201/\H2 p=some (.lst (b9.map λn=>V.int (n:Nat)))) f4 (SqB.lst g3) (by rw[zqe,mG e3];have:=Dy (d:=d) (x:=x) (w:=u) (tb:=tk) (ks:=(l,k));omega) (λ_ _ _ _⟨p,e1,b5,b9,g7,c6⟩m9=>⟨p,e1,b5,b9,g7,m9 _ _ b5 c6⟩) ?_ ?_
      ·intro j j0 H2 zs o8 v l5 f0 g5;obtain⟨o2,s9,rfl⟩:=kF o8;obtain⟨q0,t3,c9⟩:=lP e3 s9;subst eB;show tOp _ _ _ [some (.ref o2),some (.ref g)] H2 f0;ext;rcases Dz (x:=q0.1) q1 with⟨a3,_⟩|⟨g6,e6,a3,e9,s8,c1⟩
       ·exact absurd (pZ.mpr ⟨_,zqb t3,rfl⟩) a3
       refine Ca (n4.up v) (lO _) (DdAt.dt (c9.up v)) e9 ?_;refine g5 _ _ (Same.refl _) ⟨e6,rfl,(λz=>by rw[z]at c1;rw[c1]at f4;cases f4),g6,?_,v _ _ c1⟩;have r3:=(Il (d:=d) (ks:=(l,k)) a5 (zqb L)).2 _ a3;have:=Dy (d:=d) (x:=x) (w:=u) (tb:=tk) (ks:=(l,k));exact yC (wO r3) ⋯
      ·intro H2 ys v b5 t0 c5;refine⟨by show 1<=sizeLine;decide,λe m1=>⟨e,.ref h1,rfl,oP,?_,λH3 k3 f5=>⟨rfl,f5,?_⟩⟩⟩
       ·have m0:=Same.new (o:=XObj e t.a_12 true) m1;refine⟨h1,ys,rfl,m0 _ _ b5,by rw[t0,zqe,mG e3];have:=Dy (d:=d) (x:=x) (w:=u) (tb:=tk) (ks:=(l,k));omega,λj0 r7=>?_⟩;obtain⟨j,r4⟩:=yX r7;obtain⟨n2,b0,_,b9,v9,c6⟩:=c5 j j0 r4;refine⟨n2,_,b0,m0 _ _ c6,by rw[zqe];omega,λz hz=>?_⟩;obtain⟨n,_,rfl⟩:=pZ.mp hz;exact⟨_,rfl⟩
       ·refine m8 _ λb o n8=>?_;have g1:=v _ _ (e0.s b o n8);have h0:b≠e:=λz=>by rw[z,m1]at g1;cases g1
        rw[iG h0];exact k3 b o h0 (by rw[oR h0];exact g1)
    ext;obtain⟨kvs,c4,a8⟩:=d6.wo;refine aQ c4 (lO _) i9.dt ?_;rcases Dz (x:=oU d x l) a8 with⟨a1,W⟩|⟨g6,e6,a1,W,l0,d4⟩
    case inr =>
     rw[W]
     try ext
     refine j1 Z ?_;have f3:nxt d x u tk (l,k)=tk:=zE (pZ.mpr ⟨_,a1,rfl⟩);rw[f3];exact d6
    rw[W]
    try ext
    rw[zE (by rfl)];obtain⟨Y,g4,d3⟩:=d6.fo;obtain⟨j4,i1⟩:∃j4,Y[i]?=some j4:=⟨_,zqd (by rw[mG d3];exact(zqa L).1)⟩;obtain⟨u9,i5,n7⟩:=lP d3 i1;rw[L]at i5;cases i5;refine fJ (i:=i) g4 (by rw[zM,i1];rfl) rfl ?_;rcases Dz (x:=x) a8 with⟨a3,_⟩|⟨g6,e6,a3,e9,s8,c1⟩
    ·exact absurd (pZ.mpr ⟨_,zqb L,rfl⟩) a3
    have t2:=Uo a5.1 L a3;subst t2;have v4:u.length<tk.length:=a5.2 _ (zqb L);have v0:tk.length=kvs.length:=mG a8;have hsz:1000<=sizeLine:=∅
    refine Ca c4 (lO _) (DdAt.dt n7) e9 ?_;refine⟨by show 1<=sizeLine;decide,λc7 t7=>?_⟩;have d9:Same Z (upd Z c7 (.lst [.int k])):=Same.new t7;have t9:(upd Z c7 (.lst [.int k])) c7=some (.lst [.int k]):=oP;generalize upd Z c7 (.lst [.int k])=d5 at*
    refine⟨e6,c7,_,_,rfl,rfl,d9 _ _ c1,t9,by rw[zqe];show u.length+1<=sizeLine;omega,λI f1=>?_⟩;have l9:Same d5 (upd d5 I (.lst ((u.map λn=>V.int (n:Nat))++[.int k]))):=Same.new f1;have k9:(upd d5 I (.lst ((u.map λn=>V.int (n:Nat))++[.int k]))) I=some (.lst ((u.map λn=>V.int (n:Nat))++[.int k])):=oP;have J:=d6.up (d9.trans l9);have i7:I≠f:=λz=>by rw[z,d9 _ _ g4]at f1;cases f1
    generalize upd d5 I (.lst ((u.map λn=>V.int (n:Nat))++[.int k]))=g8 at*;have d2:=d9.trans l9;have j6:=c4.up d2;have s2:=Paired.mapP a8 λ_ _ z=>(let ⟨a1,p,W,l0,d4⟩:=z;⟨a1,p,W,l0,d2 _ _ d4⟩:_/\∃p,_/\p≠f/\g8 p=_);have h5:=DdAt.up i9 d2;have h4:=d2 _ _ g4;have s1:=Paired.mapP d3 λ_ _ z=>DdAt.up z d2;simp only[gSub];ext;have f3:nxt d x u tk (l,k)=tk++[(oU d x l,u++[k])]:=zD a1;have n3:pT kvs (dat (oU d x l)) (.ref I)=kvs++[(dat (oU d x l),.ref I)]:=by
     unfold pT;rw[W];rfl
    obtain⟨v5,e7,_,_⟩:=j6.ex;have d0:f≠g:=λz=>by rw[z,e7]at h4;cases h4
    have d7:as≠g:=λz=>by have:=J.st.1;rw[z,e7]at this;cases this
    refine⟨g,kvs,r2,dat (oU d x l),rfl,rfl,j6,lO _,h5.dt,⋯,λX _ b6 m4=>?_⟩;rw[n3]at m4;have u1:DTr K X g (kvs++[(dat (oU d x l),V.ref I)]):=m4;have t1:TK K g8 X:=TK.off e7 (λ_ z=>by cases z) (λ_ _ z=>by cases z) b6;have f7:X f=some (.lst (Y.map V.ref)):=by rw[b6 f d0];exact h4
    refine⟨tyL f7,f,_,_,rfl,rfl,f7,by rw[zqe,mG d3];omega,j1 _ ?_⟩;rw[f3];have b4:∀c,c≠f->upd X f (.lst (Y.map V.ref++[.ref r2])) c=X c:=λc S=>oR S;have p7:upd X f (.lst (Y.map V.ref++[.ref r2])) f=some (.lst (Y.map V.ref++[.ref r2])):=oP;generalize upd X f (.lst (Y.map V.ref++[.ref r2]))=q5 at*
    have h6:TK K X q5:=TK.off f7 (λ_ z=>by cases z) (λ_ _ z=>by cases z) b4;have f2:=t1.trans h6;have l3:∀p xs,g8 p=some (.lst xs)->p≠g:=λp xs e z=>by rw[z,e7]at e;cases e
    refine⟨λb o e=>?_,⟨?_,Paired.mapP J.st.2 λ_ _ z=>DdAt.tk z f2⟩,⟨Y++[r2],by rw[p7];simp,Paired.snoc (Paired.mapP s1 λ_ _ z=>DdAt.tk z f2) (DdAt.tk h5 f2)⟩,⟨kvs++[(dat (oU d x l),V.ref I)],DTr.tk u1 h6 (b4 g (yF d0)),Paired.snoc (Paired.mapP s2 λ_ _ z=>?_) ⟨rfl,I,rfl,i7,?_⟩⟩,J.n1,J.n2,J.n3,J.x1⟩
    ·have b1:b≠f:=λz=>by rw[z,J.n2]at e;cases e
     have b2:b≠g:=λz=>by rw[z,J.n3]at e;cases e
     rw[b4 b b1,b6 b b2];exact J.s b o e
    ·rw[b4 as J.x1,b6 as d7];exact J.st.1
    ·obtain⟨t6,p,p5,m3,i0⟩:=z;refine⟨t6,p,p5,m3,?_⟩;rw[b4 p m3,b6 p (l3 _ _ i0)];exact i0
    ·rw[b4 I i7,b6 I (l3 _ _ k9),k9];simp
   ·rintro c0 i4 ⟨D,F,C,rfl,a4,a5,c8,f9⟩;have o3:(R.map V.ref).length=(ms.map oS).length:=by rw[zqe];exact mG a4.st.2
    rw[o3,Uj]at a4 a5 c8 f9;subst b5;refine⟨.int i,rfl,?_⟩;unfold tC ipI;refine⟨i,1,rfl,rfl,?_⟩;refine⟨_,D,F,C,rfl,a4,?_,a5,c8,f9⟩;rw[show 201-(i+1)=201-i-1 by omega];exact S
theorem Dw:∀{l a:LI'},l.length=a.length->smA (l.map PyData.int) (a.map PyData.int)=true
 |[],[],_=>rfl
 |_:: l,_:: a,h=>by
  show(sm (.int _) (.int _) && smA (l.map PyData.int) (a.map PyData.int))=true;rw[Dw (by simpa using h)];rfl
theorem Ij{d:Nat}:∀{M a:LM},M.length=a.length->(∀r∈M,r.length=d)->(∀r∈a,r.length=d)->smA (M.map λr=>PyData.tuple (r.map PyData.int)) (a.map λr=>PyData.tuple (r.map PyData.int))=true
 |[],[],_,_,_=>rfl
 |r:: M,e:: a,h,c,f=>by
  show(smA (r.map PyData.int) (e.map PyData.int) && smA (M.map λr=>PyData.tuple (r.map PyData.int)) (a.map λr=>PyData.tuple (r.map PyData.int)))=true;rw[Dw ((c r (.head _)).trans (f e (.head _)).symm),Ij (by simpa using h) (λx b=>c x (.tail _ b)) λx b=>f x (.tail _ b)];rfl
theorem Ii{d:Nat}{x y:Dd}(b:lD d x)(a:lD d y):sm (dat x) (dat y)=true:=by
 show(smA (x.1.map λr=>PyData.tuple (r.map PyData.int)) (y.1.map λr=>PyData.tuple (r.map PyData.int)) && (smA (x.2.1.map PyData.int) (y.2.1.map PyData.int) && (sm (.int _) (.int _) && true)))=true;rw[Ij (b.sq.1.trans a.sq.1.symm) b.sq.2 a.sq.2,Dw (b.len.trans a.len.symm)];rfl
def Ug(d:Nat)(lg lo ls ln:Addr):List (Str×V):=[(Str.ofString "dimension",.int d),(Str.ofString "given",.ref lg),(Str.ofString "ordered",.ref lo),(Str.ofString "shortest",.ref ls),(Str.ofString "numbers",.ref ln)]
abbrev fG1(d:Nat):List (Str×V):=[(Str.ofString "dimension",.int d)]
abbrev fG2(d:Nat)(lg:Addr):List (Str×V):=[(Str.ofString "dimension",.int d),(Str.ofString "given",.ref lg)]
abbrev fG3(d:Nat)(lg lo:Addr):List (Str×V):=[(Str.ofString "dimension",.int d),(Str.ofString "given",.ref lg),(Str.ofString "ordered",.ref lo)]
abbrev fG4(d:Nat)(lg lo ls:Addr):List (Str×V):=[(Str.ofString "dimension",.int d),(Str.ofString "given",.ref lg),(Str.ofString "ordered",.ref lo),(Str.ofString "shortest",.ref ls)]
abbrev fG5(d:Nat)(lg lo ls ln:Addr):List (Str×V):=[(Str.ofString "dimension",.int d),(Str.ofString "given",.ref lg),(Str.ofString "ordered",.ref lo),(Str.ofString "shortest",.ref ls),(Str.ofString "numbers",.ref ln)]
def numT(srt:Tb)(n:Nat):List (PyData×V):=(srt.zipIdx n).map λp=>(dat p.1.1,V.int ((p.2:Nat):Int))
structure GrpF(K:Frag)(t:Adr)(H:Hp)(g:Addr)(d:Nat)(ms:List Dd)(srt:Tb):Prop where
 ex:∃dx lg lo ls ln,H g=some (.ins t.a_9 dx (Ug d lg lo ls ln))/\(∃gs:LA,H lg=some (.lst (gs.map V.ref))/\Paired (DdS K H) gs ms) /\
  (∃os:LA,H lo=some (.lst (os.map V.ref))/\Paired (λp x=>Dt K H (.ref p) (dat x.1)) os srt) /\
  (∃ws:LA,H ls=some (.lst (ws.map V.ref))/\Paired (λp(x:Dd×List Nat)=>H p=some (.lst (x.2.map λn=>V.int (n:Nat)))) ws srt)/\DTr K H ln (numT srt 0)
def Ih(K:Frag)(t:Adr):Sp:=λvs H Q E=>E9 λ(b:Bool)(d:Nat)(a x dx:Addr)(ps:LA)(ms:List Dd)(G:Dd->Prop)(most:Nat)=>A17 (vs=[.ref x,.int d,.ref a,.int most]) (H x=some (.ins t.a_9 dx [])) ((d=2\/d=3)) (SqB b K H a (ps.map V.ref)) (Paired (DdS K H) ps ms) (ms.length<=200) ((∀s∈ms,lD d s)) ((∀s∈ms,lD d (oS s))) ((∀x,G x->lD d x)) (G (oZ d)) ((∀x s,G x->s∈ms->G (oU d x (oS s)))) (1<=most) (most<=200) ((∀y∈nH d (ms.map oS) 201 0 [(oZ d,[])],lD d y.1)) (((nH d (ms.map oS) 201 0 [(oZ d,[])]).map (·.1)).Nodup) (((nH d (ms.map oS) 201 0 [(oZ d,[])]).length<=most->∀srt H',(∀b o,b≠x->H b=some o->H' b=some o)->GrpF K t H' x d ms srt->srt.Perm (nH d (ms.map oS) 201 0 [(oZ d,[])])->srt.Pairwise (λp q=>lx (fl (dat q.1)) (fl (dat p.1))=false)->Q .non H')) ((most<(nH d (ms.map oS) 201 0 [(oZ d,[])]).length->∀H',Same H H'->E (.ref t.a_12) none H'))
theorem Ig{c d:Type}{f:c->d}:∀{l:List d}{tb:List c},l.Perm (tb.map f)->∃srt:List c,srt.Perm tb/\srt.map f=l
 |[],tb,h=>by
  have:=h.length_eq;rw[zqe]at this;exact⟨[],by rw[List.length_eq_zero_iff.mp this.symm],rfl⟩
 | b:: l,tb,h=>by
  obtain⟨a,i,e⟩:=pZ.mp (h.mem_iff.mp (zY));obtain⟨s,r,rfl⟩:=List.append_of_mem i;have g:(b:: l).Perm (b:: (s++r).map f):=by
   refine h.trans ?_;rw[yV,zI,e,yV];exact List.perm_middle
  obtain⟨srt,p,q⟩:=Ig (List.Perm.cons_inv g);exact⟨a:: srt,(List.Perm.cons a p).trans List.perm_middle.symm,by rw[zI,e,q]⟩
def KX(x:Addr)(H H':Hp):Prop:=∀b o,b≠x->H b=some o->H' b=some o
theorem KX.same{x:Addr}{H H':Hp}(s:Same H H'):KX x H H':=λb o _ e=>s b o e
theorem KX.put{x:Addr}{H:Hp}{o:HO}:KX x H (upd H x o):=λb c a e=>by rw[oR a];exact e
theorem KX.trans{x:Addr}{H H1 H2:Hp}(a:KX x H H1)(b:KX x H1 H2):KX x H H2:=λc o d e=>b c o d (a c o d e)
theorem KX.tk{K:Frag}{x C d:Addr}{fs:List (Str×V)}{H H':Hp}(k:KX x H H')(e:H x=some (.ins C d fs)):TK K H H':=by
 have a:∀b xs,H b=some (.tup xs)->H' b=some (.tup xs):=λb xs q=>k b _ (λz=>by rw[z,e]at q;cases q) q;refine⟨a,λb xs q=>?_⟩;rcases q with(q|⟨c,q⟩)|q
 ·exact .inl (.inl (a _ _ q))
 ·exact .inl (.inr ⟨c,k b _ (λz=>by rw[z,e]at q;cases q) q⟩)
 ·exact .inr q
theorem Uf{H:Hp}{x:Dd}{w:List Nat}{p:Addr}:∀{tb:Tb}{kvs:List (PyData×V)},TbAt H tb kvs->(tb.map (·.1)).Nodup->(x,w)∈tb->vT kvs (dat x)=some (.ref p)->H p=some (.lst (w.map λn=>V.int (n:Nat))):=by
 intro tb kvs h
 induction h with
 |nil=>intro _ a;cases a
 |@cons y f tb kvs d _ c =>
  intro nd a e;obtain⟨e1,q,g,b⟩:=d;rw[zI,wU]at nd;rcases xC.mp a with a|a
  ·rw[←a]at e1 b;rw[eW e1,g]at e;cases e;exact b
  ·have i:¬ f.1=dat x:=λq=>nd.1 (by rw[hZ.mp (e1.symm.trans q)];exact pZ.mpr ⟨_,a,rfl⟩);rw[gU i]at e;exact c nd.2 a e
theorem Ue{K:Frag}{H:Hp}{C x d a:Addr}{fs:List (Str×V)}{o:HO}{b:Bool}{xs:List V}(e:H x=some (.ins C d fs))(h:SqB b K H a xs):SqB b K (upd H x o) a xs:=by
 cases b with
 |false =>
  rcases(show SqL K H a xs from h) with(h|⟨c,h⟩)|h
  ·exact(.inl (.inl (by rw[oR (λz=>by rw[z,e]at h;cases h)];exact h)):SqL K (upd H x o) a xs)
  ·exact(.inl (.inr ⟨c,by rw[oR (λz=>by rw[z,e]at h;cases h)];exact h⟩):SqL K (upd H x o) a xs)
  ·exact(.inr h:SqL K (upd H x o) a xs)
 |true =>
  rcases(show SqT K H a xs from h) with(h|⟨c,h⟩)|h
  ·exact(.inl (.inl (by rw[oR (λz=>by rw[z,e]at h;cases h)];exact h)):SqT K (upd H x o) a xs)
  ·exact(.inl (.inr ⟨c,by rw[oR (λz=>by rw[z,e]at h;cases h)];exact h⟩):SqT K (upd H x o) a xs)
  ·exact(.inr h:SqT K (upd H x o) a xs)
theorem Ud{H:Hp}{v:V}{ds:List PyData}(h:Dt K H v (.tuple ds)):∃q,v=V.ref q:=by
 cases h;exact⟨_,rfl⟩
theorem dP{H:Hp}{b:St}{i:Nat}{C x a:Addr}{fs:List (Str×V)}{f:Str}{v:V}{Q:VK}(d:b[i]?=some (some (V.ref x)))(e:H x=some (.ins C a fs))(c:Cls K C)(n:iO K C f)(l:fs.lookup f=some v)(q:Q v H):tFld K (tVar i) f b H Q:=⟨_,d,x,C,a,fs,v,rfl,e,c,n,l,q⟩
theorem Uc{H:Hp}:∀{tb:Tb}{kvs:List (PyData×V)},TbAt H tb kvs->∀y∈tb,∃p,vT kvs (dat y.1)=some (V.ref p):=by
 intro tb kvs h
 induction h with
 |nil=>intro y a;cases a
 | @cons z d tb kvs hz _ b =>
  intro y a;obtain⟨e1,p,c,_⟩:=hz
  by_cases q:d.1=dat y.1
  ·exact⟨p,by rw[eW q,c]⟩
  ·rw[gU q];rcases xC.mp a with a|a
   ·exact absurd (by rw[e1,a]) q
   ·exact b y a
theorem Ub{K:Frag}{H:Hp}{ps:List (V×PyData)}{zs:List V}{n:Nat}(hl:zs.length=ps.length)(e:∀p∈ps,tT 4 p.2=true/\Dt K H p.1 p.2/\∃q,p.1=V.ref q)(hz:∀j y,zs[j]?=some y->∃p m,y=V.ref p/\ps[j]?=some m/\H p=some (.tup [m.1,.int ((n+j:Nat):Int)])):
  ∃ts:List (Addr×PyData×Addr×V),zs=ts.map (λt=>V.ref t.1)/\(ts.map (·.2.1)=ps.map (·.2)/\ts.map (λt=>(t.2.1,t.2.2.2))=(ps.zipIdx n).map λp=>(p.1.2,V.int ((p.2:Nat):Int)))/\∀t∈ts,SqT K H t.1 [.ref t.2.2.1,t.2.2.2]/\tT 4 t.2.1=true/\Dt K H (.ref t.2.2.1) t.2.1:=by
 induction ps generalizing zs n with
 |nil =>
  obtain rfl:=vA hl;exact⟨[],rfl,⟨rfl,rfl⟩,λ_ h=>nomatch h⟩
 | cons p ps f =>
  obtain⟨z,zs,rfl⟩:=List.exists_cons_of_length_eq_add_one hl;obtain⟨a,m,e1,k,c⟩:=hz 0 z rfl;cases k;obtain⟨i,d,q,o⟩:=e p (.head _);obtain⟨ts,C,⟨g,I⟩,J⟩:=f (zs:=zs) (n:=n+1) (qQ hl) (λx l=>e x (.tail _ l)) λj y u=>by
   obtain⟨D,r,v,F,G⟩:=hz (j+1) y u;exact⟨D,r,v,F,by rw[G,show n+(j+1)=n+1+j by omega]⟩
  rw[o]at c d;refine⟨(a,p.2,q,.int ((n+0:Nat):Int)):: ts,by rw[e1,C];rfl,⟨by rw[zI,zI,g],by rw[zI,vZ,zI,I];rfl⟩,λt b=>?_⟩;rcases xC.mp b with b|b
  ·rw[b];exact⟨SqT.of c,i,d⟩
  ·exact J t b
theorem ord_of{K:Frag}{H:Hp}:∀{ps:List (V×PyData)}{srt:Tb},(srt.map λy=>dat y.1)=ps.map (·.2)->(∀p∈ps,Dt K H p.1 p.2/\(∃q,p.1=V.ref q))->∃a:LA,ps.map (·.1)=a.map V.ref/\Paired (λp(x:Dd×List Nat)=>Dt K H (.ref p) (dat x.1)) a srt
 |[],[],_,_=>⟨[],rfl,.nil⟩
 |[],_:: _,h,_=>by simp at h
 |_:: _,[],h,_=>by simp at h
 |p:: ps,y:: srt,e,h=>by
  rw[zI,zI,yJ]at e;obtain⟨a,e1,f⟩:=ord_of (ps:=ps) (srt:=srt) e.2 λx d=>h x (.tail _ d);obtain⟨c,q,b⟩:=h p (.head _);rw[b,←e.1]at c;exact⟨q:: a,by rw[zI,zI,e1,b],.cons c f⟩
theorem Ua{H:Hp}{kvs:List (PyData×V)}{srt:Tb}{ys:List V}(hl:ys.length=srt.length)(h:∀(j:Nat) y,ys[j]?=some y->∃p m,y=V.ref p/\srt[j]?=some m/\vT kvs (dat m.1)=some (V.ref p))
  (f:∀m∈srt,∀p,vT kvs (dat m.1)=some (V.ref p)->H p=some (.lst (m.2.map λn=>V.int (n:Nat)))):∃d:LA,ys=d.map V.ref/\Paired (λp(x:Dd×List Nat)=>H p=some (.lst (x.2.map λn=>V.int (n:Nat)))) d srt:=Ik hl λj y e=>by
 obtain⟨p,m,a,b,c⟩:=h j y e;exact⟨p,m,a,b,f m (zqb b) p c⟩
theorem Ie:∀{srt:Tb}{ps:List (V×PyData)},(srt.map λy=>dat y.1)=ps.map (·.2)->∀n,((srt.zipIdx n).map λp=>(dat p.1.1,V.int ((p.2:Nat):Int)))=(ps.zipIdx n).map λp=>(p.1.2,V.int ((p.2:Nat):Int))
 |[],[],_,_=>rfl
 |[],_:: _,h,_=>by simp at h
 |_:: _,[],h,_=>by simp at h
 |y:: srt,p:: ps,e,n=>by
  rw[zI,zI,yJ]at e;rw[vZ,vZ,zI,zI,Ie e.2 (n+1),e.1]
structure GI(K:Frag)(H0:Hp)(C x dx wd:Addr)(fs:List (Str×V))(tb:Tb)(kvs:List (PyData×V))(H:Hp):Prop where
 hx:H x=some (.ins C dx fs)
 s:∀b o,b≠x->H0 b=some o->H b=some o
 D:DTr K H wd kvs
 T:TbAt H tb kvs
theorem GI.up{K:Frag}{a H H':Hp}{C x c d:Addr}{fs:List (Str×V)}{tb:Tb}{kvs:List (PyData×V)}(h:GI K a C x c d fs tb kvs H)(s:Same H H'):GI K a C x c d fs tb kvs H':=
 ⟨s _ _ h.hx,λb o j e=>s _ _ (h.s b o j e),h.D.up s,Paired.mapP h.T λ_ _ z=>let ⟨i,p,f,g⟩:=z;⟨i,p,f,s _ _ g⟩⟩
theorem aS{K:Frag}{H:Hp}{C x a:Addr}{fs fs':List (Str×V)}(e:H x=some (.ins C a fs)):TK K H (upd H x (.ins C a fs')):=TK.off e (λ_ z=>by cases z) (λ_ _ z=>by cases z) λ_ b=>oR b
theorem GI.put{K:Frag}{f H:Hp}{C x a d:Addr}{fs:List (Str×V)}{tb:Tb}{kvs:List (PyData×V)}(h:GI K f C x a d fs tb kvs H)(fs':List (Str×V)):GI K f C x a d fs' tb kvs (upd H x (.ins C a fs')):=by
 have xw:d≠x:=λz=>by
  obtain⟨_,_,xs,e,_⟩:=h.D;rw[z,h.hx]at e;cases e
 refine⟨oP,λb o g e=>?_,DTr.tk h.D (aS h.hx) (oR xw),Paired.mapP h.T λ_ _ z=>?_⟩
 ·rw[oR g];exact h.s b o g e
 ·obtain⟨j,p,i,c⟩:=z;have:p≠x:=λq=>by rw[q,h.hx]at c;cases c
  exact⟨j,p,i,by rw[oR this];exact c⟩
theorem ok_0(T:Txt K mg t):FnOk P w K mg base (CX1 P w) 12 t.a_0 t.d_0 pg' (Ih K t):=by
 have g3:=@ok_m P w K mg base t T;have l1:=@ok_k P w K mg base t T;have m1:=@ok_r P w K mg base t T;refine T.F_0.okX sc_0 (λvs H Q E h=>?_) (λcdv A outer s H vs Q E hr h=>?_)
 ·obtain⟨b,d,a,x,g,ps,ms,G,most,rfl,_⟩:=h;rfl
 ·have c0:=hr.units;obtain⟨b,d,a,x,g,ps,ms,G,most,rfl,e0,f0,d0,c7,b0,d8,i6,f2,d7,l4,f4,b4,j7,f8,b8,f5⟩:=h;refine⟨_,(oM (kK (nA g3 hr.mo T.F_m (oH (pv 3) oJ)))
   (oM (kK (nA l1 hr.mo T.F_k (oH (pv 1) (oH (pv 2) oJ))))
   (oM (oT (i:=4) sc_0.nd rfl (Or.inr rfl) (Ot m1 hr.mo rfl T.F_r.m T.F_r.kp T.F_r.b .nil Ow (oH (pv 1) (oH (pv 2) (oH (pv 3) oJ)))))
   (oM (eF (pv 0) (pv 1) rfl)
   (oM (eF (pv 0) (mK gR rfl T.z_list (nofun) (oH (pv 2) oJ)) rfl)
   (oM (eF (pv 0) (mY (Sr (N:=200) Ur c0 rfl) rfl T.z_sorted (nofun) (oH (pv 4) oJ)) rfl)
   (oM (eF (pv 0) (mD (sc:=oQ s_0) (N:=N_0) (fr:=[("words",4)]) (te:=(tOp (bF K) (tVar 1) (tVar 0))) rfl rfl (nofun) rfl (nofun) (nQ (eE (pv 0) rfl)) (λ_ _ _ a0=>(nO (ix_T c0) (pv 1) (pv 0) (λ_ _=>rfl)))) rfl)
   (oO (eF (pv 0) (mK (Sf c0 rfl) rfl T.z_dict (nofun) (oH (iA (xs:=["number","member"]) (fr:=[]) (g:=(gTup K 2 (mU (oW 0) (mU (oW 1) gNil)))) (tt:=(tEl (tTup (nD (tVar 1) (nD (tVar 0) tNil))))) (kN (sc:=oQ s_0) (N:=N_0) rfl rfl (nofun)) rfl (cV rfl T.z_enumerate (oH (eE (pv 0) rfl) oJ)) (λ_ _ _ a0=>(iN rfl (lQ (kZ (N:=["number","member"]) (i:=0) a0 rfl (nofun)) (lQ (kZ (N:=["number","member"]) (i:=1) a0 rfl (nofun)) iM)))) (λ_ _ _ a0=>(kY (lE (oH (pv 1) (oH (pv 0) oJ)))))) oJ)) rfl))))))))),?_⟩
  show tSeq _ _ _ [some (.ref x),some (.int d),some (.ref a),some (.int most),none] H;right;refine⟨most,rfl,f4,b4,?_⟩;left;refine⟨b,d,a,ps,ms,rfl,f0,d0,c7,λs h1=>(d8 s h1).sq.1,λH1 a8=>?_⟩;left;refine⟨b,d,a,ps,ms,most,G,rfl,f0,d0.up a8,Paired.mapP c7 λ_ _ z=>z.up a8,b0,d8,i6,f2,d7,l4,f4,b4,λa7 d1 kvs H2 c1 m9 h5 l3=>?_,λa7 H2 c1=>f5 a7 H2 (a8.trans c1)⟩;have b8:=b8 a7;have m5:=yC a7 b4;clear f5;generalize nH d (ms.map oS) 201 0 [(oZ d,[])]=tb at*
  have d3:=a8.trans c1;have b6:=d3 _ _ e0;subst e1;refine st λN1 e1=>?_;simp only[sFld];ext;have g1:GI K H t.a_9 x g d1 [] tb kvs H2:=⟨b6,λb o _ e=>d3 _ _ e,h5,l3⟩;refine⟨_,_,_,b6,T.cl_9,T.h_3,∅,?_⟩;have e7:=g1.put (fG1 d);have sq3:SqB b K (upd H2 x (.ins t.a_9 g (fG1 d))) a (ps.map V.ref):=Ue b6 (d0.up d3);show N1 _ (upd H2 x (.ins t.a_9 g (fG1 d)));generalize upd H2 x (.ins t.a_9 g (fG1 d))=H3 at*
  clear g1;subst e1;refine st λN1 e1=>?_;simp only[sFld];ext;refine⟨b,a,_,rfl,sq3,λc d5=>?_⟩;have j9:Same H3 (upd H3 c (.lst (ps.map V.ref))):=Same.new d5;have l0:(upd H3 c (.lst (ps.map V.ref))) c=some (.lst (ps.map V.ref)):=oP;have i2:c≠x:=λz=>by rw[z,e7.hx]at d5;cases d5
  have e9:=e7.up j9;generalize upd H3 c (.lst (ps.map V.ref))=D at*
  refine⟨_,_,_,e9.hx,T.cl_9,T.h_e,by show 1<1000;decide,?_⟩;have a4:=e9.put (fG2 d c);have k4:KX x D (upd D x (.ins t.a_9 g (fG2 d c))):=KX.put;show N1 _ (upd D x (.ins t.a_9 g (fG2 d c)));generalize upd D x (.ins t.a_9 g (fG2 d c))=m2 at*
  subst e1;refine st λN1 e1=>?_;simp only[sFld];ext;have m4:tb.length=kvs.length:=mG a4.T;have d9:∀I∈kvs,∃y∈tb,I.1=dat y.1:=λI R=>by
   obtain⟨y,X,z⟩:=Cu a4.T I R;exact⟨y,X,z.1⟩
  have l2:=f2 _ d7;refine⟨d1,kvs,[.tuple ((List.replicate d (0:Int)).map PyData.int),.int 1],(idM d).map (λr=>PyData.tuple (r.map PyData.int)),rfl,⋯,a4.D,λI R=>?_,λlo u S c3 m3 a6 a9 Z l7=>?_⟩
  ·obtain⟨y,X,e⟩:=d9 I R;rw[e];exact Ii l2 (j7 y X)
  have Y:=a4.up c3;have l8:=k4.trans (KX.same c3);refine⟨_,_,_,Y.hx,T.cl_9,T.h_5,by show 2<1000;decide,?_⟩;have pl:u.length<=200:=by
   have:=Z.length_eq;rw[zqe,zqe]at this;omega
  have m7:=a6;have W:=Y.put (fG3 d c lo);have b5:lo≠x:=λz=>by rw[z,Y.hx]at a6;cases a6
  have i3:KX x D (upd S x (.ins t.a_9 g (fG3 d c lo))):=l8.trans KX.put;have b7:(upd S x (.ins t.a_9 g (fG3 d c lo))) lo=some (.lst (u.map (·.1))):=by rw[oR b5];exact a6
  have N:∀p∈u,tT 4 p.2=true/\Dt K (upd S x (.ins t.a_9 g (fG3 d c lo))) p.1 p.2:=λp f=>⟨(a9 p f).1,lU (aS Y.hx).t 4 (a9 p f).1 (lU (mW c3) 4 (a9 p f).1 (a9 p f).2)⟩;show N1 _ (upd S x (.ins t.a_9 g (fG3 d c lo)));generalize upd S x (.ins t.a_9 g (fG3 d c lo))=m8 at*
  -- every member is a reference to one of the dict's keys
  have mem:∀p∈u,∃y∈tb,p.2=dat y.1:=λp f=>by
   have:p.2∈kvs.map (·.1):=Z.mem_iff.mp (pZ.mpr ⟨p,f,rfl⟩);obtain⟨I,R,e⟩:=pZ.mp this;obtain⟨y,X,c2⟩:=d9 I R;exact⟨y,X,by rw[←e,c2]⟩
  have e5:kvs.map (·.1)=tb.map λy=>dat y.1:=by
   have:∀{H':Hp}{tb:Tb}{kvs:List (PyData×V)},TbAt H' tb kvs->kvs.map (·.1)=tb.map λy=>dat y.1:=by
    intro H' tb kvs h
    induction h with
    |nil=>rfl
    |cons hz _ g2=>rw[zI,zI,g2,hz.1]
   exact this W.T
  obtain⟨srt,e6,U⟩:=Ig (f:=λy:Dd×List Nat=>dat y.1) (l:=u.map (·.2)) (tb:=tb) (by rw[←e5];exact Z);have k9:srt.length=u.length:=by have:=wY List.length U;simpa using this
  have c6:∀p∈u,∃q,p.1=V.ref q:=λp f=>by
   obtain⟨y,_,e⟩:=mem p f;have e8:=(N p f).2;rw[e]at e8;exact Ud e8
  subst e1;refine st λN1 e1=>?_;simp only[sFld];refine nL λB eB=>?_;simp only[iSeq];refine dP rfl W.hx T.cl_9 T.h_5 rfl ?_;refine⟨false,lo,rfl,⟨_,SqB.lst b7⟩,λk b9=>?_⟩;refine lJ (λj y _=>∃(p:Addr)(m:Dd×List Nat),y=V.ref p/\srt[j]?=some m/\vT kvs (dat m.1)=some (V.ref p)) b9 (SqB.lst b7) (by rw[zqe];omega) (λ_ _ _ _ h _=>h) ?_ ?_
  ·intro i y C zs c4 F f6 b2 c5;obtain⟨p,f,rfl⟩:=kF c4;have d2:=zqb f;obtain⟨q,g6⟩:=c6 p d2;obtain⟨l9,k3,h2⟩:=mem p d2;obtain⟨f3,f9⟩:=N p d2;subst eB;show tOp _ _ _ [some p.1,some (.ref d1)] C b2;ext;rw[g6]at f9 ⊢;have L:=W.up F;obtain⟨k7,c8⟩:=Uc L.T l9 k3;rw[←h2]at c8;refine Ca L.D f3 (lU (mW F) 4 f3 f9) c8 ?_;have h8:∃m,srt[i]?=some m/\dat m.1=p.2:=by
    have e:=wY (λl=>l[i]?) U;simp only[List.getElem?_map,f,Option.map_some]at e;cases hm2:srt[i]? with
    |none=>rw[hm2]at e;cases e
    |some m=>rw[hm2]at e;exact⟨m,rfl,zU e⟩
   obtain⟨m,c9,g7⟩:=h8;exact c5 _ _ (Same.refl _) ⟨k7,m,rfl,c9,by rw[g7];exact c8⟩
  ·intro C ys F h6 g4 k6;have L:=W.up F;have e4:k≠x:=λz=>by rw[z,W.hx]at b9;cases b9
   have i8:=i3.trans (KX.same F);have m0:KX x D (upd C x (.ins t.a_9 g (fG4 d c lo k))):=i8.trans KX.put;have k2:(upd C x (.ins t.a_9 g (fG4 d c lo k))) k=some (.lst ys):=by rw[oR e4];exact h6
   refine⟨.ref x,rfl,x,_,_,_,rfl,L.hx,T.cl_9,T.h_4,by show 3<1000;decide,?_⟩;have g0:=L.put (fG4 d c lo k);have b3:(upd C x (.ins t.a_9 g (fG4 d c lo k))) lo=some (.lst (u.map (·.1))):=by rw[oR b5];exact F _ _ b7
   have M:∀p∈u,tT 4 p.2=true/\Dt K (upd C x (.ins t.a_9 g (fG4 d c lo k))) p.1 p.2:=λp f=>⟨(N p f).1,lU (aS L.hx).t 4 (N p f).1 (lU (mW F) 4 (N p f).1 (N p f).2)⟩;show N1 _ (upd C x (.ins t.a_9 g (fG4 d c lo k)));generalize upd C x (.ins t.a_9 g (fG4 d c lo k))=m6 at*
   subst e1;simp only[sFld];ext;refine nL λB eB=>?_;simp only[eO];ext;refine dP rfl g0.hx T.cl_9 T.h_5 rfl ?_;refine⟨false,lo,rfl,⟨_,SqB.lst b3⟩,λd6 j5=>?_⟩;refine Pp (λj y H=>∃p m,y=V.ref p/\p≠d6/\u[j]?=some m/\H p=some (.tup [m.1,.int (j:Int)])) j5 (SqB.lst b3) (by rw[zqe];omega) (λ_ _ _ _⟨p,m,e,n,c9,h⟩g8=>⟨p,m,e,n,c9,g8 _ _ n h⟩) ?_ ?_
   ·intro i y b1 zs c4 a5 f6 b2 c5;obtain⟨p,f,rfl⟩:=kF c4;subst eB;show tTup _ [some (.int i),some p.1] b1 b2;ext;refine⟨by show 2<=sizeLine;decide,λq d4=>?_⟩;refine c5 _ _ (Same.new d4) ⟨q,p,rfl,(λz=>by rw[z,f6]at d4;cases d4),f,oP⟩
   ·intro b1 zs a5 h4 i4 hz;obtain⟨ts,j1,⟨i1,j8⟩,h9⟩:=Ub (K:=K) (H:=b1) (ps:=u) (zs:=zs) (n:=0) (by rw[i4,zqe]) (λp f=>⟨(M p f).1,lU (mW a5) 4 (M p f).1 (M p f).2,c6 p f⟩) λj y g9=>by
     obtain⟨p,m,i9,_,j6,k8⟩:=hz j y g9;exact⟨p,m,i9,j6,by rw[wP];exact k8⟩
    have i0:=g0.up a5;have j2:(u.map (·.2)).Nodup:=Z.nodup_iff.mpr (by
     rw[e5,show(tb.map λy=>dat y.1)=(tb.map (·.1)).map dat by rw[xO];rfl];exact List.Pairwise.map dat (λa b h e=>h (hZ.mp e)) f8)
    refine⟨d6,ts,rfl,by rw[←j1];exact .inl (.inl h4),h9,by rw[i1];exact j2,λv J e3 _ f7=>?_⟩;have a3:=i0.up e3;refine⟨_,_,_,a3.hx,T.cl_9,T.h_6,by show 4<1000;decide,?_⟩;have a1:=a5.trans e3;have e2:=aS (K:=K) (fs':=(fG5 d c lo k v)) a3.hx;have a2:=a3.put (fG5 d c lo k v);show Q .non (upd J x (.ins t.a_9 g (fG5 d c lo k v)));have k1:KX x J (upd J x (.ins t.a_9 g (fG5 d c lo k v))):=KX.put;have l6:(upd J x (.ins t.a_9 g (fG5 d c lo k v))) k=some (.lst ys):=by rw[oR e4];exact a1 _ _ k2
    have k0:v≠x:=λz=>by
     obtain⟨_,_,xs,e,_⟩:=f7;rw[z,a3.hx]at e;cases e
    have i5:=DTr.tk f7 e2 (oR k0);have h0:(upd J x (.ins t.a_9 g (fG5 d c lo k v))) lo=some (.lst (u.map (·.1))):=by rw[oR b5];exact a1 _ _ b3
    generalize upd J x (.ins t.a_9 g (fG5 d c lo k v))=O at*;have j0:KX x D O:=((m0.trans (KX.same a1)).trans k1);have h7:TK K H O:=KX.tk (λb o g5 e=>a2.s b o g5 e) e0;refine b8 srt O a2.s ⟨g,c,lo,k,v,a2.hx,⟨ps,j0 _ _ i2 l0,Paired.mapP c7 λ_ _ z=>DdS.tk z h7⟩,?_,?_,?_⟩ e6 ?_
    ·obtain⟨j3,i7,k5⟩:=ord_of (K:=K) (H:=O) (ps:=u) (srt:=srt) U λp f=>⟨lU e2.t 4 (M p f).1 (lU (mW a1) 4 (M p f).1 (M p f).2),c6 p f⟩;exact⟨j3,by rw[h0,i7],k5⟩
    ·obtain⟨h3,l5,j4⟩:=Ua (H:=O) (srt:=srt) (kvs:=kvs) (ys:=ys) (by rw[g4,zqe,k9]) k6 λm b0 p e=>Uf (x:=m.1) (w:=m.2) a2.T f8 (e6.mem_iff.mp b0) e;exact⟨h3,by rw[←l5];exact l6,j4⟩
    ·have c2:numT srt 0=ts.map λt=>(t.2.1,t.2.2.2):=by
      rw[j8];unfold numT;exact Ie U 0
     rw[c2];exact i5
    ·have f1:(u.map (·.2)).Pairwise λp q=>lx (fl q) (fl p)=false:=List.pairwise_map.mpr l7;rw[←U]at f1;exact List.pairwise_map.mp f1
theorem GrpF.up{H H':Hp}{g:Addr}{d:Nat}{ms:List Dd}{srt:Tb}(h:GrpF K t H g d ms srt)(s:Same H H'):GrpF K t H' g d ms srt:=by
 obtain⟨j,f,lo,k,q,i,⟨gs,p,l⟩,⟨o,e,c⟩,⟨m,n,b⟩,a⟩:=h;exact⟨j,f,lo,k,q,s _ _ i,⟨gs,s _ _ p,Paired.mapP l λ_ _ z=>DdS.up z s⟩,⟨o,s _ _ e,Paired.mapP c λ_ x z=>lU (mW s) 4 (lO x.1) z⟩,⟨m,s _ _ n,Paired.mapP b λ_ _ z=>s _ _ z⟩,a.up s⟩
def sp_7(K:Frag)(t:Adr):Sp:=λvs H Q _=>E4 λ(g:Addr)(d:Nat)(ms:List Dd)(srt:Tb)=>A3 (vs=[.ref g]) (GrpF K t H g d ms srt) (∀l gs H',Same H H'->H l=none->H' l=some (.lst (gs.map V.ref))->Paired (DdS K H') gs ms->Q (.ref l) H')
def sp_1(K:Frag)(t:Adr):Sp:=λvs H Q _=>E4 λ(g:Addr)(d:Nat)(ms:List Dd)(srt:Tb)=>A3 (vs=[.ref g]) (GrpF K t H g d ms srt) (∀l os H',Same H H'->H l=none->H' l=some (.lst (os.map V.ref))->Paired (λp x=>Dt K H' (.ref p) (dat x.1)) os srt->Q (.ref l) H')
def sp_8(K:Frag)(t:Adr):Sp:=λvs H Q _=>E4 λ(g:Addr)(d:Nat)(ms:List Dd)(srt:Tb)=>A4 (vs=[.ref g]) (GrpF K t H g d ms srt) (srt.length<=200) (∀l ws H',Same H H'->H l=none->H' l=some (.lst (ws.map V.ref))->Paired (λp(x:Dd×List Nat)=>H' p=some (.lst (x.2.map λn=>V.int (n:Nat)))) ws srt->Q (.ref l) H')
theorem ok_7(T:Txt K mg t):FnOk P w K mg base CX0 2 t.a_7 t.d_7 pv' (sp_7 K t):=by
 apply T.F_7.ok sc_7
 ·obtain⟨g,d,ms,srt,rfl,⟨i,a,lo,j,k,b,⟨gs,f,e⟩,_⟩,c⟩:=h;refine⟨_,(oO (oY (mK gR rfl T.z_list (nofun) (oH (eE (pv 0) rfl) oJ)))),?_⟩;show tRet _ _ [some (.ref g)] H;simp only[tRet,tCB,nD,tNil];refine dP rfl b T.cl_9 T.h_e rfl ?_;refine⟨false,a,_,rfl,SqB.lst f,λl hl=>?_⟩;exact c l gs _ (Same.new hl) hl oP (Paired.mapP e λ_ _ z=>DdS.up z (Same.new hl))
theorem ok_1(T:Txt K mg t):FnOk P w K mg base CX0 2 t.a_1 t.d_1 pv' (sp_1 K t):=by
 apply T.F_1.ok sc_1
 ·obtain⟨g,d,ms,srt,rfl,⟨j,i,lo,k,m,c,_,⟨f,b,a⟩,_⟩,e⟩:=h;refine⟨_,(oO (oY (mK gR rfl T.z_list (nofun) (oH (eE (pv 0) rfl) oJ)))),?_⟩;show tRet _ _ [some (.ref g)] H;simp only[tRet,tCB,nD,tNil];refine dP rfl c T.cl_9 T.h_5 rfl ?_;refine⟨false,lo,_,rfl,SqB.lst b,λl hl=>?_⟩;exact e l f _ (Same.new hl) hl oP (Paired.mapP a λ_ x z=>lU (mW (Same.new hl)) 4 (lO x.1) z)
def WdR(a:Addr)(srt:Tb)(j:Nat)(y:V)(H:Hp):Prop:=∃p m,y=V.ref p/\p≠a/\srt[j]?=some m/\H p=some (.lst (m.2.map λn=>V.int ((n:Nat):Int)))
theorem Id{a:Addr}{H:Hp}:∀{srt:Tb}{ys:List V},ys.length=srt.length->(∀(j:Nat) y,ys[j]?=some y->WdR a srt j y H)->∃b:LA,ys=b.map V.ref/\Paired (λp(x:Dd×List Nat)=>H p=some (.lst (x.2.map λn=>V.int (n:Nat)))) b srt
 |[],[],_,_=>⟨[],rfl,.nil⟩
 | m:: srt,y:: ys,hl,h=>by
  obtain⟨p,c,e1,_,i,k⟩:=h 0 y rfl;cases i;obtain⟨b,d,o⟩:=Id (a:=a) (H:=H) (srt:=srt) (ys:=ys) (by simpa using hl) λj r q=>by
   obtain⟨p,c,g,l,e,f⟩:=h (j+1) r (by simpa using q);exact⟨p,c,g,l,by simpa using e,f⟩
  exact⟨p:: b,by rw[e1,d];rfl,.cons k o⟩
theorem ok_8(T:Txt K mg t):FnOk P w K mg base CX0 2 t.a_8 t.d_8 pv' (sp_8 K t):=by
 apply T.F_8.ok sc_8
 ·obtain⟨g,d,ms,srt,rfl,⟨W,U,lo,G,Y,v,_,_,⟨o,r,k⟩,_⟩,X,M⟩:=h;refine⟨_,(oO (oY (mD (sc:=oQ s_8) (N:=N_8) (fr:=[]) (te:=(tCB (cX K) (nD (tVar 0) tNil))) rfl rfl (nofun) rfl (nofun) (nQ (eE (pv 0) rfl)) (λ_ _ _ V=>(mK gR rfl T.z_list (nofun) (oH (pv 0) oJ)))))),?_⟩;show tRet _ _ [some (.ref g)] H;simp only[tRet];refine nL λB eB=>?_;simp only[iSeq];refine dP rfl v T.cl_9 T.h_4 rfl ?_;have F:o.length=srt.length:=mG k;refine⟨false,G,rfl,⟨_,SqB.lst r⟩,λl hl=>?_⟩;refine lJ (WdR l srt) hl (SqB.lst r) (by rw[zqe];omega) (λ_ _ _ _⟨p,m,e,n,f,h⟩I=>⟨p,m,e,n,f,I _ _ n h⟩) ?_ ?_
  ·intro i y b zs a c u D N;rw[zM]at a;cases hp':o[i]? with
   |none=>rw[hp']at a;cases a
   |some p =>
    rw[hp']at a;cases a;obtain⟨m,f,x⟩:=lP k hp';subst eB;show tCB _ _ [some (.ref p)] b D;simp only[tCB,nD,tNil,tVar];refine⟨_,rfl,false,p,_,rfl,SqB.lst (c _ _ x),λq j=>?_⟩;exact N _ _ (Same.new j) ⟨q,m,rfl,(λz=>by rw[z,u]at j;cases j),f,oP⟩
  ·intro b ys c R C L;obtain⟨S,J,O⟩:=Id (by rw[C,zqe,F]) L;exact M l S b c hl (by rw[R,J]) O
theorem sq1{b:LM}(h:Sq 1 b):∃a,b=[[a]]:=by
 obtain⟨hl,hr⟩:=h
 match b,hl with
 |[r],_ =>
  have:=hr r (by simp)
  match r,this with
  |[a],_=>exact⟨a,rfl⟩
theorem len2{r:LI'}(h:r.length=2):∃a b,r=[a,b]:=by match r,h with|[a,b],_=>exact⟨a,b,rfl⟩
theorem len3{r:LI'}(h:r.length=3):∃a b c,r=[a,b,c]:=by match r,h with|[a,b,c],_=>exact⟨a,b,c,rfl⟩
theorem len4{r:LI'}(h:r.length=4):∃a b c d,r=[a,b,c,d]:=by match r,h with|[a,b,c,d],_=>exact⟨a,b,c,d,rfl⟩
theorem sq2{e:LM}(h:Sq 2 e):∃a b c d,e=[[a,b],[c,d]]:=by
 obtain⟨hl,hr⟩:=h
 match e,hl with
 |[r,s],_ =>
  obtain⟨a,b,rfl⟩:=len2 (hr r (by simp));obtain⟨c,d,rfl⟩:=len2 (hr s (by simp));exact⟨a,b,c,d,rfl⟩
theorem sq3{k:LM}(h:Sq 3 k):∃a b c d e f g i j,k=[[a,b,c],[d,e,f],[g,i,j]]:=by
 obtain⟨hl,hr⟩:=h
 match k,hl with
 |[r,s,t],_ =>
  obtain⟨a,b,c,rfl⟩:=len3 (hr r (by simp));obtain⟨d,e,f,rfl⟩:=len3 (hr s (by simp));obtain⟨g,i,j,rfl⟩:=len3 (hr t (by simp));exact⟨a,b,c,d,e,f,g,i,j,rfl⟩
theorem sq4{v:LM}(h:Sq 4 v):∃a b c d e f g i j k l m n o p q,v=[[a,b,c,d],[e,f,g,i],[j,k,l,m],[n,o,p,q]]:=by
 obtain⟨hl,hr⟩:=h
 match v,hl with
 |[r,s,t,u],_ =>
  obtain⟨a,b,c,d,rfl⟩:=len4 (hr r (by simp));obtain⟨e,f,g,i,rfl⟩:=len4 (hr s (by simp));obtain⟨j,k,l,m,rfl⟩:=len4 (hr t (by simp));obtain⟨n,o,p,q,rfl⟩:=len4 (hr u (by simp));exact⟨a,b,c,d,e,f,g,i,j,k,l,m,n,o,p,q,rfl⟩
theorem id2:idM 2=[[1,0],[0,1]]:=nofun
theorem id3:idM 3=[[1,0,0],[0,1,0],[0,0,1]]:=nofun
theorem Vz(a b v:Int)(c:0<v):gcdI (a*v) (b*v)=gcdI a b*v:=by
 unfold gcdI;rw[Int.gcd_mul_right];have:((v.natAbs:Nat):Int)=v:=⋯
 rw[sU,this]
theorem Vy{u v:Int}(b:0<v)(ts:LI'):gl (u*v) (ts.map (·*v))=gl u ts*v:=by
 have e:∀(ts:LI')(a:Int),(ts.map (·*v)).foldl gcdI (a*v)=ts.foldl gcdI a*v:=by
  intro ts
  induction ts with
  |nil=>intro a;rfl
  |cons t r d=>intro a;rw[zI,wE,wE,Vz _ _ _ b,d]
 unfold gl;have:absI (u*v)=absI u*v:=by
  unfold absI;rcases Int.lt_or_le u 0 with l|l
  ·have c:u*v<0:=Int.mul_neg_of_neg_of_pos l b;rw[zE l,zE c,Int.neg_mul]
  ·have c:0<=u*v:=Int.mul_nonneg l (uC b);rw[zD ⋯,zD ⋯]
 rw[this,e]
def Cong(u:Int)(xs ys:LI'):Prop:=xs.length=ys.length/\∀(i:Nat)(x y:Int),xs[i]?=some x->ys[i]?=some y->u∣x-y
theorem Ic{u x y:Int}(a:0<u)(h:u∣x-y):x.fmod u=y.fmod u:=by
 rw[wC _ (uC a),wC _ (uC a)];exact Int.emod_eq_emod_iff_emod_sub_eq_zero.mpr (Int.emod_eq_zero_of_dvd h)
theorem Cong.rest{u:Int}(b:0<u)(ns:LI'):Cong u ns (nV u ns):=by
 refine⟨by simp[nV],λi x y e1 a=>?_⟩;unfold nV at a;rw[zM,e1]at a;cases zU a;have:=Ti b x;have c:=wC (x.fmod u-x) (uC b);rw[c]at this;have d:=Int.dvd_of_emod_eq_zero this;have:=Int.dvd_neg.mpr d
 rwa[Int.neg_sub]at this
theorem Cong.gl{u:Int}{xs ys:LI'}(h:Cong u xs ys):Cw.gl u xs=Cw.gl u ys:=by
 have f:∀{xs ys:LI'}{d:Int},Cong u xs ys->d∣u->(∀t∈xs,d∣t)->∀t∈ys,d∣t:=λ{xs ys d}h m g t n=>by
  obtain⟨i,hi,e⟩:=wL n;have c:i<xs.length:=by rw[h.1];exact hi
  have a:=h.2 i xs[i] t (by simp[c]) (by simp[hi,e]);have b:=g _ (vD c);have l:=Int.dvd_sub b (Int.dvd_trans m a)
  rwa[show xs[i]-(xs[i]-t)=t by omega]at l
 have j:Cong u ys xs:=⟨h.1.symm,λi x y e1 k=>by
  have:=Int.dvd_neg.mpr (h.2 i y x k e1)
  rwa[Int.neg_sub]at this⟩
 exact Tm λd=>⟨λ⟨a,b⟩=>⟨a,f h a b⟩,λ⟨a,b⟩=>⟨a,f j a b⟩⟩
theorem Cong.red{u:Int}{xs ys:LI'}(q:0<u)(h:Cong u xs ys):redU u xs=redU u ys/\nV (redU u xs) (redT u xs)=nV (redU u ys) (redT u ys):=by
 have g:=h.gl;have e:cs u xs=cs u ys:=by unfold cs;rw[g]
 have a:=fG xs (show u≠0 by omega);have f:redU u xs=redU u ys:=by unfold redU;rw[e]
 refine⟨f,?_⟩;have n:0<redU u xs:=aM xs ⋯;have o:redU u xs*cs u xs=u:=iH a (jE (gl_u u xs));rw[←f];unfold nV redT;refine uI (by simp[h.1]) λi b c=>?_;simp at b c;simp only[List.getElem_map];have k:=h.2 i xs[i] ys[i] (by simp[b]) (by simp[c]);have l:∀x y:Int,u∣x-y->cs u xs∣x->cs u ys∣y->redU u xs∣x.fdiv (cs u xs)-y.fdiv (cs u ys):=λx y p j d=>by
  have e1:x.fdiv (cs u xs)*cs u xs=x:=iH a j;rw[←e]at d ⊢;have m:y.fdiv (cs u xs)*cs u xs=y:=iH a d;refine Int.dvd_of_mul_dvd_mul_right a ?_;rw[o,Int.sub_mul,e1,m];exact p
 exact Ic n (l _ _ k (jE (aL (vD b))) (jE (aL (vD c))))
theorem Ib{u:Int}:∀(r ts c:LI'),Cong u ts c->u∣dotI r ts-dotI r c
 |[],ts,c,_=>by simp[dotI]
 |x:: r,[],c,h=>by
  have:c=[]:=vA h.1.symm;subst this;simp[dotI]
 |x:: r,t:: ts,[],h=>by have:=h.1;simp at this
 |x:: r,t:: ts,t':: c,h=>by
  have e:=Ib r ts c ⟨by have:=h.1;simpa using this,λi a b e1 d=>h.2 (i+1) a b (by simpa using e1) (by simpa using d)⟩;have f:=h.2 0 t t' rfl rfl;have e1:dotI (x:: r) (t:: ts)=x*t+dotI r ts:=by simp[dotI]
  have d:dotI (x:: r) (t':: c)=x*t'+dotI r c:=by simp[dotI]
  rw[e1,d,show x*t+dotI r ts-(x*t'+dotI r c)=x*(t-t')+(dotI r ts-dotI r c) by rw[Int.mul_sub];omega];exact Int.dvd_add (Int.dvd_mul_of_dvd_right f) e
theorem Vx{N:LM}{ns ts c b:LI'}{v u:Int}(d:Cong v ns c)(j:Cong u ts b):Cong (v*u) (movT N ns v ts u) (movT N c v b u):=by
 refine⟨by unfold movT;rw[xU,xU,d.1],λi x y e1 a=>?_⟩;unfold movT at e1 a;rw[wF]at e1 a;cases en:N[i]? with
 |none=>rw[en]at e1;cases e1
 | some r =>
  rw[en]at e1 a;cases e3:ns[i]? with
  |none=>rw[e3]at e1;cases e1
  | some n =>
   cases e4:c[i]? with
   |none=>rw[e4]at a;cases a
   |some e =>
    rw[e3]at e1;rw[e4]at a;cases zU e1;cases zU a;obtain⟨k,o⟩:=Ib r ts b j;obtain⟨m,l⟩:=d.2 i n e e3 e4;refine⟨k+m,?_⟩;have g:dotI r ts=dotI r b+u*k:=⋯
    have f:n=e+v*m:=⋯
    rw[g,f];grind
theorem Cong.rest_eq{u:Int}{xs ys:LI'}(c:0<u)(h:Cong u xs ys):nV u xs=nV u ys:=by
 unfold nV;refine uI (by simp[h.1]) λi b a=>?_;simp at b a;simp only[List.getElem_map];exact Ic c (h.2 i xs[i] ys[i] (by simp[b]) (by simp[a]))
theorem Sq.mul{n:Nat}{A B:LM}(a:Sq n A):Sq n (mulM n A B):=by
 refine⟨by simp[mulM,a.1],λr hr=>?_⟩;obtain⟨z,_,rfl⟩:=pZ.mp hr;simp
theorem fK{d:Nat}:Sq d (idM d):=⟨by simp[idM],λr hr=>by
 obtain⟨i,_,rfl⟩:=pZ.mp hr;simp⟩
theorem mul2(a b c d e g f d':Int):mulM 2 [[a,b],[c,d]] [[e,g],[f,d']]=[[a*e+b*f,a*g+b*d'],[c*e+d*f,c*g+d*d']]:=by simp[mulM,dotI,colI,List.range,List.range.loop]
theorem mul3(a b c d e f g i j n k l d' o p g' q m:Int):mulM 3 [[a,b,c],[d,e,f],[g,i,j]] [[n,k,l],[d',o,p],[g',q,m]]=[[a*n+(b*d'+c*g'),a*k+(b*o+c*q),a*l+(b*p+c*m)],[d*n+(e*d'+f*g'),d*k+(e*o+f*q),d*l+(e*p+f*m)],[g*n+(i*d'+j*g'),g*k+(i*o+j*q),g*l+(i*p+j*m)]]:=by
 simp[mulM,dotI,colI,List.range,List.range.loop]
theorem mul_assoc{d:Nat}(r:d=2\/d=3){A B C:LM}(l:Sq d A)(k:Sq d B)(m:Sq d C):mulM d (mulM d A B) C=mulM d A (mulM d B C):=by
 rcases r with e|e <;> subst e
 ·obtain⟨a,b,c,d,rfl⟩:=sq2 l;obtain⟨q,v,o,d',rfl⟩:=sq2 k;obtain⟨u,b2,p,n,rfl⟩:=sq2 m;simp only[mul2,List.cons.injEq,and_true];refine⟨⟨?_,?_⟩,?_,?_⟩ <;> grind
 ·obtain⟨a,b,c,d,e,f,g,i,j,rfl⟩:=sq3 l;obtain⟨q,v,o,d',G,J,g',L,D,rfl⟩:=sq3 k;obtain⟨u,b2,p,n,y,F,I,x,z,rfl⟩:=sq3 m;simp only[mul3,List.cons.injEq,and_true];refine⟨⟨?_,?_,?_⟩,⟨?_,?_,?_⟩,?_,?_,?_⟩ <;> grind
theorem kG{d:Nat}(l:d=2\/d=3){A:LM}(k:Sq d A):mulM d (idM d) A=A/\mulM d A (idM d)=A:=by
 rcases l with e|e <;> subst e
 ·obtain⟨a,b,c,d,rfl⟩:=sq2 k;rw[id2,mul2,mul2];simp
 ·obtain⟨a,b,c,d,e,f,g,i,j,rfl⟩:=sq3 k;rw[id3,mul3,mul3];simp
theorem v2{v:LI'}(h:v.length=2):∃x y,v=[x,y]:=len2 h
theorem v3{v:LI'}(h:v.length=3):∃x y z,v=[x,y,z]:=len3 h
def mv(M:LM)(v:LI'):LI':=M.map λr=>dotI r v
def va(v w:LI'):LI':=List.zipWith (·+·) v w
theorem jH{d:Nat}{A:LM}{v:LI'}(h:Sq d A):(mv A v).length=d:=by unfold mv;rw[zqe];exact h.1
theorem mv2(a b c e x y:Int):mv [[a,b],[c,e]] [x,y]=[a*x+b*y,c*x+e*y]:=by simp[mv,dotI]
theorem mv3(a b c g d f i e j x y z:Int):mv [[a,b,c],[g,d,f],[i,e,j]] [x,y,z]=[a*x+(b*y+c*z),g*x+(d*y+f*z),i*x+(e*y+j*z)]:=by simp[mv,dotI]
theorem va2(a b c e:Int):va [a,b] [c,e]=[a+c,b+e]:=rfl
theorem va3(a b c x y z:Int):va [a,b,c] [x,y,z]=[a+x,b+y,c+z]:=rfl
theorem aT{d:Nat}(j:d=2\/d=3){A B:LM}(i:Sq d A)(f:Sq d B){v:LI'}(g:v.length=d):mv (mulM d A B) v=mv A (mv B v):=by
 rcases j with rfl|rfl
 ·obtain⟨a,b,c,e,rfl⟩:=sq2 i;obtain⟨G,N,l,R,rfl⟩:=sq2 f;obtain⟨x,y,rfl⟩:=v2 g;rw[mul2,mv2,mv2,mv2];simp only[List.cons.injEq,and_true];refine⟨?_,?_⟩ <;> grind
 ·obtain⟨n,J,F,O,o,I,q,D,L,rfl⟩:=sq3 i;obtain⟨b1,b2,m,p,C,k,M,u,r,rfl⟩:=sq3 f;obtain⟨x,y,z,rfl⟩:=v3 g;rw[mul3,mv3,mv3,mv3];simp only[List.cons.injEq,and_true];refine⟨?_,?_,?_⟩ <;> grind
theorem Ia{d:Nat}(j:d=2\/d=3){A:LM}(i:Sq d A){v w:LI'}(g:v.length=d)(f:w.length=d):mv A (va v w)=va (mv A v) (mv A w):=by
 rcases j with rfl|rfl
 ·obtain⟨a,b,c,e,rfl⟩:=sq2 i;obtain⟨x,y,rfl⟩:=v2 g;obtain⟨k,l,rfl⟩:=v2 f;rw[va2,mv2,mv2,mv2,va2];simp only[List.cons.injEq,and_true];refine⟨?_,?_⟩ <;> grind
 ·obtain⟨C,r,n,p,D,q,o,m,u,rfl⟩:=sq3 i;obtain⟨x,y,z,rfl⟩:=v3 g;obtain⟨k,l,F,rfl⟩:=v3 f;rw[va3,mv3,mv3,mv3,va3];simp only[List.cons.injEq,and_true];refine⟨?_,?_,?_⟩ <;> grind
theorem Jz{d:Nat}(b:d=2\/d=3){v:LI'}(a:v.length=d):mv (idM d) v=v:=by
 rcases b with rfl|rfl
 ·obtain⟨x,y,rfl⟩:=v2 a;rw[id2,mv2];simp
 ·obtain⟨x,y,z,rfl⟩:=v3 a;rw[id3,mv3];simp
def smul(k:Int)(T:LI'):LI':=T.map λt=>k*t
theorem fL{k:Int}{T:LI'}:(smul k T).length=T.length:=by unfold smul;rw[zqe]
theorem Jy(c a b:Int):smul c [a,b]=[c*a,c*b]:=rfl
theorem Jx(c a b e:Int):smul c [a,b,e]=[c*a,c*b,c*e]:=rfl
theorem Jw{d:Nat}(i:d=2\/d=3){A:LM}(g:Sq d A){v:LI'}(f:v.length=d)(c:Int):mv A (smul c v)=smul c (mv A v):=by
 rcases i with rfl|rfl
 ·obtain⟨a,b,c,e,rfl⟩:=sq2 g;obtain⟨x,y,rfl⟩:=v2 f;rw[Jy,mv2,mv2,Jy];simp only[List.cons.injEq,and_true];refine⟨?_,?_⟩ <;> grind
 ·obtain⟨q,o,k,l,r,n,m,j,p,rfl⟩:=sq3 g;obtain⟨x,y,z,rfl⟩:=v3 f;rw[Jx,mv3,mv3,Jx];simp only[List.cons.injEq,and_true];refine⟨?_,?_,?_⟩ <;> grind
structure Chg(d:Nat)(P P':LM):Prop where
 p:Sq d P
 q:Sq d P'
 l:mulM d P' P=idM d
 r:mulM d P P'=idM d
theorem Chg.id{d:Nat}(a:d=2\/d=3):Chg d (idM d) (idM d):=⟨fK,fK,(kG a fK).1,(kG a fK).1⟩
theorem Chg.symm{d:Nat}{P a:LM}(h:Chg d P a):Chg d a P:=⟨h.q,h.p,h.r,h.l⟩
theorem Chg.then{d:Nat}(a:d=2\/d=3){P c R b:LM}(h:Chg d P c)(g:Chg d R b):Chg d (mulM d R P) (mulM d c b):=by
 refine⟨g.p.mul,h.q.mul,?_,?_⟩
 ·rw[mul_assoc a h.q g.q g.p.mul,←mul_assoc a g.q g.p h.p,g.l,(kG a h.p).1,h.l]
 ·rw[mul_assoc a g.p h.p h.q.mul,←mul_assoc a h.p h.q g.q,h.r,(kG a g.q).1,g.r]
def cjM(d:Nat)(P P' M:LM):LM:=mulM d (mulM d P M) P'
theorem gC{d:Nat}{P a:LM}(h:Chg d P a)(M:LM):Sq d (cjM d P a M):=h.p.mul.mul
theorem Vw{d:Nat}(a:d=2\/d=3){P c R b M:LM}(h:Chg d P c)(g:Chg d R b)(e:Sq d M):cjM d R b (cjM d P c M)=cjM d (mulM d R P) (mulM d c b) M:=by
 unfold cjM;rw[mul_assoc a g.p h.p e,←mul_assoc a (g.p.mul) h.q g.q,mul_assoc a g.p (h.p.mul) h.q]
theorem Vv{d:Nat}(a:d=2\/d=3){P b M:LM}(h:Chg d P b)(e:Sq d M){v:LI'}(c:v.length=d):mv (cjM d P b M) (mv P v)=mv P (mv M v):=by
 unfold cjM;rw[←aT a (h.p.mul.mul) h.p c,mul_assoc a h.p.mul h.q h.p,h.l,(kG a h.p.mul).2,aT a h.p e c]
def vs(v w:LI'):LI':=List.zipWith (· - ·) v w
theorem vs2(a b c e:Int):vs [a,b] [c,e]=[a-c,b-e]:=rfl
theorem vs3(a b c x y z:Int):vs [a,b,c] [x,y,z]=[a-x,b-y,c-z]:=rfl
theorem Jv{d:Nat}{v w:LI'}(b:v.length=d)(a:w.length=d):(va v w).length=d:=by unfold va;rw[xU,b,a,pN]
theorem Vu{d:Nat}(j:d=2\/d=3){A:LM}(i:Sq d A){v w:LI'}(g:v.length=d)(f:w.length=d):mv A (vs v w)=vs (mv A v) (mv A w):=by
 rcases j with rfl|rfl
 ·obtain⟨a,b,c,e,rfl⟩:=sq2 i;obtain⟨x,y,rfl⟩:=v2 g;obtain⟨p,q,rfl⟩:=v2 f;rw[vs2,mv2,mv2,mv2,vs2];congr 1
  ·grind
  ·congr 1;grind
 ·obtain⟨a,b,c,n,k,m,o,l,u,rfl⟩:=sq3 i;obtain⟨x,y,z,rfl⟩:=v3 g;obtain⟨p,q,r,rfl⟩:=v3 f;rw[vs3,mv3,mv3,mv3,vs3];congr 1
  ·grind
  ·congr 1
   ·grind
   ·congr 1;grind
def cjT(d:Nat)(P P' M:LM)(ts S:LI'):LI':=vs (va (mv P ts) S) (mv (cjM d P P' M) S)
theorem aU{d:Nat}(a:d=2\/d=3){P c A B:LM}(h:Chg d P c)(b:Sq d A)(e:Sq d B):mulM d (cjM d P c B) (cjM d P c A)=cjM d P c (mulM d B A):=by
 unfold cjM;rw[mul_assoc a h.p.mul h.q h.p.mul.mul,mul_assoc a h.p b h.q,←mul_assoc a h.q h.p b.mul,h.l,(kG a b.mul).1,←mul_assoc a h.p.mul b h.q,mul_assoc a h.p e b]
def stE(i j:Nat)(m:Int)(a b:Nat):Int:=if a=b then 1 else if a=i/\b=j then m else 0
def stM(d i j:Nat)(m:Int):LM:=(List.range d).map λa=>(List.range d).map λb=>if a=b then 1 else if a=i/\b=j then m else 0
def vst(i j:Nat)(m:Int)(v:LI'):LI':=v.set i (v.getD i 0+m*v.getD j 0)
def mixR(d:Nat)(x y:LI')(m:Int):LI':=(List.range d).map λk=>x.getD k 0+m*y.getD k 0
def colR(d i j:Nat)(m:Int)(row:LI'):LI':=(List.range d).map λk=>row.getD k 0-(if k=j then 1 else 0)*m*row.getD i 0
def aV(d i j:Nat)(m:Int)(A:LM):LM:=(A.set i (mixR d (A.getD i []) (A.getD j []) m)).map (colR d i j m)
theorem dQ{d i j:Nat}{m:Int}:Sq d (stM d i j m):=⟨by simp[stM],λr hr=>by
 obtain⟨a,_,rfl⟩:=pZ.mp hr;simp⟩
theorem dR{a:Type}{d k:Nat}{f:Nat->a}{z:a}(h:k<d):((List.range d).map f).getD k z=f k:=by
 rw[zqc,zM,xA h];rfl
theorem fM{a:Type}{d:Nat}{l:List a}{z:a}(h:l.length=d):l=(List.range d).map λk=>l.getD k z:=by
 refine uI (by simp[h]) λk b c=>?_;rw[uK,rY,zqc,zqd b];rfl
theorem Dv{b:Type}{d i:Nat}{f:Nat->b}{v:b}:((List.range d).map f).set i v=(List.range d).map λa=>if a=i then v else f a:=by
 refine uI (by simp) λk g c=>?_;rw[uK,rY,List.getElem_set]
 by_cases e:i=k
 ·rw[zE e,zE e.symm]
 ·rw[zD e,zD (yF e),uK,rY]
theorem kH{a:Type}{d:Nat}{f g:Nat->a}(h:∀k,k<d->f k=g k):(List.range d).map f=(List.range d).map g:=wD λk b=>h k (oG.mp b)
theorem fN{x y:Int}{r c:LI'}:dotI (x:: r) (y:: c)=x*y+dotI r c:=by simp[dotI]
theorem Du{n:Int}{a:Nat}:∀{c:LI'}{s:Nat},dotI ((List.range' s c.length).map λb=>if a=b then n else 0) c=if s<=a then n*c.getD (a-s) 0 else 0
 |[],s=>by simp[dotI]
 | x:: c,s=>by
  rw[zV,List.range'_succ,zI,fN,Du]
  by_cases h:a=s
  ·subst h;rw[zE rfl,zD ⋯,zE (zF _),wX,wW];rfl
  ·rw[zD h,vY,pO]
   by_cases d:s<=a
   ·rw[zE d,zE ⋯,show a-s=(a-(s+1))+1 by omega];rfl
   ·rw[zD d,zD ⋯]
theorem Ju{f g:Nat->Int}:∀{l:List Nat}{c:LI'},dotI (l.map λb=>f b+g b) c=dotI (l.map f) c+dotI (l.map g) c
 |[],c=>by simp[dotI]
 |b:: l,[]=>by simp[dotI]
 |b:: l,x:: c=>by
  rw[zI,zI,zI,fN,fN,fN,Ju,Int.add_mul];omega
theorem Ds{d a i j:Nat}(n:i≠j){m:Int}{c:LI'}(l:c.length=d):dotI ((List.range d).map (stE i j m a)) c=c.getD a 0+if a=i then m*c.getD j 0 else 0:=by
 have e:stE i j m a=λb=>(if a=b then(1:Int) else 0)+if j=b then(if a=i then m else 0) else 0:=funext λb=>by
  unfold stE
  by_cases k:a=b
  ·subst k;rw[zE rfl,zE rfl]
   by_cases f:j=a
   ·rw[zE f,zD (λz=>n ⋯),wW]
   ·rw[zD f,wW]
  ·rw[zD k,zD k,pO]
   by_cases f:j=b
   ·by_cases g:a=i
    ·rw[zE ⟨g,f.symm⟩,zE f,zE g]
    ·rw[zD (λz=>g z.1),zE f,zD g]
   ·rw[zD (λz=>f z.2.symm),zD f]
 subst l;rw[e,Ju,List.range_eq_range',Du,Du,zE (yB _),zE (yB _),pF];show c.getD a 0+_*c.getD j 0=_
 by_cases h:a=i
 ·rw[zE h,zE h]
 ·rw[zD h,zD h,vY]
theorem Jt{A:LM}{a k:Nat}:(colI k A).getD a 0=(A.getD a []).getD k 0:=by
 unfold colI;rw[zqc,zM,zqc (l:=A)];cases A[a]? <;> rfl
theorem Js:∀{r c:LI'},dotI r c=dotI c r
 |[],c=>by cases c <;> rfl
 |x:: r,[]=>rfl
 |x:: r,y:: c=>by rw[fN,fN,Js,wV]
theorem Vt{i j a k:Nat}{n:Int}:stE i j n a k=stE j i n k a:=by
 unfold stE
 by_cases h:a=k
 ·rw[zE h,zE h.symm]
 ·rw[zD h,zD (yF h)]
  by_cases z:a=i/\k=j
  ·rw[zE z,zE z.symm]
  ·rw[zD z,zD (λw=>z w.symm)]
theorem Jr{d i j:Nat}{m:Int}(b:i≠j){A:LM}(e:A.length=d):mulM d (stM d i j m) A=(List.range d).map λa=>(List.range d).map λk=>(A.getD a []).getD k 0+if a=i then m*(A.getD j []).getD k 0 else 0:=by
 unfold mulM stM;rw[xO];refine kH λa _=>kH λk _=>?_;have c:(colI k A).length=d:=by unfold colI;rw[zqe,e]
 have:=Ds (a:=a) (m:=m) b c;rw[Jt,Jt]at this;exact this
theorem Vs{d i j:Nat}{n:Int}(b:i≠j){B:LM}(f:∀r∈B,r.length=d):mulM d B (stM d i j n)=B.map λr=>(List.range d).map λk=>r.getD k 0+if k=j then n*r.getD i 0 else 0:=by
 unfold mulM;refine wD λr hr=>kH λk c=>?_;have e:colI k (stM d i j n)=(List.range d).map (stE j i n k):=by
  unfold colI stM;rw[xO];refine kH λa _=>?_;show((List.range d).map (stE i j n a)).getD k 0=_;rw[dR c,Vt]
 rw[e,Js,Ds (yF b) (f r hr)]
theorem Jq{d i j:Nat}{m:Int}(n:i≠j)(l:j<d):mulM d (stM d i j m) (stM d i j (-m))=idM d:=by
 rw[Jr n dQ.1];unfold idM;refine kH λa g=>kH λk o=>?_;have e:∀a,a<d->(((stM d i j (-m)).getD a []).getD k 0)=stE i j (-m) a k:=λa g=>by
  unfold stM;rw[dR g];exact dR o
 rw[e a g,e j l];unfold stE
 by_cases f:a=k
 ·rw[zE f,zE f]
  by_cases b:a=i
  ·rw[zE b,zD ⋯,zD ⋯,pQ,wW]
  ·rw[zD b,wW]
 ·rw[zD f,zD f]
  by_cases b:a=i
  ·rw[zE b]
   by_cases c:k=j
   ·rw[zE ⟨b,c⟩,zE c.symm,rN,Int.add_left_neg]
   ·rw[zD (λz=>c z.2),zD (yF c),zD (λz=>c z.2),pQ,wW]
  ·rw[zD (λz=>b z.1),zD b,wW]
theorem Jp{d i j:Nat}{m:Int}(n:d=2\/d=3)(hi:i<d)(g:j<d)(c:i≠j):Chg d (stM d i j m) (stM d i j (-m))/\(∀v:LI',v.length=d->mv (stM d i j m) v=vst i j m v)/\∀A,Sq d A->aV d i j m A=cjM d (stM d i j m) (stM d i j (-m)) A:=by
 refine⟨⟨dQ,dQ,?_,Jq c g⟩,λv f=>?_,λA b=>?_⟩
 ·have:=Jq (d:=d) (m:=-m) c g;rw[Int.neg_neg]at this;exact this
 ·unfold mv stM vst;rw[xO]
  conv=>rhs;rw[fM (z:=0) f,Dv,←fM f]
  refine kH λa _=>?_;show dotI ((List.range d).map (stE i j m a)) v=_;rw[Ds c f]
  by_cases h:a=i
  ·rw[zE h,zE h,h]
  ·rw[zD h,zD h,wW]
 ·unfold cjM;rw[Vs c dQ.mul.2,Jr c b.1];unfold aV;have e:A.set i (mixR d (A.getD i []) (A.getD j []) m)=(List.range d).map λa=>(List.range d).map λk=>(A.getD a []).getD k 0+if a=i then m*(A.getD j []).getD k 0 else 0:=by
   conv=>lhs;rw[fM (l:=A) (z:=[]) b.1,Dv,←fM b.1]
   refine kH λa l=>?_
   by_cases h:a=i
   ·rw[zE h];unfold mixR;refine kH λk _=>?_;rw[zE h,h]
   ·rw[zD h];have hr:(A.getD a []).length=d:=b.2 _ (by rw[zqc,zqd (by rw[b.1];exact l)];exact vD _)
    conv=>lhs;rw[fM (z:=0) hr]
    exact kH λk _=>by rw[zD h,wW]
  rw[e];refine wD λr _=>kH λk _=>?_
  by_cases h:k=j
  ·rw[zE h,zE h,pF,Int.neg_mul,Int.sub_eq_add_neg]
  ·rw[zD h,zD h,vY,vY,Int.sub_zero,wW]
structure Stp where
 i:Nat
 j:Nat
 m:Int
structure Stp.Ok(d:Nat)(s:Stp):Prop where
 hi:s.i<d
 hj:s.j<d
 ne:s.i≠s.j
 m2:s.m.natAbs<=1000000
def chP(d:Nat):List Stp->LM
 |[]=>idM d
 |s:: L=>mulM d (stM d s.i s.j s.m) (chP d L)
def chQ(d:Nat):List Stp->LM
 |[]=>idM d
 |s:: L=>mulM d (chQ d L) (stM d s.i s.j (-s.m))
theorem kU{d:Nat}(a:d=2\/d=3):∀{L:List Stp},(∀s∈L,s.Ok d)->Chg d (chP d L) (chQ d L)
 |[],_=>Chg.id a
 |s:: L,h=>by
  have o:=h s (zY ..);exact(kU a λz hz=>h z (zN _ hz)).then a (Jp a o.hi o.hj o.ne).1
theorem Vr{d:Nat}(a:d=2\/d=3){L:List Stp}(h:∀s∈L,s.Ok d){s:Stp}(o:s.Ok d){A:LM}(b:Sq d A):aV d s.i s.j s.m (cjM d (chP d L) (chQ d L) A)=cjM d (chP d (s:: L)) (chQ d (s:: L)) A:=by
 have g:=(Jp (m:=s.m) a o.hi o.hj o.ne);rw[g.2.2 _ (gC (kU a h) A),Vw a (kU a h) g.1 b];rfl
theorem Vq{d:Nat}(a:d=2\/d=3){A:LM}(b:Sq d A){v:LI'}(c:v.length=d):cjM d (chP d []) (chQ d []) A=A/\mv (chP d []) v=v:=by
 refine⟨?_,Jz a c⟩;unfold chP chQ cjM;rw[(kG a b).1,(kG a b).2]
def LeM(N:Nat)(A:LM):Prop:=∀r∈A,∀z∈r,z.natAbs<=N
theorem Jo{d i j:Nat}{m:Int}{N:Nat}(h:m.natAbs<=N)(c:1<=N):LeM N (stM d i j m):=λr hr z hz=>by
 obtain⟨a,_,rfl⟩:=pZ.mp hr;obtain⟨b,_,rfl⟩:=pZ.mp hz;split
 ·exact c
 ·split
  ·exact h
  ·omega
theorem Jn{A B:Nat}:∀(r ns:LI'),(∀z∈r,z.natAbs<=A)->(∀z∈ns,z.natAbs<=B)->(dotI r ns).natAbs<=r.length*(A*B)
 |[],ns,_,_=>by simp[dotI]
 |_:: _,[],_,_=>by simp[dotI]
 |a:: r,b:: ns,c,d=>by
  have e:=Jn r ns (λz hz=>c z (zN _ hz)) λz hz=>d z (zN _ hz);unfold dotI at e ⊢;rw[yU,List.sum_cons,zV,rC];have e1:(a*b).natAbs<=A*B:=by rw[xN];exact vF (c a zY) (d b zY)
  have i:=vP (a*b) (List.zipWith (λf g=>f*g) r ns).sum;omega
theorem Vp{N:Nat}{A:LM}(h:LeM N A)(k:Nat):∀z∈colI k A,z.natAbs<=N:=λz hz=>by
 unfold colI at hz;obtain⟨r,hr,rfl⟩:=pZ.mp hz;rw[zqc];cases e:r[k]? with
 |none=>exact yB _
 |some y=>exact h r hr y (zqb e)
theorem aW{d A B:Nat}{M N:LM}(e:Sq d M)(c:LeM A M)(b:LeM B N):LeM (d*(A*B)) (mulM d M N):=λr hr z hz=>by
 obtain⟨x,a,rfl⟩:=pZ.mp hr;obtain⟨k,_,rfl⟩:=pZ.mp hz;have:=Jn x (colI k N) (c x a) (Vp b k);rw[e.2 x a]at this;exact this
theorem Jm{c:Int}:∀{r v:LI'},dotI r (smul c v)=c*dotI r v
 |[],v=>by simp[dotI]
 |_:: _,[]=>by simp[dotI,smul]
 |a:: r,x:: v=>by
  have:=Jm (c:=c) (r:=r) (v:=v);unfold dotI smul at this ⊢;simp only[List.map_cons,List.zipWith_cons_cons,List.sum_cons];rw[this];grind
def canD(M:LM)(ts:LI')(U:Int):Dd:=(M,nV (redU U ts) (redT U ts),redU U ts)
theorem Vo{M:LM}{ts b:LI'}{U:Int}(d:0<U)(h:Cong U ts b):canD M ts U=canD M b U:=by
 obtain⟨a,c⟩:=h.red d;unfold canD;rw[a,←a,c,a]
theorem aX{U:Int}{ts:LI'}(a:0<U):cs U ts=gl U ts/\0<cs U ts:=by
 have:=Ci ts (show U≠0 by omega);unfold cs;rw[zD ⋯];exact⟨rfl,this⟩
theorem Jl{U:Int}{ts:LI'}(b:0<U):∃c,0<c/\ts=smul c (redT U ts)/\U=c*redU U ts/\0<redU U ts:=by
 obtain⟨e,a⟩:=aX (ts:=ts) b;refine⟨cs U ts,a,?_,?_,aM ts ⋯⟩
 ·unfold smul redT;rw[xO]
  conv=>lhs;rw[←pU ts]
  refine wD λt d=>?_;show t=cs U ts*t.fdiv (cs U ts);rw[wV];exact(iH ⋯ (jE (aL d))).symm
 ·rw[wV];exact(iH ⋯ (jE (gl_u U ts))).symm
theorem Vn{U k:Int}{ts:LI'}(b:0<U)(a:0<k):redT (k*U) (smul k ts)=redT U ts/\redU (k*U) (smul k ts)=redU U ts:=by
 have d:0<k*U:=xT a b;have c:cs (k*U) (smul k ts)=k*cs U ts:=by
  rw[(aX d).1,(aX b).1,wV k U,wV k (gl U ts),←Vy a];unfold smul;congr 1;exact wD λt _=>wV k t
 have e:=(aX (ts:=ts) b).2;refine⟨?_,?_⟩
 ·unfold redT;rw[c];unfold smul;rw[xO];exact wD λt f=>by
   show(k*t).fdiv (k*cs U ts)=_;exact Int.mul_fdiv_mul_of_pos _ _ a
 ·unfold redU;rw[c];exact Int.mul_fdiv_mul_of_pos _ _ a
theorem dS{M:LM}{U k:Int}{ts:LI'}(c:0<U)(d:0<k):canD M (smul k ts) (k*U)=canD M ts U:=by
 obtain⟨b,a⟩:=Vn (ts:=ts) c d;unfold canD;rw[b,a]
theorem Vm{N:LM}{ns ts:LI'}{c e u v:Int}:movT N (smul e ns) (e*v) (smul c ts) (c*u)=smul (e*c) (movT N ns v ts u):=by
 unfold movT
 induction N generalizing ns with
 |nil=>rfl
 | cons r N b =>
  cases ns with
  |nil=>rfl
  |cons n ns =>
   have:=b (ns:=ns);unfold smul at this ⊢;rw[zI,yU,yU,zI,this];have a:=Jm (c:=c) (r:=r) (v:=ts);unfold smul at a;rw[a];congr 1;grind
theorem jT{d:Nat}{M N:LM}{ts ns:LI'}{U V:Int}(j:0<U)(n:0<V):oU d (canD M ts U) (canD N ns V)=canD (mulM d N M) (movT N ns V ts U) (V*U):=by
 obtain⟨c,i,e1,f,a⟩:=Jl (ts:=ts) j;obtain⟨e,m,l,g,b⟩:=Jl (ts:=ns) n;have k1:canD (mulM d N M) (movT N ns V ts U) (V*U)=canD (mulM d N M) (movT N (redT V ns) (redU V ns) (redT U ts) (redU U ts)) (redU V ns*redU U ts):=by
  have hh:V*U=(e*c)*(redU V ns*redU U ts):=by
   conv=>lhs;rw[f,g]
   grind
  have k:movT N ns V ts U=smul (e*c) (movT N (redT V ns) (redU V ns) (redT U ts) (redU U ts)):=by
   rw[←Vm,←e1,←f,←l,←g]
  rw[hh,k,dS (xT b a) (xT m i)]
 rw[k1];exact Vo (xT b a) (Vx (Cong.rest b _) (Cong.rest a _)) |>.symm
def frD(d:Nat)(P P':LM)(s:LI')(su p:Int)(R:LM)(t:LI'):Dd:=canD (cjM d P P' R) (cjT d P P' R (smul su t) (smul p s)) (p*su)
theorem Vl{d:Nat}(q:d=2\/d=3){A B C D g:LI'}(l:A.length=d)(k:B.length=d)(j:C.length=d)(m:D.length=d)(i:g.length=d):va (vs (va A B) C) (vs (va D g) B)=vs (va (va A D) g) C:=by
 rcases q with rfl|rfl
 ·obtain⟨a,p,rfl⟩:=v2 l;obtain⟨b,n,rfl⟩:=v2 k;obtain⟨c,o,rfl⟩:=v2 j;obtain⟨e,r,rfl⟩:=v2 m;obtain⟨f,u,rfl⟩:=v2 i;simp only[va2,vs2,List.cons.injEq,and_true];omega
 ·obtain⟨a,p,y,rfl⟩:=v3 l;obtain⟨b,n,b2,rfl⟩:=v3 k;obtain⟨c,o,x,rfl⟩:=v3 j;obtain⟨e,r,v,rfl⟩:=v3 m;obtain⟨f,u,z,rfl⟩:=v3 i;simp only[va3,vs3,List.cons.injEq,and_true];omega
theorem Jk{N:LM}{ns ts:LI'}{U:Int}:movT N ns U ts U=smul U (va (mv N ts) ns):=by
 unfold movT va mv
 induction N generalizing ns with
 |nil=>rfl
 | cons r N a =>
  cases ns with
  |nil=>rfl
  |cons n ns =>
   have:=a (ns:=ns);unfold smul at this ⊢;rw[yU,zI,yU,zI,this];congr 1;grind
theorem Jj{c:Int}:∀{v w:LI'},smul c (va v w)=va (smul c v) (smul c w)
 |[],_=>by simp[smul,va]
 |_:: _,[]=>by simp[smul,va]
 |a:: v,b:: w=>by
  have:=Jj (c:=c) (v:=v) (w:=w);unfold smul va at this ⊢;simp only[List.map_cons,List.zipWith_cons_cons];rw[this,Int.mul_add]
theorem fr_step{d:Nat}(a:d=2\/d=3){P k:LM}(h:Chg d P k){s:LI'}(u:s.length=d){b p:Int}(q:0<b)(v:0<p){l R2:LM}(m:Sq d l)(e:Sq d R2){i f:LI'}(l1:i.length=d)(l2:f.length=d):
  oU d (frD d P k s b p l i) (frD d P k s b p R2 f)=frD d P k s b p (mulM d R2 l) (va (mv R2 i) f):=by
 have g:0<p*b:=xT v q;have j:(smul p s).length=d:=by rw[fL];exact u
 have r:(smul b i).length=d:=by rw[fL];exact l1
 have o:(smul b f).length=d:=by rw[fL];exact l2
 have n:=gC h l;have c:=gC h R2;unfold frD;rw[jT g g,Jk,dS g g,aU a h m e];congr 1;unfold cjT;rw[Vu a c (Jv (jH h.p) j) (jH n),Ia a c (jH h.p) j,Vv a h e r,Vl a (jH h.p) (jH c) (jH c) (jH h.p) j,←aT a c n j,aU a h m e,Jj,Ia a h.p (by rw[fL];exact jH e) o,Jw a e l1]
theorem Dr{f:Type}:∀{l L:List f},l.Nodup->(∀x∈l,x∈L)->l.length<=L.length
 |[],L,_,_=>yB _
 | a:: l,L,nd,h=>by
  obtain⟨s,t,e⟩:=List.append_of_mem (h a zY);have d:=wU.mp nd;have:=Dr (L:=s++t) d.2 λx c=>by
   have b:=h x (zN _ c);rw[e]at b;rcases oB.mp b with b|b
   ·exact xP _ b
   ·rcases xC.mp b with rfl|b
    ·exact absurd c d.1
    ·exact yN _ b
  rw[e];simp only[List.length_append,List.length_cons]at this ⊢;omega
theorem Ji{d:Nat}{x:Dd}{w:List Nat}{G:Dd->Prop}:∀(l:List (Dd×Nat))(tb:Tb),(∀k∈l,G (oU d x k.1))->(∀y∈tb,G y.1)->∀y∈l.foldl (nxt d x w) tb,G y.1
 |[],_,_,h=>h
 |k:: l,tb,a,h=>Ji l _ (λb c=>a b (zN _ c)) (Io h (a k zY))
theorem Dq{ss:List Dd}{k:Dd×Nat}(h:k∈ss.zipIdx):k.1∈ss/\ss[k.2]?=some k.1:=by
 obtain⟨i,hi⟩:=yX h;rw[rA]at hi;cases e:ss[i]? with
 |none=>rw[e]at hi;cases hi
 |some s =>
  rw[e]at hi;cases hi;exact⟨zqb e,by simpa using e⟩
theorem Jh{d:Nat}{ss:List Dd}{G:Dd->Prop}(b:∀x,G x->∀s∈ss,G (oU d x s)){tb:Tb}{i:Nat}(h:∀y∈tb,G y.1):∀y∈mQ d ss tb i,G y.1:=by
 unfold mQ;cases e:tb[i]? with
 |none=>exact h
 |some xw=>exact Ji _ _ (λk a=>b _ (h _ (zqb e)) _ (Dq a).1) h
theorem Jg{d:Nat}{ss:List Dd}{G:Dd->Prop}(a:∀x,G x->∀s∈ss,G (oU d x s)):∀(n i:Nat)(tb:Tb),(∀y∈tb,G y.1)->∀y∈nH d ss n i tb,G y.1
 |0,_,_,h=>h
 |n+1,i,tb,h=>by
  unfold nH;split
  ·exact Jg a n (i+1) _ (Jh a h)
  ·exact h
theorem Vk{d:Nat}{ss:List Dd}{tb:Tb}{i:Nat}(h:(tb.map (·.1)).Nodup):((mQ d ss tb i).map (·.1)).Nodup:=by
 unfold mQ;split
 ·exact h
 ·exact Ip _ _ h
theorem Jf{d:Nat}{ss:List Dd}:∀(n i:Nat)(tb:Tb),(tb.map (·.1)).Nodup->((nH d ss n i tb).map (·.1)).Nodup
 |0,_,_,h=>h
 |n+1,i,tb,h=>by
  unfold nH;split
  ·exact Jf n (i+1) _ (Vk h)
  ·exact h
abbrev tab(d:Nat)(ss:List Dd)(N:Nat):Tb:=nH d ss N 0 [(oZ d,[])]
theorem dU{d:Nat}{ss:List Dd}{N:Nat}:((tab d ss N).map (·.1)).Nodup:=Jf N 0 _ (by simp)
theorem dW{d:Nat}{ss:List Dd}{N:Nat}{G:Dd->Prop}(b:G (oZ d))(a:∀x,G x->∀s∈ss,G (oU d x s)):∀y∈tab d ss N,G y.1:=Jg a N 0 _ λy c=>by rw[rX.mp c];exact b
theorem Je{d:Nat}{x:Dd}{w:List Nat}:∀(l:List (Dd×Nat))(tb:Tb),∀k∈l,oU d x k.1∈(l.foldl (nxt d x w) tb).map (·.1)
 | k:: l,tb,a,b=>by
  rw[wE];rcases xC.mp b with rfl|b
  ·have h:oU d x a.1∈(nxt d x w tb a).map (·.1):=by
    unfold nxt;split
    ·assumption
    ·simp
   obtain⟨r,e⟩:=dM d x w l (nxt d x w tb a);rw[e,yV];exact xP _ h
  ·exact Je l _ a b
theorem Jd{d:Nat}{ss:List Dd}{tb:Tb}{i:Nat}{xw:Dd×List Nat}(e:tb[i]?=some xw){s:Dd}(b:s∈ss):oU d xw.1 s∈(mQ d ss tb i).map (·.1):=by
 unfold mQ;rw[e];obtain⟨j,a⟩:=yX b;exact Je ss.zipIdx tb (s,j) (zqb (i:=j) (by rw[rA,a];simp))
theorem Jc{d:Nat}{ss:List Dd}:∀(n i:Nat)(tb:Tb),(∀j,j<i->∀xw,tb[j]?=some xw->∀s∈ss,oU d xw.1 s∈tb.map (·.1))->(nH d ss n i tb).length<=n+i->∀xw∈nH d ss n i tb,∀s∈ss,oU d xw.1 s∈(nH d ss n i tb).map (·.1)
 |0,i,tb,h,hl=>λxw f s b=>by
  obtain⟨j,a⟩:=yX f;have:=(zqa a).1;unfold nH at hl this a ⊢;exact h j ⋯ _ a s b
 | n+1,i,tb,h,hl=>by
  unfold nH at hl ⊢;split
  ·next q =>
   rw[zE q]at hl;obtain⟨r,c⟩:=Ir d ss tb i;refine Jc n (i+1) _ (λj a xw e s b=>?_) ⋯;rcases uY j i with l|l
   ·rw[c,yA ⋯]at e;rw[c,yV];exact xP _ (h j l xw e s b)
   ·have:j=i:=⋯
    subst this;rw[c,yA ⋯]at e;exact Jd e b
  ·next q =>
   intro xw f s b;obtain⟨j,a⟩:=yX f;have:=(zqa a).1;exact h j ⋯ _ a s b
theorem Dp{d:Nat}{ss:List Dd}{N:Nat}(h:(tab d ss N).length<=N):∀xw∈tab d ss N,∀s∈ss,oU d xw.1 s∈(tab d ss N).map (·.1):=Jc N 0 _ (λj a=>absurd a (Nat.not_lt_zero j)) h
theorem aY{d:Nat}{ss:List Dd}{N:Nat}:(oZ d,[])∈tab d ss N:=by
 obtain⟨r,e⟩:=Cb d ss N 0 [(oZ d,[])];unfold tab;rw[e];simp
def aZ(d:Nat)(ss:List Dd)(w:List Nat):Dd:=w.foldl (λx k=>oU d x (ss.getD k (oZ d))) (oZ d)
def WdOk(d:Nat)(ss:List Dd)(y:Dd×List Nat):Prop:=y.1=aZ d ss y.2/\∀k∈y.2,k<ss.length
theorem Jb{d:Nat}{ss:List Dd}{x:Dd}{w:List Nat}(c:WdOk d ss (x,w)):∀(l:List (Dd×Nat))(tb:Tb),(∀k∈l,ss[k.2]?=some k.1)->(∀y∈tb,WdOk d ss y)->∀y∈l.foldl (nxt d x w) tb,WdOk d ss y
 |[],_,_,h=>h
 | k :: l,tb,hl,h=>by
  refine Jb c l _ (λf g=>hl f (zN _ g)) λy a=>?_;unfold nxt at a;split at a
  ·exact h y a
  ·rcases oB.mp a with a|a
   ·exact h y a
   ·rw[rX.mp a];have e:=hl k zY;refine⟨?_,λj b=>?_⟩
    ·show oU d x k.1=aZ d ss (w++[k.2]);unfold aZ;rw[uX,wE,List.foldl_nil];show _=oU d (aZ d ss w) _;rw[←c.1,zqc,e];rfl
    ·rcases oB.mp b with b|b
     ·exact c.2 j b
     ·rw[rX.mp b];exact(zqa e).1
theorem Ja{d:Nat}{ss:List Dd}:∀(n i:Nat)(tb:Tb),(∀y∈tb,WdOk d ss y)->∀y∈nH d ss n i tb,WdOk d ss y
 |0,_,_,h=>h
 | n+1,i,tb,h=>by
  unfold nH;split
  ·refine Ja n (i+1) _ ?_;unfold mQ;cases e:tb[i]? with
   |none=>exact h
   |some xw=>exact Jb (h _ (zqb e)) _ _ (λk a=>(Dq a).2) h
  ·exact h
theorem Vj{d:Nat}{ss:List Dd}{N:Nat}:∀y∈tab d ss N,WdOk d ss y:=Ja N 0 _ λy b=>by rw[rX.mp b];exact⟨rfl,λk a=>by cases a⟩
def famG:Nat->List LM
 |0=>[[[0,-1],[1,0]],[[-1,0],[0,1]]]
 |1=>[[[1,-1],[1,0]],[[0,1],[1,0]]]
 |2=>[[[0,-1,0],[1,0,0],[0,0,1]],[[0,0,1],[1,0,0],[0,1,0]],[[-1,0,0],[0,-1,0],[0,0,-1]]]
 |_=>[[[1,-1,0],[1,0,0],[0,0,1]],[[0,1,0],[1,0,0],[0,0,1]],[[1,0,0],[0,1,0],[0,0,-1]]]
def famD(k:Nat):Nat:=if k<2 then 2 else 3
def Vi(d:Nat)(gs l:List LM):List LM:=(l.flatMap λA=>gs.map λg=>mulM d g A).foldl (λacc M=>if acc.contains M then acc else acc++[M]) l
def Do(d:Nat)(gs:List LM):Nat->List LM->List LM
 |0,l=>l
 |n+1,l=>Do d gs n (Vi d gs l)
def pgL(k:Nat):List LM:=Do (famD k) (famG k) 10 [idM (famD k)]
def invM(d:Nat)(A:LM):LM:=mulM d A (mulM d (mulM d A A) (mulM d (mulM d (mulM d A A) (mulM d A A)) (mulM d (mulM d A A) (mulM d A A))))
def Kz(k:Nat):Bool:=
 (pgL k).contains (idM (famD k)) && (famG k).all (λg=>(pgL k).contains g) &&
 (pgL k).all (λA=>(famG k).all λg=>(pgL k).contains (mulM (famD k) g A)) &&
 (pgL k).all (λA=>decide (mulM (famD k) A (invM (famD k) A)=idM (famD k)) && decide (mulM (famD k) (invM (famD k) A) A=idM (famD k))) &&
 (pgL k).all (λA=>decide (A.length=famD k) && A.all λr=>decide (r.length=famD k) && r.all λz=>decide (z.natAbs<=1))
theorem Vh:(List.range 4).all Kz=true:=nofun
theorem jU(k:Nat):famD k=2\/famD k=3:=by unfold famD;split <;> simp
theorem Ky{M:LM}:∀(xs acc:List LM),M∈xs.foldl (λacc M=>if acc.contains M then acc else acc++[M]) acc->M∈acc\/M∈xs
 |[],_,h=>.inl h
 | x:: xs,acc,h=>by
  rcases Ky xs _ h with q|q
  ·dsimp only at q;split at q
   ·exact .inl q
   ·rcases oB.mp q with q|q
    ·exact .inl q
    ·exact .inr (by rw[rX.mp q];exact .head _)
  ·exact .inr (.tail _ q)
theorem Kx{P:LM->Prop}{d:Nat}{gs:List LM}(a:∀A,P A->∀g∈gs,P (mulM d g A)):∀(n:Nat)(l:List LM),(∀A∈l,P A)->∀M∈Do d gs n l,P M
 |0,_,h=>h
 |n+1,l,h=>Kx a n _ λM c=>by
  rcases Ky _ _ c with q|q
  ·exact h M q
  ·obtain⟨A,e,q⟩:=List.mem_flatMap.mp q;obtain⟨g,b,rfl⟩:=pZ.mp q;exact a A (h A e) g b
structure Fam(k:Nat):Prop where
 one:idM (famD k)∈pgL k
 gen:∀g∈famG k,g∈pgL k
 mul:∀A∈pgL k,∀B∈pgL k,mulM (famD k) A B∈pgL k
 inv:∀A∈pgL k,∃B∈pgL k,mulM (famD k) A B=idM (famD k)/\mulM (famD k) B A=idM (famD k)
 sq:∀A∈pgL k,Sq (famD k) A
 wee:∀A∈pgL k,∀r∈A,∀z∈r,z.natAbs<=1
theorem iI{k:Nat}(p:k<4):Fam k:=by
 have h:=vH.mp Vh k (oG.mpr p);simp only[Kz,Bool.and_eq_true,List.all_eq_true,decide_eq_true_eq,List.contains_iff_mem]at h;obtain⟨⟨⟨⟨n,f⟩,o⟩,m⟩,e⟩:=h;have i:=jU k;have c:∀A∈pgL k,Sq (famD k) A:=λA a=>⟨(e A a).1,λr hr=>((e A a).2 r hr).1⟩;have mul:∀A∈pgL k,∀B∈pgL k,mulM (famD k) A B∈pgL k:=λA a=>(Kx (P:=λA=>Sq (famD k) A/\∀B∈pgL k,mulM (famD k) A B∈pgL k) (gs:=famG k) (λA⟨l,j⟩g d=>⟨(c g (f g d)).mul,λB b=>by
  rw[mul_assoc i (c g (f g d)) l (c B b)];exact o _ (j B b) g d⟩) 10 [idM (famD k)] (λA a=>by
   rw[rX.mp a];exact⟨fK,λB b=>by rw[(kG i (c B b)).1];exact b⟩) A a).2
 have sq2:=λA a=>mul A a A a;have sq4:=λA a=>mul _ (sq2 A a) _ (sq2 A a);exact⟨n,f,mul,λA a=>⟨invM (famD k) A,mul A a _ (mul _ (sq2 A a) _ (mul _ (sq4 A a) _ (sq4 A a))),m A a⟩,c,λA a r hr z hz=>((e A a).2 r hr).2 z hz⟩
theorem Vg{d:Nat}{c:Int}:smul c (List.replicate d 0)=List.replicate d 0:=by
 unfold smul;rw[List.map_replicate,pQ]
theorem Dm{d:Nat}(a:d=2\/d=3){M:LM}{U:Int}(b:0<U):canD M (List.replicate d 0) U=(M,List.replicate d 0,1):=by
 have h:=dS (M:=M) (ts:=List.replicate d 0) (U:=1) (k:=U) ⋯ b;rw[Vg,rN]at h;rw[h];have:nV (redU 1 (List.replicate d 0)) (redT 1 (List.replicate d 0))=List.replicate d 0/\redU 1 (List.replicate d 0)=1:=by
  rcases a with rfl|rfl <;> decide +kernel
 unfold canD;rw[this.1,this.2]
def Rs(d:Nat)(x:Dd):Prop:=∃M ts U,Sq d M/\ts.length=d/\0<U/\x=canD M ts U
theorem Vf{d:Nat}{N:LM}{ns ts:LI'}{u v:Int}(b:Sq d N)(a:ns.length=d):(movT N ns v ts u).length=d:=by
 unfold movT;rw[xU,b.1,a,pN]
theorem Rs.step{d:Nat}{x y:Dd}(e:Rs d x)(f:Rs d y):Rs d (oU d x y):=by
 obtain⟨M,ts,U,i,lt,b,rfl⟩:=e;obtain⟨N,ns,V,a,g,c,rfl⟩:=f;exact⟨_,_,_,a.mul,Vf a g,xT c b,jT b c⟩
theorem Ve{d:Nat}(r:d=2\/d=3){N O:LM}(j:Sq d N)(i:Sq d O){ts ns g:LI'}(lt:ts.length=d)(k:ns.length=d)(lo:g.length=d){U V f:Int}:
  movT O g f (movT N ns V ts U) (V*U)=movT (mulM d O N) (movT O g f ns V) (f*V) ts U:=by
 rcases r with rfl|rfl
 ·obtain⟨a,b,c,e,rfl⟩:=sq2 j;obtain⟨R,Y,v,a0,rfl⟩:=sq2 i;obtain⟨m,q,rfl⟩:=v2 lt;obtain⟨l,n,rfl⟩:=v2 k;obtain⟨p,o,rfl⟩:=v2 lo;rw[mul2];simp only[movT,dotI,List.zipWith_cons_cons,List.zipWith_nil_left,List.sum_cons,List.sum_nil,List.cons.injEq,and_true];refine⟨?_,?_⟩ <;> grind
 ·obtain⟨y,T,M,Z,z,S,D,L,W,rfl⟩:=sq3 j;obtain⟨b1,b2,x,C,J,u,X,G,F,rfl⟩:=sq3 i;obtain⟨m,q,a2,rfl⟩:=v3 lt;obtain⟨l,n,a1,rfl⟩:=v3 k;obtain⟨p,o,I,rfl⟩:=v3 lo;rw[mul3];simp only[movT,dotI,List.zipWith_cons_cons,List.zipWith_nil_left,List.sum_cons,List.sum_nil,List.cons.injEq,and_true];refine⟨?_,?_,?_⟩ <;> grind
theorem dX{d:Nat}(g:d=2\/d=3){x y z:Dd}(i:Rs d x)(j:Rs d y)(hz:Rs d z):oU d (oU d x y) z=oU d x (oU d y z):=by
 obtain⟨M,ts,U,l,lt,b,rfl⟩:=i;obtain⟨N,ns,V,e,k,a,rfl⟩:=j;obtain⟨O,n,m,f,lo,c,rfl⟩:=hz;rw[jT b a,jT (xT a b) c,jT a c,jT b (xT c a),mul_assoc g f e l,Ve g e f lt k lo,Int.mul_assoc]
theorem Vd{d:Nat}(a:d=2\/d=3):Rs d (oZ d):=⟨idM d,List.replicate d 0,1,fK,by simp,⋯,(Dm a ⋯).symm⟩
theorem Vc{d:Nat}(a:d=2\/d=3):oZ d=canD (idM d) (List.replicate d 0) 1:=(Dm a ⋯).symm
theorem Kw{d:Nat}(j:d=2\/d=3){N:LM}(f:Sq d N){ns:LI'}(g:ns.length=d){V:Int}:movT N ns V (List.replicate d 0) 1=ns/\movT (idM d) (List.replicate d 0) 1 ns V=ns:=by
 rcases j with rfl|rfl
 ·obtain⟨a,b,c,e,rfl⟩:=sq2 f;obtain⟨i,k,rfl⟩:=v2 g;rw[id2];simp[movT,dotI,List.replicate]
 ·obtain⟨v,q,m,n,x,p,o,l,r,rfl⟩:=sq3 f;obtain⟨i,k,u,rfl⟩:=v3 g;rw[id3];simp[movT,dotI,List.replicate]
theorem iJ{d:Nat}(a:d=2\/d=3){x:Dd}(e:Rs d x):oU d (oZ d) x=x/\oU d x (oZ d)=x:=by
 obtain⟨M,ts,U,b,lt,c,rfl⟩:=e;rw[Vc a];refine⟨?_,?_⟩
 ·rw[jT ⋯ c,(Kw a b lt).1,(kG a b).2,rN]
 ·rw[jT c ⋯,(Kw a b lt).2,(kG a b).1,pF]
theorem Dl{d:Nat}:∀{v:LI'},v.length=d->va v (smul (-1) v)=List.replicate d 0/\va (smul (-1) v) v=List.replicate d 0
 |[],h=>by subst h;exact⟨rfl,rfl⟩
 |a:: v,h=>by
  obtain⟨m,rfl⟩:∃m,d=m+1:=⟨v.length,by rw[←h];rfl⟩;have:=Dl (v:=v) (d:=m) (by simpa using h);unfold va smul at this ⊢;rw[zI,yU,yU,this.1,this.2,vB,show a+-1*a=0 by omega,show -1*a+a=0 by omega];exact⟨rfl,rfl⟩
structure Grp(d:Nat)(T:List Dd):Prop where
 dim:d=2\/d=3
 nd:T.Nodup
 rs:∀x∈T,Rs d x
 one:oZ d∈T
 mul:∀x∈T,∀y∈T,oU d x y∈T
 inv:∀x∈T,∃y∈T,oU d x y=oZ d/\oU d y x=oZ d
theorem Kv{d:Nat}(l:d=2\/d=3){ss T:List Dd}(f:∀x∈T,Rs d x)(b:∀s∈ss,Rs d s)(i:∀x∈T,∀s∈ss,oU d x s∈T){x:Dd}(e:x∈T):∀(w:List Nat),(∀k∈w,k<ss.length)->∀y,Rs d y->oU d x y∈T->oU d x (w.foldl (λx k=>oU d x (ss.getD k (oZ d))) y)∈T
 |[],_,y,_,h=>h
 | k:: w,c,y,g,h=>by
  rw[wE];have m:=c k zY;have a:ss.getD k (oZ d)∈ss:=by
   rw[zqc,zqd m];exact vD m
  refine Kv l f b i e w (λj n=>c j (zN _ n)) _ (g.step (b _ a)) ?_;rw[←dX l (f x e) g (b _ a)];exact i _ h _ a
theorem Vb{c:Type}{l L:List c}(nd:l.Nodup)(sub:∀x∈l,x∈L)(hl:L.length<=l.length){a:c}(e:a∈L):a∈l:=by
 refine Classical.byContradiction λd=>?_;have:=Dr (l:=a:: l) (L:=L) (wU.mpr ⟨d,nd⟩) λx b=>by
  rcases xC.mp b with rfl|b
  ·exact e
  ·exact sub x b
 rw[zV]at this;omega
theorem Ku{c k:Type}{f:c->k}:∀{l:List c},l.Nodup->(∀x∈l,∀y∈l,f x=f y->x=y)->(l.map f).Nodup
 |[],_,_=>by simp
 |a:: l,nd,h=>by
  rw[zI,wU];have d:=wU.mp nd;refine⟨λm=>?_,Ku d.2 λx i y j=>h x (zN _ i) y (zN _ j)⟩;obtain⟨b,g,e⟩:=pZ.mp m;exact d.1 ((h b (zN _ g) a zY e) ▸ g)
theorem LeM.le{A B:Nat}{M:LM}(h:LeM A M)(a:A<=B):LeM B M:=λr hr z hz=>yC (h r hr z hz) a
theorem Kt{d:Nat}:LeM 1 (idM d):=λr hr z hz=>by
 obtain⟨i,_,rfl⟩:=pZ.mp hr;obtain⟨j,_,rfl⟩:=pZ.mp hz;split <;> decide
theorem Az{U:Int}{ts:LI'}(g:0<U):(∀z∈redT U ts,∃t∈ts,z.natAbs<=t.natAbs)/\0<redU U ts/\redU U ts<=U:=by
 have b:=fG ts (show U≠0 by omega);have f:0<redU U ts:=aM ts ⋯;refine⟨λz hz=>?_,f,?_⟩
 ·unfold redT at hz;obtain⟨t,c,rfl⟩:=pZ.mp hz;refine⟨t,c,?_⟩;have e:t.fdiv (cs U ts)*cs U ts=t:=iH b (jE (aL c));have a:=wY Int.natAbs e;rw[xN]at a;have:1<=(cs U ts).natAbs:=⋯
  rw[←a];exact tV _ this
 ·have e:redU U ts*cs U ts=U:=iH b (jE (gl_u U ts));have a:=wY Int.natAbs e;rw[xN]at a;have d:1<=(cs U ts).natAbs:=⋯
  have:=tV (redU U ts).natAbs d;omega
theorem fms(x y:Int)(h:0<y):0<=x.fmod y/\x.fmod y<y:=⟨sG x h,rW x h⟩
structure Amb(d:Nat)(G:Dd->Prop):Prop where
 dim:d=2\/d=3
 rs:∀x,G x->Rs d x
 fine:∀x,G x->lD d x
 one:G (oZ d)
 mul:∀x y,G x->G y->G (oU d x y)
 inv:∀x,G x->∃y,G y/\oU d x y=oZ d/\oU d y x=oZ d
theorem Va{d:Nat}{G:Dd->Prop}(A:Amb d G){ss:List Dd}(k:∀s∈ss,G s){N:Nat}(F:(tab d ss N).length<=N):Grp d ((tab d ss N).map (·.1)):=by
 have c:=A.dim;have v:=dW (N:=N) A.one λx a s g=>A.mul x s a (k s g);have o:∀x∈(tab d ss N).map (·.1),G x:=λx a=>by
  obtain⟨y,b,rfl⟩:=pZ.mp a;exact v y b
 have f:∀x∈(tab d ss N).map (·.1),Rs d x:=λx a=>A.rs x (o x a);have u:∀s∈ss,Rs d s:=λs g=>A.rs s (k s g);have q:∀x∈(tab d ss N).map (·.1),∀s∈ss,oU d x s∈(tab d ss N).map (·.1):=λx a s g=>by
  obtain⟨y,b,rfl⟩:=pZ.mp a;exact Dp F y b s g
 have mul:∀x∈(tab d ss N).map (·.1),∀y∈(tab d ss N).map (·.1),oU d x y∈(tab d ss N).map (·.1):=λx a y b=>by
  obtain⟨z,hz,rfl⟩:=pZ.mp b;obtain⟨e,C⟩:=Vj z hz;rw[e];exact Kv c f u q a z.2 C _ (Vd c) (by rw[(iJ c (f x a)).2];exact a)
 have one:oZ d∈(tab d ss N).map (·.1):=pZ.mpr ⟨_,aY,rfl⟩;refine⟨c,dU,f,one,mul,λm i=>?_⟩;obtain⟨n,D,e1,r⟩:=A.inv m (o m i);have l:=A.rs n D;have j:∀x∈(tab d ss N).map (·.1),oU d (oU d x m) n=x:=λx a=>by
  rw[dX c (f x a) (f m i) l,e1,(iJ c (f x a)).2]
 have nd:(((tab d ss N).map (·.1)).map λx=>oU d x m).Nodup:=Ku dU λx a y b e=>by rw[←j x a,←j y b,e]
 have hz:oZ d∈((tab d ss N).map (·.1)).map λx=>oU d x m:=Vb nd (λz hz=>by
  obtain⟨x,a,rfl⟩:=pZ.mp hz;exact mul x a m i) (sT (zqe ..).symm) one
 obtain⟨y,b,e⟩:=pZ.mp hz;have p:y=n:=by
  have:=j y b;rw[e,(iJ c l).1]at this;exact this.symm
 subst p;exact⟨y,b,e1,r⟩
theorem Ks{d:Nat}(a:d=2\/d=3):∀{L:List Stp},(∀s∈L,s.Ok d)->LeM (3000000^L.length) (chP d L)/\LeM (3000000^L.length) (chQ d L)
 |[],_=>⟨Kt,Kt⟩
 | s:: L,h=>by
  obtain⟨f,b⟩:=Ks a (L:=L) λz hz=>h z (zN _ hz);have o:=h s zY;have c:=kU a (L:=L) λz hz=>h z (zN _ hz);have g:=o.m2;rw[zV,qU];have e:d*(1000000*3000000^L.length)<=3000000^L.length*3000000:=by
   have:d*(1000000*3000000^L.length)<=3*(1000000*3000000^L.length):=vR _ ⋯;omega
  refine⟨(aW dQ (Jo g ∅) f).le e,?_⟩;have:=aW c.q b (Jo (d:=d) (i:=s.i) (j:=s.j) (m:=-s.m) (N:=1000000) ⋯ ∅);rw[qR (3000000^L.length) 1000000]at this;exact this.le e
structure Fr4 where
 k:Nat
 L:List Stp
 U:Int
structure Fr4.Ok(F:Fr4):Prop where
 k:F.k<4
 ok:∀s∈F.L,s.Ok (famD F.k)
 l3:F.L.length<=3
 u0:0<F.U
 u1:F.U<2^100
def Fr4.cj(F:Fr4)(R:LM):LM:=cjM (famD F.k) (chP (famD F.k) F.L) (chQ (famD F.k) F.L) R
def InG(F:Fr4)(x:Dd):Prop:=∃R∈pgL F.k,∃ts:LI',ts.length=famD F.k/\x=canD (F.cj R) ts F.U
theorem dY{F:Fr4}(h:F.Ok){R:LM}(d:R∈pgL F.k):nP 140 (F.cj R):=by
 have M:=iI h.k;have b:=jU F.k;have c:=kU b h.ok;obtain⟨f,j⟩:=Ks b h.ok;have a:3000000^F.L.length<=3000000^3:=yP ∅ h.l3;have w:LeM 1 R:=M.wee R d;have i:=aW c.p (f.le a) w;have g:=aW (c.p.mul (B:=R)) i (j.le a);intro r hr z hz;have:=g r hr z hz;have e:famD F.k*(famD F.k*(3000000^3*1)*3000000^3)<=3*(3*(3000000^3*1)*3000000^3):=vF ⋯ (vR _ (vR _ ⋯));have k:3*(3*(3000000^3*1)*3000000^3)<2^140:=∅
 omega
theorem Wz{d:Nat}{C:LM}{ts:LI'}{U:Int}(b:Sq d C)(c:nP 140 C)(hl:ts.length=d)(a:0<U)(f:U<2^100):lD d (canD C ts U):=by
 obtain⟨_,r2,e⟩:=Az (ts:=ts) a;refine⟨b,by show(nV _ (redT _ ts)).length=_;unfold nV redT;rw[zqe,zqe];exact hl,r2,λr hr z hz=>zJ (c r hr z hz) (yP ∅ ∅),λz hz=>?_,?_⟩
 ·obtain⟨y,_,rfl⟩:=pZ.mp hz;have:=fms y _ r2;exact zJ (show _<2^100 by omega) (yP ∅ ∅)
 ·show redU U ts<_;exact Int.lt_of_lt_of_le (show redU U ts<2^100 by omega) ∅
theorem Wy{C:LM}{ts:LI'}{U:Int}:oS (canD C ts U)=canD C ts U:=by
 unfold canD oS nV;show(_,_,_)=(_,_,_);rw[xO];congr 2;exact wD λy _=>Int.fmod_fmod _ _
theorem Kr{F:Fr4}(h:F.Ok):F.cj (idM (famD F.k))=idM (famD F.k):=by
 have c:=kU (jU F.k) h.ok;unfold Fr4.cj cjM;rw[(kG (jU F.k) c.p).2,c.r]
theorem Dk{F:Fr4}(h:F.Ok){a R2:LM}(c:a∈pgL F.k)(b:R2∈pgL F.k){ts ns:LI'}:oU (famD F.k) (canD (F.cj a) ts F.U) (canD (F.cj R2) ns F.U)=canD (F.cj (mulM (famD F.k) R2 a)) (va (mv (F.cj R2) ts) ns) F.U:=by
 have M:=iI h.k;rw[jT h.u0 h.u0,Jk,dS h.u0 h.u0];unfold Fr4.cj;rw[aU (jU F.k) (kU (jU F.k) h.ok) (M.sq _ c) (M.sq _ b)]
theorem Wx{F:Fr4}(h:F.Ok):Amb (famD F.k) (InG F):=by
 have M:=iI h.k;have b:=jU F.k;have c:=kU b h.ok;have d:∀R,Sq (famD F.k) (F.cj R):=λR=>gC c R;have g:canD (F.cj (idM (famD F.k))) (List.replicate (famD F.k) 0) F.U=oZ (famD F.k):=by rw[Kr h,Dm b h.u0];rfl
 refine⟨b,?_,?_,⟨_,M.one,List.replicate (famD F.k) 0,by simp,g.symm⟩,?_,?_⟩
 ·rintro x ⟨R,a,ts,hl,rfl⟩;exact⟨_,_,_,d R,hl,h.u0,rfl⟩
 ·rintro x ⟨R,a,ts,hl,rfl⟩;exact Wz (d R) (dY h a) hl h.u0 h.u1
 ·rintro x y ⟨m,i,ts,l1,rfl⟩ ⟨R2,j,ns,l2,rfl⟩;exact⟨_,M.mul _ j _ i,_,Jv (jH (d R2)) l2,Dk h i j⟩
 ·rintro x ⟨R,a,ts,hl,rfl⟩;obtain⟨B,e,e1,k⟩:=M.inv R a;have f:(mv (F.cj B) ts).length=famD F.k:=jH (d B);refine⟨canD (F.cj B) (smul (-1) (mv (F.cj B) ts)) F.U,⟨B,e,_,by rw[fL];exact f,rfl⟩,?_,?_⟩
  ·rw[Dk h a e,k,(Dl f).1,g]
  ·have l:mv (F.cj R) (mv (F.cj B) ts)=ts:=by
    rw[←aT b (d R) (d B) hl];show mv (mulM _ (cjM _ _ _ R) (cjM _ _ _ B)) ts=ts;rw[aU b c (M.sq B e) (M.sq R a),e1];show mv (F.cj (idM _)) ts=ts;rw[Kr h,Jz b hl]
   rw[Dk h e a,e1,Jw b (d R) f,l,(Dl hl).2,g]
theorem Ww{d:Nat}{ss ss':List Dd}{N:Nat}(e:∀s∈ss,s∈ss')(h:(tab d ss' N).length<=N):∀y∈tab d ss N,y.1∈(tab d ss' N).map (·.1):=
 dW (G:=λx=>x∈(tab d ss' N).map (·.1)) (pZ.mpr ⟨_,aY,rfl⟩) λx b s a=>by
  obtain⟨xw,c,rfl⟩:=pZ.mp b;exact Dp h xw c s (e s a)
theorem Dj{d:Nat}(a:d=2\/d=3){ss:List Dd}{N:Nat}(h:(tab d ss N).length<=N){s:Dd}(b:s∈ss)(c:Rs d s):s∈(tab d ss N).map (·.1):=by
 have:=Dp h _ aY s b;rw[(iJ a c).1]at this;exact this
theorem Wv{d:Nat}{T ss:List Dd}(G:Grp d T)(b:∀s∈ss,s∈T){N:Nat}:∀y∈tab d ss N,y.1∈T:=dW (G:=λx=>x∈T) G.one λx a s h=>G.mul x a s (b s h)
theorem Kq{K:Frag}{H:Hp}{ns:LI'}{xs:List V}(h:Dts K H xs (ns.map PyData.int)):xs=ns.map V.int:=by
 induction ns generalizing xs with
 |nil=>cases h;rfl
 |cons n ns b=>cases h with|cons a h=>cases a;rw[b h];rfl
theorem Kp{K:Frag}{H:Hp}:∀{M:LM}{xs:List V},Dts K H xs (M.map λr=>PyData.tuple (r.map PyData.int))->∃ps:LA,xs=ps.map V.ref/\ps.length=M.length/\∀(i:Nat) p r,ps[i]?=some p->M[i]?=some r->SqT K H p (r.map V.int)
 |[],_,.nil=>⟨[],rfl,rfl,λi p r e=>by cases e⟩
 | r:: M,_,.cons (x:=x) f d=>by
  obtain⟨ps,e,l,h⟩:=Kp d;cases f with
  |tup a b =>
   rename_i q ys;rw[Kq b]at a;refine⟨q:: ps,by rw[e];rfl,by rw[zV,zV,l],λi p s e1 c=>?_⟩;cases i with
   |zero=>cases e1;cases c;exact a
   |succ i=>exact h i p s e1 c
theorem Di{K:Frag}{H:Hp}{p:Addr}{x:Dd}(h:Dt K H (.ref p) (dat x)):DdS K H p x:=by
 obtain⟨M,ts,u⟩:=x;have h':Dt K H (.ref p) (.tuple [.tuple (M.map λr=>.tuple (r.map PyData.int)),.tuple (ts.map PyData.int),.int u]):=h;cases h' with
 | tup a b =>
  cases b with
  | cons b1 b =>
   cases b with
   | cons b2 b =>
    cases b with
    | cons e b =>
     cases b;cases e;cases b1 with
     | tup f d =>
      cases b2 with
      |tup e1 c =>
       rw[Kq c]at e1;obtain⟨ps,rfl,l,g⟩:=Kp d;exact⟨_,_,a,⟨ps,f,l,g⟩,e1⟩
theorem Wu{a b:LI'}(h:lx a b=true):lx b a=false:=by
 cases h2:lx b a with
 |false=>rfl
 |true =>
  have:=Ht _ _ _ h h2;rw[bR]at this;cases this
theorem Ko{j:Type}{f:j->LI'}:∀{l d:List j},(l.Pairwise λp q=>lx (f p) (f q)=true)->(d.Pairwise λp q=>lx (f p) (f q)=true)->(∀x,x∈l↔x∈d)->l=d
 |[],[],_,_,_=>rfl
 |[],b:: _,_,_,h=>absurd ((h b).mpr (.head _)) (by simp)
 |a:: _,[],_,_,h=>absurd ((h a).mp (.head _)) (by simp)
 | a:: l,b:: d,m,n,h=>by
  have i:=pY.mp m;have g:=pY.mp n;have e:a=b:=by
   rcases xC.mp ((h a).mp (.head _)) with q|q
   ·exact q
   rcases xC.mp ((h b).mpr (.head _)) with r|r
   ·exact r.symm
   have o:=g.1 a q;have k:=i.1 b r;rw[Wu o]at k;cases k
  subst e;rw[Ko (f:=f) i.2 g.2 λx=>?_];constructor
  ·intro c;rcases xC.mp ((h x).mp (.tail _ c)) with q|q
   ·subst q;have:=i.1 _ c;rw[bR]at this;cases this
   ·exact q
  ·intro c;rcases xC.mp ((h x).mpr (.tail _ c)) with q|q
   ·subst q;have:=g.1 _ c;rw[bR]at this;cases this
   ·exact q
theorem Ws{c:Type}{f:c->PyData}{l:List c}(nd:l.Nodup)(inj:∀x∈l,∀y∈l,f x=f y->x=y)(g:∀x∈l,∀y∈l,sm (f x) (f y)=true)(h:l.Pairwise λp q=>lx (fl (f q)) (fl (f p))=false):l.Pairwise λp q=>lx (fl (f p)) (fl (f q))=true:=by
 have i:=List.Pairwise.and nd h;refine List.Pairwise.imp_of_mem (λ{a b}e d h=>?_) i;cases z:lx (fl (f a)) (fl (f b)) with
 |true=>rfl
 |false=>exact absurd (inj a e b d (bQ _ _ (g a e b d) (Hs _ _ z h.2))) h.1
structure Told(d:Nat)(ss:List Dd)(srt:Tb):Prop where
 p:srt.Perm (tab d ss 201)
 o:srt.Pairwise λp q=>lx (fl (dat q.1)) (fl (dat p.1))=false
 l:(tab d ss 201).length<=200
section
variable {d:Nat} {G:Dd->Prop} {ss ss':List Dd} {srt srt':Tb}
theorem Told.mem(h:Told d ss srt){x:Dd}:x∈srt.map (·.1)↔x∈(tab d ss 201).map (·.1):=(h.p.map _).mem_iff
theorem Told.nd(h:Told d ss srt):(srt.map (·.1)).Nodup:=(h.p.map _).nodup_iff.mpr dU
theorem Told.len(h:Told d ss srt):srt.length<=200:=by rw[h.p.length_eq];exact h.l
theorem Told.good(A:Amb d G)(b:∀s∈ss,G s)(h:Told d ss srt):∀x∈srt.map (·.1),G x:=λx a=>by
 obtain⟨y,c,rfl⟩:=pZ.mp (h.mem.mp a);exact dW A.one (λx a s h=>A.mul x s a (b s h)) y c
theorem Told.rise(A:Amb d G)(a:∀s∈ss,G s)(h:Told d ss srt):(srt.map (·.1)).Pairwise λp q=>lx (fl (dat p)) (fl (dat q))=true:=
 Ws (f:=dat) h.nd (λx _ y _ e=>hZ.mp e) (λx b y c=>Ii (A.fine x (h.good A a x b)) (A.fine y (h.good A a y c))) (List.pairwise_map.mpr h.o)
theorem Told.same(A:Amb d G)(b:∀s∈ss,G s)(a:∀s∈ss',G s)(h:Told d ss srt)(h':Told d ss' srt')(e:∀x,x∈(tab d ss 201).map (·.1)↔x∈(tab d ss' 201).map (·.1)):srt.map (·.1)=srt'.map (·.1):=
 Ko (f:=λx=>fl (dat x)) (h.rise A b) (h'.rise A a) λx=>h.mem.trans ((e x).trans h'.mem.symm)
theorem Grp.perm{T b:List Dd}(g:Grp d T)(p:b.Perm T):Grp d b:=by
 have m:∀{x},x∈b↔x∈T:=p.mem_iff;exact⟨g.dim,p.nodup_iff.mpr g.nd,λx a=>g.rs x (m.mp a),m.mpr g.one,λx a y c=>m.mpr (g.mul x (m.mp a) y (m.mp c)),λx a=>let ⟨y,c,e⟩:=g.inv x (m.mp a);⟨y,m.mpr c,e⟩⟩
theorem Told.grp(A:Amb d G)(a:∀s∈ss,G s)(h:Told d ss srt):Grp d (srt.map (·.1)):=(Va A a (yC h.l ∅)).perm (h.p.map _)
theorem Ay{T:List Dd}(g:Grp d T)(h:∀s∈ss',s∈T):(tab d ss' 201).length<=T.length/\∀x∈(tab d ss' 201).map (·.1),x∈T:=by
 have k:∀x∈(tab d ss' 201).map (·.1),x∈T:=λx a=>by
  obtain⟨y,b,rfl⟩:=pZ.mp a;exact Wv g h y b
 refine⟨?_,k⟩;rw[←zqe (f:=(·.1))];exact Dr dU k
theorem Wr{T:List Dd}(g:Grp d T)(f:T.length<=200)(h:∀s∈ss',s∈T)(e:∀x∈T,x∈(tab d ss 201).map (·.1))(c:∀s∈ss,s∈ss'):∀x,x∈(tab d ss' 201).map (·.1)↔x∈T:=λx=>by
 obtain⟨l,k⟩:=Ay g h;refine⟨k x,λa=>?_⟩;obtain⟨y,b,rfl⟩:=pZ.mp (e x a);exact Ww c ⋯ y b
theorem Kn{x:Dd}:∀(l:List (Dd×Nat))(tb:Tb),(∀y∈tb,y.2.length<=1)->∀y∈l.foldl (nxt d x []) tb,y.2.length<=1
 |[],_,h=>h
 | k:: l,tb,h=>Kn l _ λy a=>by
  unfold nxt at a;split at a
  ·exact h y a
  ·rcases oB.mp a with a|a
   ·exact h y a
   ·rw[rX.mp a];exact zF _
theorem Km{x:Dd}{w:List Nat}{tb:Tb}:∀(l:List (Dd×Nat)),(∀k∈l,oU d x k.1∈tb.map (·.1))->l.foldl (nxt d x w) tb=tb
 |[],_=>rfl
 |k:: l,h=>by
  rw[wE];have:nxt d x w tb k=tb:=zE (h k zY);rw[this];exact Km l λa b=>h a (zN _ b)
theorem Kl{T:List Dd}(g:Grp d T){tb:Tb}(b:∀x∈T,x∈tb.map (·.1))(a:∀y∈tb,y.1∈T):∀n i,nH d T n i tb=tb
 |0,_=>rfl
 | n+1,i=>by
  unfold nH;split
  ·have e:mQ d T tb i=tb:=by
    unfold mQ;cases q:tb[i]? with
    |none=>rfl
    |some xw=>exact Km _ λk c=>b _ (g.mul _ (a _ (zqb q)) _ (Dq c).1)
   rw[e];exact Kl g b a n (i+1)
  ·rfl
theorem Wq{T:List Dd}(g:Grp d T):∀y∈tab d T 201,y.2.length<=1:=by
 have i:tab d T 201=nH d T 200 1 (mQ d T [(oZ d,[])] 0):=rfl;have e1:mQ d T [(oZ d,[])] 0=T.zipIdx.foldl (nxt d (oZ d) []) [(oZ d,[])]:=rfl;have c:=Kn (d:=d) (x:=oZ d) T.zipIdx [(oZ d,[])] (λy b=>by rw[rX.mp b];exact yB _);have e:∀x∈T,x∈(mQ d T [(oZ d,[])] 0).map (·.1):=λx a=>by
  have:=Jd (d:=d) (tb:=[(oZ d,[])]) (i:=0) (xw:=(oZ d,[])) rfl a;rw[(iJ g.dim (g.rs x a)).1]at this;exact this
 have j:∀y∈mQ d T [(oZ d,[])] 0,y.1∈T:=Jh (G:=λx=>x∈T) (λx a s f=>g.mul x a s f) λy b=>by rw[rX.mp b];exact g.one
 rw[i,Kl g e j];rw[e1];exact c
end
section
variable {d:Nat} {T L:List Dd}
def cut(d:Nat)(L R:List Dd)(y:Dd)(n:Nat):List Dd:=R.filter λx=>decide (x∉(L.take n).map λl=>oU d l y)
structure Cos(d:Nat)(T L R:List Dd)(c:Nat):Prop where
 nd:R.Nodup
 sub:∀x∈R,x∈T
 cl:∀x∈R,∀l∈L,oU d l x∈R
 len:c*L.length+R.length=T.length
theorem Kk{R:List Dd}{y:Dd}:cut d L R y 0=R:=by
 unfold cut;exact List.filter_eq_self.mpr λx _=>by simp
theorem Ax{R:List Dd}{y x:Dd}{n:Nat}:x∈cut d L R y n↔x∈R/\∀l∈L.take n,oU d l y≠x:=by
 unfold cut;rw[List.mem_filter,xV,pZ];exact⟨λ⟨h,k⟩=>⟨h,λl hl e=>k ⟨l,hl,e⟩⟩,λ⟨h,k⟩=>⟨h,λ⟨l,hl,e⟩=>k l hl e⟩⟩
theorem Kj{R:List Dd}{y l:Dd}{n:Nat}(e:L[n]?=some l):cut d L R y (n+1)=(cut d L R y n).filter λx=>decide (x≠oU d l y):=by
 unfold cut;rw[List.filter_filter];refine List.filter_congr λx _=>?_;rw[xJ,e,yV,Bool.eq_iff_iff,zR,xV,xV,xV];simp;exact⟨λ⟨h,k⟩=>⟨λq=>k q,h⟩,λ⟨h,k⟩=>⟨k,λq=>h q⟩⟩
theorem Wp(g:Grp d T){x b y:Dd}(a:x∈T)(f:b∈T)(c:y∈T)(e:oU d x y=oU d b y):x=b:=by
 obtain⟨z,hz,e1,_⟩:=g.inv y c;have k:∀x∈T,oU d (oU d x y) z=x:=λx a=>by rw[dX g.dim (g.rs x a) (g.rs y c) (g.rs z hz),e1,(iJ g.dim (g.rs x a)).2]
 rw[←k x a,←k b f,e]
theorem Ki(g:Grp d T)(k:Grp d L)(f:∀l∈L,l∈T){R:List Dd}{c:Nat}(h:Cos d T L R c){y l:Dd}(b:y∈R){n:Nat}(e:L[n]?=some l):oU d l y∈cut d L R y n:=by
 refine Ax.mpr ⟨h.cl y b l (zqb e),λm i q=>?_⟩;have:=Wp g (f m (List.mem_of_mem_take i)) (f l (zqb e)) (h.sub y b) q;subst this;obtain⟨j,a⟩:=yX i;have o:j<n:=by
  have:=(zqa a).1;rw[yI]at this;omega
 rw[uA o]at a;have hl:=(zqa a).1;have:=(qG hl k.nd).mp (a.trans e.symm);omega
theorem Kh(g:Grp d T)(a:Grp d L)(f:∀l∈L,l∈T){R:List Dd}{c:Nat}(h:Cos d T L R c){y:Dd}(b:y∈R):∀n,n<=L.length->(cut d L R y n).length+n=R.length
 |0,_=>by rw[Kk];rfl
 | n+1,m=>by
  have k:=Kh g a f h b n ⋯;obtain⟨l,e⟩:∃l,L[n]?=some l:=⟨_,zqd ⋯⟩;have i:=Ki g a f h b e;have nd:(cut d L R y n).Nodup:=h.nd.filter _;rw[Kj e];have j:((cut d L R y n).filter λx=>decide (x≠oU d l y))=(cut d L R y n).erase (oU d l y):=by
   rw[nd.erase_eq_filter];exact List.filter_congr λx _=>Bool.eq_iff_iff.mpr (by rw[xV,bne_iff_ne])
  rw[j,List.length_erase_of_mem i];have:=tZ i;omega
theorem Cos.next(g:Grp d T)(a:Grp d L)(n:∀l∈L,l∈T){R:List Dd}{c:Nat}(h:Cos d T L R c){y:Dd}(j:y∈R):Cos d T L (cut d L R y L.length) (c+1):=by
 have f:∀x,x∈cut d L R y L.length↔x∈R/\∀l∈L,oU d l y≠x:=λx=>by rw[Ax,uF]
 refine⟨h.nd.filter _,λx b=>h.sub x ((f x).mp b).1,λx b l hl=>?_,?_⟩
 ·obtain⟨b,k⟩:=(f x).mp b;refine(f _).mpr ⟨h.cl x b l hl,λe m q=>?_⟩;obtain⟨z,hz,_,o⟩:=a.inv l hl;refine k (oU d z e) (a.mul z hz e m) ?_;have i:=g.rs x (h.sub x b);rw[dX g.dim (a.rs z hz) (a.rs e m) (g.rs y (h.sub y j)),q,←dX g.dim (a.rs z hz) (a.rs l hl) i,o,(iJ g.dim i).1]
 ·have:=Kh g a n h j L.length (zF _);have:=h.len;rw[rC];omega
theorem Cos.start(g:Grp d T)(b:∀l∈L,l∈T):Cos d T L T 0:=⟨g.nd,λ_ h=>h,λx a l hl=>g.mul l (b l hl) x a,⋯⟩
theorem Cos.out(a:Grp d L)(g:Grp d T){R:List Dd}{c:Nat}(h:Cos d T L R c){y:Dd}(b:y∈R):y∉cut d L R y L.length:=λq=>(Ax.mp q).2 (oZ d) (by rw[uF];exact a.one) (iJ g.dim (g.rs y (h.sub y b))).1
def run(d:Nat)(L:List Dd):List Dd->List Dd×Nat->List Dd×Nat
 |[],s=>s
 |y:: ys,(R,c)=>if y∈R then run d L ys (cut d L R y L.length,c+1) else run d L ys (R,c)
theorem Aw(g:Grp d T)(e:Grp d L)(f:∀l∈L,l∈T):∀(ys:List Dd)(R:List Dd)(c:Nat),Cos d T L R c->Cos d T L (run d L ys (R,c)).1 (run d L ys (R,c)).2/\(∀x∈(run d L ys (R,c)).1,x∈R)/\∀y∈ys,y∉(run d L ys (R,c)).1
 |[],R,c,h=>⟨h,λ_ h=>h,λ_ h=>nomatch h⟩
 | y:: ys,R,c,h=>by
  unfold run
  by_cases b:y∈R
  ·rw[zE b];obtain⟨i,a,j⟩:=Aw g e f ys _ _ (h.next g e f b);refine⟨i,λx k=>(Ax.mp (a x k)).1,λz hz=>?_⟩;rcases xC.mp hz with rfl|hz
   ·exactλq=>h.out e g b (a _ q)
   ·exact j z hz
  ·rw[zD b];obtain⟨i,a,j⟩:=Aw g e f ys R c h;refine⟨i,a,λz hz=>?_⟩;rcases xC.mp hz with rfl|hz
   ·exactλq=>b (a _ q)
   ·exact j z hz
theorem Wo(g:Grp d T)(f:Grp d L)(b:∀l∈L,l∈T):(run d L T (T,0)).2*L.length=T.length:=by
 obtain⟨c,j,i⟩:=Aw g f b T T 0 (Cos.start g b);have e:(run d L T (T,0)).1=[]:=List.eq_nil_iff_forall_not_mem.mpr λx a=>i x (c.sub x a) a;have:=c.len;rw[e]at this;simpa using this
theorem Dh{y:Dd}{ys R:List Dd}{c:Nat}:run d L (y:: ys) (R,c)=if y∈R then run d L ys (cut d L R y L.length,c+1) else run d L ys (R,c):=rfl
theorem Kg{zs:List Dd}:∀{ys:List Dd}{s:List Dd×Nat},run d L (ys++zs) s=run d L zs (run d L ys s)
 |[],_=>rfl
 |y:: ys,(R,c)=>by
  rw[List.cons_append,Dh,Dh];split <;> exact Kg
end
structure Rw(H0 H:Hp)(a:Addr)(M:LM):Prop where
 s:Same H0 H
 n:H0 a=none
 m:MatD H0 H a M
theorem Rw.up{b H H':Hp}{a:Addr}{M:LM}(h:Rw b H a M)(s:Same H H'):Rw b H' a M:=⟨h.s.trans s,h.n,h.m.up s⟩
def famK(so:Int)(d:Nat):Nat:=if d=2 then(if 0<so/\so<3 then 1 else 0) else if 0<so/\so<3 then 3 else 2
theorem Kf{so:Int}{d:Nat}(a:d=2\/d=3):famD (famK so d)=d/\famK so d<4:=by
 rcases a with rfl|rfl <;> by_cases h:0<so/\so<3 <;> simp[famK,famD,h]
def gD:Nat->Int->Int
 |0,c=>c
 |n+1,c=>(gD n c).fdiv 5+1
def jI(d:Nat)(c:Int):Stp:=⟨((c.fdiv 4).fmod d).toNat,((((c.fdiv 4).fmod d)+1+(c.fdiv 12).fmod (d-1)).fmod d).toNat,if(c.fdiv 3).fmod 4=1 then(c.fdiv 24).fmod (2*10^6+1)-10^6 else(c.fdiv 24+2).fmod 5-2⟩
def stps(d:Nat):Nat->Int->List Stp
 |0,_=>[]
 |n+1,c=>jI d (gD n c):: stps d n c
def jJ(d:Nat)(c:Int):List Stp:=stps d (c.fmod 4).toNat c
def sp_p:Sp:=λvs H Q _=>E1 λ(n:Nat)=>A3 (vs=[.int n]) (n<=4) (∀r H',Rw H H' r (idM n)->Q (.ref r) H')
def sp_g(K:Frag):Sp:=λvs H Q _=>E9 λ(b1 b2 b3 b4:Bool)(a b:Addr)(A B:LM)(d:Nat)=>A9 (vs=[.ref a,.ref b]) (MatB b1 b2 K H a A) (MatB b3 b4 K H b B) (Sq d A) (Sq d B) ((d=2\/d=3)) (nP 1000 A) (nP 1000 B) (∀r H',Rw H H' r (mulM d A B)->Q (.ref r) H')
def sp_n:Sp:=λvs H Q _=>E2 λ(c:Int)(d:Nat)=>A3 (vs=[.int c,.int d]) ((d=2\/d=3)) (∀r H' R,Rw H H' r R->R∈pgL (if d=2 then 1 else 3)->Q (.ref r) H')
def sp_c:Sp:=λvs H Q _=>E2 λ(c:Int)(d:Nat)=>A3 (vs=[.int c,.int d]) ((d=2\/d=3)) (∀r H' R,Rw H H' r R->R∈pgL (if d=2 then 0 else 2)->Q (.ref r) H')
def sp_s:Sp:=λvs H Q _=>E3 λ(so c:Int)(d:Nat)=>A4 (vs=[.int so,.int c,.int d]) ((d=2\/d=3)) (0<=so) (∀r H' R,Rw H H' r R->R∈pgL (famK so d)->Q (.ref r) H')
def sp_e:Sp:=λvs H Q _=>E5 λ(a:Addr)(c:Int)(k:Nat)(R:LM)(H0:Hp)=>A5 (vs=[.ref a,.int c]) (k<4) (R∈pgL k) (Rw H0 H a R) (∀H',Rw H0 H' a (cjM (famD k) (chP (famD k) (jJ (famD k) c)) (chQ (famD k) (jJ (famD k) c)) R)->Q (.ref a) H')
def sp_o(K:Frag):Sp:=λvs H Q _=>E8 λ(b1 b2 b3:Bool)(a l:Addr)(M:LM)(ns:LI')(u:Int)=>A8 (vs=[.ref a,.ref l,.int u]) (MatB b1 b2 K H a M) (SqB b3 K H l (ns.map V.int)) (M.length<=100) (ns.length<=100) (0<u) (lN u) (∀r H',Same H H'->DdAt K H' r (canD M ns u)->Q (.ref r) H')
def sp_q(K:Frag):Sp:=λvs H Q _=>E8 λ(b1 b2 b3:Bool)(a l:Addr)(M:LM)(ns:LI')(u:Int)=>A8 (vs=[.ref a,.ref l,.int u]) (MatB b1 b2 K H a M) (SqB b3 K H l (ns.map V.int)) (M.length<=100) (ns.length<=100) (0<u) (lN u) (∀r H',Same H H'->DdAt K H' r (M,redT u ns,redU u ns)->Q (.ref r) H')
def Mkr(k:Nat)(L:List Stp)(su:Int)(x:Dd):Prop:=∃R∈pgL k,∃(ts:LI')(u:Int),ts.length=famD k/\lV 250 ts/\0<u/\u<=200/\x=(cjM (famD k) (chP (famD k) L) (chQ (famD k) L) R,redT (u*su) ts,redU (u*su) ts)
def sp_f(K:Frag):Sp:=λvs H Q _=>E9 λ(p q l:Addr)(cs S:LI')(at':Nat)(d:Nat)(su so:Int)=>A11 (vs=[.ref p,.int at',.int d,.ref q,.int so]) (SqL K H p (cs.map V.int)) ((d=2\/d=3)) (H q=some (.tup [.ref l,.int su])) (H l=some (.lst (S.map V.int))) (S.length=d) ((∀z∈S,0<=z/\z<1000)) (0<su) (su<=1000) (0<=so) (∀r H' x,Same H H'->DdAt K H' r x->Mkr (famK so d) (jJ d (absI (cs.getD 2 0))) su x->Q (.ref r) H')
def sp_a(K:Frag):Sp:=λvs H Q _=>E2 λ(p:Addr)(cs:LI')=>A3 (vs=[.ref p]) (SqL K H p (cs.map V.int)) (∀r l qs ms k L su H',Same H H'->H' r=some (.lst [.int (famD k),.ref l])->H' l=some (.lst (qs.map V.ref))->Paired (DdAt K H') qs ms->k<4->(∀s∈L,s.Ok (famD k))->L.length<=3->0<su->su<=1000->ms.length<=3->(∀m∈ms,Mkr k L su m)->Q (.ref r) H')
def sp_b(K:Frag):Sp:=λvs H Q _=>E5 λ(p q:Addr)(x y:Dd)(d:Nat)=>A17 (vs=[.ref p,.ref q]) (DdS K H p x) (DdS K H q y) ((d=2\/d=3)) (Sq d x.1) (Sq d y.1) (x.2.1.length=d) (y.2.1.length=d) (0<x.2.2) (0<y.2.2) (nP 1000 x.1) (nP 1000 y.1) (lV 1000 x.2.1) (lV 1000 y.2.1) (x.2.2<2^1000) (y.2.2<2^1000) (∀r H',Same H H'->DdAt K H' r (oU d x y)->Q (.ref r) H')
def sp_2(K:Frag):Sp:=λvs H Q _=>E4 λ(p:Addr)(c:Int)(x:Dd)(d:Nat)=>A8 (vs=[.ref p,.int c]) (DdS K H p x) ((d=2\/d=3)) (x.2.1.length=d) (0<x.2.2) (x.2.2<2^1000) (lV 1000 x.2.1) (∀r H' ts,Same H H'->DdS K H' r (x.1,ts,x.2.2)->Cong x.2.2 ts x.2.1->lV 1010 ts->Q (.ref r) H')
structure MsOk(d:Nat)(G:Dd->Prop)(ms:List Dd):Prop where
 f:∀s∈ms,lD d s
 g:∀s∈ms,G (oS s)
 l:ms.length<=200
def sp_l(K:Frag)(t:Adr):Sp:=λvs H Q _=>E5 λ(d:Nat)(a:Addr)(ps:LA)(ms:List Dd)(G:Dd->Prop)=>A7 (vs=[.int d,.ref a]) (H a=some (.lst (ps.map V.ref))) (Paired (DdS K H) ps ms) (Amb d G) (MsOk d G ms) ((200<(tab d (ms.map oS) 201).length->∀H',Same H H'->Q .non H')) (∀g srt H',Same H H'->GrpF K t H' g d ms srt->Told d (ms.map oS) srt->Q (.ref g) H')
def sp_i(K:Frag)(t:Adr):Sp:=λvs H Q _=>E6 λ(d:Nat)(a:Addr)(os:LA)(ms:List Dd)(srt:Tb)(G:Dd->Prop)=>A7 (vs=[.int d,.ref a]) (H a=some (.lst (os.map V.ref))) (Paired (λp(x:Dd×List Nat)=>Dt K H (.ref p) (dat x.1)) os srt) (Amb d G) (MsOk d G ms) (Told d (ms.map oS) srt) (∀H',Same H H'->Q (.bl true) H')
def sp_6(K:Frag)(t:Adr):Sp:=λvs H Q _=>E9 λ(d:Nat)(a m:Addr)(ps os:LA)(ms:List Dd)(srt:Tb)(G:Dd->Prop)(c:Int)=>A11 (vs=[.int d,.ref a,.ref m,.int c]) (H a=some (.lst (ps.map V.ref))) (Paired (DdS K H) ps ms) (ms.length<=3) (H m=some (.lst (os.map V.ref))) (Paired (λp(x:Dd×List Nat)=>Dt K H (.ref p) (dat x.1)) os srt) (Amb d G) ((∀x,G x->nP 1000 x.1/\lV 1000 x.2.1/\x.2.2<2^1000)) (MsOk d G ms) (Told d (ms.map oS) srt) (∀H',Same H H'->Q (.bl true) H')
theorem dvs(x y:Int)(b:y≠0)(a:y.natAbs<1073741824):kX x y:=⟨b,zJ ((Nat.log2_lt ⋯).mpr (show y.natAbs<2^30 from a)) ∅⟩
theorem kB{H H':Hp}{b:Addr}(s:Same H H')(h:H' b=none):H b=none:=by
 cases q:H b with
 |none=>rfl
 |some o=>rw[s _ _ q]at h;cases h
theorem MatD.app{c H H1:Hp}{a l:Addr}{M:LM}{r:LI'}(h:MatD c H a M)(s:Same H H1)(hl:H l=none)(o:c l=none)(e:H1 l=some (.lst (r.map V.int))):∃zs,H1 a=some (.lst zs)/\zs.length=M.length/\MatD c (upd H1 a (.lst (zs++[.ref l]))) a (M++[r]):=by
 obtain⟨ps,g,d,C,m⟩:=h;have k:l≠a:=λz=>by rw[z,g]at hl;cases hl
 refine⟨ps.map V.ref,s _ _ g,by rw[zqe,d],ps++[l],by rw[oP,yV];rfl,by simp[d],?_,λi p q e1 b=>?_⟩
 ·rw[qF];refine⟨C,by simp,λz hz w n=>?_⟩;rw[rX.mp n];obtain⟨j,u,y⟩:=wL hz;exact nN (m j z M[j] (by simp[u,y]) (by simp[show j<M.length by omega])).2.2 hl
 ·by_cases hi:i<ps.length
  ·rw[yA hi]at e1;rw[yA ⋯]at b;obtain⟨f,D,x⟩:=m i p q e1 b;exact⟨f,D,by rw[oR f];exact s _ _ x⟩
  ·have v:i=ps.length:=by have:=(zqa e1).1;simp at this;omega
   subst v;rw[zT (zF _)]at e1;rw[d,zT (zF _)]at b;simp at e1 b;subst e1 b;exact⟨k,o,by rw[oR k];exact e⟩
theorem MatD.nil{b H:Hp}{a:Addr}(e:H a=some (.lst [])):MatD b H a []:=⟨[],e,rfl,vX,λi p r e1=>by simp at e1⟩
theorem Wn{lo:Int}{n:Nat}{H:Hp}{a:Addr}{fr:List (Str×Nat)}{I:St}{te:TE}{Q:VK}(f:Nat->LI')(M:H a=none)(hz:n<=1000)
  (R:∀(i:Nat) H1 zs,i<n->Same H H1->H1 a=some (.lst zs)->∀G:VK,(∀p H2,Same H1 H2->H1 p=none->H2 p=some (.lst ((f i).map V.int))->G (.ref p) H2)->te (some (.int (lo+i)):: mL fr I) H1 G)
  (S:∀H1,Same H H1->MatD H H1 a ((List.range n).map f)->Q (.ref a) H1):lH (Itr lo n) (oW 0) (tEl te) 1 fr I a H Q:=by
 refine Bv n (λi zs H1=>∃ps:LA,zs=ps.map V.ref/\ps.length=i/\ps.Nodup/\∀(j:Nat)(p:Addr),ps[j]?=some p->p≠a/\H p=none/\H1 p=some (.lst ((f j).map V.int))) M hz ⟨[],rfl,rfl,vX,λj p e=>by simp at e⟩
  (λi zs H1⟨ps,e,l,_⟩=>by rw[e,zqe,l];exact zF _) (λi zs H1 H2⟨ps,e,l,n,q⟩s=>⟨ps,e,l,n,λj p e1=>⟨(q j p e1).1,(q j p e1).2.1,s _ _ (q j p e1).1 (q j p e1).2.2⟩⟩)
  (λi H1 hi s=>hi) (λH1 s=>zF _) ?_ ?_
 ·rintro i H1 zs hi g D ⟨ps,rfl,k,u,m⟩ ys x H3 O T C U _;obtain⟨e1,d⟩:=T;subst e1 d
  match ys,O with
  | [o],_ =>
   refine⟨⟨[_],rfl,rfl⟩,R i H3 _ hi g D _ λp H2 F y e=>U _ _ F ⟨ps++[p],by simp,by simp[k],?_,λj q b=>?_⟩⟩
   ·rw[qF];refine⟨u,by simp,λz hz w J=>?_⟩;rw[rX.mp J];obtain⟨j,c,v⟩:=wL hz;exact nN (m j z (by simp[c,v])).2.2 y
   ·by_cases c:j<ps.length
    ·rw[yA c]at b;obtain⟨L,N,W⟩:=m j q b;exact⟨L,N,F _ _ W⟩
    ·have v:j=ps.length:=by have:=(zqa b).1;simp at this;omega
     subst v;rw[zT (zF _)]at b;simp at b;subst b;rw[k];exact⟨yF (nN D y),kB g y,e⟩
 ·rintro H1 ys g e1 ⟨ps,rfl,k,u,m⟩;refine S H1 g ⟨ps,e1,by simp[k],u,λj p r d b=>?_⟩;have c:j<n:=by have:=(zqa d).1;omega
  rw[zM,xA c]at b;cases b;exact m j p d
theorem ok_p(T:Txt K mg t):FnOk P w K mg base CX0 1 t.a_p t.d_p ["_law_d"] sp_p:=by
 apply T.F_p.ok sc_p
 ·obtain⟨n,rfl,R,x⟩:=h;refine⟨_,(oO (oY (iA (xs:=["_law_i"]) (fr:=[("_law_d",0)]) (g:=(oW 0)) (tt:=(tEl (lI (nZ (nD (tVar 1) tNil)) (oW 0) (tEl (tCB (λxs H Q=>(∃i,xs=[.int i]/\Q (.int i) H)\/∃k,xs=[.bl k]/\Q (.int (if k then 1 else 0)) H) (nD (tOp (rI0 λi j=>.bl (decide (i=j))) (tVar 1) (tVar 0)) tNil))) 1 [("_law_i",0)]))) (kN (sc:=oQ aE) (N:=N_p) rfl rfl (nofun)) rfl (mH rfl T.z_range (oH (pq 0) oJ)) (λ_ _ _ a=>(eN (N:=["_law_i","_law_d"]) (i:=0) a rfl (nofun) rfl)) (λ_ _ _ a=>(kY (mD (N:=["_law_i","_law_d"]) (fr:=[("_law_i",0)]) (te:=(tCB (λxs H Q=>(∃i,xs=[.int i]/\Q (.int i) H)\/∃k,xs=[.bl k]/\Q (.int (if k then 1 else 0)) H) (nD (tOp (rI0 λi j=>.bl (decide (i=j))) (tVar 1) (tVar 0)) tNil))) a rfl (nofun) rfl (nofun) (mH rfl T.z_range (oH (pv 1) oJ)) (λ_ _ _ M=>(mK Ep rfl T.z_int (nofun) (oH (cJ lG (pv 1) (pv 0) (nF _)) oJ))))))))),?_⟩;show tRet _ _ [some (.int n)] H;ext;refine nL λB eB=>?_;simp only[nZ];ext;refine⟨⋯,⋯,λD d=>?_⟩;rw[zS];refine Wn (λi=>(List.range n).map λk=>if i=k then(1:Int) else 0) d ⋯ ?_ λH1 p G=>x D H1 ⟨p,d,G⟩;intro i H2 zs hi J I g C;subst eB;show lI _ _ _ _ _ [some (.int (0+(i:Int))),some (.int n)] H2 g;refine nL λB eB=>?_;simp only[nZ];ext;refine⟨⋯,⋯,λL b=>?_⟩;rw[zS];refine kE (λk y _=>k<n/\y=.int (if i=k then 1 else 0)) b ⋯ (λ_ _ _ _ r _=>r) ?_ ?_
  ·intro k H3 N u c O q v;subst eB;show tCB _ _ [some (.int (0+(k:Int))),some (.int (0+(i:Int)))] H3 q;ext;refine .inr (v _ _ (Same.refl _) ⟨u,?_⟩)
   by_cases z:i=k
   ·rw[zE z,zQ ⋯];rfl
   ·rw[zD z,zO ⋯];rfl
  ·intro H3 ys c f F l;have m:ys=((List.range n).map λk=>if i=k then(1:Int) else 0).map V.int:=by
    refine mV (by simpa using F) λj y e=>?_;obtain⟨o,rfl⟩:=l j y e;exact⟨_,by rw[zM,xA o];rfl,rfl⟩
   subst m;exact C _ _ c b f
theorem ok_g(T:Txt K mg t):FnOk P w K mg base CX0 1 t.a_g t.d_g ph' (sp_g K):=by
 apply T.F_g.ok sc_g
 ·obtain⟨b1,b2,c0,c2,a,b,f,c,d,rfl,R,Z,o,M,c5,a4,b6,q⟩:=h;refine⟨_,(oM (oT (i:=2) sc_g.nd rfl (Or.inr rfl) (nY T.z_len (pq 0)))
   (oM (oT (i:=3) sc_g.nd rfl (Or.inl rfl) (nX oJ))
   (oM (mI yG rfl (mH rfl T.z_range (oH (pq 2) oJ)) (nS (i:=4) sc_g.nd rfl (Or.inr rfl))
   (oO (kK (jX xK xZ xY jY (pq 3) (oH (iA (xs:=["_law_k"]) (fr:=[("_law_one",0),("_law_other",1),("_law_d",2),("_law_i",4)]) (g:=(oW 0)) (tt:=(tEl (tCB (λxs H Q=>∃(p:Addr)(ns:LI'),xs=[.ref p]/\SqL K H p (ns.map V.int)/\Q (.int ns.sum) H) (nD (lI (nZ (nD (tVar 3) tNil)) (oW 0) (tEl (tOp (rI (λi j=>IntMulOk i j) λi j=>.int (i*j)) (tOp (rIxB K) (tOp (rIxB K) (tVar 2) (tVar 4)) (tVar 0)) (tOp (rIxB K) (tOp (rIxB K) (tVar 3) (tVar 0)) (tVar 1)))) 1 [("_law_k",0),("_law_one",1),("_law_other",2),("_law_i",4)]) tNil)))) (kN (sc:=oQ aF) (N:=N_g) rfl rfl (nofun)) rfl (mH rfl T.z_range (oH (pq 2) oJ)) (λ_ _ _ F=>(eN (N:=["_law_k","_law_one","_law_other","_law_d","_law_i"]) (i:=0) F rfl (nofun) rfl)) (λ_ _ _ F=>(kY (mY (cW rfl) rfl T.z_sum (nofun) (oH (mD (N:=["_law_k","_law_one","_law_other","_law_d","_law_i"]) (fr:=[("_law_k",0),("_law_one",1),("_law_other",2),("_law_i",4)]) (te:=(tOp (rI (λi j=>IntMulOk i j) λi j=>.int (i*j)) (tOp (rIxB K) (tOp (rIxB K) (tVar 2) (tVar 4)) (tVar 0)) (tOp (rIxB K) (tOp (rIxB K) (tVar 3) (tVar 0)) (tVar 1)))) F rfl (nofun) rfl (nofun) (mH rfl T.z_range (oH (pv 3) oJ)) (λ_ _ _ c7=>(oN nT (nO ix_B (nO ix_B (pv 2) (pv 4) (λ_ _=>rfl)) (pv 0) (λ_ _=>rfl)) (nO ix_B (nO ix_B (pv 3) (pv 0) (λ_ _=>rfl)) (pv 1) (λ_ _=>rfl))))) oJ))))) oJ)))))
   (oO (oY (pq 3)))))),?_⟩
  show tSeq _ _ _ [some (.ref a),some (.ref b),none,none,none] H;right;refine iU R ?_
  try ext
  rw[o.1];left;refine⟨yB _,λm D=>?_⟩;subst e1;refine st λN1 e1=>mM λC eB=>?_;simp only[nZ];ext;have a1:Same H (upd H m (.lst [])):=Same.new D;refine⟨⋯,⋯,?_⟩;rw[zS];refine iR (n:=d) (g:=oW 4) (tb:=C) (λi G H1=>∃L,G=[some (.ref a),some (.ref b),some (.int d),some (.ref m),L]/\Same H H1/\MatD H H1 m ((mulM d f c).take i)) ⟨_,rfl,a1,MatD.nil oP⟩ ?_ ?_
  ·rintro i G H1 hi ⟨L,rfl,g,n⟩;have z:f[i]?=some (f.getD i []):=by have:=o.1;simp[show i<f.length by omega]
   have c3:(f.getD i []).length=d:=o.2 _ (zqb z);have a6:=Pi (w:=d) (B:=c) z;subst eB;show fV _ _ [some (.ref a),some (.ref b),some (.int d),some (.ref m),some (.int (0+(i:Int)))] H1;ext;obtain⟨c6,b7⟩:∃zs,H1 m=some (.lst zs):=let ⟨ps,h,_⟩:=n;⟨_,h⟩
   refine⟨.inl ⟨rfl,_,SqL.of b7⟩,?_⟩;refine nL λC eB=>?_;simp only[nZ];ext;refine⟨⋯,⋯,λc1 N=>?_⟩;rw[zS];refine kE (len:=d) (λj y _=>j<d/\y=.int (dotI (f.getD i []) (colI j c))) N ⋯ (λ_ _ _ _ r _=>r) ?_ ?_
   ·intro j H2 zs J l b9 a2 b0;subst eB;show tCB _ _ [some (.int (0+(j:Int))),some (.ref a),some (.ref b),some (.int d),some (.int (0+(i:Int)))] H2 a2;ext;refine nL λC eB=>?_;simp only[nZ];ext;refine⟨⋯,⋯,λb3 U=>?_⟩;rw[zS];refine kE (len:=d) (λk y _=>∃x,(List.zipWith (·*·) (f.getD i []) (colI j c))[k]?=some x/\y=.int x) U ⋯ (λ_ _ _ _ r _=>r) ?_ ?_
    ·intro k H3 c9 c4 v c8 a7 a8;have u:c[k]?=some (c.getD k []):=by have:=M.1;simp[show k<c.length by omega]
     have d0:(c.getD k []).length=d:=M.2 _ (zqb u);have O:k<(f.getD i []).length:=⋯
     subst eB;show tOp _ _ _ [some (.int (0+(k:Int))),some (.int (0+(j:Int))),some (.ref a),some (.ref b),some (.int (0+(i:Int)))] H3 a7;ext;refine iS (((R.up g).up l).up v) z (L2.getD_at O) ⋯ ⋯ ?_;refine iS (((Z.up g).up l).up v) u (getD_at (k:=j) ⋯) ⋯ ⋯ ?_;ext;refine⟨xL (nW (a4 _ (zqb z) _ (L2.getD_mem O))) (nW (b6 _ (zqb u) _ (L2.getD_mem ⋯))) ∅,a8 _ _ (Same.refl _) ⟨_,?_,rfl⟩⟩;have a5:(colI j c)[k]?=some ((c.getD k []).getD j 0):=by unfold colI;rw[zM,u];rfl
     rw[wF,L2.getD_at O,a5]
    ·intro H3 ys v Y S a3;have I:ys=(List.zipWith (·*·) (f.getD i []) (colI j c)).map V.int:=by
      refine mV (by have:=M.1;simp only[zqe,List.length_zipWith,colI];omega) λk y e=>?_;obtain⟨x,a0,rfl⟩:=a3 k y e;exact⟨x,a0,rfl⟩
     subst I;exact⟨b3,rfl,_,SqL.of Y,b0 _ _ v ⟨J,rfl⟩⟩
   ·intro H2 ys l X S W;have I:ys=((List.range d).map λk=>dotI (f.getD i []) (colI k c)).map V.int:=by
     refine mV (by simpa using S) λj y e=>?_;obtain⟨J,rfl⟩:=W j y e;exact⟨_,by rw[zM,xA J];rfl,rfl⟩
    subst I;obtain⟨zs,b4,a9,b8⟩:=MatD.app n l N (kB g N) X;refine⟨m,zs,_,rfl,rfl,b4,kL (by rw[a9,yI];omega),?_⟩;have b5:(mulM d f c).take (i+1)=(mulM d f c).take i++[(List.range d).map λk=>dotI (f.getD i []) (colI k c)]:=by rw[xJ,a6];rfl
    refine⟨Same.over D (g.trans l),?_⟩;rw[b5];exact b8
  ·rintro G H1 ⟨L,rfl,g,n⟩;symm;rw[yR (by simp[mulM,o.1])]at n;exact q m H1 ⟨g,D,n⟩
theorem Dg{H H1 H2 H3:Hp}{c b p:Addr}{r1 r2:LI'}(m:H c=none)(e1:H1=upd H c (.lst (r1.map V.int)))(l:H1 b=none)(n:H2=upd H1 b (.lst (r2.map V.int)))(e:H2 p=none)(o:H3=upd H2 p (.lst [.ref c,.ref b])):Rw H H3 p [r1,r2]:=by
 have g:Same H H1:=e1 ▸ Same.new m;have f:Same H1 H2:=n ▸ Same.new l;have j:Same H2 H3:=o ▸ Same.new e;have k:H1 c=some (.lst (r1.map V.int)):=by rw[e1,oP]
 have u:H2 b=some (.lst (r2.map V.int)):=by rw[n,oP]
 have v:H3 p=some (.lst [.ref c,.ref b]):=by rw[o,oP]
 refine⟨(g.trans f).trans j,kB (g.trans f) e,[c,b],v,rfl,?_,λi q r a d=>?_⟩
 ·simp only[List.nodup_cons,List.mem_singleton,List.not_mem_nil,not_false_eq_true,List.nodup_nil,and_true];exact nN k l
 ·match i,a,d with
  |0,a,d=>cases a;cases d;exact⟨nN (f _ _ k) e,m,j _ _ (f _ _ k)⟩
  |1,a,d=>cases a;cases d;exact⟨nN u e,kB g l,j _ _ u⟩
  |i+2,a,d=>simp at a
theorem Wm{H H1 H2 H3 m:Hp}{f g e p:Addr}{r1 r2 v:LI'}(n:Same H H1)(C:H f=none)(l:H1 f=some (.lst (r1.map V.int)))(c:Same H1 H2)(z:H1 g=none)(u:H2 g=some (.lst (r2.map V.int)))(d:Same H2 H3)(o:H2 e=none)(y:H3 e=some (.lst (v.map V.int)))(j:H3 p=none)(x:m=upd H3 p (.lst [.ref f,.ref g,.ref e])):Rw H m p [r1,r2,v]:=by
 have k:Same H3 m:=x ▸ Same.new j;have D:m p=some (.lst [.ref f,.ref g,.ref e]):=by rw[x,oP]
 refine⟨((n.trans c).trans d).trans k,kB ((n.trans c).trans d) j,[f,g,e],D,rfl,?_,λi q r a b=>?_⟩
 ·simp only[List.nodup_cons,List.mem_cons,List.mem_singleton,List.not_mem_nil,not_false_eq_true,List.nodup_nil,and_true,not_or];exact⟨⟨nN l z,nN (c _ _ l) o⟩,nN u o⟩
 ·match i,a,b with
  |0,a,b=>cases a;cases b;exact⟨nN (d _ _ (c _ _ l)) j,C,k _ _ (d _ _ (c _ _ l))⟩
  |1,a,b=>cases a;cases b;exact⟨nN (d _ _ u) j,kB n z,k _ _ (d _ _ u)⟩
  |2,a,b=>cases a;cases b;exact⟨nN y j,kB (n.trans c) o,k _ _ y⟩
  |i+3,a,b=>simp at a
theorem Av{k:Nat}(a:k<4){R:LM}(b:R∈pgL k):nP 1000 R:=λr hr z hz=>tR ((iI a).wee R b r hr z hz) (Nat.one_lt_two_pow ∅)
theorem Rw.into{b H H':Hp}{a:Addr}{M:LM}(h:Rw H H' a M)(s:Same b H):Rw b H' a M:=⟨s.trans h.s,kB s h.n,let ⟨ps,e,k,g,d⟩:=h.m;⟨ps,e,k,g,λi p r e1 f=>let ⟨c,l,j⟩:=d i p r e1 f;⟨c,kB s l,j⟩⟩⟩
def Df(R:LM)(z:Int):LM:=[R.getD 0 []++[0],R.getD 1 []++[0],[0,0,z]]
theorem Wl:(pgL 1).all (λR=>(pgL 3).contains (Df R 1) && (pgL 3).contains (Df R (-1)))=true:=nofun
theorem Wk{R:LM}(h:R∈pgL 1){z:Int}(hz:z=1\/z=-1):Df R z∈pgL 3:=by
 have:=vH.mp Wl R h;rw[zR,sL,sL]at this;rcases hz with rfl|rfl
 ·exact this.1
 ·exact this.2
theorem ok_n(T:Txt K mg t):FnOk P w K mg base CX0 2 t.a_n t.d_n pm' sp_n:=by
 have c0:=@ok_g P w K mg base t T;apply T.F_n.ok sc_n
 ·obtain⟨c,d,rfl,c4,b5⟩:=h;refine⟨_,(oM (oT (i:=2) sc_n.nd rfl (Or.inl rfl) (nX (oH (nX (oH oK (oH oK oJ))) (oH (nX (oH oK (oH oK oJ))) oJ))))
   (oM (mI yG rfl (mH rfl T.z_range (oH (oN nM (pq 0) oK) oJ)) (nS (i:=3) sc_n.nd rfl (Or.inl rfl))
   (oO (oT (i:=2) sc_n.nd rfl (Or.inl rfl) (nA c0 hr.mo T.F_g (oH (nX (oH (nX (oH oK (oH (cH cI oK) oJ))) (oH (nX (oH oK (oH oK oJ))) oJ))) (oH (pq 2) oJ))))))
   (oM (nK (nE lG (oN nM (oN nU (pq 0) oK) oK) oK (nF _))
   (oO (oT (i:=2) sc_n.nd rfl (Or.inl rfl) (nA c0 hr.mo T.F_g (oH (nX (oH (nX (oH oK (oH oK oJ))) (oH (nX (oH oK (oH oK oJ))) oJ))) (oH (pq 2) oJ)))))
   nJ)
   (oM (nK (nE lG (pq 1) oK (nF _))
   (oO (oY (pq 2)))
   nJ)
   (oO (oY (nX (oH (oN eH (nC (pq 2)) (nX (oH oK oJ))) (oH (oN eH (nC (pq 2)) (nX (oH oK oJ))) (oH (nX (oH oK (oH oK (oH (oN jN oK (oN nT oK (oN nM (oN nU (pq 0) oK) oK))) oJ)))) oJ)))))))))),?_⟩
  show tSeq _ _ _ [some (.int c),some (.int d),none,none] H;have g:=iI (show 1<4 by decide);right;refine⟨by show 2<=sizeLine;decide,λa5 l=>⟨by show 2<=sizeLine;decide,λb4 n=>⟨by show 2<=sizeLine;decide,λp m=>?_⟩⟩⟩;have b6:=Dg (r1:=[1,0]) (r2:=[0,1]) l rfl n rfl m rfl;generalize hH1:upd (upd (upd H a5 (.lst [.int 1,.int 0])) b4 (.lst [.int 0,.int 1])) p (.lst [.ref a5,.ref b4])=H1;have c2:Rw H H1 p [[1,0],[0,1]]:=hH1 ▸ b6;have c5:[[1,0],[0,1]]∈pgL 1:=by rw[←id2];exact g.one
  clear b6 l n m hH1;subst e1;refine st λN1 e1=>mM λB eB=>?_;simp only[nZ];ext;have d2:=fms c 6 ∅;refine⟨∅,⋯,⋯,?_⟩;refine iR (g:=oW 3) (tb:=B) (λ_ S H2=>∃(r:Addr)(R:LM)(v:Option V),S=[some (.int c),some (.int d),some (.ref r),v]/\Rw H H2 r R/\R∈pgL 1) ⟨p,_,none,rfl,c2,c5⟩ ?_ ?_
  ·rintro k S H2 d0 ⟨r,R,v,rfl,G,i⟩;subst eB;show tAsg _ _ _ [some (.int c),some (.int d),some (.ref r),some (.int (0+(k:Int)))] H2;ext;refine⟨by show 2<=sizeLine;decide,λe l=>⟨by show 2<=sizeLine;decide,λy n=>⟨by show 2<=sizeLine;decide,λq m=>?_⟩⟩⟩;have N:=Dg (r1:=[1,-1]) (r2:=[1,0]) l rfl n rfl m rfl;generalize hH3:upd (upd (upd H2 e (.lst [.int 1,.int (-1)])) y (.lst [.int 1,.int 0])) q (.lst [.ref e,.ref y])=H3;have l1:Rw H2 H3 q [[1,-1],[1,0]]:=hH3 ▸ N;have mg:[[1,-1],[1,0]]∈pgL 1:=g.gen _ ∅;have f:=G.up l1.s;refine⟨false,false,false,false,q,r,_,_,2,rfl,l1.m.l.b,f.m.l.b,g.sq _ mg,g.sq _ i,.inl rfl,Av ∅ mg,Av ∅ i,λa6 x a0=>?_⟩;exact⟨a6,rfl,_,a0.into f.s,g.mul _ mg _ i⟩
  ·rintro S H2 ⟨r,R,v,rfl,G,i⟩;subst e1;refine st λa9 O=>?_;have nx:∀H3 f J,Rw H H3 f J->J∈pgL 1->a9 [some (.int c),some (.int d),some (.ref f),v] H3:=by
    intro H3 f J L Y;subst O;refine st λa9 O=>?_;ext;rcases c4 with rfl|rfl
    ·rw[zQ ∅];refine iteT ?_;exact b5 f H3 J L Y
    ·rw[zO ∅];refine iteF ?_;subst O;ext;obtain⟨ps,k1,k2,k3,b1⟩:=L.m;obtain⟨a,b,o,z,rfl⟩:=sq2 (g.sq _ Y);obtain⟨j,e,rfl⟩:∃j e,ps=[j,e]:=by
      match ps,k2 with
      |[j,e],_=>exact⟨j,e,rfl⟩
     have c8:H3 j=some (.lst [.int a,.int b]):=(b1 0 j _ rfl rfl).2.2;have c1:H3 e=some (.lst [.int o,.int z]):=(b1 1 e _ rfl rfl).2.2;refine fJ (i:=0) k1 rfl rfl ⟨by show 1<=sizeLine;decide,λF c7=>?_⟩;have u:=Same.new (o:=.lst [V.int 0]) c7;have a7:(upd H3 F (.lst [.int 0])) F=some (.lst [V.int 0]):=oP;generalize upd H3 F (.lst [.int 0])=x at u a7;refine⟨j,F,_,_,rfl,rfl,u _ _ c8,a7,by show 3<=sizeLine;decide,λW b9=>?_⟩;have C:=Same.new (o:=.lst ([V.int a,.int b]++[.int 0])) b9;have a2:(upd x W (.lst ([V.int a,.int b]++[.int 0]))) W=some (.lst ([a,b,0].map V.int)):=oP;generalize upd x W (.lst ([V.int a,.int b]++[.int 0]))=M at C a2;refine fJ (i:=1) (C _ _ (u _ _ k1)) rfl rfl ⟨by show 1<=sizeLine;decide,λD c9=>?_⟩;have I:=Same.new (o:=.lst [V.int 0]) c9;have a4:(upd M D (.lst [.int 0])) D=some (.lst [V.int 0]):=oP;generalize upd M D (.lst [.int 0])=b0 at I a4;refine⟨e,D,_,_,rfl,rfl,I _ _ (C _ _ (u _ _ c1)),a4,by show 3<=sizeLine;decide,λZ b7=>?_⟩;have a1:=Same.new (o:=.lst ([V.int o,.int z]++[.int 0])) b7;have b3:(upd b0 Z (.lst ([V.int o,.int z]++[.int 0]))) Z=some (.lst ([o,z,0].map V.int)):=oP;generalize upd b0 Z (.lst ([V.int o,.int z]++[.int 0]))=U at a1 b3;have d1:=fms (c.fdiv 12) 2 ∅;refine⟨dvs _ _ ∅ ∅,∅,vG ∅,by show 3<=sizeLine;decide,λX a3=>⟨by show 3<=sizeLine;decide,λr b2=>?_⟩⟩;have a8:=Same.new (o:=.lst [V.int 0,.int 0,.int (1-2*(c.fdiv 12).fmod 2)]) a3;have b8:(upd U X (.lst [.int 0,.int 0,.int (1-2*(c.fdiv 12).fmod 2)])) X=some (.lst ([0,0,1-2*(c.fdiv 12).fmod 2].map V.int)):=oP;generalize upd U X (.lst [.int 0,.int 0,.int (1-2*(c.fdiv 12).fmod 2)])=c6 at a8 b8 b2 ⊢;have c3:=Wm (H:=x) (H1:=M) (H2:=U) (H3:=c6) C b9 a2 (I.trans a1) (kB I b7) b3 a8 a3 b8 b2 rfl;refine b5 r _ _ (c3.into (L.s.trans u)) ?_;exact Wk Y (z:=1-2*(c.fdiv 12).fmod 2) ⋯
   ext;refine⟨dvs _ _ ∅ ∅,∅,ite2 (λ_=>?_) (λ_=>nx _ _ _ G i)⟩;refine⟨by show 2<=sizeLine;decide,λe l=>⟨by show 2<=sizeLine;decide,λy n=>⟨by show 2<=sizeLine;decide,λq m=>?_⟩⟩⟩;have N:=Dg (r1:=[0,1]) (r2:=[1,0]) l rfl n rfl m rfl;generalize hH3:upd (upd (upd H2 e (.lst [.int 0,.int 1])) y (.lst [.int 1,.int 0])) q (.lst [.ref e,.ref y])=H3;have l1:Rw H2 H3 q [[0,1],[1,0]]:=hH3 ▸ N;have mg:[[0,1],[1,0]]∈pgL 1:=g.gen _ ∅;have f:=G.up l1.s;exact⟨false,false,false,false,q,r,_,_,2,rfl,l1.m.l.b,f.m.l.b,g.sq _ mg,g.sq _ i,.inl rfl,Av ∅ mg,Av ∅ i,λa6 x a0=>nx _ _ _ (a0.into f.s) (g.mul _ mg _ i)⟩
def dZ(d x:Nat)(s:Int):LI':=(List.range d).map λj=>s*(if j=x then 1 else 0)
def sgR(d:Nat):List (Nat×Int)->List Nat->LM
 |[],_=>[]
 |(c,s):: r,l=>dZ d (l.getD c 0) s:: sgR d r (l.eraseIdx c)
def sgL:List (Nat×Int)->List Nat->List Nat
 |[],l=>l
 |(c,_):: r,l=>sgL r (l.eraseIdx c)
theorem Ke{d:Nat}{x:Nat×Int}:∀{r:List (Nat×Int)}{l:List Nat},sgR d (r++[x]) l=sgR d r l++[dZ d ((sgL r l).getD x.1 0) x.2]/\sgL (r++[x]) l=(sgL r l).eraseIdx x.1
 |[],_=>⟨rfl,rfl⟩
 |(c,s):: r,l=>by
  obtain⟨b,a⟩:=Ke (d:=d) (x:=x) (r:=r) (l:=l.eraseIdx c);exact⟨by show _:: sgR d (r++[x]) _=_;rw[b];rfl,a⟩
theorem Kd{d:Nat}:∀{r:List (Nat×Int)}{l:List Nat},(sgR d r l).length=r.length
 |[],_=>rfl
 |(c,s):: r,l=>by show(sgR d r _).length+1=_;rw[Kd];rfl
def Chs:Nat->List (Nat×Int)->Prop
 |_,[]=>True
 |m,(c,s):: r=>c<m/\(s=1\/s=-1)/\Chs (m-1) r
theorem Kc{x:Nat×Int}:∀{r:List (Nat×Int)}{m:Nat},Chs m r->x.1<m-r.length->(x.2=1\/x.2=-1)->Chs m (r++[x])
 |[],m,_,e,d=>⟨by simpa using e,d,trivial⟩
 |(c,s):: r,m,⟨a,b,k⟩,e,d=>⟨a,b,Kc k (by rw[zV]at e;omega) d⟩
theorem Kb:∀{r:List (Nat×Int)}{l:List Nat},Chs l.length r->r.length<=l.length->(sgL r l).length=l.length-r.length
 |[],_,_,_=>rfl
 |(c,s):: r,l,⟨a,_,k⟩,h=>by
  have e:(l.eraseIdx c).length=l.length-1:=List.length_eraseIdx_of_lt a;rw[zV]at h ⊢;show(sgL r (l.eraseIdx c)).length=_;rw[Kb (by rw[e];exact k) (by rw[e];omega),e];omega
def allC:Nat->Nat->List (List (Nat×Int))
 |0,_=>[[]]
 |n+1,m=>(List.range m).flatMap λc=>[1,-1].flatMap λs=>(allC n (m-1)).map λr=>(c,s):: r
theorem De:∀{n m:Nat}{r:List (Nat×Int)},Chs m r->r.length=n->r∈allC n m
 |0,_,[],_,_=>.head _
 |n+1,m,(c,s):: r,⟨a,b,k⟩,h=>List.mem_flatMap.mpr ⟨c,oG.mpr a,List.mem_flatMap.mpr ⟨s,by rcases b with rfl|rfl <;> decide,pZ.mpr ⟨r,De k (by simpa using h),rfl⟩⟩⟩
theorem Wj:(allC 2 2).all (λr=>(pgL 0).contains (sgR 2 r (List.range 2)))=true:=nofun
theorem Wi:(allC 3 3).all (λr=>(pgL 2).contains (sgR 3 r (List.range 3)))=true:=nofun
theorem Wh{d:Nat}(a:d=2\/d=3){r:List (Nat×Int)}(h:Chs d r)(hl:r.length=d):sgR d r (List.range d)∈pgL (if d=2 then 0 else 2):=by
 rcases a with rfl|rfl
 ·exact sL.mp (vH.mp Wj r (De h hl))
 ·exact sL.mp (vH.mp Wi r (De h hl))
theorem ok_c(T:Txt K mg t):FnOk P w K mg base CX0 2 t.a_c t.d_c pm' sp_c:=by
 apply T.F_c.ok sc_c
 ·obtain⟨c,d,rfl,c2,c1⟩:=h;refine⟨_,(oM (oT (i:=2) sc_c.nd rfl (Or.inl rfl) (Qu rfl rfl T.z_list rfl T.z_range (oH (pq 1) oJ)))
   (oM (oT (i:=3) sc_c.nd rfl (Or.inl rfl) (nX oJ))
   (oM (mI yG rfl (mH rfl T.z_range (oH (pq 1) oJ)) (nS (i:=4) sc_c.nd rfl (Or.inl rfl))
   (oM (oT (i:=5) sc_c.nd rfl (Or.inr rfl) (jX xK PySem.F.slot_list_pop PySem.F.type_list_pop Na (pq 2) (oH (oN nM (pq 0) (nY T.z_len (pq 2))) oJ)))
   (oM (kK (jX xK xZ xY jY (pq 3) (oH (mD (sc:=oQ aG) (N:=N_c) (fr:=[("_law_cell",0),("_law_at",5)]) (te:=(tOp (rI (λi j=>IntMulOk i j) λi j=>.int (i*j)) (tOp (rI0 λi j=>.int (i-j)) (tC (.int 1)) (tOp (rI (λi j=>IntMulOk i j) λi j=>.int (i*j)) (tC (.int 2)) (tOp (rI (λ_ j=>j≠0) λi j=>.int (i.fmod j)) (tOp (rI kX λi j=>.int (i.fdiv j)) (tVar 1) (tC (.int 6))) (tC (.int 2))))) (tCB (λxs H Q=>(∃i,xs=[.int i]/\Q (.int i) H)\/∃k,xs=[.bl k]/\Q (.int (if k then 1 else 0)) H) (nD (tOp (rI0 λi j=>.bl (decide (i=j))) (tVar 0) (tVar 2)) tNil)))) rfl rfl (nofun) rfl (nofun) (mH rfl T.z_range (oH (pq 1) oJ)) (λ_ _ _ d2=>(oN nT (oN jN oK (oN nT oK (oN nM (oN nU (pv 1) oK) oK))) (mK Ep rfl T.z_int (nofun) (oH (cJ lG (pv 0) (pv 2) (nF _)) oJ))))) oJ)))
   (oO (oT (i:=0) sc_c.nd rfl (Or.inr rfl) (oN nU (pq 0) oK))))))
   (oO (oY (pq 3)))))),?_⟩
  show tSeq _ _ _ [some (.int c),some (.int d),none,none,none,none] H;right;refine⟨d,rfl,⋯,λl hl=>?_⟩;have M:Same H (upd H l (.lst ((List.range d).map λ(i:Nat)=>V.int (i:Int)))):=Same.new hl;have n:(upd H l (.lst ((List.range d).map λ(i:Nat)=>V.int (i:Int)))) l=some (.lst ((List.range d).map λ(i:Nat)=>V.int (i:Int))):=oP;show N1 _ (upd H l (.lst ((List.range d).map λ(i:Nat)=>V.int (i:Int))));generalize upd H l (.lst ((List.range d).map λ(i:Nat)=>V.int (i:Int)))=H1 at M n ⊢;left;refine⟨yB _,λm F=>?_⟩;have W:Same H1 (upd H1 m (.lst [])):=Same.new F;have a9:(upd H1 m (.lst [])) m=some (.lst []):=oP;have a8:l≠m:=λz=>by rw[z,F]at n;cases n
  generalize upd H1 m (.lst [])=H2 at W a9;subst e1;refine st λN1 e1=>mM λB eB=>?_;simp only[nZ];ext;refine⟨⋯,⋯,?_⟩;rw[zS];refine iR (g:=oW 4) (tb:=B) (λi Z H3=>∃(x:Int)(r:List (Nat×Int))(a3 N:Option V),Z=[some (.int x),some (.int d),some (.ref l),some (.ref m),a3,N]/\(∀b o,b≠l->H1 b=some o->H3 b=some o)/\H3 l=some (.lst ((sgL r (List.range d)).map λ(i:Nat)=>V.int (i:Int)))/\MatD H1 H3 m (sgR d r (List.range d))/\Chs d r/\r.length=i) ⟨c,[],none,none,rfl,λb o _ e=>W _ _ e,W _ _ n,MatD.nil a9,trivial,rfl⟩ ?_ ?_
  ·rintro i Z H3 hi ⟨x,r,a3,N,rfl,k3,G,a4,C,rfl⟩;have b7:(sgL r (List.range d)).length=d-r.length:=by
    have:=Kb (r:=r) (l:=List.range d) (by rw[uU];exact C) (by rw[uU];omega);rw[uU]at this;exact this
   generalize hL:sgL r (List.range d)=L at*;subst eB;show tSeq _ _ _ [some (.int x),some (.int d),some (.ref l),some (.ref m),some (.int (0+(r.length:Int))),N] H3;refine st λb4 X=>?_;ext;refine⟨.inl ⟨rfl,_,SqL.of G⟩,?_⟩;refine⟨false,l,_,rfl,SqB.lst G,?_⟩;ext;rw[zqe,b7];have d0:(0:Int)<((d-r.length:Nat):Int):=⋯
   have c0:=fms x ((d-r.length:Nat):Int) d0;obtain⟨f,b3⟩:∃f:Nat,x.fmod ((d-r.length:Nat):Int)=f:=⟨_,(Int.toNat_of_nonneg c0.1).symm⟩;have b6:f<L.length:=⋯
   refine⟨⋯,l,_,_,f,.int ((L.getD f 0:Nat):Int),rfl,rfl,G,⋯,⋯,?_,?_,?_⟩
   ·rw[b3,pE ⋯ (by rw[zqe];omega)];rfl
   ·rw[zM,zqc,zqd b6];rfl
   have b8:(L.map λ(i:Nat)=>V.int (i:Int)).eraseIdx f=(L.eraseIdx f).map λ(i:Nat)=>V.int (i:Int):=bV _ _ _;rw[b8];have v:∀b,b≠l->upd H3 l (.lst ((L.eraseIdx f).map λ(i:Nat)=>V.int (i:Int))) b=H3 b:=λb I=>oR I;have Y:upd H3 l (.lst ((L.eraseIdx f).map λ(i:Nat)=>V.int (i:Int))) l=some (.lst ((L.eraseIdx f).map λ(i:Nat)=>V.int (i:Int))):=oP;generalize upd H3 l (.lst ((L.eraseIdx f).map λ(i:Nat)=>V.int (i:Int)))=a7 at v Y;have b0:MatD H1 a7 m (sgR d r (List.range d)):=by
    obtain⟨ps,R,a2,S,a0⟩:=a4;refine⟨ps,by rw[v m (yF a8)];exact R,a2,S,λj p q a b=>?_⟩;obtain⟨O,u,a5⟩:=a0 j p q a b;exact⟨O,u,by rw[v p (λz=>by rw[z,n]at u;cases u)];exact a5⟩
   subst X;refine st λb4 X=>?_;ext;obtain⟨d3,c7⟩:∃zs,a7 m=some (.lst zs):=let ⟨ps,h,_⟩:=b0;⟨_,h⟩
   refine⟨.inl ⟨rfl,_,SqL.of c7⟩,?_⟩;refine nL λB eB=>?_;simp only[nZ];ext;refine⟨⋯,⋯,λJ g=>?_⟩;rw[zS];have d4:=fms (x.fdiv 6) 2 ∅;refine kE (λj y _=>j<d/\y=.int ((1-2*(x.fdiv 6).fmod 2)*(if j=L.getD f 0 then 1 else 0))) g ⋯ (λ_ _ _ _ r _=>r) ?_ ?_
   ·intro j a6 zs a1 D d1 b2 c3;subst eB;show tOp _ _ _ [some (.int (0+(j:Int))),some (.int x),some (.int ((L.getD f 0:Nat):Int))] a6 b2;ext;refine⟨dvs _ _ ∅ ∅,∅,vG ∅,.inr ⟨(show CMul _ _ from .inl ⟨⋯,⋯⟩).ok,c3 _ _ (Same.refl _) ⟨a1,?_⟩⟩⟩
    by_cases z:j=L.getD f 0
    ·rw[zE z,zQ ⋯];rfl
    ·rw[zD z,zO ⋯];rfl
   ·intro a6 ys D c9 c6 b1;have b5:ys=(dZ d (L.getD f 0) (1-2*(x.fdiv 6).fmod 2)).map V.int:=by
     refine mV (by simpa [dZ]using c6) λj y e=>?_;obtain⟨a1,rfl⟩:=b1 j y e;exact⟨_,by unfold dZ;rw[zM,xA a1];rfl,rfl⟩
    subst b5;obtain⟨zs,c4,b9,c8⟩:=MatD.app b0 D g (by
     cases q:H1 J with
     |none=>rfl
     |some o =>
      by_cases z:J=l
      ·rw[z,Y]at g;cases g
      ·rw[v J z,k3 J o z q]at g;cases g) c9
    refine⟨m,zs,_,rfl,rfl,c4,kL (by rw[b9,Kd];omega),?_⟩;subst X;ext;have U:=Ke (d:=d) (x:=(f,1-2*(x.fdiv 6).fmod 2)) (r:=r) (l:=List.range d);rw[hL]at U;refine⟨dvs _ _ ∅ ∅,λb o I e=>?_,r++[(f,1-2*(x.fdiv 6).fmod 2)],?_,?_,Kc C (by show f<d-r.length;omega) (by show(1-2*(x.fdiv 6).fmod 2)=1\/_=-1;omega),by simp⟩
    ·have bm:b≠m:=λz=>by rw[z,F]at e;cases e
     rw[oR bm];exact D _ _ (by rw[v b I];exact k3 b o I e)
    ·rw[oR a8,U.2];exact D _ _ Y
    ·rw[U.1];exact c8
  ·rintro Z H3 ⟨x,r,a3,N,rfl,k3,G,a4,C,c5⟩;symm;refine c1 m H3 _ ⟨λb o e=>k3 b o (λz=>by rw[z,hl]at e;cases e) (M _ _ e),kB M F,?_⟩ (Wh c2 C c5);obtain⟨ps,R,a2,S,a0⟩:=a4;exact⟨ps,R,a2,S,λj p q a b=>let ⟨O,u,a5⟩:=a0 j p q a b;⟨O,kB M u,a5⟩⟩
theorem ok_s(T:Txt K mg t):FnOk P w K mg base CX0 3 t.a_s t.d_s pd' sp_s:=by
 have g:=@ok_p P w K mg base t T;have j:=@ok_n P w K mg base t T;have i:=@ok_c P w K mg base t T;apply T.F_s.ok sc_s
 ·obtain⟨so,c,d,rfl,e,k,b⟩:=h;refine⟨_,(oM (nK (nE lG (pq 0) oK (nF _))
   (oO (oY (nA g hr.mo T.F_p (oH (pq 2) oJ))))
   nJ)
   (oM (nK (nE fY (pq 0) oK (nF _))
   (oO (oY (nA j hr.mo T.F_n (oH (pq 1) (oH (pq 2) oJ)))))
   nJ)
   (oO (oY (nA i hr.mo T.F_c (oH (pq 1) (oH (pq 2) oJ))))))),?_⟩
  show tSeq _ _ _ [some (.int so),some (.int c),some (.int d)] H;have f:∀(p:Prop)[Decidable p],(p↔(0<so/\so<3))->famK so d=if d=2 then(if p then 1 else 0) else if p then 3 else 2:=λp _ h=>by
   unfold famK
   by_cases q:p
   ·rw[zE q,zE q,zE (h.mp q),zE (h.mp q)]
   ·rw[zD q,zD q,zD (λz=>q (h.mpr z)),zD (λz=>q (h.mpr z))]
  ext;refine ite2 (λz=>?_) (λz=>?_)
  ·have z:=xW z;refine⟨d,rfl,⋯,λr H' a=>b r H' _ a ?_⟩;rw[f False ⟨False.elim,λq=>⋯⟩,zD pR,zD pR];rcases e with rfl|rfl
   ·exact(iI (show 0<4 by decide)).one
   ·exact(iI (show 2<4 by decide)).one
  have z:=uM (by simpa using z);refine ite2 (λy=>?_) (λy=>?_)
  ·have y:=xW y;refine⟨c,d,rfl,e,λr H' R a m=>b r H' R a ?_⟩;rw[f True ⟨λ_=>⋯,λ_=>trivial⟩,zE trivial,zE trivial];exact m
  ·have y:3<=so:=by simpa using y
   refine⟨c,d,rfl,e,λr H' R a m=>b r H' R a ?_⟩;rw[f False ⟨False.elim,λq=>⋯⟩,zD pR,zD pR];exact m
theorem Ka{n k:Nat}(h:k<n):ixN n (k:Int)=some k:=by
 unfold ixN;rw[zE ⋯,zE ⋯];simp
theorem Au{c:Int}{d:Nat}(h:0<d):∃n:Nat,c.fmod d=n/\n<d:=by
 have:=fms c d ⋯;exact⟨(c.fmod d).toNat,⋯,⋯⟩
theorem Lz{d:Nat}(f:d=2\/d=3)(c:Int):(jI d c).Ok d:=by
 have e1:((d:Int)-1)=((d-1:Nat):Int):=⋯
 obtain⟨i,a,hi⟩:=Au (c:=c.fdiv 4) (d:=d) ⋯;obtain⟨q,e,j⟩:=Au (c:=c.fdiv 12) (d:=d-1) ⋯;have b:((c.fdiv 4).fmod d+1+(c.fdiv 12).fmod ((d:Int)-1)).fmod d=((i+1+q)%d:Nat):=by
  rw[e1,a,e];have:(i:Int)+1+q=((i+1+q:Nat):Int):=⋯
  rw[this,wC _ ⋯];omega
 refine⟨?_,?_,?_,?_⟩
 ·show((c.fdiv 4).fmod d).toNat<d;omega
 ·show(((c.fdiv 4).fmod d+1+(c.fdiv 12).fmod ((d:Int)-1)).fmod d).toNat<d;rw[b,zS];exact Nat.mod_lt _ ⋯
 ·show((c.fdiv 4).fmod d).toNat≠(((c.fdiv 4).fmod d+1+(c.fdiv 12).fmod ((d:Int)-1)).fmod d).toNat;rw[b,zS,a,zS];rcases f with rfl|rfl <;> omega
 ·show(if(c.fdiv 3).fmod 4=1 then(c.fdiv 24).fmod (2*10^6+1)-10^6 else(c.fdiv 24+2).fmod 5-2:Int).natAbs<=1000000;have g:=fms (c.fdiv 24) (2*10^6+1) ∅;have k:=fms (c.fdiv 24+2) 5 ∅;split <;> omega
theorem fO{d:Nat}(b:d=2\/d=3){c:Int}:∀n,(∀s∈stps d n c,s.Ok d)/\(stps d n c).length=n
 |0=>⟨λ_ h=>(by cases h),rfl⟩
 |n+1=>by
  obtain⟨f,e⟩:=fO b (c:=c) n;refine⟨λs a=>?_,by show(stps d n c).length+1=_;rw[e]⟩;rcases xC.mp a with rfl|a
  ·exact Lz b _
  ·exact f s a
def colU(d i j:Nat)(m:Int)(R:LM)(u:Nat):LM:=(R.take u).map (colR d i j m)++R.drop u
theorem Wg{d i j:Nat}{m:Int}{r:LI'}(hl:r.length=d)(b:j<d):r.set j (r.getD j 0-m*r.getD i 0)=colR d i j m r:=by
 unfold colR
 conv=>lhs;rw[fM (z:=(0:Int)) hl]
 rw[Dv];refine kH λk a=>?_
 by_cases h:k=j
 ·subst h;rw[zE rfl,zE rfl,dR a,pF]
  by_cases hi:i<d
  ·rw[dR hi]
  ·congr 1;rw[zqc,vL (by simp;omega),zqc,vL ⋯]
 ·rw[zD h,zD h,vY,vY,Int.sub_zero]
theorem Wf{d i j u:Nat}{m:Int}{R:LM}{r:LI'}(e:R[u]?=some r):(colU d i j m R u)[u]?=some r/\(colU d i j m R u).set u (colR d i j m r)=colU d i j m R (u+1):=by
 have b:=(zqa e).1;have a:((R.take u).map (colR d i j m)).length=u:=by rw[zqe,yI];omega
 unfold colU;refine⟨?_,?_⟩
 ·rw[zT ⋯,a,wX,uN,tO];exact e
 ·rw[List.set_append,zD ⋯,a,wX,xJ,e,yV,yE,vV b];rfl
theorem We{d i:Nat}{A:LM}{r:LI'}(a:Sq d A)(hr:r.length=d):Sq d (A.set i r):=⟨by rw[List.length_set];exact a.1,λz hz=>by
 rcases tN hz with h|h
 ·exact a.2 z h
 ·rw[h];exact hr⟩
theorem Ly{x:Addr}:∀{l:LA}{i:Nat},l.Nodup->x∉l->(l.set i x).Nodup
 |[],_,_,_=>by simp
 |a:: l,0,nd,h=>wU.mpr ⟨λq=>h (.tail _ q),(wU.mp nd).2⟩
 |a:: l,i+1,nd,h=>by
  have b:=wU.mp nd;refine wU.mpr ⟨λq=>?_,Ly b.2 λq=>h (.tail _ q)⟩;rcases tN q with q|q
  ·exact b.1 q
  ·exact h (q ▸ .head _)
theorem MatD.put{d H H1:Hp}{a l:Addr}{M:LM}{r:LI'}{i:Nat}(h:MatD d H a M)(s:Same H H1)(hl:H l=none)(o:d l=none)(e:H1 l=some (.lst (r.map V.int))):∃zs,H1 a=some (.lst zs)/\zs.length=M.length/\MatD d (upd H1 a (.lst (zs.set i (.ref l)))) a (M.set i r):=by
 obtain⟨ps,g,n,D,m⟩:=h;have k:l≠a:=λz=>by rw[z,g]at hl;cases hl
 have u:l∉ps:=λv=>by
  obtain⟨j,b,C⟩:=wL v;rw[(m j l M[j] (by simp[b,C]) (by simp[show j<M.length by omega])).2.2]at hl;cases hl
 refine⟨ps.map V.ref,s _ _ g,by rw[zqe,n],ps.set i l,by rw[oP,List.map_set],by simp[n],?_,λj p q e1 c=>?_⟩
 ·exact Ly D u
 ·by_cases b:j=i
  ·subst b;have x:j<ps.length:=by have:=(zqa e1).1;simpa using this
   rw[wN x]at e1;rw[wN ⋯]at c;cases e1;cases c;exact⟨k,o,by rw[oR k];exact e⟩
  ·rw[tF (yF b)]at e1 c;obtain⟨f,F,y⟩:=m j p q e1 c;exact⟨f,F,by rw[oR f];exact s _ _ y⟩
theorem ok_e(T:Txt K mg t):FnOk P w K mg base CX0 2 t.a_e t.d_e pe' sp_e:=by
 apply T.F_e.ok sc_e
 ·obtain⟨a,c,k,R,a1,rfl,b8,b0,b9,d2⟩:=h;refine⟨_,(oM (oT (i:=2) sc_e.nd rfl (Or.inl rfl) (nY T.z_len (pq 0)))
   (oM (mI yG rfl (mH rfl T.z_range (oH (oN nM (pq 1) oK) oJ)) (nS (i:=3) sc_e.nd rfl (Or.inl rfl))
   (oM (oT (i:=4) sc_e.nd rfl (Or.inr rfl) (oN nM (oN nU (pq 1) oK) (pq 2)))
   (oM (oT (i:=5) sc_e.nd rfl (Or.inr rfl) (oN nM (oN mC (oN mC (pq 4) oK) (oN nM (oN nU (pq 1) oK) (oN jN (pq 2) oK))) (pq 2)))
   (oM (oT (i:=6) sc_e.nd rfl (Or.inr rfl) (oN jN (oN nM (oN mC (oN nU (pq 1) oK) oK) oK) oK))
   (oM (nK (nE lG (oN nM (oN nU (pq 1) oK) oK) oK (nF _))
   (oO (oT (i:=6) sc_e.nd rfl (Or.inr rfl) (oN jN (oN nM (oN nU (pq 1) oK) (oN mC (oN nT oK (oN Er oK oK)) oK)) (oN Er oK oK))))
   nJ)
   (oM (fW (mD (sc:=oQ aH) (N:=N_e) (fr:=[("_law_rows_here",0),("_law_i",4),("_law_j",5),("_law_by",6)]) (te:=(tOp (rI0 λi j=>.int (i+j)) (tOp (rIxB K) (tOp (rIxB K) (tVar 1) (tVar 2)) (tVar 0)) (tOp (rI (λi j=>IntMulOk i j) λi j=>.int (i*j)) (tVar 4) (tOp (rIxB K) (tOp (rIxB K) (tVar 1) (tVar 3)) (tVar 0))))) rfl rfl (nofun) rfl (nofun) (mH rfl T.z_range (oH (pq 2) oJ)) (λ_ _ _ f0=>(oN mC (nO ix_B (nO ix_B (pv 1) (pv 2) (λ_ _=>rfl)) (pv 0) (λ_ _=>rfl)) (oN nT (pv 4) (nO ix_B (nO ix_B (pv 1) (pv 3) (λ_ _=>rfl)) (pv 0) (λ_ _=>rfl)))))) (cD (pq 0) (pq 4) Fz))
   (oM (mI yG rfl (nQ (pq 0)) (nS (i:=7) sc_e.nd rfl (Or.inl rfl))
   (oO (fW (oN jN (nO ix_B (pq 7) (pq 5) (λ_ _=>rfl)) (oN nT (pq 6) (nO ix_B (pq 7) (pq 4) (λ_ _=>rfl)))) (cD (pq 7) (pq 5) Fz))))
   (oO (oT (i:=1) sc_e.nd rfl (Or.inl rfl) (oN mC (oN nU (pq 1) oK) oK))))))))))
   (oO (oY (pq 0))))),?_⟩
  show tSeq _ _ _ [some (.ref a),some (.int c),none,none,none,none,none,none] H;have M:=iI b8;have L:=jU k;have a5:=M.sq R b0;right;refine iU (b1:=false) (b2:=false) b9.m.l.b ?_
  try ext
  rw[a5.1];subst e1;refine st λN1 e1=>mM λB eB=>?_;simp only[nZ];ext;have e6:=fms c 4 ∅;refine⟨∅,⋯,⋯,?_⟩;refine iR (g:=oW 3) (tb:=B) (λn q H2=>∃v3 Y a0 N l,q=[some (.ref a),some (.int (gD n c)),some (.int (famD k)),v3,Y,a0,N,l]/\Rw a1 H2 a (cjM (famD k) (chP (famD k) (stps (famD k) n c)) (chQ (famD k) (stps (famD k) n c)) R)) ⟨none,none,none,none,none,rfl,by rw[show stps (famD k) 0 c=[] from rfl,(Vq L a5 (v:=List.replicate (famD k) 0) (by simp)).1];exact b9⟩ ?_ ?_
  ·rintro n q H2 f7 ⟨v3,Y,a0,N,l,rfl,m⟩;obtain⟨ok,e4⟩:=fO L (c:=c) n;generalize hx:gD n c=x;have so:=Lz L x;have e9:n<=3:=⋯
   have v:=gC (kU L ok) R;have S:nP 140 (cjM (famD k) (chP (famD k) (stps (famD k) n c)) (chQ (famD k) (stps (famD k) n c)) R):=dY (F:=⟨k,stps (famD k) n c,1⟩) ⟨b8,ok,by show(stps _ n c).length<=3;omega,by show(0:Int)<1;decide,by show(1:Int)<2^100;decide⟩ b0;have nx:=Vr L ok so a5;have J:gD (n+1) c=x.fdiv 5+1:=by show(gD n c).fdiv 5+1=_;rw[hx]
   have es:stps (famD k) (n+1) c=jI (famD k) x:: stps (famD k) n c:=by show jI _ (gD n c):: _=_;rw[hx]
   rw[J,es,←nx];generalize cjM (famD k) (chP (famD k) (stps (famD k) n c)) (chQ (famD k) (stps (famD k) n c)) R=b at*
   generalize famD k=d at*;subst eB;show tSeq _ _ _ [some (.ref a),some (.int x),some (.int d),some (.int (0+(n:Int))),Y,a0,N,l] H2;obtain⟨hi,f1,f2,e2⟩:=so;have c0:(x.fdiv 4).fmod d=((jI d x).i:Int):=by
    have:=fms (x.fdiv 4) d ⋯;show _=((((x.fdiv 4).fmod d).toNat:Nat):Int);omega
   have b3:((x.fdiv 4).fmod d+1+(x.fdiv 12).fmod ((d:Int)-1)).fmod d=((jI d x).j:Int):=by
    have:=fms ((x.fdiv 4).fmod d+1+(x.fdiv 12).fmod ((d:Int)-1)) d ⋯;show _=(((((x.fdiv 4).fmod d+1+(x.fdiv 12).fmod ((d:Int)-1)).fmod d).toNat:Nat):Int);omega
   have Z:(jI d x).m=if(x.fdiv 3).fmod 4=1 then(x.fdiv 24).fmod (2*10^6+1)-10^6 else(x.fdiv 24+2).fmod 5-2:=rfl
   generalize (jI d x).i=i at*;generalize (jI d x).j=j at*
   generalize (jI d x).m=f at*;refine st λC g=>?_;ext;refine⟨dvs _ _ ∅ ∅,⋯,?_⟩;rw[c0];subst g;refine st λC g=>?_;ext;rw[c0]at b3;refine⟨dvs _ _ ∅ ∅,⋯,⋯,?_⟩;rw[b3];subst g;refine st λC g=>?_;ext;refine⟨dvs _ _ ∅ ∅,∅,?_⟩;subst g;refine st λC g=>?_;have U:C [some (.ref a),some (.int x),some (.int d),some (.int (0+(n:Int))),some (.int i),some (.int j),some (.int f),l] H2:=by
    subst g;refine st λC g=>?_;simp only[tAsg,gSub,Ai];refine nL λB eB=>?_;simp only[nZ];ext;refine⟨⋯,⋯,λb6 a4=>?_⟩;rw[zS];have a7:b[i]?=some (b.getD i []):=by have:=v.1;simp[show i<b.length by omega]
    have X:b[j]?=some (b.getD j []):=by have:=v.1;simp[show j<b.length by omega]
    have e3:=v.2 _ (zqb a7);have e5:=v.2 _ (zqb X);have a2:f.natAbs<2^20:=by
     have:(2:Nat)^20=1048576:=∅
     omega
    refine kE (λu y _=>u<d/\y=.int ((b.getD i []).getD u 0+f*(b.getD j []).getD u 0)) a4 ⋯ (λ_ _ _ _ r _=>r) ?_ ?_
    ·intro u H3 zs o I f3 c1 d6;subst eB;show tOp _ _ _ [some (.int (0+(u:Int))),some (.ref a),some (.int i),some (.int j),some (.int f)] H3 c1;ext;refine iS (b1:=false) (b2:=false) (m.up I).m.l.b a7 (L2.getD_at (k:=u) ⋯) rfl ⋯ ?_;refine iS (b1:=false) (b2:=false) (m.up I).m.l.b X (L2.getD_at (k:=u) ⋯) rfl ⋯ ?_;ext;exact⟨xL (nW a2) (nW (S _ (zqb X) _ (L2.getD_mem ⋯))) ∅,d6 _ _ (Same.refl _) ⟨o,rfl⟩⟩
    ·intro H3 ys I d9 e0 c8;have W:ys=(mixR d (b.getD i []) (b.getD j []) f).map V.int:=by
      refine mV (by simpa [mixR]using e0) λu y e=>?_;obtain⟨o,rfl⟩:=c8 u y e;exact⟨_,by unfold mixR;rw[zM,xA o];rfl,rfl⟩
     subst W;obtain⟨zs,d3,d1,d7⟩:=MatD.put (i:=i) m.m I a4 (kB m.s a4) d9
     try ext
     refine⟨_,d3,i,Ka (by rw[d1,v.1];omega),?_⟩;have a3:Rw a1 (upd H3 a (.lst (zs.set i (.ref b6)))) a (b.set i (mixR d (b.getD i []) (b.getD j []) f)):=⟨Same.over m.n (m.s.trans I),m.n,d7⟩;generalize upd H3 a (.lst (zs.set i (.ref b6)))=d5 at a3;have d8:(mixR d (b.getD i []) (b.getD j []) f).length=d:=by simp[mixR]
     have G:=We (i:=i) v d8;have c3:nP 170 (b.set i (mixR d (b.getD i []) (b.getD j []) f)):=λr hr z hz=>by
      rcases tN hr with h|h
      ·exact zJ (S r h z hz) (yP ∅ ∅)
      ·rw[h]at hz;obtain⟨u,o,rfl⟩:=pZ.mp hz;have o:=oG.mp o;have b1:=S _ (zqb a7) _ (L2.getD_mem (k:=u) ⋯);have b2:=S _ (zqb X) _ (L2.getD_mem (k:=u) ⋯);have e7:(f*(b.getD j []).getD u 0).natAbs<2^20*2^140:=by rw[xN];exact qV a2 b2
       have f6:=vP ((b.getD i []).getD u 0) (f*(b.getD j []).getD u 0);have e8:(2:Nat)^140+2^20*2^140<=2^170:=∅
       omega
     have c6:aV d i j f b=(b.set i (mixR d (b.getD i []) (b.getD j []) f)).map (colR d i j f):=rfl;generalize b.set i (mixR d (b.getD i []) (b.getD j []) f)=O at*
     obtain⟨zs,b5,c2⟩:∃zs,d5 a=some (.lst zs)/\zs.length=d:=by
      obtain⟨ps,h,hl,_⟩:=a3.m;exact⟨_,h,by rw[zqe,hl,G.1]⟩
     subst g;refine st λC g=>mM λB eB=>?_;simp only[iSeq];ext;refine⟨false,⟨_,SqB.lst b5⟩,?_⟩;refine kQ (g:=oW 7) (tb:=B) (λu q F=>∃l,q=[some (.ref a),some (.int x),some (.int d),some (.int (0+(n:Int))),some (.int i),some (.int j),some (.int f),l]/\Rw a1 F a (colU d i j f O u)/\F a=some (.lst zs)) ⟨_,rfl,by unfold colU;rw[pK];exact a3,b5⟩ (λ_ _ _ _⟨_,_,_,h⟩=>SqB.lst h) ?_ ?_
     ·rintro u y q F W ⟨l,rfl,D,J⟩;have o:u<d:=by have:=(zqa W).1;omega
      obtain⟨rt,a8⟩:∃rt,O[u]?=some rt:=⟨_,zqd (by rw[G.1];exact o)⟩;obtain⟨c5,c9⟩:=Wf (d:=d) (i:=i) (j:=j) (m:=f) a8;have c7:=G.2 _ (zqb a8);obtain⟨f5,p,b7,a9,f4,d4,d0,a6,c4⟩:=D.m.row c5;rw[J]at b7;cases b7;rw[W]at a9;cases a9;subst eB;show tAsg _ _ _ [some (.ref a),some (.int x),some (.int d),some (.int (0+(n:Int))),some (.int i),some (.int j),some (.int f),some (.ref p)] F;simp only[tAsg,gSub,Ai];ext;refine⟨false,p,_,_,_,rfl,rfl,SqB.lst a6,mZ (jA (getD_at (k:=j) ⋯)) rfl,false,p,_,_,_,rfl,rfl,SqB.lst a6,mZ (jA (getD_at (k:=i) ⋯)) rfl,?_⟩;ext;refine⟨xL (nW a2) (nW (c3 rt (zqb a8) _ (L2.getD_mem ⋯))) ∅,?_⟩;refine⟨_,a6,j,Ka (by rw[zqe];omega),?_⟩;have b4:=c4 (colR d i j f rt);rw[c9]at b4;have e:(rt.map V.int).set j (.int (rt.getD j 0-f*rt.getD i 0))=(colR d i j f rt).map V.int:=by rw[←Wg c7 ⋯,List.map_set]
      rw[e];refine⟨⟨Same.over d0 D.s,D.n,b4⟩,?_⟩;rw[oR (yF d4)];exact J
     ·rintro q F ⟨l,rfl,D,J⟩;rw[c2]at D;subst g;ext;refine⟨dvs _ _ ∅ ∅,?_⟩;have e:colU d i j f O d=O.map (colR d i j f):=by
       unfold colU;rw[yR (by rw[G.1];exact zF _),List.drop_of_length_le (by rw[G.1];exact zF _),xQ]
      rw[c6,←e];exact D
   ext;refine⟨dvs _ _ ∅ ∅,∅,ite2 (λz=>?_) (λz=>?_)⟩
   ·rw[zE (xW z)]at Z;refine⟨dvs _ _ ∅ ∅,⟨∅,∅,∅⟩,vG ∅,∅,⟨∅,∅,∅⟩,?_⟩;rw[Z]at U;exact U
   ·rw[zD (by simpa using z)]at Z;rw[Z]at U;exact U
  ·rintro q H2 ⟨v3,Y,a0,N,l,rfl,m⟩;symm;exact d2 H2 m
theorem ok_d(T:Txt K mg t):FnOk P w K mg base CX0 1 t.a_d t.d_d ph' sp_d:=by
 apply T.F_d.ok sc_d
 ·obtain⟨a,b,rfl,k⟩:=h;refine⟨_,(oM (oT (i:=0) sc_d.nd rfl (Or.inl rfl) (mY gG rfl T.z_abs (nofun) (oH (pq 0) oJ)))
   (oM (oT (i:=1) sc_d.nd rfl (Or.inl rfl) (mY gG rfl T.z_abs (nofun) (oH (pq 1) oJ)))
   (oM (cE yG (nE fZ (pq 1) oK (nF _))
   (oO (Mz (i:=0) (j:=1) rfl sc_d.nd rfl rfl ∅ rfl rfl (oH (pq 1) (oH (oN nM (pq 0) (pq 1)) oJ)) rfl)))
   (oO (oY (pq 0)))))),?_⟩
  show tSeq _ _ _ [some (.int a),some (.int b)] H;ext;refine⟨λm d H1=>∃g l,d=[some (.int g),some (.int l)]/\H1=H/\0<=g/\0<=l/\Int.gcd g l=Int.gcd a b/\m=l.toNat,
   ⟨_,_,_,rfl,rfl,aN a,aN b,Hb a b,rfl⟩,?_⟩
  rintro m d H1 ⟨g,l,rfl,rfl,f,hl,e,rfl⟩;ext
  by_cases z:0<l
  ·rw[zQ z];refine iteT ⟨λc H'=>c=[some (.int l),some (.int (g.fmod l))]/\H'=H1,?_,⋯,rfl,rfl⟩;rintro c H' ⟨rfl,rfl⟩;have l1:=rW g z;have l2:=sG g z;exact⟨(g.fmod l).toNat,⋯,_,_,rfl,rfl,hl,l2,by rw[Hc];exact e,rfl⟩
  ·rw[zO z];refine iteF ?_;rw[Ha e f ⋯];exact k
theorem Lx{u:Int}{ns:LI'}{i:Nat}{x:Int}(e:ns[i]?=some x):gcdI (gl u (ns.take i)) x=gl u (ns.take (i+1)):=by
 unfold gl;rw[xJ,e,uX];rfl
theorem Lw{u:Int}{ns:LI'}(a:0<u):gl u ns=cs u ns:=by
 unfold cs;rw[zD ⋯]
theorem Lv{u:Int}{ns:LI'}(b:0<u)(a:lN u)(x:Int):kX x (cs u ns):=by
 have h:=fG ns (show u≠0 by omega);exact⟨h,Iz (Iy a ⋯ (jE (gl_u u ns))) h⟩
theorem ok_q(T:Txt K mg t):FnOk P w K mg base CX0 2 t.a_q t.d_q pc' (sp_q K):=by
 have N:=@ok_d P w K mg base t T;apply T.F_q.ok sc_q
 ·obtain⟨b1,b2,o,a,l,M,ns,u,rfl,D,c,a6,a9,z,U,X⟩:=h;refine⟨_,(oM (oT (i:=3) sc_q.nd rfl (Or.inr rfl) (pq 2))
   (oM (mI yG rfl (nQ (pq 1)) (nS (i:=4) sc_q.nd rfl (Or.inl rfl))
   (oO (oT (i:=3) sc_q.nd rfl (Or.inr rfl) (nA N hr.mo T.F_d (oH (pq 3) (oH (pq 4) oJ))))))
   (oO (oY (lE (oH (mK kO rfl T.z_tuple (nofun) (oH (mD (sc:=oQ dH) (N:=N_q) (fr:=[]) (te:=(tCB (gS K) (nD (tVar 0) tNil))) rfl rfl (nofun) rfl (nofun) (nQ (pq 0)) (λ_ _ _ J=>(mK kO rfl T.z_tuple (nofun) (oH (pv 0) oJ)))) oJ)) (oH (mK kO rfl T.z_tuple (nofun) (oH (mD (sc:=oQ dH) (N:=N_q) (fr:=[("_law_by",3)]) (te:=(tOp (rI kX λi j=>.int (i.fdiv j)) (tVar 0) (tVar 1))) rfl rfl (nofun) rfl (nofun) (nQ (pq 1)) (λ_ _ _ J=>(oN nU (pv 0) (pv 1)))) oJ)) (oH (oN nU (pq 2) (pq 3)) oJ)))))))),?_⟩
  show tSeq _ _ _ [some (.ref a),some (.ref l),some (.int u),none,none] H;right;subst e1;refine st λN1 e1=>mM λB eB=>?_;simp only[iSeq];ext;refine⟨o,⟨_,c⟩,?_⟩;refine kQ (g:=oW 4) (tb:=B) (λi f H2=>∃v,f=[some (.ref a),some (.ref l),some (.int u),some (.int (gl u (ns.take i))),v]/\H2=H) ⟨none,by rw[pK];show _=[_,_,_,some (V.int (absI u)),_];unfold absI;rw[zD ⋯],rfl⟩ (λ_ _ _ _⟨_,_,e⟩=>e ▸ c) ?_ ?_
  ·rintro i y f H2 g ⟨v,rfl,rfl⟩;obtain⟨x,L,rfl⟩:=kP g;subst eB;show tAsg _ _ _ [some (.ref a),some (.ref l),some (.int u),some (.int (gl u (ns.take i))),some (.int x)] H2;ext;refine⟨_,_,rfl,?_⟩;rw[Lx L];exact⟨rfl,rfl⟩
  ·rintro f H2 ⟨v,rfl,rfl⟩;rw[zqe,yR (zF _),Lw z];have C:=Lv (ns:=ns) z U;symm;exfalso;obtain⟨xs,W,_⟩:=D.walk;refine⟨b1,⟨_,W⟩,λR a3=>?_⟩;subst eB;refine Cd D ⋯ a3 λH3 zs Z hz d=>?_;refine⟨R,_,rfl,.inl ⟨SqL.of hz,λl1 q=>?_⟩⟩;have b:Same H2 (upd H3 l1 (.tup zs)):=Z.trans (Same.new q);replace d:=d l1 q;generalize upd H3 l1 (.tup zs)=a7 at b d;exfalso;refine⟨o,⟨_,c.up b⟩,λa0 F=>?_⟩;refine lJ (λj y _=>∃n,ns[j]?=some n/\y=.int (n.fdiv (cs u ns))) F (c.up b) (by rw[zqe];omega) (λ_ _ _ _ r _=>r) ?_ ?_
   ·intro j y m a8 a1 _ _ O Y;obtain⟨n,a5,rfl⟩:=kP a1;subst eB;show tOp _ _ _ [some (.int n),some (.int (cs u ns))] m O;ext;exact⟨C n,Y _ _ (Same.refl _) ⟨n,a5,rfl⟩⟩
   ·intro m ys G a4 a2 I;have g:ys=(redT u ns).map V.int:=by
     unfold redT;rw[xO];exact mV (by simpa using a2) I
    subst g;refine⟨a0,_,rfl,.inl ⟨SqL.of a4,λl2 S=>?_⟩⟩;refine⟨C u,by show 3<=sizeLine;decide,λr k=>?_⟩;have p:=G.trans (Same.new (o:=.tup ((redT u ns).map V.int)) S);exact X r _ ((b.trans p).trans (Same.new k)) ⟨l1,l2,oP,(d.up p).up (Same.new k),Same.new k _ _ oP⟩
theorem ok_o(T:Txt K mg t):FnOk P w K mg base CX0 2 t.a_o t.d_o pc' (sp_o K):=by
 have O:=@ok_d P w K mg base t T;apply T.F_o.ok sc_o
 ·obtain⟨b1,b2,o,a,l,M,ns,u,rfl,D,c,a8,b3,z,X,Z⟩:=h;refine⟨_,(oM (oT (i:=3) sc_o.nd rfl (Or.inr rfl) (pq 2))
   (oM (mI yG rfl (nQ (pq 1)) (nS (i:=4) sc_o.nd rfl (Or.inl rfl))
   (oO (oT (i:=3) sc_o.nd rfl (Or.inr rfl) (nA O hr.mo T.F_d (oH (pq 3) (oH (pq 4) oJ))))))
   (oM (oT (i:=2) sc_o.nd rfl (Or.inr rfl) (oN nU (pq 2) (pq 3)))
   (oO (oY (lE (oH (mK kO rfl T.z_tuple (nofun) (oH (mD (sc:=oQ dG) (N:=N_o) (fr:=[]) (te:=(tCB (gS K) (nD (tVar 0) tNil))) rfl rfl (nofun) rfl (nofun) (nQ (pq 0)) (λ_ _ _ J=>(mK kO rfl T.z_tuple (nofun) (oH (pv 0) oJ)))) oJ)) (oH (mK kO rfl T.z_tuple (nofun) (oH (mD (sc:=oQ dG) (N:=N_o) (fr:=[("_law_under",2),("_law_by",3)]) (te:=(tOp (rI (λ_ j=>j≠0) λi j=>.int (i.fmod j)) (tOp (rI kX λi j=>.int (i.fdiv j)) (tVar 0) (tVar 2)) (tVar 1))) rfl rfl (nofun) rfl (nofun) (nQ (pq 1)) (λ_ _ _ J=>(oN nM (oN nU (pv 0) (pv 2)) (pv 1)))) oJ)) (oH (pq 2) oJ))))))))),?_⟩
  show tSeq _ _ _ [some (.ref a),some (.ref l),some (.int u),none,none] H;right;subst e1;refine st λN1 e1=>mM λB eB=>?_;simp only[iSeq];ext;refine⟨o,⟨_,c⟩,?_⟩;refine kQ (g:=oW 4) (tb:=B) (λi f H2=>∃v,f=[some (.ref a),some (.ref l),some (.int u),some (.int (gl u (ns.take i))),v]/\H2=H) ⟨none,by rw[pK];show _=[_,_,_,some (V.int (absI u)),_];unfold absI;rw[zD ⋯],rfl⟩ (λ_ _ _ _⟨_,_,e⟩=>e ▸ c) ?_ ?_
  ·rintro i y f H2 g ⟨v,rfl,rfl⟩;obtain⟨x,N,rfl⟩:=kP g;subst eB;show tAsg _ _ _ [some (.ref a),some (.ref l),some (.int u),some (.int (gl u (ns.take i))),some (.int x)] H2;ext;refine⟨_,_,rfl,?_⟩;rw[Lx N];exact⟨rfl,rfl⟩
  ·rintro f H2 ⟨v,rfl,rfl⟩;rw[zqe,yR (zF _),Lw z];have C:=Lv (ns:=ns) z X;have up:0<redU u ns:=aM ns ⋯;subst e1;refine st λW L=>?_;ext;refine⟨C u,?_⟩;show W [some (.ref a),some (.ref l),some (.int (redU u ns)),some (.int (cs u ns)),v] H2;subst L;ext;exfalso;obtain⟨xs,Y,_⟩:=D.walk;refine⟨b1,⟨_,Y⟩,λS a5=>?_⟩;subst eB;refine Cd D ⋯ a5 λH3 zs a1 hz d=>?_;refine⟨S,_,rfl,.inl ⟨SqL.of hz,λl1 q=>?_⟩⟩;have b:Same H2 (upd H3 l1 (.tup zs)):=a1.trans (Same.new q);replace d:=d l1 q;generalize upd H3 l1 (.tup zs)=a9 at b d;exfalso;refine⟨o,⟨_,c.up b⟩,λa2 F=>?_⟩;refine lJ (λj y _=>∃n,ns[j]?=some n/\y=.int ((n.fdiv (cs u ns)).fmod (redU u ns))) F (c.up b) (by rw[zqe];omega) (λ_ _ _ _ r _=>r) ?_ ?_
   ·intro j y m b0 a3 _ _ R a0;obtain⟨n,a7,rfl⟩:=kP a3;subst eB;show tOp _ _ _ [some (.int n),some (.int (redU u ns)),some (.int (cs u ns))] m R;ext;exact⟨C n,⋯,a0 _ _ (Same.refl _) ⟨n,a7,rfl⟩⟩
   ·intro m ys G a6 a4 I;have g:ys=(nV (redU u ns) (redT u ns)).map V.int:=by
     unfold nV redT;rw[xO,xO];exact mV (by simpa using a4) I
    subst g;refine⟨a2,_,rfl,.inl ⟨SqL.of a6,λl2 U=>?_⟩⟩;refine⟨by show 3<=sizeLine;decide,λr k=>?_⟩;have p:=G.trans (Same.new (o:=.tup ((nV (redU u ns) (redT u ns)).map V.int)) U);exact Z r _ ((b.trans p).trans (Same.new k)) ⟨l1,l2,oP,(d.up p).up (Same.new k),Same.new k _ _ oP⟩
theorem Wd{N:LM}{ns ts:LI'}{u v:Int}{i:Nat}{r:LI'}{n:Int}(e1:N[i]?=some r)(a:ns[i]?=some n):(movT N ns v ts u)[i]?=some (dotI r ts*v+n*u):=by
 unfold movT;rw[wF,e1,a]
theorem ok_b(T:Txt K mg t):FnOk P w K mg base CX0 4 t.a_b t.d_b ph' (sp_b K):=by
 have b9:=@ok_g P w K mg base t T;have a8:=@ok_o P w K mg base t T;apply T.F_b.ok sc_b
 ·obtain⟨p,q,x,y,d,rfl,I,C,c4,c0,D,d7,a3,b1,c2,c8,S,a1,ty,d8,d4,c3⟩:=h;refine⟨_,(oM (oT (i:=2) sc_b.nd rfl (Or.inl rfl) (nA b9 hr.mo T.F_g (oH (nC (pq 1)) (oH (nC (pq 0)) oJ))))
   (oM (oT (i:=3) sc_b.nd rfl (Or.inl rfl) (nX oJ))
   (oM (mI yG rfl (mH rfl T.z_range (oH (nY T.z_len (pq 2)) oJ)) (nS (i:=4) sc_b.nd rfl (Or.inr rfl))
   (oM (oT (i:=5) sc_b.nd rfl (Or.inl rfl) (mY (cW rfl) rfl T.z_sum (nofun) (oH (mD (sc:=oQ aJ) (N:=N_b) (fr:=[("_law_one",0),("_law_other",1),("_law_i",4)]) (te:=(tOp (rI (λi j=>IntMulOk i j) λi j=>.int (i*j)) (tOp (rIxB K) (tOp (rIxB K) (tOp (rIxB K) (tVar 2) (tC (.int 0))) (tVar 3)) (tVar 0)) (tOp (rIxB K) (tOp (rIxB K) (tVar 1) (tC (.int 1))) (tVar 0)))) rfl rfl (nofun) rfl (nofun) (mH rfl T.z_range (oH (nY T.z_len (pq 2)) oJ)) (λ_ _ _ d5=>(oN nT (nO ix_B (nO ix_B (nC (pv 2)) (pv 3) (λ_ _=>rfl)) (pv 0) (λ_ _=>rfl)) (nO ix_B (nC (pv 1)) (pv 0) (λ_ _=>rfl))))) oJ)))
   (oO (kK (jX xK xZ xY jY (pq 3) (oH (oN mC (oN nT (pq 5) (nC (pq 1))) (oN nT (nO ix_B (nC (pq 1)) (pq 4) (λ_ _=>rfl)) (nC (pq 0)))) oJ))))))
   (oO (oY (nA a8 hr.mo T.F_o (oH (pq 2) (oH (pq 3) (oH (oN nT (nC (pq 0)) (nC (pq 1))) oJ))))))))),?_⟩
  show tSeq _ _ _ [some (.ref p),some (.ref q),none,none,none,none] H;right;refine jS C λr1 a9=>jS I λr2 c7=>?_;refine⟨true,true,true,true,r1,r2,_,_,d,rfl,a9,c7,D,c0,c4,S,c8,λm H1 a6=>?_⟩;have a2:=a6.s;have Y:=a6.m;have N:Sq d (mulM d y.1 x.1):=D.mul;left;refine⟨yB _,λl hl=>?_⟩;have M:Same H1 (upd H1 l (.lst [])):=Same.new hl;have a0:(upd H1 l (.lst [])) l=some (.lst (([]:LI').map V.int)):=oP;generalize upd H1 l (.lst [])=H2 at M a0;have Z:x.2.2.natAbs<2^1000:=by
   have:((2^1000:Nat):Int)=2^1000:=nofun
   omega
  have U:y.2.2.natAbs<2^1000:=by
   have:((2^1000:Nat):Int)=2^1000:=nofun
   omega
  subst e1;refine st λN1 e1=>mM λB eB=>?_;simp only[nZ];ext;refine iU (b1:=false) (b2:=false) (Y.up M).l.b ?_
  try ext
  rw[N.1];refine⟨⋯,⋯,?_⟩;rw[zS];have c9:(movT y.1 y.2.1 y.2.2 x.2.1 x.2.2).length=d:=by unfold movT;rw[xU,D.1,a3,pN]
  refine iR (g:=oW 4) (tb:=B) (λi O H3=>∃W J,O=[some (.ref p),some (.ref q),some (.ref m),some (.ref l),W,J]/\Same H1 H3/\H3 l=some (.lst (((movT y.1 y.2.1 y.2.2 x.2.1 x.2.2).take i).map V.int))) ⟨none,none,rfl,M,a0⟩ ?_ ?_
  ·rintro i O H3 hi ⟨W,J,rfl,o,u⟩;obtain⟨r,F⟩:∃r,y.1[i]?=some r:=⟨_,zqd (by rw[D.1];exact hi)⟩;obtain⟨n,R⟩:∃n,y.2.1[i]?=some n:=⟨_,zqd (by rw[a3];exact hi)⟩;have b0:=D.2 _ (zqb F);have b:=a2.trans o;subst eB;show tSeq _ _ _ [some (.ref p),some (.ref q),some (.ref m),some (.ref l),some (.int (0+(i:Int))),J] H3;refine st λb6 b3=>?_;ext;refine nL λB eB=>?_;simp only[nZ];ext;refine iU (b1:=false) (b2:=false) (Y.up o).l.b ?_
   try ext
   rw[N.1];refine⟨⋯,⋯,λc6 a7=>?_⟩;rw[zS];refine kE (len:=d) (λk z _=>∃v,(List.zipWith (·*·) r x.2.1)[k]?=some v/\z=.int v) a7 ⋯ (λ_ _ _ _ r _=>r) ?_ ?_
   ·intro k c zs d6 a d3 b5 c5;obtain⟨g,L⟩:∃g,r[k]?=some g:=⟨_,zqd ⋯⟩;obtain⟨f,X⟩:∃f,x.2.1[k]?=some f:=⟨_,zqd ⋯⟩;subst eB;show tOp _ _ _ [some (.int (0+(k:Int))),some (.ref p),some (.ref q),some (.int (0+(i:Int)))] c b5;ext;refine jS (C.up (b.trans a)) λd2 b2=>iS b2 F L ⋯ ⋯ ?_;refine hX (I.up (b.trans a)) λa4 d0=>⟨true,a4,_,_,_,rfl,rfl,(d0:SqB true K c a4 _),mZ (jA X) ⋯,?_⟩;ext;refine⟨xL (nW (S _ (zqb F) _ (zqb L))) (nW (a1 _ (zqb X))) ∅,c5 _ _ (Same.refl _) ⟨_,?_,rfl⟩⟩;rw[wF,L,X]
   ·intro c ys a b4 d9 G;have b7:ys=(List.zipWith (·*·) r x.2.1).map V.int:=by
     refine mV (by simp only[zqe,List.length_zipWith];omega) λk z e=>?_;obtain⟨v,d1,rfl⟩:=G k z e;exact⟨v,d1,rfl⟩
    subst b7;refine⟨c6,rfl,_,SqL.of b4,?_⟩;show b6 [some (.ref p),some (.ref q),some (.ref m),some (.ref l),some (.int (0+(i:Int))),some (.int (dotI r x.2.1))] c;have c1:(dotI r x.2.1).natAbs<2^2002:=by
     have:=aO r x.2.1 (S r (zqb F)) a1;rw[b0]at this;have e:(2:Nat)^2002=4*2^(1000+1000):=by rw[show 2002=1000+1000+2 by rfl,uS _ (1000+1000) 2,qR]
     have:=rB (1000+1000);omega
    subst b3;ext;refine⟨.inl ⟨rfl,_,SqL.of (a _ _ u)⟩,?_⟩;refine jG (C.up (b.trans a)) ?_;ext;refine⟨xL (nW c1) (nW U) ∅,?_⟩;refine hX (C.up (b.trans a)) λa5 b8=>⟨true,a5,_,_,_,rfl,rfl,(b8:SqB true K c a5 _),mZ (jA R) ⋯,?_⟩;refine jG (I.up (b.trans a)) ?_;ext;refine⟨xL (nW (ty _ (zqb R))) (nW Z) ∅,?_⟩;refine⟨l,_,_,rfl,rfl,a _ _ u,kL (by rw[zqe,yI];omega),?_⟩;refine⟨Same.over hl (o.trans a),?_⟩;rw[oP,xJ,Wd F R,yV];rfl
  ·rintro O H3 ⟨W,J,rfl,o,u⟩;rw[yR ⋯]at u;subst e1;have b:=a2.trans o;ext;refine jG (I.up b) (jG (C.up b) ?_);ext;refine⟨xL (nW Z) (nW U) ∅,?_⟩;refine⟨false,false,false,m,l,_,_,_,rfl,(Y.up o).l.b,SqB.lst u,by rw[N.1];omega,by rw[c9];omega,xT b1 c2,?_,λr c a G=>?_⟩
   ·show(x.2.2*y.2.2).natAbs<2^8990;rw[xN];refine zJ (qV Z U) ?_;rw[←uS];exact yP ∅ ∅
   ·refine c3 r c (b.trans a) ?_;rw[wV]at G;exact G
theorem ok_2(T:Txt K mg t):FnOk P w K mg base CX0 2 t.a_2 t.d_2 pk' (sp_2 K):=by
 apply T.F_2.ok sc_2
 ·obtain⟨p,c,x,d,rfl,m,a4,D,a0,a6,L,R⟩:=h;refine⟨_,(oM (oT (i:=2) sc_2.nd rfl (Or.inl rfl) (nX oJ))
   (oM (mI yG rfl (mH rfl T.z_range (oH (nY T.z_len (nC (pq 0))) oJ)) (nS (i:=3) sc_2.nd rfl (Or.inl rfl))
   (oO (kK (jX xK xZ xY jY (pq 2) (oH (oN mC (nO ix_B (nC (pq 0)) (pq 3) (λ_ _=>rfl)) (oN nT (nC (pq 0)) (oN jN (oN nM (oN mC (oN nU (pq 1) (oN mC (pq 3) oK)) oK) oK) oK))) oJ)))))
   (oO (oY (lE (oH (nC (pq 0)) (oH (mK kO rfl T.z_tuple (nofun) (oH (pq 2) oJ)) (oH (nC (pq 0)) oJ)))))))),?_⟩
  show tSeq _ _ _ [some (.ref p),some (.int c),none,none] H;have Z:x.2.2.natAbs<2^1000:=by
   have:((2^1000:Nat):Int)=2^1000:=nofun
   omega
  right;refine⟨yB _,λl hl=>?_⟩;have u:Same H (upd H l (.lst [])):=Same.new hl;have F:(upd H l (.lst [])) l=some (.lst (([]:LI').map V.int)):=oP;generalize upd H l (.lst [])=H2 at u F;subst e1;refine st λN1 e1=>mM λB eB=>?_;simp only[nZ];ext;refine hX (m.up u) λr1 J=>⟨true,r1,_,rfl,(J:SqB true K H2 r1 _),_,rfl,by rw[zqe];omega,by rw[zqe];omega,?_⟩;rw[zqe,zS,D];have app:∀{ts:LI'}{i:Nat}{n z:Int},(ts.length=i/\∀(j:Nat) t,ts[j]?=some t->∃n,x.2.1[j]?=some n/\x.2.2∣t-n/\t.natAbs<2^1010)->x.2.1[i]?=some n->z.natAbs<=3->((ts++[n+x.2.2*z]).length=i+1/\∀(j:Nat) t,(ts++[n+x.2.2*z])[j]?=some t->∃n,x.2.1[j]?=some n/\x.2.2∣t-n/\t.natAbs<2^1010):=by
   intro ts i n z h f hz;refine⟨by rw[zX,h.1];rfl,λj t e=>?_⟩
   by_cases y:j<ts.length
   ·rw[yA y]at e;exact h.2 j t e
   ·have X:j=i:=by have:=(zqa e).1;rw[zX]at this;have:=h.1;simp only[List.length_cons,List.length_nil]at*;omega
    subst X;rw[zT (by have:=h.1;omega),h.1,wX]at e;cases e;refine⟨n,f,⟨z,⋯⟩,?_⟩;have b1:=L n (zqb f);have b2:(x.2.2*z).natAbs<=2^1000*3:=by rw[xN];exact vF (wO Z) hz
    have a2:=vP n (x.2.2*z);have a5:(2:Nat)^1010=1024*2^1000:=by rw[show 1010=1000+10 by rfl,uS,qR]
    have:=rB 1000;omega
  refine iR (g:=oW 3) (tb:=B) (λi v H3=>∃(ts:LI')(v3:Option V),v=[some (.ref p),some (.int c),some (.ref l),v3]/\Same H H3/\H3 l=some (.lst (ts.map V.int))/\(ts.length=i/\∀(j:Nat) t,ts[j]?=some t->∃n,x.2.1[j]?=some n/\x.2.2∣t-n/\t.natAbs<2^1010)) ⟨[],none,rfl,u,F,rfl,λj t e=>by simp at e⟩ ?_ ?_
  ·rintro i v H3 hi ⟨ts,v3,rfl,g,q,k⟩;obtain⟨n,f⟩:∃n,x.2.1[i]?=some n:=⟨_,zqd (by rw[D];exact hi)⟩;subst eB;show fV _ _ [some (.ref p),some (.int c),some (.ref l),some (.int (0+(i:Int)))] H3;ext;refine⟨.inl ⟨rfl,_,SqL.of q⟩,?_⟩;refine hX (m.up g) λI O=>⟨true,I,_,_,_,rfl,rfl,(O:SqB true K H3 I _),mZ (jA f) ⋯,?_⟩;refine jG (m.up g) ?_;ext;have a1:=fms (c.fdiv (0+(i:Int)+2)+3) 7 ∅;refine⟨dvs _ _ ⋯ ⋯,∅,(show CMul _ _ from .inr ⟨⋯,⋯⟩).ok,?_⟩;refine⟨l,_,_,rfl,rfl,q,kL (by rw[zqe,k.1];omega),?_⟩;refine⟨Same.over hl g,ts++[n+x.2.2*((c.fdiv (0+(i:Int)+2)+3).fmod 7-3)],by rw[oP,yV];rfl,?_⟩;exact app k f ⋯
  ·rintro v H3 ⟨ts,v3,rfl,g,q,k⟩;symm;refine jS (m.up g) λU W=>?_;refine⟨l,_,rfl,.inl ⟨SqL.of q,λl2 N=>?_⟩⟩;have o:=Same.new (o:=.tup (ts.map V.int)) N;have G:(upd H3 l2 (.tup (ts.map V.int))) l2=some (.tup (ts.map V.int)):=oP;generalize upd H3 l2 (.tup (ts.map V.int))=a3 at o G;refine jG (m.up (g.trans o)) ⟨by show 3<=sizeLine;decide,λr C=>?_⟩;refine R r _ ts ((g.trans o).trans (Same.new C)) ⟨U,l2,SqT.of oP,(W.up o).up (Same.new C),SqT.of (Same.new C _ _ G)⟩ ⟨by rw[k.1,D],λj a b S M=>?_⟩ λz hz=>?_
   ·obtain⟨n,f,Y,_⟩:=k.2 j a S;rw[M]at f;cases f;exact Y
   ·obtain⟨j,y⟩:=yX hz;exact(k.2 j z y).choose_spec.2.2
theorem gE{K:Frag}{H H':Hp}{p:Addr}{xs:List V}(h:SqL K H p xs)(s:Same H H'):SqL K H' p xs:=SqB.up (b:=false) h s
theorem ok_f(T:Txt K mg t):FnOk P w K mg base CX0 5 t.a_f t.d_f pa' (sp_f K):=by
 have a7:=@ok_4 P w K mg base t T;have e4:=@ok_s P w K mg base t T;have f9:=@ok_e P w K mg base t T;have e2:=@ok_q P w K mg base t T;apply T.F_f.ok sc_f
 ·obtain⟨p,q,l,cs,F,L,d,G,so,rfl,b3,N,b7,f5,e6,a2,e8,g0,d6,e5⟩:=h;refine⟨_,(oM (oT (i:=5) sc_f.nd rfl (Or.inl rfl) (nA a7 hr.mo T.F_4 (oH (pq 0) (oH (pq 1) oJ))))
   (oM (oT (i:=6) sc_f.nd rfl (Or.inr rfl) (nA f9 hr.mo T.F_e (oH (nA e4 hr.mo T.F_s (oH (pq 4) (oH (oN nU (pq 5) oK) (oH (pq 2) oJ)))) (oH (mY gG rfl T.z_abs (nofun) (oH (nA a7 hr.mo T.F_4 (oH (pq 0) (oH oK oJ))) oJ)) oJ))))
   (oM (oT (i:=7) sc_f.nd rfl (Or.inl rfl) (nA a7 hr.mo T.F_4 (oH (pq 0) (oH (oN mC (pq 1) oK) oJ))))
   (oM (oT (i:=8) sc_f.nd rfl (Or.inl rfl) (nO ix_B (nX (oH oK (oH oK (oH oK (oH oK (oH oK (oH oK oJ))))))) (oN nM (pq 7) oK) (λ_ _=>rfl)))
   (oM (nK (PW.pt (fU (nE lG (pq 4) oK (nF _)) (fT (nE lG (oN nM (oN nU (pq 7) oK) oK) oK (nF _)))))
   (oO (oT (i:=8) sc_f.nd rfl (Or.inl rfl) (oN mC oK (oN nM (oN nU (pq 7) oK) oK))))
   nJ)
   (oM (oT (i:=9) sc_f.nd rfl (Or.inl rfl) (nX oJ))
   (oM (mI yG rfl (mH rfl T.z_range (oH (pq 2) oJ)) (nS (i:=10) sc_f.nd rfl (Or.inr rfl))
   (oM (oT (i:=11) sc_f.nd rfl (Or.inl rfl) (oN jN (nO ix_B (nC (pq 3)) (pq 10) (λ_ _=>rfl)) (mY (cW rfl) rfl T.z_sum (nofun) (oH (mD (sc:=oQ aI) (N:=N_f) (fr:=[("_law_spot",3),("_law_rows_here",6),("_law_i",10)]) (te:=(tOp (rI (λi j=>IntMulOk i j) λi j=>.int (i*j)) (tOp (rIxB K) (tOp (rIxB K) (tVar 2) (tVar 3)) (tVar 0)) (tOp (rIxB K) (tOp (rIxB K) (tVar 1) (tC (.int 0))) (tVar 0)))) rfl rfl (nofun) rfl (nofun) (mH rfl T.z_range (oH (pq 2) oJ)) (λ_ _ _ g8=>(oN nT (nO ix_B (nO ix_B (pv 2) (pv 3) (λ_ _=>rfl)) (pv 0) (λ_ _=>rfl)) (nO ix_B (nC (pv 1)) (pv 0) (λ_ _=>rfl))))) oJ))))
   (oO (kK (jX xK xZ xY jY (pq 9) (oH (oN mC (oN nT (oN nM (oN nU (pq 7) (oN mC oK (oN nT oK (pq 10)))) (pq 8)) (nC (pq 3))) (oN nT (pq 11) (pq 8))) oJ))))))
   (oO (oY (nA e2 hr.mo T.F_q (oH (pq 6) (oH (pq 9) (oH (oN nT (pq 8) (nC (pq 3))) oJ))))))))))))),?_⟩
  show tSeq _ _ _ [some (.ref p),some (.int L),some (.int d),some (.ref q),some (.int so),none,none,none,none,none,none,none] H;right;refine⟨p,cs,_,rfl,b3,⋯,?_⟩;generalize cs.getD (Int.toNat (L:Int)) 0=x;left;refine⟨dvs _ _ ∅ ∅,?_⟩;refine⟨so,_,d,rfl,N,d6,λa H1 R b9 a1=>?_⟩;obtain⟨M,c6⟩:=Kf (so:=so) N;refine⟨p,cs,_,rfl,gE b3 b9.s,∅,?_⟩;ext;show sp_e [.ref a,.int (absI (cs.getD 2 0))] H1 _ _;refine⟨a,_,famK so d,R,H,rfl,c6,a1,b9,λH2 b5=>?_⟩;rw[M]at b5;have c2:∀s∈jJ d (absI (cs.getD 2 0)),s.Ok d:=(fO N _).1;have g1:(jJ d (absI (cs.getD 2 0))).length<=3:=by
   unfold jJ;rw[(fO N _).2];have:=fms (absI (cs.getD 2 0)) 4 ∅;omega
  generalize hLL:jJ d (absI (cs.getD 2 0))=o at*;have a9:Sq d (cjM d (chP d o) (chQ d o) R):=gC (kU N c2) R;have d8:nP 140 (cjM d (chP d o) (chQ d o) R):=by
   have:=dY (F:=⟨famK so d,o,1⟩) ⟨c6,by show∀s∈o,s.Ok (famD (famK so d));rw[M];exact c2,g1,by show(0:Int)<1;decide,by show(1:Int)<2^100;decide⟩ a1;unfold Fr4.cj at this;rw[M]at this;exact this
  have f7:∀(ts:LI')(u:Int),ts.length=d->lV 250 ts->0<u->u<=200->Mkr (famK so d) o G (cjM d (chP d o) (chQ d o) R,redT (u*G) ts,redU (u*G) ts):=λts u a b c e=>⟨R,a1,ts,u,by rw[M];exact a,b,c,e,by rw[M]⟩;generalize cjM d (chP d o) (chQ d o) R=C at*
  left;refine⟨p,cs,_,rfl,gE b3 b5.s,⋯,?_⟩;generalize cs.getD (Int.toNat ((L:Int)+1)) 0=m;left;have g3:=fms m 6 ∅;refine⟨by show 6<=sizeLine;decide,λz hz=>?_⟩;have c1:=Same.new (o:=.lst [V.int 1,.int 2,.int 2,.int 3,.int 4,.int 6]) hz;have d0:(upd H2 z (.lst [V.int 1,.int 2,.int 2,.int 3,.int 4,.int 6])) z=some (.lst [V.int 1,.int 2,.int 2,.int 3,.int 4,.int 6]):=oP;generalize upd H2 z (.lst [V.int 1,.int 2,.int 2,.int 3,.int 4,.int 6])=H3 at c1 d0;have b6:=b5.up c1;obtain⟨U,Z,e9,d5,f4,e7⟩:∃(U:Nat)(Z:Int),m.fmod 6=U/\[V.int 1,.int 2,.int 2,.int 3,.int 4,.int 6][U]?=some (.int Z)/\0<Z/\Z<=200:=by
   rcases(show m.fmod 6=0\/m.fmod 6=1\/m.fmod 6=2\/m.fmod 6=3\/m.fmod 6=4\/m.fmod 6=5 by omega) with e|e|e|e|e|e <;> rw[e]
   ·exact⟨0,1,rfl,rfl,∅,∅⟩
   ·exact⟨1,2,rfl,rfl,∅,∅⟩
   ·exact⟨2,2,rfl,rfl,∅,∅⟩
   ·exact⟨3,3,rfl,rfl,∅,∅⟩
   ·exact⟨4,4,rfl,rfl,∅,∅⟩
   ·exact⟨5,6,rfl,rfl,∅,∅⟩
  refine⟨∅,fJ (i:=U) d0 d5 e9 ?_⟩;subst e1;refine st λN1 e1=>?_;have a5:∀u:Int,0<u->u<=200->N1 [some (.ref p),some (.int L),some (.int d),some (.ref q),some (.int so),some (.int x),some (.ref a),some (.int m),some (.int u),none,none,none] H3:=by
   intro u a6 c9;left;refine⟨yB _,λD d1=>?_⟩;have c3:Same H3 (upd H3 D (.lst [])):=Same.new d1;have c5:(upd H3 D (.lst [])) D=some (.lst (([]:LI').map V.int)):=oP;generalize upd H3 D (.lst [])=g9 at c3 c5;subst e1;refine st λN1 e1=>mM λB eB=>?_;simp only[nZ];ext;refine⟨⋯,⋯,?_⟩;rw[zS];refine iR (g:=oW 10) (tb:=B) (λi a4 J=>∃(ts:LI')(b4 S:Option V),a4=[some (.ref p),some (.int L),some (.int d),some (.ref q),some (.int so),some (.int x),some (.ref a),some (.int m),some (.int u),some (.ref D),b4,S]/\Same H3 J/\J D=some (.lst (ts.map V.int))/\ts.length=i/\lV 250 ts) ⟨[],none,none,rfl,c3,c5,rfl,λ_ h=>(by cases h)⟩ ?_ ?_
   ·rintro i a4 J hi ⟨ts,b4,S,rfl,X,W,lt,b0⟩;have I:=b6.up X;have a0:=I.s _ _ b7;have c4:=I.s _ _ f5;obtain⟨r,a8⟩:∃r,C[i]?=some r:=⟨_,zqd (by rw[a9.1];exact hi)⟩;obtain⟨n,b8⟩:∃n,F[i]?=some n:=⟨_,zqd (by rw[e6];exact hi)⟩;have d9:=a9.2 _ (zqb a8);have g5:=a2 n (zqb b8);subst eB;show tSeq _ _ _ [some (.ref p),some (.int L),some (.int d),some (.ref q),some (.int so),some (.int x),some (.ref a),some (.int m),some (.int u),some (.ref D),some (.int (0+(i:Int))),S] J;refine st λh2 f0=>?_;ext;have c8:∀{H':Hp}{O:VK},Same J H'->O (.ref l) H'->rIxB K (.ref q) (.int 0) H' O:=λs h=>⟨true,q,_,_,_,rfl,rfl,SqB.tup (s _ _ a0),rfl,h⟩;refine c8 (Same.refl _) ?_;refine⟨false,l,_,_,_,rfl,rfl,SqB.lst c4,mZ (jA b8) ⋯,?_⟩;refine nL λB eB=>?_;simp only[nZ];ext;refine⟨⋯,⋯,λf3 d3=>?_⟩;rw[zS];refine kE (len:=d) (λk z _=>∃v,(List.zipWith (·*·) r F)[k]?=some v/\z=.int v) d3 ⋯ (λ_ _ _ _ r _=>r) ?_ ?_
    ·intro k Y zs h0 y h1 O f2;obtain⟨g,c7⟩:∃g,r[k]?=some g:=⟨_,zqd ⋯⟩;obtain⟨f,a3⟩:∃f,F[k]?=some f:=⟨_,zqd ⋯⟩;have h5:=a2 f (zqb a3);subst eB;show tOp _ _ _ [some (.int (0+(k:Int))),some (.ref q),some (.ref a),some (.int (0+(i:Int)))] Y O;ext;refine iS (b1:=false) (b2:=false) (I.up y).m.l.b a8 c7 ⋯ ⋯ ?_;refine c8 y ⟨false,l,_,_,_,rfl,rfl,SqB.lst (y _ _ c4),mZ (jA a3) ⋯,?_⟩;ext;refine⟨(show CMul _ _ from .inr ⟨⋯,⋯⟩).ok,f2 _ _ (Same.refl _) ⟨_,?_,rfl⟩⟩;rw[wF,c7,a3]
    ·intro Y ys y e0 h6 f6;have f1:ys=(List.zipWith (·*·) r F).map V.int:=by
      refine mV (by simp only[zqe,List.length_zipWith];omega) λk z e=>?_;obtain⟨v,d7,rfl⟩:=f6 k z e;exact⟨v,d7,rfl⟩
     subst f1;refine⟨f3,rfl,_,SqL.of e0,?_⟩
     try ext
     have h4:(dotI r F).natAbs<2^160:=by
      have:=aO r F (d8 r (zqb a8)) (C:=10) λz hz=>by have:=a2 z hz;show z.natAbs<1024;omega
      rw[d9]at this;have e:(2:Nat)^160=1024*2^(140+10):=∅
      omega
     have d4:(List.zipWith (·*·) r F).sum=dotI r F:=rfl;rw[d4];generalize dotI r F=dd at*
     subst f0;ext;have f8:=fms (m.fdiv (6+7*(0+(i:Int)))) u a6;refine⟨.inl ⟨rfl,_,SqL.of (y _ _ W)⟩,vG ∅,dvs _ _ ⋯ ⋯,⋯,true,q,_,_,_,rfl,rfl,SqB.tup (y _ _ a0),rfl,?_⟩;ext;refine⟨(show CMul _ _ from .inl ⟨⋯,⋯⟩).ok,(show CMul _ _ from .inr ⟨⋯,⋯⟩).ok,?_⟩;refine⟨D,_,_,rfl,rfl,y _ _ W,kL (by rw[zqe,lt];omega),Same.over d1 (X.trans y),ts++[(m.fdiv (6+7*(0+(i:Int)))).fmod u*G+(n-dd)*u],by rw[oP,yV];rfl,by rw[zX,lt];rfl,λz hz=>?_⟩;rcases oB.mp hz with h|h
     ·exact b0 z h
     ·rw[rX.mp h];generalize (m.fdiv (6+7*(0+(i:Int)))).fmod u=d2 at f8;have b1:(d2*G).natAbs<=200*1000:=by rw[xN];exact vF ⋯ ⋯
      have b2:((n-dd)*u).natAbs<=(1000+2^160)*200:=by rw[xN];exact vF ⋯ ⋯
      have g4:=vP (d2*G) ((n-dd)*u);have h3:200*1000+(1000+2^160)*200<2^250:=∅
      omega
   ·rintro a4 J ⟨ts,b4,S,rfl,X,W,lt,b0⟩;have I:=b6.up X;have a0:=I.s _ _ b7;symm;refine⟨true,q,_,_,_,rfl,rfl,SqB.tup a0,rfl,?_⟩;ext;refine⟨(show CMul _ _ from .inl ⟨⋯,⋯⟩).ok,?_⟩;have e3:0<u*G:=xT a6 e8;have g6:u*G<=200*1000:=tU c9 g0 ⋯ ⋯;refine⟨false,false,false,a,D,_,ts,_,rfl,I.m.l.b,SqB.lst W,by rw[a9.1];omega,⋯,e3,Ce (B:=20) (by show _<1048576;omega) ∅,λr Y y g2=>?_⟩;exact e5 r Y _ (I.s.trans y) g2 (f7 ts u lt b0 a6 c9)
  ext;have g7:=fms (m.fdiv 24) 200 ∅;have c0:kX m 24:=dvs _ _ ∅ ∅;refine ite2 (λ_=>⟨c0,∅,a5 _ ⋯ ⋯⟩) (λ_=>⟨dvs _ _ ∅ ∅,∅,ite2 (λ_=>⟨c0,∅,a5 _ ⋯ ⋯⟩) (λ_=>a5 _ f4 e7)⟩)
theorem Lu{P:Int->Prop}:∀{ys:List V}{H:Hp},(∀(j:Nat) y,ys[j]?=some y->∃v:Int,y=.int v/\P v)->∃S:LI',ys=S.map V.int/\∀z∈S,P z
 |[],_,_=>⟨[],rfl,λ_ h=>(by cases h)⟩
 |y:: ys,H,h=>by
  obtain⟨v,rfl,p⟩:=h 0 y rfl;obtain⟨S,rfl,k⟩:=Lu (P:=P) (ys:=ys) (H:=H) λj y e=>h (j+1) y (by simpa using e);exact⟨v:: S,rfl,λz hz=>by rcases xC.mp hz with rfl|hz;exact p;exact k z hz⟩
theorem Ls{a:Addr}{H:Hp}{F:Dd->Prop}:∀{ys:List V},(∀(j:Nat) y,ys[j]?=some y->∃q m,y=.ref q/\DdAt K (offH a H) q m/\F m)->∃(b:LA)(ms:List Dd),ys=b.map V.ref/\Paired (DdAt K H) b ms/\∀m∈ms,F m
 |[],_=>⟨[],[],rfl,.nil,λ_ h=>(by cases h)⟩
 |y:: ys,h=>by
  obtain⟨q,m,rfl,k,f⟩:=h 0 y rfl;obtain⟨b,ms,rfl,c,hf⟩:=Ls (ys:=ys) λj y e=>h (j+1) y (by simpa using e);exact⟨q:: b,m:: ms,rfl,.cons (k.up Dx) c,λz hz=>by rcases xC.mp hz with rfl|hz;exact f;exact hf z hz⟩
theorem ok_a(T:Txt K mg t):FnOk P w K mg base CX0 6 t.a_a t.d_a pt' (sp_a K):=by
 have Y:=@ok_4 P w K mg base t T;have a9:=@ok_f P w K mg base t T;apply T.F_a.ok sc_a
 ·obtain⟨p,cs,rfl,o,b7⟩:=h;refine⟨_,(oM (oT (i:=1) sc_a.nd rfl (Or.inl rfl) (nA Y hr.mo T.F_4 (oH (pq 0) (oH oK oJ))))
   (oM (oT (i:=2) sc_a.nd rfl (Or.inr rfl) (oN mC oK (oN nM (pq 1) oK)))
   (oM (oT (i:=3) sc_a.nd rfl (Or.inr rfl) (nA Y hr.mo T.F_4 (oH (pq 0) (oH oK oJ))))
   (oM (oT (i:=4) sc_a.nd rfl (Or.inr rfl) (oN mC oK (oN nM (pq 3) oK)))
   (oM (nK (nE lG (oN nM (oN nU (pq 3) oK) oK) oK (nF _))
   (oO (oT (i:=4) sc_a.nd rfl (Or.inr rfl) (oN mC oK (oN nM (oN nU (pq 3) oK) oK))))
   nJ)
   (oM (oT (i:=5) sc_a.nd rfl (Or.inr rfl) (lE (oH (mD (sc:=oQ dI) (N:=N_a) (fr:=[("_law_cell",3),("_law_under",4)]) (te:=(tOp (rI (λ_ j=>j≠0) λi j=>.int (i.fmod j)) (tOp (rI kX λi j=>.int (i.fdiv j)) (tVar 1) (tOp (rI0 λi j=>.int (i+j)) (tC (.int 5)) (tOp (rI (λi j=>IntMulOk i j) λi j=>.int (i*j)) (tC (.int 3)) (tVar 0)))) (tVar 2))) rfl rfl (nofun) rfl (nofun) (mH rfl T.z_range (oH (pq 2) oJ)) (λ_ _ _ a2=>(oN nM (oN nU (pv 1) (oN mC oK (oN nT oK (pv 0)))) (pv 2)))) (oH (pq 4) oJ))))
   (oM (oT (i:=6) sc_a.nd rfl (Or.inr rfl) (oN nM (oN nU (pq 1) oK) oK))
   (oM (oT (i:=7) sc_a.nd rfl (Or.inl rfl) (oN jN oK (oN nM (oN nU (pq 1) oK) oK)))
   (oO (oY (nX (oH (pq 2) (oH (mD (sc:=oQ dI) (N:=N_a) (fr:=[("_law_script",0),("_law_d",2),("_law_spot",5),("_law_sort",6)]) (te:=(lF (sp_f K) [] E0 (nD (tVar 1) (nD (tOp (rI0 λi j=>.int (i+j)) (tC (.int 4)) (tOp (rI (λi j=>IntMulOk i j) λi j=>.int (i*j)) (tC (.int 2)) (tVar 0))) (nD (tVar 2) (nD (tVar 3) (nD (tVar 4) tNil))))))) rfl rfl (nofun) rfl (nofun) (mH rfl T.z_range (oH (pq 7) oJ)) (λ_ _ _ a2=>(nA a9 hr.mo T.F_f (oH (pv 1) (oH (oN mC oK (oN nT oK (pv 0))) (oH (pv 2) (oH (pv 3) (oH (pv 4) oJ)))))))) oJ))))))))))))),?_⟩
  show tSeq _ _ _ [some (.ref p),none,none,none,none,none,none,none] H;right;refine⟨p,cs,_,rfl,o,∅,?_⟩;generalize cs.getD (Int.toNat 0) 0=a;left;have c9:=fms a 2 ∅;obtain⟨d,c4,n⟩:∃d:Nat,2+a.fmod 2=(d:Int)/\(d=2\/d=3):=⟨(2+a.fmod 2).toNat,⋯,⋯⟩;refine⟨∅,?_⟩;rw[c4];left;refine⟨p,cs,_,rfl,o,∅,?_⟩;generalize cs.getD (Int.toNat 3) 0=g;left;have c8:=fms g 12 ∅;refine⟨∅,?_⟩;subst e1;refine st λN1 e1=>?_;have S:∀u:Int,0<u->u<=1000->N1 [some (.ref p),some (.int a),some (.int d),some (.int g),some (.int u),none,none,none] H:=by
   intro u I L;left;refine nL λB eB=>?_;simp only[nZ];ext;refine⟨⋯,⋯,λl hl=>?_⟩;rw[zS];refine kE (len:=d) (λk y _=>∃v:Int,y=.int v/\0<=v/\v<u) hl ⋯ (λ_ _ _ _ r _=>r) ?_ ?_
   ·intro k H1 zs b4 U M D F;subst eB;show tOp _ _ _ [some (.int (0+(k:Int))),some (.int g),some (.int u)] H1 D;ext;have b2:=fms (g.fdiv (5+3*(0+(k:Int)))) u I;exact⟨vG ∅,dvs _ _ ⋯ ⋯,⋯,F _ _ (Same.refl _) ⟨_,rfl,b2⟩⟩
   ·intro H1 ys U a1 J a5;obtain⟨c,a0,a7⟩:∃c:LI',ys=c.map V.int/\∀z∈c,0<=z/\z<u:=Lu (H:=H) a5;subst a0;have b8:c.length=d:=by simpa using J
    refine⟨by show 2<=sizeLine;decide,λq c3=>?_⟩;have C:=Same.new (o:=.tup [V.ref l,.int u]) c3;have O:(upd H1 q (.tup [V.ref l,.int u])) q=some (.tup [V.ref l,.int u]):=oP;generalize upd H1 q (.tup [V.ref l,.int u])=H2 at C O;have a3:=C _ _ a1;have X:=U.trans C;left;have R:=fms (a.fdiv 8) 5 ∅;refine⟨dvs _ _ ∅ ∅,∅,?_⟩;generalize (a.fdiv 8).fmod 5=so at R;left;have c5:=fms (a.fdiv 2) 4 ∅;refine⟨dvs _ _ ∅ ∅,∅,?_⟩;obtain⟨b9,c2,c6⟩:∃m:Nat,3-(a.fdiv 2).fmod 4=(m:Int)/\m<=3:=⟨(3-(a.fdiv 2).fmod 4).toNat,⋯,⋯⟩;rw[c2];symm;refine nL λB eB=>?_;simp only[nZ];ext;refine⟨⋯,⋯,λG Z=>?_⟩;rw[zS];refine kE (len:=b9) (λ_ y H3=>∃q m,y=.ref q/\DdAt K (offH G H3) q m/\Mkr (famK so d) (jJ d (absI (cs.getD 2 0))) u m) Z ⋯ (λ_ _ _ _⟨q,m,e,h,k⟩b1=>⟨q,m,e,h.up (dO b1),k⟩) ?_ ?_
    ·intro k H3 zs b4 f M D F;subst eB;show lF _ _ _ _ [some (.int (0+(k:Int))),some (.ref p),some (.int d),some (.ref q),some (.int so)] H3 D;ext;refine⟨vG ∅,?_⟩;refine⟨p,q,l,cs,c,4+2*k,d,u,so,by rw[show((4+2*k:Nat):Int)=4+2*(0+(k:Int)) by omega],gE o (X.trans f),n,f _ _ O,f _ _ a3,b8,λz hz=>?_,I,L,R.1,λr c7 x b a6 c1=>F _ _ b ⟨r,x,rfl,DdAt.tk a6 (aR (b _ _ M)),c1⟩⟩;have:=a7 z hz;omega
    ·intro H3 ys f a4 J a8;obtain⟨b0,ms,rfl,W,b3⟩:=Ls a8;refine⟨by show 2<=sizeLine;decide,λr b6=>?_⟩;have b:=Same.new (o:=.lst [V.int d,.ref G]) b6;obtain⟨N,b5⟩:=Kf (so:=so) n;have c0:ms.length<=3:=by
      have:=mG W;rw[zqe]at J;omega
     refine b7 r G b0 ms (famK so d) (jJ d (absI (cs.getD 2 0))) u _ ((X.trans f).trans b) (by rw[N,oP]) (b _ _ a4) (Paired.mapP W λ_ _ z=>z.up b) b5 (by rw[N];exact(fO n _).1) ?_ I L c0 b3;unfold jJ;rw[(fO n _).2];have:=fms (absI (cs.getD 2 0)) 4 ∅;omega
  ext;have d0:=fms (g.fdiv 48) 1000 ∅;exact⟨dvs _ _ ∅ ∅,∅,ite2 (λ_=>⟨dvs _ _ ∅ ∅,∅,S _ ⋯ ⋯⟩) (λ_=>S _ ⋯ ⋯)⟩
theorem Wc{d:Nat}{G:Dd->Prop}(A:Amb d G){ms:List Dd}(h:MsOk d G ms):∀x s,G x->s∈ms->G (oU d x (oS s)):=λx s a b=>A.mul x _ a (h.g s b)
theorem kI{d:Nat}{G:Dd->Prop}(A:Amb d G){ms:List Dd}(h:MsOk d G ms):∀s∈ms.map oS,G s:=λs b=>by
 obtain⟨m,a,rfl⟩:=pZ.mp b;exact h.g m a
theorem Wb{d:Nat}{G:Dd->Prop}(A:Amb d G){ms:List Dd}(h:MsOk d G ms):∀y∈tab d (ms.map oS) 201,lD d y.1:=λy c=>A.fine _ (dW A.one (λx a s b=>A.mul x s a (kI A h s b)) y c)
theorem At{K:Frag}{t:Adr}{d most:Nat}{G:Dd->Prop}{ms:List Dd}{H H1:Hp}{a x f:Addr}{b:Bool}{ps:LA}{Q:VK}{E:XK}(A:Amb d G)(h:MsOk d G ms)(l:H1 x=some (.ins t.a_9 f []))(c:Same H H1)(m:SqB b K H a (ps.map V.ref))(y:Paired (DdS K H) ps ms)(j:1<=most)(i:most<=200)
  (v:H x=none)
  (n:most<(tab d (ms.map oS) 201).length->∀H',Same H H'->E (.ref t.a_12) none H')(u:(tab d (ms.map oS) 201).length<=most->∀srt H',Same H H'->GrpF K t H' x d ms srt->Told d (ms.map oS) srt->Q .non H'):
  Ih K t [.ref x,.int d,.ref a,.int most] H1 Q E:=by
 refine⟨b,d,a,x,f,ps,ms,G,most,rfl,l,A.dim,m.up c,Paired.mapP y λ_ _ z=>DdS.up z c,h.l,h.f,λs q=>A.fine _ (h.g s q),A.fine,A.one,Wc A h,j,i,Wb A h,dU,λhl srt H' k g p o=>?_,λhl H' r=>n hl H' (c.trans r)⟩;exact u hl srt H' (λb o e=>k b o (λz=>by rw[z,v]at e;cases e) (c _ _ e)) g ⟨p,o,yC hl i⟩
theorem As{H:Hp}{C x a:Addr}(nx:H x=none)(b:H a=none)(c:a≠x):Same H (upd (upd H a (.own x)) x (.ins C a []))/\(upd (upd H a (.own x)) x (.ins C a [])) x=some (.ins C a []):=
 ⟨(Same.new b).trans (Same.new (by rw[oR (yF c)];exact nx)),oP⟩
theorem ok_l(T:Txt K mg t):FnOk P w K mg base CX0 14 t.a_l t.d_l pf' (sp_l K t):=by
 have c:=@ok_0 P w K mg base t T;apply T.F_l.ok sc_l
 ·obtain⟨d,a,ps,ms,G,rfl,n,m,A,i,p,j⟩:=h;refine⟨_,(oM (oT (i:=2) sc_l.nd rfl (Or.inl rfl) Ao)
   (oM (Qy rfl rfl rfl rfl T.m_12 (λ_ _ _ f =>
   (oO (oT (i:=2) sc_l.nd rfl (Or.inl rfl) (Tu (C:=t.a_9) (T.mk_9) c hr.mo rfl T.m_9 T.bd_Group___init__ (dvs:=[.int 200]) (.cons ⟨_,rfl⟩ .nil) f (oH (pq 0) (oH (pq 1) oJ)))))) (λ_ =>
   (oO (oT (i:=2) sc_l.nd rfl (Or.inl rfl) Ao))))
   (oO (oY (pq 2))))),?_⟩
  show tSeq _ _ _ [some (.int d),some (.ref a),none] H;ext;unfold Gs;simp only[Hk];ext;intro x q nx e k;obtain⟨l,e1⟩:=As (C:=t.a_9) nx e k;refine At (most:=200) A i e1 l (SqB.lst n) m ∅ ∅ nx (λhl H' b=>?_) λhl srt H' b g o=>?_
  ·exact⟨T.h_a,p hl H' b⟩
  ·exact⟨rfl,j x srt H' b g o⟩
theorem cC{K:Frag}{H:Hp}{p:Addr}{x:Dd}(h:DdS K H p x):Dt K H (.ref p) (dat x):=by
 obtain⟨d,e,a,c,b⟩:=h;exact .tup a (.cons (Dt.matB c) (.cons (Dt.intsB (b:=true) b) (.cons (.int _) .nil)))
theorem Wa{K:Frag}{H:Hp}{b:LA}{ms:List Dd}(h:Paired (DdS K H) b ms):Dts K H (b.map V.ref) (ms.map dat):=by
 induction h with
 |nil=>exact .nil
 |cons a _ c=>exact .cons (cC a) c
theorem iK{K:Frag}{H:Hp}{b:LA}{srt:Tb}(h:Paired (λp(x:Dd×List Nat)=>Dt K H (.ref p) (dat x.1)) b srt):Paired (DdS K H) b (srt.map (·.1)):=by
 induction h with
 |nil=>exact .nil
 |cons a _ c=>exact .cons (Di a) c
theorem gF{K:Frag}{H H':Hp}{a:LA}{srt:Tb}(h:Paired (λp(x:Dd×List Nat)=>Dt K H (.ref p) (dat x.1)) a srt)(s:Same H H'):Paired (λp(x:Dd×List Nat)=>Dt K H' (.ref p) (dat x.1)) a srt:=Paired.mapP h λ_ x z=>lU (mW s) 4 (lO x.1) z
def dlD(l:List Dd):PyData:=.list (l.map dat)
theorem Ar(l:List Dd):iT 5 (dlD l)=true:=by
 show(l.map dat).all (iT 4)=true;rw[vH];intro d a;obtain⟨x,_,rfl⟩:=pZ.mp a;exact iV 4 _ (lO x)
theorem Xz{l c:List Dd}:dlD l=dlD c↔l=c:=by
 unfold dlD;rw[PyData.list.injEq];exact⟨λh=>by
  induction l generalizing c with
  |nil=>cases c with
   |nil=>rfl
   |cons=>simp at h
  | cons a l d=>cases c with
   |nil=>simp at h
   |cons b c =>
    rw[zI,zI,yJ]at h;rw[hZ.mp h.1,d h.2],λh=>by rw[h]⟩
theorem Aq{K:Frag}{H:Hp}{a:Addr}{b:LA}{ms:List Dd}(e:H a=some (.lst (b.map V.ref)))(h:Paired (DdS K H) b ms):Dt K H (.ref a) (dlD ms):=.lst (SqL.of e) (Wa h)
theorem Dc{K:Frag}{H:Hp}{a b:Addr}{c f:LA}{ms d:List Dd}{Q:VK}(e:H a=some (.lst (c.map V.ref)))(h:Paired (DdS K H) c ms)(i:H b=some (.lst (f.map V.ref)))(h':Paired (DdS K H) f d)(g:ms=d)(q:Q (.bl false) H):rNeD K (.ref a) (.ref b) H Q:=
 Pn 5 ∅ (Aq e h) (Aq i h') (Ar _) (Ar _) (b:=true) (by simp only[true_iff];rw[g]) q
theorem Db{d:Nat}{G:Dd->Prop}(A:Amb d G){x:Dd}(h:G x):oS x=x:=by
 obtain⟨M,ts,U,_,_,_,rfl⟩:=A.rs x h;exact Wy
theorem Xy{d:Nat}{G:Dd->Prop}(A:Amb d G){ms:List Dd}(h:MsOk d G ms){srt:Tb}(o:Told d (ms.map oS) srt):MsOk d G (srt.map (·.1))/\(srt.map (·.1)).map oS=srt.map (·.1):=by
 have g:=o.good A (kI A h);have e:(srt.map (·.1)).map oS=srt.map (·.1):=by
  conv=>rhs;rw[←pU (srt.map (·.1))]
  exact wD λx b=>Db A (g x b)
 exact⟨⟨λs a=>A.fine _ (g s a),λs a=>by rw[Db A (g s a)];exact g s a,by rw[zqe];exact o.len⟩,e⟩
section
variable {H:Hp} {g:Addr} {d:Nat} {ms:List Dd} {srt:Tb} {Q:VK}
theorem Ap(h:GrpF K t H g d ms srt)(k:∀l b H',Same H H'->H l=none->H' l=some (.lst (b.map V.ref))->Paired (λp(x:Dd×List Nat)=>Dt K H' (.ref p) (dat x.1)) b srt->Q (.ref l) H'):∃a fs,H g=some (.ins t.a_9 a fs)/\fs.lookup (Str.ofString "members")=none/\sp_1 K t [.ref g] H Q E0:=by
 obtain⟨a,e,lo,f,i,c,_⟩:=id h.ex;exact⟨a,_,c,rfl,g,d,ms,srt,rfl,h,k⟩
theorem Xx(h:GrpF K t H g d ms srt)(k:∀l gs H',Same H H'->H l=none->H' l=some (.lst (gs.map V.ref))->Paired (DdS K H') gs ms->Q (.ref l) H'):∃a fs,H g=some (.ins t.a_9 a fs)/\fs.lookup (Str.ofString "makers")=none/\sp_7 K t [.ref g] H Q E0:=by
 obtain⟨a,c,lo,e,f,b,_⟩:=id h.ex;exact⟨a,_,b,rfl,g,d,ms,srt,rfl,h,k⟩
theorem Xw(h:GrpF K t H g d ms srt)(hl:srt.length<=200)(k:∀l b H',Same H H'->H l=none->H' l=some (.lst (b.map V.ref))->Paired (λp(x:Dd×List Nat)=>H' p=some (.lst (x.2.map λn=>V.int (n:Nat)))) b srt->Q (.ref l) H'):∃a fs,H g=some (.ins t.a_9 a fs)/\fs.lookup (Str.ofString "words")=none/\sp_8 K t [.ref g] H Q E0:=by
 obtain⟨a,e,lo,f,i,c,_⟩:=id h.ex;exact⟨a,_,c,rfl,g,d,ms,srt,rfl,h,hl,k⟩
end
theorem ok_i(T:Txt K mg t):FnOk P w K mg base CX0 15 t.a_i t.d_i pi' (sp_i K t):=by
 have X:=@ok_0 P w K mg base t T;have b1:=@ok_1 P w K mg base t T;have a0:=@ok_7 P w K mg base t T;have N:=@ok_8 P w K mg base t T;apply T.F_i.ok sc_i
 ·have F:=hr.units;obtain⟨d,a,c0,ms,srt,G,rfl,f,r,A,c,o,D⟩:=h;refine⟨_,(oM (nK (nE fZ (nY T.z_len (pq 1)) oK (nF _))
   (oO (oY kJ))
   nJ)
   (oM (oT (i:=2) sc_i.nd rfl (Or.inl rfl) (Al (C:=t.a_9) (T.mk_9) X hr.mo rfl T.m_9 T.bd_Group___init__ (dvs:=[.int 200]) (.cons ⟨_,rfl⟩ .nil) gN (oH (pq 0) (oH (pq 1) oJ))))
   (oM (nK (PW.pt (fU (nE (Ac F) (gI (C:=t.a_9) (pq 2) T.cl_9 T.me_1 b1 hr.mo T.b_1 .nil jZ) (pq 1) (nF _)) (fT (nE (Ac F) (gI (C:=t.a_9) (pq 2) T.cl_9 T.me_7 a0 hr.mo T.b_7 .nil jZ) (pq 1) (nF _)))))
   (oO (oY kJ))
   nJ)
   (oM (mI yG rfl (nQ (gI (C:=t.a_9) (pq 2) T.cl_9 T.me_8 N hr.mo T.b_8 .nil jZ)) (nS (i:=3) sc_i.nd rfl (Or.inl rfl))
   (oO (nK (PW.pt (fU (Ew (fS (mY Om rfl T.z_isinstance (nofun) (oH (pq 3) (oH (fR (v:=.ty "list") rfl T.z_list (nofun) rfl) oJ))))) (fT (nE fZ (nY T.z_len (pq 3)) oK (nF _)))))
   (oO (oY kJ))
   nJ)))
   (oO (oY kJ)))))),?_⟩
  show tSeq _ _ _ [some (.int d),some (.ref a),none,none] H;right;refine⟨false,a,_,rfl,SqB.lst f,?_⟩
  try ext
  refine ite2 (λ_=>D H (Same.refl _)) (λ_=>?_);obtain⟨I,L⟩:=Xy A c o;have k:=o.grp A (kI A c);have c3:(srt.map (·.1)).length<=200:=I.l;have a1:=iK r;obtain⟨l1,l2⟩:=Ay (ss':=srt.map (·.1)) k λs n=>n;subst e1;refine st λN1 e1=>?_;simp only[cN];ext;intro x b6 nx b0 b2;obtain⟨a4,U⟩:=As (C:=t.a_9) nx b0 b2;refine At (most:=200) A I U a4 (SqB.lst f) a1 ∅ ∅ nx (λhl=>?_) λhl b7 H1 O g j=>⟨rfl,?_⟩
  ·rw[L]at hl;omega
  rw[L]at j;have a8:∀x,x∈(tab d (srt.map (·.1)) 201).map (·.1)↔x∈(tab d (ms.map oS) 201).map (·.1):=λx=>⟨λh=>o.mem.mp (l2 x h),λh=>Dj k.dim ⋯ (o.mem.mpr h) (k.rs x (o.mem.mpr h))⟩;have sm:=j.same A (λs n=>o.good A (kI A c) s n) (kI A c) o a8;left;simp only[gH];ext;refine Ap g λc2 c4 H2 p c1 R V=>?_;have u:=O.trans p;refine Dc R (iK V) (u _ _ f) (iK (gF r u)) sm ⟨_,rfl,iteF ?_⟩;refine Xx (g.up p) λb8 gs H3 z b3 S a2=>?_;have m:=u.trans z;refine Dc S a2 (m _ _ f) (iK (gF r m)) rfl ⟨_,rfl,iteF ?_⟩;subst e1;refine st λN1 e1=>mM λB eB=>?_;simp only[iSeq,gH];ext;refine Xw ((g.up p).up z) j.len λa7 b9 Z M b4 C W=>?_;refine⟨false,a7,rfl,⟨_,SqB.lst C⟩,?_⟩;have a5:=m.trans M;have a6:=Wq k;refine kQ (g:=oW 3) (tb:=B) (λ_ l b=>∃v,l=[some (.int d),some (.ref a),some (.ref x),v]/\b=Z) ⟨_,rfl,rfl⟩ (λ_ _ _ _⟨_,_,e⟩=>e ▸ SqB.lst C) ?_ ?_
  ·rintro i y l b Y ⟨v,rfl,rfl⟩;obtain⟨q,a9,rfl⟩:=kF Y;obtain⟨xw,a3,J⟩:=lP W a9;have b5:=a6 xw (j.p.mem_iff.mp (zqb a3));subst eB;show tIfS _ _ _ _ [some (.int d),some (.ref a),some (.ref x),some (.ref q)] b;ext;refine⟨_,_,_,true,rfl,.ty (.lst J),rfl,T.h_f,?_⟩;refine⟨_,rfl,iteF ⟨false,q,_,rfl,SqB.lst J,?_⟩⟩;rw[zqe];exact⟨_,_,rfl,rfl,_,rfl,by rw[zO ⋯];exact iteF rfl⟩
  ·rintro l b ⟨v,rfl,rfl⟩;symm;exact D b a5
def keyT(R:List Dd):List (PyData×V):=R.map λx=>(dat x,V.bl true)
theorem fP{x:Dd}:∀{R:List Dd},(vT (keyT R) (dat x))=if x∈R then some (.bl true) else none
 |[]=>rfl
 | y:: R=>by
  show vT ((dat y,V.bl true):: keyT R) (dat x)=_
  by_cases h:y=x
  ·rw[eW (by rw[h]),zE (by rw[h];exact .head _)]
  ·rw[gU (λq=>h (hZ.mp q)),fP]
   by_cases a:x∈R
   ·rw[zE a,zE (.tail _ a)]
   ·rw[zD a,zD (λq=>by rcases xC.mp q with q|q;exact h q.symm;exact a q)]
theorem Lr{y:Dd}:∀{R:List Dd},eT (keyT R) (dat y)=keyT (R.filter λx=>decide (x≠y))
 |[]=>rfl
 |x:: R=>by
  have a:=Lr (y:=y) (R:=R);unfold eT keyT at a ⊢;rw[zI,uE,uE]
  by_cases h:x=y
  ·rw[zD (by simp[h]),zD (by simp[h])];exact a
  ·rw[zE (by simp[hZ,h]),zE (by simp[h]),zI,a]
theorem Xv{x:Dd}{R:List Dd}(h:x∉R):pT (keyT R) (dat x) (.bl true)=keyT (R++[x]):=by
 unfold pT;rw[fP,zD h];unfold keyT;rw[yV];rfl
theorem DTr.other{K:Frag}{H H':Hp}{a l:Addr}{kvs:List (PyData×V)}{xs:List V}(h:DTr K H a kvs)(e:H l=some (.lst xs)):l≠a:=λz=>by
 obtain⟨ys,b,_⟩:=h.ex;rw[z,b]at e;cases e
theorem Xu{xs:List V}{k:Nat}(h:k<=xs.length):cutV xs none (some (k:Int))=xs.take k:=by
 unfold cutV;rw[HT.sIx_none,HT.sIx_nat,sV h];simp
theorem Lq{xs:List V}{k:Nat}(h:k<=xs.length):cutV xs (some (k:Int)) none=xs.drop k:=by
 unfold cutV;rw[HT.sIx_none,HT.sIx_nat,sV h,yR (by simp)]
theorem Xt{c d:Type}{F:c->d->Prop}{xs:List c}{ys:List d}(h:Paired F xs ys):∀{i:Nat},Paired F (xs.eraseIdx i) (ys.eraseIdx i):=by
 induction h with
 |nil=>intro i;exact .nil
 |cons a b e =>
  intro i;cases i with
  |zero=>exact b
  |succ i=>exact .cons a e
theorem Xs{K:Frag}{a:Addr}{xs:List (PyData×Addr×Value)}{H H':Hp}(k:KX a H H')(e:H a=some (nR a xs)):TK K H H':=by
 have c:∀b ys,H b=some (.tup ys)->H' b=some (.tup ys):=λb ys q=>k b _ (λz=>by rw[z,e]at q;cases q) q;refine⟨c,λb ys q=>?_⟩;rcases q with(q|⟨d,q⟩)|q
 ·exact .inl (.inl (c _ _ q))
 ·exact .inl (.inr ⟨d,k b _ (λz=>by rw[z,e]at q;cases q) q⟩)
 ·exact .inr q
theorem ok_6(T:Txt K mg t):FnOk P w K mg base CX0 15 t.a_6 t.d_6 pb' (sp_6 K t):=by
 have i8:=@ok_0 P w K mg base t T;have m5:=@ok_1 P w K mg base t T;have m0:=@ok_b P w K mg base t T;apply T.F_6.ok sc_6
 ·have a2:=hr.units;obtain⟨d,a,m,ps,j9,ms,srt,G,c,rfl,c6,f0,n6,i6,h9,A,i3,mo,o,g5⟩:=h;refine⟨_,(oM (nK (nE (Oq a2) (pq 1) (nX oJ) (nF _))
   (oO (oY kJ))
   nJ)
   (oM (oT (i:=4) sc_6.nd rfl (Or.inl rfl) (oN nM (pq 3) (nY T.z_len (pq 1))))
   (oM (oT (i:=5) sc_6.nd rfl (Or.inl rfl) (gI (C:=t.a_9) (Al (C:=t.a_9) (T.mk_9) i8 hr.mo rfl T.m_9 T.bd_Group___init__ (dvs:=[.int 200]) (.cons ⟨_,rfl⟩ .nil) gN (oH (pq 0) (oH (oN eH (gJ sl_B (pq 1) eG (iP (pq 4))) (gJ sl_B (pq 1) (iP (oN mC (pq 4) oK)) eG)) oJ))) T.cl_9 T.me_1 m5 hr.mo T.b_1 .nil jZ))
   (oM (nK (nE iQ (oN nM (nY T.z_len (pq 2)) (nY T.z_len (pq 5))) oK (nF _))
   (oO (oY kJ))
   nJ)
   (oM (oT (i:=6) sc_6.nd rfl (Or.inl rfl) Ql)
   (oM (mI yG rfl (nQ (pq 2)) (nS (i:=7) sc_6.nd rfl (Or.inl rfl))
   (oO (fW kJ (cD (pq 6) (pq 7) (Gq a2)))))
   (oM (mI yG rfl (nQ (pq 5)) (nS (i:=7) sc_6.nd rfl (Or.inl rfl))
   (oO (nK (nE (Bq a2) (pq 7) (pq 6) rfl)
   (oO (oY kJ))
   nJ)))
   (oM (oT (i:=8) sc_6.nd rfl (Or.inl rfl) oK)
   (oM (mI yG rfl (nQ (pq 2)) (nS (i:=7) sc_6.nd rfl (Or.inl rfl))
   (oO (nK (nE (Qn a2) (pq 7) (pq 6) rfl)
   (oM (oT (i:=8) sc_6.nd rfl (Or.inl rfl) (oN mC (pq 8) oK))
   (oO (mI yG rfl (nQ (pq 5)) (nS (i:=9) sc_6.nd rfl (Or.inl rfl))
   (oM (oT (i:=10) sc_6.nd rfl (Or.inl rfl) (nA m0 hr.mo T.F_b (oH (pq 9) (oH (pq 7) oJ))))
   (oM (nK (nE (Bq a2) (pq 10) (pq 6) rfl)
   (oO (oY kJ))
   nJ)
   (oO (kK (Qj (T:= "") PySem.F.plainAttrs_dict PySem.F.slot_dict_pop PySem.F.type_dict_pop (Tq a2) (pq 6) (oH (pq 10) oJ)))))))))
   nJ)))
   (oO (oY (cJ lG (oN nT (pq 8) (nY T.z_len (pq 5))) (nY T.z_len (pq 2)) (nF _))))))))))))),?_⟩
  show tSeq _ _ _ [some (.int d),some (.ref a),some (.ref m),some (.int c),none,none,none,none,none,none,none] H;have k0:ps.length=ms.length:=mG f0;right;refine⟨yB _,λz hz=>?_⟩;have U:=Same.new (o:=.lst []) hz;have h3:(upd H z (.lst [])) z=some (.lst (([]:LA).map V.ref)):=oP;generalize upd H z (.lst [])=H1 at U h3;have m2:=Paired.mapP f0 λ_ _ w=>DdS.up w U;refine Po 5 ∅ (Aq (U _ _ c6) m2) (Aq (ms:=[]) h3 .nil) (Ar _) (Ar _) (b:=decide (ms=[])) (by rw[xV];exact Xz.symm) ⟨_,rfl,?_⟩;refine ite2 (λ_=>g5 H1 U) (λq=>?_);have k9:ms≠[]:=by simpa using q
  have j0:0<ms.length:=List.length_pos_iff.mpr k9;left;refine⟨false,a,_,rfl,SqB.lst (U _ _ c6),?_⟩
  try ext
  rw[zqe,k0];have n1:=fms c (ms.length:Int) ⋯;obtain⟨n,m3,n3⟩:=Au (c:=c) j0;refine⟨⋯,?_⟩;rw[m3];left;simp only[gH,cN];ext;refine⟨false,a,_,rfl,SqB.lst (U _ _ c6),(by intro z;cases z),λb7 i2=>?_⟩;rw[Xu (by rw[zqe];omega)];have e5:=Same.new (o:=.lst ((ps.map V.ref).take n)) i2;have d4:(upd H1 b7 (.lst ((ps.map V.ref).take n))) b7=some (.lst ((ps.map V.ref).take n)):=oP;show rSlB _ _ _ _ (upd H1 b7 (.lst ((ps.map V.ref).take n))) _;generalize upd H1 b7 (.lst ((ps.map V.ref).take n))=H2 at e5 d4 ⊢;have a1:=U.trans e5;refine⟨false,a,_,rfl,SqB.lst (a1 _ _ c6),(by intro z;cases z),λb5 h4=>?_⟩;rw[show((n:Int)+1)=((n+1:Nat):Int) by omega,Lq (by rw[zqe];omega)];have c8:=Same.new (o:=.lst ((ps.map V.ref).drop (n+1))) h4;have f2:(upd H2 b5 (.lst ((ps.map V.ref).drop (n+1)))) b5=some (.lst ((ps.map V.ref).drop (n+1))):=oP;show rCat _ _ (upd H2 b5 (.lst ((ps.map V.ref).drop (n+1)))) _;generalize upd H2 b5 (.lst ((ps.map V.ref).drop (n+1)))=H3 at c8 f2 ⊢;have h7:=a1.trans c8;refine⟨b7,b5,_,_,rfl,rfl,c8 _ _ d4,f2,by rw[yI,uG,zqe];exact wO (kL ⋯),λf3 h1=>?_⟩;have g6:(ps.map V.ref).take n++(ps.map V.ref).drop (n+1)=(ps.eraseIdx n).map V.ref:=by rw[←List.eraseIdx_eq_take_drop_succ,bV]
  rw[g6];have e2:=Same.new (o:=.lst ((ps.eraseIdx n).map V.ref)) h1;have d9:(upd H3 f3 (.lst ((ps.eraseIdx n).map V.ref))) f3=some (.lst ((ps.eraseIdx n).map V.ref)):=oP;generalize upd H3 f3 (.lst ((ps.eraseIdx n).map V.ref))=n4 at e2 d9 ⊢;have e9:=h7.trans e2;intro x m9 nx g7 g1;obtain⟨g8,h5⟩:=As (C:=t.a_9) nx g7 g1;have e4:MsOk d G (ms.eraseIdx n):=⟨λs b0=>mo.f s (wH b0),λs b0=>mo.g s (wH b0),yC (List.length_eraseIdx_le _ _) mo.l⟩;have Z:=o.grp A (kI A mo);have k2:(srt.map (·.1)).length<=200:=by rw[zqe];exact o.len
  have j4:∀s∈(ms.eraseIdx n).map oS,s∈srt.map (·.1):=λs b0=>by
   obtain⟨e8,i0,rfl⟩:=pZ.mp b0;have i5:oS e8∈ms.map oS:=pZ.mpr ⟨e8,wH i0,rfl⟩;exact o.mem.mpr (Dj A.dim (yC o.l ∅) i5 (A.rs _ (e4.g e8 i0)))
  obtain⟨l1,l2⟩:=Ay Z j4;refine At (most:=200) A e4 h5 g8 (SqB.lst d9) (Xt (Paired.mapP f0 λ_ _ w=>DdS.up w e9)) ∅ ∅ nx (λhl=>⋯) λhl Y m7 g9 g h8=>⟨rfl,?_⟩;refine Ap g λD k7 a4 f7 l3 b2 f4=>?_;have d0:=h8.grp A (kI A e4);have a3:∀l∈Y.map (·.1),l∈srt.map (·.1):=λl h=>l2 l (h8.mem.mp h);have d5:=Wo Z d0 a3;have a9:=(e9.trans g9).trans f7;have b8:=a9 _ _ i6;have g3:=gF h9 a9;have c9:=o.good A (kI A mo);have g2:=iK g3;have f8:=iK f4;have c5:j9.length=srt.length:=mG h9;have d6:k7.length=Y.length:=mG f4;have c7:(srt.map (·.1)).length=srt.length:=zqe ..;have d7:(Y.map (·.1)).length=Y.length:=zqe ..;have k1:0<(Y.map (·.1)).length:=tZ d0.one;generalize srt.map (·.1)=TT at*
  generalize Y.map (·.1)=F at*;clear d9 f2 d4 i2 h4 h1 g8 h5 nx g7 g1 g6;left;refine⟨false,m,_,rfl,SqB.lst b8,?_⟩;refine⟨false,D,_,rfl,SqB.lst b2,?_⟩;rw[zqe,zqe,c5,d6,←c7,←d7];have j8:((TT.length:Nat):Int).fmod (F.length:Nat)=0:=by
   rw[←d5,sU];exact Int.mul_fmod_left _ _
  refine⟨_,_,rfl,rfl,⋯,_,_,rfl,rfl,_,rfl,?_⟩;rw[j8,zQ rfl];refine iteF ?_;subst e1;refine st λN1 e1=>?_;simp only[Gn];ext;intro f b9 m1;have m8:KX f a4 (upd a4 f (nR f [])):=λb S X e=>by rw[oR X];exact e
  have c2:Same a4 (upd a4 f (nR f [])):=Same.new b9;have l8:(upd a4 f (nR f [])) f=some (nR f []):=oP;generalize upd a4 f (nR f [])=a6 at*
  have c0:=c2 _ _ b8;have c3:=c2 _ _ b2;have i1:=Paired.mapP g2 λ_ _ w=>DdS.up w c2;have f6:=Paired.mapP f8 λ_ _ w=>DdS.up w c2;have d3:m≠f:=λz=>by rw[z,b9]at b8;cases b8
  have d1:D≠f:=λz=>by rw[z,b9]at b2;cases b2
  have k3:=a9.trans c2;have j3:∀{v:Hp},KX f a6 v->Same H v:=λ{v}k b S e=>k b S (λz=>by rw[z]at e;rw[a9 _ _ e]at b9;cases b9) (k3 _ _ e);have c1:∀{v:Hp},KX f a6 v->TK K a6 v:=λ{v}k=>Xs k l8;clear g2 f8 f4 g3 b2 b8 a9 f7 g9 e9 h7 a1 e2 c8 e5 g l3;subst e1;refine st λN1 e1=>mM λB eB=>?_;simp only[iSeq];ext;refine⟨false,⟨_,SqB.lst c0⟩,?_⟩;refine kQ (g:=oW 7) (tb:=B) (λi u v=>∃C,u=[some (.int d),some (.ref a),some (.ref m),some (.int c),some (.int n),some (.ref D),some (.ref f),C,none,none,none]/\KX f a6 v/\DTr K v f (keyT (TT.take i))) ⟨_,rfl,λb S _ e=>e,m1⟩ (λi u v _⟨_,_,k,_⟩=>SqB.lst (k _ _ d3 c0)) ?_ ?_
  ·rintro i y u v O ⟨C,rfl,W,b3⟩;obtain⟨q,b4,rfl⟩:=kF O;obtain⟨x,M,a7⟩:=lP i1 b4;have e3:=DdS.tk a7 (c1 W);have hi:i<TT.length:=(zqa M).1;have k6:x∉TT.take i:=λh=>by
    obtain⟨j,e7⟩:=yX h;have i9:=(zqa e7).1;rw[yI]at i9;rw[uA ⋯]at e7;have:=(qG ⋯ Z.nd).mp (e7.trans M.symm);omega
   subst eB;show tAsg _ _ _ [some (.int d),some (.ref a),some (.ref m),some (.int c),some (.int n),some (.ref D),some (.ref f),some (.ref q),none,none,none] v;simp only[tAsg,gSub];ext;refine⟨f,_,q,dat x,rfl,rfl,b3,lO _,cC e3,by rw[keyT,zqe,yI];exact kL ⋯,λa5 l9 _ h0=>?_⟩;rw[Xv k6]at h0;refine⟨W.trans λb S X e=>l9 b S X e,?_⟩;rw[xJ,M];exact h0
  ·rintro u v ⟨C,rfl,W,b3⟩;rw[zqe,c5,←c7,uF]at b3;subst e1;refine st λN1 e1=>mM λB eB=>?_;simp only[iSeq];ext;have f9:=W _ _ d1 c3;refine⟨false,⟨_,SqB.lst f9⟩,?_⟩;refine kQ (g:=oW 7) (tb:=B) (λi u a5=>∃C,u=[some (.int d),some (.ref a),some (.ref m),some (.int c),some (.int n),some (.ref D),some (.ref f),C,none,none,none]/\a5=v) ⟨_,rfl,rfl⟩ (λi u a5 _⟨_,_,e⟩=>e ▸ SqB.lst f9) ?_ ?_
   ·rintro i y u a5 O ⟨C,rfl,rfl⟩;obtain⟨q,b4,rfl⟩:=kF O;obtain⟨x,M,a7⟩:=lP f6 b4;have e3:=DdS.tk a7 (c1 W);subst eB;show tIfS _ _ _ _ [some (.int d),some (.ref a),some (.ref m),some (.int c),some (.int n),some (.ref D),some (.ref f),some (.ref q),none,none,none] a5;ext;refine aQ b3 (lO _) (cC e3) ?_;rw[fP,zE (a3 x (zqb M))];exact⟨_,rfl,iteF rfl⟩
   ·rintro u a5 ⟨C,rfl,rfl⟩;left;subst e1;refine st λN1 e1=>mM λB eB=>?_;simp only[iSeq];ext;have l6:=W _ _ d3 c0;refine⟨false,⟨_,SqB.lst l6⟩,?_⟩;refine kQ (g:=oW 7) (tb:=B) (λi u J=>∃C N I,u=[some (.int d),some (.ref a),some (.ref m),some (.int c),some (.int n),some (.ref D),some (.ref f),C,some (.int ((run d F (TT.take i) (TT,0)).2:Nat)),N,I]/\KX f a6 J/\DTr K J f (keyT (run d F (TT.take i) (TT,0)).1)) ⟨_,_,_,rfl,W,b3⟩ (λi u J _⟨_,_,_,_,k,_⟩=>SqB.lst (k _ _ d3 c0)) ?_ ?_
    ·rintro i y u J O ⟨C,N,I,rfl,L,d2⟩;obtain⟨q,b4,rfl⟩:=kF O;obtain⟨x,M,a7⟩:=lP i1 b4;have g4:x∈TT:=zqb M;have l5:=DdS.tk a7 (c1 L);have m4:=(Aw Z d0 a3 (TT.take i) TT 0 (Cos.start Z a3)).1;have i4:run d F (TT.take (i+1)) (TT,0)=run d F [x] (run d F (TT.take i) (TT,0)):=by rw[xJ,M];exact Kg
     rw[i4];generalize run d F (TT.take i) (TT,0)=l4 at*
     obtain⟨R,b1⟩:=l4;rw[Dh];subst eB;show tIfS _ _ _ _ [some (.int d),some (.ref a),some (.ref m),some (.int c),some (.int n),some (.ref D),some (.ref f),some (.ref q),some (.int (b1:Nat)),N,I] J;ext;refine aQ d2 (lO _) (cC l5) ?_;rw[fP]
     by_cases a8:x∈R
     case neg =>
      rw[show(if x∈(R,b1).fst then some (V.bl true) else none)=none from zD a8];refine⟨_,rfl,iteF ?_⟩;rw[zD a8];exact⟨rfl,L,d2⟩
     rw[show(if x∈(R,b1).fst then some (V.bl true) else none)=some (V.bl true) from zE a8];refine⟨_,rfl,iteT ?_⟩;refine mM λB eB=>?_;simp only[iSeq];ext;have j2:=L _ _ d1 c3;refine⟨false,⟨_,SqB.lst j2⟩,?_⟩;have f5:=A.fine x (c9 x g4);obtain⟨k5,k4,k8⟩:=i3 x (c9 x g4);refine kQ (g:=oW 9) (tb:=B) (λj u a0=>∃N I,u=[some (.int d),some (.ref a),some (.ref m),some (.int c),some (.int n),some (.ref D),some (.ref f),some (.ref q),some (.int ((b1+1:Nat):Int)),N,I]/\KX f a6 a0/\DTr K a0 f (keyT (cut d F R x j))) ⟨_,_,rfl,L,by rw[Kk];exact d2⟩ (λj u a0 _⟨_,_,_,k,_⟩=>SqB.lst (k _ _ d1 c3)) ?_ ?_
     ·rintro j y u a0 O ⟨N,I,rfl,b6,c4⟩;obtain⟨p,ep,rfl⟩:=kF O;obtain⟨l,f1,j1⟩:=lP f6 ep;have l0:=DdS.tk j1 (c1 b6);have j6:=DdS.tk a7 (c1 b6);have hl:=a3 l (zqb f1);have e0:=A.fine l (c9 l hl);obtain⟨i7,j5,m6⟩:=i3 l (c9 l hl);have h2:=Ki Z d0 a3 m4 a8 f1;subst eB;show tSeq _ _ _ [some (.int d),some (.ref a),some (.ref m),some (.int c),some (.int n),some (.ref D),some (.ref f),some (.ref q),some (.int ((b1+1:Nat):Int)),some (.ref p),I] a0;refine st λl7 e6=>?_;ext;refine⟨p,q,l,x,d,rfl,l0,j6,A.dim,e0.sq,f5.sq,e0.len,f5.len,e0.pos,f5.pos,i7,k5,j5,k4,m6,k8,λr n0 a1 g0=>?_⟩;have d8:=c4.up a1;subst e6;refine st λl7 e6=>?_;ext;refine aQ d8 (lO _) g0.dt ?_;rw[fP,zE h2];refine⟨_,rfl,iteF ?_⟩;subst e6;simp only[fV,tBMR];ext;refine⟨⟨_,d8⟩,?_⟩;refine⟨f,_,r,dat (oU d l x),.bl true,rfl,rfl,d8,lO _,g0.dt,by rw[fP,zE h2],λn5 j7 h6=>?_⟩;rw[Lr,←Kj f1]at h6;exact⟨(b6.trans λb S X e=>a1 _ _ e).trans λb S X e=>by rw[j7 b X];exact e,h6⟩
     ·rintro u a0 ⟨N,I,rfl,b6,c4⟩;rw[zqe,d6,←d7]at c4;rw[zE a8];exact⟨_,_,_,rfl,b6,c4⟩
    ·rintro u J ⟨C,N,I,rfl,L,d2⟩;rw[zqe,c5,←c7,uF];symm;refine⟨false,D,_,rfl,SqB.lst (L _ _ d1 c3),?_⟩;rw[zqe,d6,←d7];have n2:(run d F TT (TT,0)).2<=200:=yC (tV _ k1) (by rw[d5];exact k2);refine⟨_,_,rfl,rfl,(show CMul _ _ from .inl ⟨⋯,⋯⟩).ok,false,m,_,rfl,SqB.lst (L _ _ d3 c0),?_⟩;rw[zqe,c5,←c7];refine⟨_,_,rfl,rfl,?_⟩;show Q (.bl (decide _)) J;rw[zQ (by rw[←sU,d5])];exact g5 J (j3 L)
theorem Lp{k:Nat}{L:List Stp}{f:Int}:∀{ms:List Dd},(∀m∈ms,Mkr k L f m)->∃V:Int,0<V/\V<=((200^ms.length:Nat):Int)/\∀m∈ms,∃R∈pgL k,∃(ts:LI')(u:Int),ts.length=famD k/\lV 250 ts/\0<u/\u<=200/\u∣V/\m=(cjM (famD k) (chP (famD k) L) (chQ (famD k) L) R,redT (u*f) ts,redU (u*f) ts)
 |[],_=>⟨1,∅,∅,λ_ h=>(by cases h)⟩
 | m:: ms,h=>by
  obtain⟨V,n,o,q⟩:=Lp (ms:=ms) λx c=>h x (.tail _ c);obtain⟨R,g,ts,u,lt,d,i,j,e⟩:=h m (.head _);refine⟨u*V,xT i n,?_,λx c=>?_⟩
  ·rw[zV,qU,sU,wV];exact tU o j ⋯ ⋯
  ·rcases xC.mp c with rfl|c
   ·exact⟨R,g,ts,u,lt,d,i,j,⟨V,rfl⟩,e⟩
   ·obtain⟨R,g,ts,l,lt,d,a,b,p,e⟩:=q x c;exact⟨R,g,ts,l,lt,d,a,b,Int.dvd_trans p ⟨u,wV _ _⟩,e⟩
theorem Xr{k:Nat}{L:List Stp}{a:Int}{ms:List Dd}(T:k<4)(J:∀s∈L,s.Ok (famD k))(Z:L.length<=3)(j:0<a)(o:a<=1000)(hl:ms.length<=3)(h:∀m∈ms,Mkr k L a m):∃G,Amb (famD k) G/\MsOk (famD k) G ms/\(∀x,G x->nP 1000 x.1/\lV 1000 x.2.1/\x.2.2<2^1000)/\∀m∈ms,lV 1000 m.2.1/\m.2.2<2^1000:=by
 obtain⟨V,q,O,n⟩:=Lp (ms:=ms) h;have v2:V<=8000000:=Int.le_trans O (Int.ofNat_le.mpr (yC (yP ∅ hl) ∅));have I:0<V*a:=xT q j;have D:V*a<=8000000*1000:=tU v2 o ⋯ ∅;have S:V*a<2^100:=rR D ∅;have F:(⟨k,L,V*a⟩:Fr4).Ok:=⟨T,J,Z,I,S⟩;have A:=Wx F;have Y:(2:Nat)^140<=2^1000:=yP ∅ ∅;have lN:∀{C:LM}{ts:LI'}{U:Int},0<U->U<=8000000*1000->nP 140 C->nP 1000 (canD C ts U).1/\lV 1000 (canD C ts U).2.1/\(canD C ts U).2.2<2^1000:=by
  intro C ts U X a1 N;obtain⟨_,r2,v⟩:=Az (ts:=ts) X;have M:redU U ts<1099511627776:=⋯
  refine⟨λr hr z hz=>zJ (N r hr z hz) Y,λz hz=>?_,?_⟩
  ·obtain⟨y,_,rfl⟩:=pZ.mp hz;have:=fms y _ r2;exact zJ (show _<1099511627776 by omega) (show 2^40<=_ from yP ∅ ∅)
  ·show redU U ts<_;exact Int.lt_of_lt_of_le M (nofun)
 refine⟨InG ⟨k,L,V*a⟩,A,⟨λm e=>?_,λm e=>?_,⋯⟩,?_,λm e=>?_⟩
 ·obtain⟨R,b,ts,u,lt,f,d,g,i,rfl⟩:=n m e;have us:0<u*a:=xT d j;obtain⟨r1,r2,v⟩:=Az (ts:=ts) us;have us2:u*a<=200*1000:=tU g o ⋯ ⋯;refine⟨gC (kU (jU k) J) R,by unfold redT;rw[zqe];exact lt,r2,(show nP 140 _ from dY F b).le ∅,λz hz=>?_,?_⟩
  ·obtain⟨t,l,p⟩:=r1 z hz;exact tR p (zJ (f t l) (yP ∅ ∅))
  ·show redU (u*a) ts<_;exact rR (show redU (u*a) ts<=200000 by omega) (nofun)
 ·obtain⟨R,b,ts,u,lt,f,d,g,⟨c,i⟩,rfl⟩:=n m e;have W:0<c:=Classical.byContradiction λa0=>absurd (i ▸ q:0<u*c) (Int.not_lt.mpr (Int.mul_nonpos_of_nonneg_of_nonpos (uC d) (Int.not_lt.mp a0)));refine⟨R,b,smul c ts,by rw[fL];exact lt,?_⟩;show canD _ ts (u*a)=canD _ (smul c ts) (V*a);rw[i,show u*c*a=c*(u*a) by grind,dS (xT d j) W];rfl
 ·rintro x ⟨R,b,ts,lt,rfl⟩;exact lN I D (dY F b)
 ·obtain⟨R,b,ts,u,lt,f,d,g,i,rfl⟩:=n m e;have us:0<u*a:=xT d j;obtain⟨r1,r2,v⟩:=Az (ts:=ts) us;have us2:u*a<=200*1000:=tU g o ⋯ ⋯;refine⟨λz hz=>?_,?_⟩
  ·obtain⟨t,l,p⟩:=r1 z hz;exact tR p (zJ (f t l) (yP ∅ ∅))
  ·show redU (u*a) ts<_;exact rR (show redU (u*a) ts<=200000 by omega) (nofun)
theorem Lo{K:Frag}{H H':Hp}{p:Addr}{x:Dd}(h:DdS K H p x)(k:TK K H H'):DdS K H' p x:=Di (lU k.t 4 (lO x) (cC h))
theorem Xq{l:Addr}{len:Nat}{xs:List V}{te:TE}{fr:List (Str×Nat)}{c:St}{a:Addr}{H:Hp}{Q:VK}{K:Frag}(R:Nat->V->Hp->Prop)(u:H a=none)(d:SqL K H l xs)(q:xs.length=len)(hz:len<=1000)(mono:∀i y H1 H2,R i y H1->lY a H1 H2->R i y H2)
  (r:∀i x H1 zs,xs[len-1-i]?=some x->i<len->Same H H1->H1 a=some (.lst zs)->∀b:VK,(∀y H2,Same H1 H2->R i y H2->b y H2)->te (some x:: mL fr c) H1 b)
  (m:∀H1 ys,Same H H1->H1 a=some (.lst ys)->ys.length=len->(∀j y,ys[j]?=some y->R j y H1)->Q (.ref a) H1):lH (Itv K l len) (oW 0) (tEl te) 1 fr c a H Q:=by
 refine eQ len R u hz mono (λi H1 hi s=>⟨xs,gE d s,q,hi⟩) (λH1 s=>zF _) ?_ m;intro i H1 zs hi e g ys x H3 f k b p;obtain⟨e1,n⟩:=k;subst e1
 match ys,f with
 |[o],_=>exact⟨⟨[some x],rfl,rfl⟩,r i x H3 zs (n xs (gE d e)) hi e g b p⟩
theorem Ln{K:Frag}{a:Addr}{H:Hp}:∀{F:Nat->Dd->Prop}{ys:List V},(∀(j:Nat) y,ys[j]?=some y->∃q m,y=.ref q/\DdS K (offH a H) q m/\F j m)->∃(b:LA)(ms:List Dd),ys=b.map V.ref/\Paired (DdS K (offH a H)) b ms/\∀(j:Nat) m,ms[j]?=some m->F j m
 |_,[],_=>⟨[],[],rfl,.nil,λ_ _ h=>(by simp at h)⟩
 |F,y:: ys,h=>by
  obtain⟨q,m,rfl,k,f⟩:=h 0 y rfl;obtain⟨b,ms,rfl,c,hf⟩:=Ln (F:=λj=>F (j+1)) (ys:=ys) λj y e=>h (j+1) y (by simpa using e);refine⟨q:: b,m:: ms,rfl,.cons k c,λj z e=>?_⟩;cases j with
  |zero=>cases e;exact f
  |succ j=>exact hf j z (by simpa using e)
theorem Xp{d:Nat}:(tab d [] 201).length=1:=rfl
theorem Xo{b c:Type}{F:b->c->Prop}{x:b}{y:c}{xs:List b}{ys:List c}(h:Paired F xs ys)(e:F x y):Paired F (xs++[x]) (ys++[y]):=by
 induction h with
 |nil=>exact .cons e .nil
 |cons a _ d=>exact .cons a d
theorem Xn{a b:Type}{F:a->b->Prop}{x:a}{y:b}{xs:List a}{ys:List b}(h:Paired F (x:: xs) (y:: ys)):Paired F xs ys:=by cases h;assumption
def GN(K:Frag)(t:Adr)(H:Hp)(d:Nat)(ms:List Dd)(v:V):Prop:=(v=.non/\200<(tab d (ms.map oS) 201).length)\/∃g srt,v=.ref g/\GrpF K t H g d ms srt/\Told d (ms.map oS) srt
theorem ok_17(T:Txt K mg t):FnOk P w K mg base CX0 18 t.a_17 t.d_17 pt' (Fj K):=by
 have m2:=@ok_a P w K mg base t T;have f5:=@ok_l P w K mg base t T;have h5:=@ok_0 P w K mg base t T;have h0:=@ok_1 P w K mg base t T;have j6:=@ok_2 P w K mg base t T;have f1:=@ok_4 P w K mg base t T;have l3:=@ok_i P w K mg base t T;have i9:=@ok_6 P w K mg base t T;apply T.F_17.ok sc_17
 ·have i8:=hr.units;obtain⟨a,ns,rfl,d5,n6,n7,i7⟩:=h;have e8:SqB false K H a (ns.map V.int):=d5;refine⟨_,(oM (fW (nA m2 hr.mo T.F_a (oH (pq 0) oJ)) (Qz rfl (lQ (nS (i:=1) sc_17.nd rfl (Or.inl rfl)) (lQ (nS (i:=2) sc_17.nd rfl (Or.inl rfl)) iM))))
   (oM (oT (i:=3) sc_17.nd rfl (Or.inl rfl) (nA f5 hr.mo T.F_l (oH (pq 1) (oH (pq 2) oJ))))
   (oM (cE yG (nE Mo (pq 3) Ao (nF _))
   (oM (oT (i:=2) sc_17.nd rfl (Or.inl rfl) (gJ sl_B (pq 2) (iP oK) eG))
   (oO (oT (i:=3) sc_17.nd rfl (Or.inl rfl) (nA f5 hr.mo T.F_l (oH (pq 1) (oH (pq 2) oJ)))))))
   (oM (oT (i:=4) sc_17.nd rfl (Or.inl rfl) (gI (C:=t.a_9) (pq 3) T.cl_9 T.me_1 h0 hr.mo T.b_1 .nil jZ))
   (oM (Gr (i:=5) (sc:=oQ s_17) (N:=N_17) (fr:=[("_law_script",0)]) (te:=(lF (sp_2 K) [] E0 (nD (tVar 0) (nD (lF (sp_4 K) [] E0 (nD (tVar 1) (nD (tC (.int 10)) tNil))) tNil)))) rfl rfl (nofun) rfl sc_17.nd rfl rfl (nofun) (Qw rfl T.z_reversed (oH (pq 2) oJ)) (λ_ _ _ n9=>(nA j6 hr.mo T.F_2 (oH (pv 0) (oH (nA f1 hr.mo T.F_4 (oH (pv 1) (oH oK oJ))) oJ)))))
   (oM (mI yG rfl (nQ (gJ sl_B (pq 0) (iP oK) (iP oK))) (nS (i:=6) sc_17.nd rfl (Or.inl rfl))
   (oO (kK (jX xK xZ xY jY (pq 5) (oH (nO ix_B (pq 4) (oN nM (pq 6) (nY T.z_len (pq 4))) (λ_ _=>rfl)) oJ)))))
   (oM (nK (nE (Ac i8) (gI (C:=t.a_9) (Al (C:=t.a_9) (T.mk_9) h5 hr.mo rfl T.m_9 T.b_0 .nil gN (oH (pq 1) (oH (pq 5) (oH (nY T.z_len (pq 4)) oJ)))) T.cl_9 T.me_1 h0 hr.mo T.b_1 .nil jZ) (pq 4) (nF _))
   (oO (oY kJ))
   nJ)
   (oM (nK (Ew (fS (nA l3 hr.mo T.F_i (oH (pq 1) (oH (pq 4) oJ)))))
   (oO (oY kJ))
   nJ)
   (oO (oY (nA i9 hr.mo T.F_6 (oH (pq 1) (oH (pq 2) (oH (pq 4) (oH (nA f1 hr.mo T.F_4 (oH (pq 0) (oH oK oJ))) oJ))))))))))))))),?_⟩
  show tSeq _ _ _ [some (.ref a),none,none,none,none,none,none] H;right;refine⟨a,ns,rfl,d5,λr l g3 ms k L n1 H1 l9 j8 g2 f6 k8 f0 g8 f3 g7 O f=>?_⟩;obtain⟨G,A,mo,n0,bm⟩:=Xr k8 f0 g8 f3 g7 O f;generalize famD k=d at*
  clear f f0 g8 f3 g7;refine⟨false,r,_,rfl,SqB.lst j8,rfl,_,_,rfl,_,_,rfl,rfl,?_⟩;have g6:=Paired.mapP f6 λ_ _ z=>DdAt.s z;clear f6;left;have e7:∀(v:V)(H2:Hp),Same H1 H2->GN K t H2 d ms v->N1 [some (.ref a),some (.int d),some (.ref l),some v,none,none,none] H2:=by
   intro v H2 C b7;subst e1;refine st λN1 e1=>Fi λB eB=>?_;refine⟨λm a4 H'=>∃(F:Addr)(a2:LA)(n:List Dd)(v:V),a4=[some (.ref a),some (.int d),some (.ref F),some v,none,none,none]/\Same H1 H'/\H' F=some (.lst (a2.map V.ref))/\Paired (DdS K H') a2 n/\(∀x∈n,x∈ms)/\n.length<=3/\m=n.length/\GN K t H' d n v,
    ⟨ms.length,l,g3,ms,v,rfl,C,C _ _ g2,Paired.mapP g6 λ_ _ z=>DdS.up z C,λ_ h=>h,O,rfl,b7⟩,?_⟩
   clear b7 C H2 v;rintro m a4 H2 ⟨F,a2,n,v,rfl,C,d1,a9,sub,g9,rfl,b7⟩;have a0:MsOk d G n:=⟨λs I=>mo.f s (sub s I),λs I=>mo.g s (sub s I),⋯⟩;ext;rcases b7 with⟨rfl,X⟩|⟨g,srt,rfl,a3,o⟩
   ·refine iteT ⟨λe2 H'=>∃(F:Addr)(u:LA)(D:List Dd)(v:V),e2=[some (.ref a),some (.int d),some (.ref F),some v,none,none,none]/\Same H1 H'/\H' F=some (.lst (u.map V.ref))/\Paired (DdS K H') u D/\(∀x∈D,x∈ms)/\D.length<n.length/\GN K t H' d D v,?_,?_⟩
    ·rintro e2 H' ⟨F,u,D,v,rfl,k1,k2,k3,h8,k5,j2⟩;exact⟨_,k5,F,u,D,v,rfl,k1,k2,k3,h8,⋯,rfl,j2⟩
    subst eB;refine st λl6 k0=>?_;ext;refine⟨false,F,_,rfl,SqB.lst d1,(by intro z;cases z),λb1 m7=>?_⟩
    match n,a2,a9,X with
    |[],_,_,X=>exact absurd X (by rw[qO,Xp];decide)
    |m0:: D,o5:: u,a9,_ =>
    rw[show(1:Int)=((1:Nat):Int) from rfl,Lq (by rw[zqe];exact Nat.succ_le_succ (yB _))];have ss:=Same.new (o:=.lst (u.map V.ref)) m7;have c4:(upd H2 b1 (.lst (u.map V.ref))) b1=some (.lst (u.map V.ref)):=oP;show l6 _ (upd H2 b1 (.lst (u.map V.ref)));generalize upd H2 b1 (.lst (u.map V.ref))=H3 at ss c4 ⊢;have W:=Paired.mapP (Xn a9) λ_ _ z=>DdS.up z ss;subst k0;ext;have c5:∀x∈D,x∈ms:=λx p=>sub x (.tail _ p);have i1:MsOk d G D:=⟨λs I=>mo.f s (c5 s I),λs I=>mo.g s (c5 s I),by rw[zV]at g9;omega⟩;refine⟨d,b1,u,D,G,rfl,c4,W,A,i1,λX a5 M=>?_,λg srt a5 M a3 o=>?_⟩
    ·exact⟨(C.trans ss).trans M,u,M _ _ c4,D,Paired.mapP W λ_ _ z=>DdS.up z M,c5,vE _,.inl ⟨rfl,X⟩⟩
    ·exact⟨(C.trans ss).trans M,u,M _ _ c4,D,Paired.mapP W λ_ _ z=>DdS.up z M,c5,vE _,.inr ⟨g,srt,rfl,a3,o⟩⟩
   ·refine iteF ?_;clear B eB;left;simp only[gH];ext;refine Ap a3 λO c0 H3 b9 o2 a6 b2=>?_;have l7:=C.trans b9;have d2:=b9 _ _ d1;have W:=Paired.mapP a9 λ_ _ z=>DdS.up z b9;have c8:SqB false K H3 a (ns.map V.int):=e8.up (l9.trans l7);have g4:a2.length=n.length:=mG W;clear a3 a9 d1 C b9 d5 e8;left;refine nL λB eB=>?_;simp only[iRev];ext;refine⟨_,SqL.of d2,λa1 d9=>?_⟩;rw[zqe];refine Xq (len:=a2.length) (λj y b5=>∃q m,y=.ref q/\DdS K (offH a1 b5) q m/\∃x,n[n.length-1-j]?=some x/\oS m=oS x/\lD d m) d9 (SqL.of d2) (by rw[zqe]) ⋯ (λ_ _ _ _⟨q,m,e,h,k⟩h7=>⟨q,m,e,DdS.up h (dO h7),k⟩) ?_ ?_
    ·intro j x b5 zs U k7 Z l4 h3 k9;rw[g4]at U;obtain⟨q,b6,rfl⟩:=kF U;obtain⟨m,b3,m6⟩:=lP W b6;have d3:=sub m (zqb b3);subst eB;show lF _ _ _ _ [some (.ref q),some (.ref a)] b5 h3;ext;refine⟨a,ns,_,rfl,gE c8 Z,∅,?_⟩;obtain⟨i6,e9,d4,i5,n5,i3⟩:=mo.f m d3;refine⟨q,_,m,d,rfl,DdS.up m6 Z,A.dim,e9,d4,(bm m d3).2,(bm m d3).1,λr S ts N l5 f7 l2=>k9 _ _ N ⟨r,_,rfl,Lo l5 (aR (N _ _ l4)),m,b3,?_,i6,?_,d4,i5,?_,i3⟩⟩
     ·show(m.1,nV m.2.2 ts,m.2.2)=_;rw[f7.rest_eq d4];rfl
     ·rw[←e9];exact f7.1
     ·exactλz hz=>zJ (l2 z hz) (yP ∅ ∅)
    intro a5 ys M f4 m5 g0;obtain⟨c9,mv,rfl,f9,g1⟩:=Ln g0;have o7:mv.length=n.length:=by rw[←mG f9,←g4,←m5,zqe]
    clear g0 eB B;subst e1;refine st λN1 e1=>mM λB eB=>?_;simp only[iSeq];ext;refine⟨false,a,_,rfl,c8.up M,(by intro z;cases z),λY d8=>?_⟩;rw[Bt];have h4:((ns.drop (HT.sIx ns.length 0 (some 11))).take (HT.sIx ns.length ns.length (some 16)-HT.sIx ns.length 0 (some 11))).length<=5:=by
     rw[yI,show((11:Int))=((11:Nat):Int) from rfl,show((16:Int))=((16:Nat):Int) from rfl,HT.sIx_nat,HT.sIx_nat];omega
    generalize (ns.drop (HT.sIx ns.length 0 (some 11))).take (HT.sIx ns.length ns.length (some 16)-HT.sIx ns.length 0 (some 11))=cs at h4;have d7:(upd a5 Y (seqO false (cs.map V.int))) Y=some (.lst (cs.map V.int)):=oP;have Z:Same a5 (upd a5 Y (seqO false (cs.map V.int))):=Same.new d8;have l8:Y≠a1:=λz=>by rw[z,f4]at d8;cases d8
    generalize upd a5 Y (seqO false (cs.map V.int))=b5 at d7 Z;have j5:=Z _ _ f4;have j3:=M.trans Z;have j4:=Paired.mapP f9 λ_ _ z=>DdS.up z (dO Z.x);refine⟨false,Y,rfl,⟨_,SqB.lst d7⟩,?_⟩;have e6:0<srt.length:=by rw[o.p.length_eq];exact tZ aY
    have e0:=o.len;have f2:c0.length=srt.length:=mG b2;refine kQ (g:=oW 6) (tb:=B) (λi a4 S=>∃(c6:Option V)(a7:LA)(J:List Dd),a4=[some (.ref a),some (.int d),some (.ref F),some (.ref g),some (.ref O),some (.ref a1),c6]/\Same H3 S/\S a1=some (.lst ((c9++a7).map V.ref))/\S Y=some (.lst (cs.map V.int))/\Paired (DdS K (offH a1 S)) (c9++a7) (mv++J)/\(∀x∈J,x∈srt.map (·.1))/\J.length=i)
     ⟨none,[],[],rfl,j3,by rw[xQ];exact j5,d7,by rw[xQ,xQ];exact j4,λ_ h=>(by cases h),rfl⟩ (λ_ _ _ _⟨_,_,_,_,_,_,e,_⟩=>SqB.lst e) ?_ ?_
    ·rintro i y a4 S k6 ⟨c6,a7,J,rfl,N,a8,f8,c3,b8,d6⟩;obtain⟨c,m9,rfl⟩:=kF k6;subst eB;show fV _ _ [some (.ref a),some (.int d),some (.ref F),some (.ref g),some (.ref O),some (.ref a1),some (.int c)] S;ext;refine⟨.inl ⟨rfl,_,SqL.of a8⟩,false,O,_,rfl,SqB.lst (N _ _ a6),?_⟩
     try ext
     rw[zqe,f2];obtain⟨j,c7,k7⟩:=Au (c:=c) e6;refine⟨⋯,?_⟩;rw[c7];obtain⟨q,b6⟩:∃q,c0[j]?=some q:=⟨_,zqd ⋯⟩;obtain⟨x,U,p⟩:=lP (gF b2 N) b6;refine⟨false,O,_,_,_,rfl,rfl,SqB.lst (N _ _ a6),mZ (by rw[zM,b6];rfl) rfl,?_⟩;have hi:i<cs.length:=by have:=(zqa m9).1;exact this
     have i2:=mG c3;rw[zX,zX]at i2;refine⟨a1,_,_,rfl,rfl,a8,kL (by rw[zqe,zX];omega),?_⟩;refine⟨Same.over d9 N,a7++[q],by rw[oP,←yE,yV (l₁:=c9++a7)];rfl,by rw[oR l8];exact f8,J++[x.1],?_,λz hz=>?_,by rw[zX,d6];rfl⟩
     ·rw[←yE,←yE];exact Paired.mapP (Xo c3 (Lo (Di p) (aR a8))) λ_ _ z=>DdS.up z (dO λb o h2 e=>by rw[oR h2];exact e)
     ·rcases oB.mp hz with hz|hz
      ·exact b8 z hz
      ·rw[rX.mp hz];exact pZ.mpr ⟨x,zqb U,rfl⟩
    ·rintro a4 S ⟨c6,a7,J,rfl,N,a8,f8,c3,b8,d6⟩;rw[zqe]at d6;left;simp only[gH,cN];ext;refine⟨false,O,_,rfl,SqB.lst (N _ _ a6),?_⟩
     try ext
     rw[zqe,f2];intro x n2 nx j1 i4;obtain⟨h6,U⟩:=As (C:=t.a_9) nx j1 i4;have m4:=Paired.mapP c3 λ_ _ z=>DdS.up z Dx;have e3:=o.grp A (kI A a0);have j7:(srt.map (·.1)).length<=200:=by rw[zqe];exact e0
     have d0:∀m∈mv,∃x∈n,oS m=oS x/\lD d m:=λm f=>by
      obtain⟨j,c7⟩:=yX f;obtain⟨x,U,R,c1⟩:=g1 j m c7;exact⟨x,zqb U,R,c1⟩
     have c2:∀x∈J,oS x=x/\G x:=λx p=>by
      have:=o.good A (kI A a0) x (b8 x p);exact⟨Db A this,this⟩
     have e5:∀s∈(mv++J).map oS,s∈srt.map (·.1):=λs I=>by
      obtain⟨m,f,rfl⟩:=pZ.mp I;rcases oB.mp f with f|f
      ·obtain⟨x,p,R,_⟩:=d0 m f;rw[R];exact o.mem.mpr (Dj A.dim (yC o.l ∅) (pZ.mpr ⟨x,p,rfl⟩) (A.rs _ (a0.g x p)))
      ·rw[(c2 m f).1];exact b8 m f
     have e4:MsOk d G (mv++J):=by
      refine⟨λm f=>?_,λm f=>?_,by rw[zX];omega⟩
      ·rcases oB.mp f with f|f
       ·obtain⟨x,p,R,c1⟩:=d0 m f;exact c1
       ·exact A.fine _ (c2 m f).2
      ·rcases oB.mp f with f|f
       ·obtain⟨x,p,R,c1⟩:=d0 m f;rw[R];exact a0.g x p
       ·rw[(c2 m f).1];exact(c2 m f).2
     have j9:∀s∈n.map oS,s∈(mv++J).map oS:=λs I=>by
      obtain⟨x,p,rfl⟩:=pZ.mp I;obtain⟨i,g5⟩:=yX p;have hi:=(zqa g5).1;obtain⟨m,b3⟩:∃m,mv[n.length-1-i]?=some m:=⟨_,zqd ⋯⟩;obtain⟨n8,h1,R,_⟩:=g1 _ m b3;rw[show n.length-1-(n.length-1-i)=i by omega,g5]at h1;cases h1;exact pZ.mpr ⟨m,xP _ (zqb b3),R⟩
     have j0:=Wr e3 j7 e5 (λx p=>o.mem.mp p) j9;have i0:=(Ay e3 e5).1;rw[zqe]at i0;refine At (most:=srt.length) A e4 U h6 (SqB.lst a8) m4 e6 e0 nx (λhl=>⋯) λhl n3 o4 l0 m8 m1=>⟨rfl,?_⟩;refine Ap m8 λo6 o1 n4 m3 o3 h9 k4=>?_;have sm:=m1.same A (kI A e4) (kI A a0) o λx=>(j0 x).trans o.mem;have b0:=(N.trans l0).trans m3;refine Dc h9 (iK k4) (b0 _ _ a6) (iK (gF b2 b0)) sm ⟨_,rfl,iteF ?_⟩;left;refine⟨d,O,c0,n,srt,G,rfl,b0 _ _ a6,gF b2 b0,A,a0,o,λo0 l1=>?_⟩;have b4:=b0.trans l1
     try ext
     symm;refine⟨a,ns,_,rfl,gE c8 b4,∅,?_⟩;exact⟨d,F,O,a2,c0,n,srt,G,_,rfl,b4 _ _ d2,Paired.mapP W λ_ _ z=>DdS.up z b4,g9,b4 _ _ a6,gF b2 b4,A,n0,a0,o,λH' _=>i7 H'⟩
  refine⟨d,l,g3,ms,G,rfl,g2,g6,A,mo,λX H2 C=>?_,λg srt H2 C a3 o=>?_⟩
  ·exact e7 .non H2 C (.inl ⟨rfl,X⟩)
  ·exact e7 (.ref g) H2 C (.inr ⟨g,srt,rfl,a3,o⟩)
end
theorem us1{a:Type}{us:List a}(h:us.length=1):∃a0,us=[a0]:=match us,h with|[a0],_=>⟨a0,rfl⟩
theorem us2{b:Type}{us:List b}(h:us.length=2):∃a0 a,us=[a0,a]:=match us,h with|[a0,a],_=>⟨a0,a,rfl⟩
theorem us3{c:Type}{us:List c}(h:us.length=3):∃a0 a b,us=[a0,a,b]:=match us,h with|[a0,a,b],_=>⟨a0,a,b,rfl⟩
theorem us4{d:Type}{us:List d}(h:us.length=4):∃a0 a c b,us=[a0,a,c,b]:=match us,h with|[a0,a,c,b],_=>⟨a0,a,c,b,rfl⟩
theorem us5{e:Type}{us:List e}(h:us.length=5):∃a0 d c a b,us=[a0,d,c,a,b]:=match us,h with|[a0,d,c,a,b],_=>⟨a0,d,c,a,b,rfl⟩
abbrev caG(K:Frag)(C:Addr):Prop:=findIn K (.ref C) "__class__"=some (some (.builtin "object.__class__"))
abbrev nG(K:Frag)(x:Str)(f:Addr):Prop:=nsIn K mainGlobals x=some (some (.ref f))
local macro_rules | `(tactic| walk_at "1")=>`(tactic| (intro _ _ _ _ _ _ us hl; obtain ⟨_,hh⟩:=us1 hl; subst hh; rfl))
local macro_rules | `(tactic| walk_at "2")=>`(tactic| (intro _ _ _ _ _ _ us hl; obtain ⟨_,_,hh⟩:=us2 hl; subst hh; rfl))
theorem txt_mk{K:Frag}{h:Heap}{b6:MT}(X:K.In h)(G:h.Ns mainGlobals b6)
  {a2 a4 O b b9 a u f U W Y m Z a3 r V a6 k l a1 q a7 J y w g d e x a0 i p P N t T D I o L j C R z n a5:Addr}{q0 h3 n0 h7 q5 f6 f9 f5 i5 i7 o1 h1 o4 l5 m8 g9 h2 g5 k2 p7 t0 k7 n1 m7 g7 m2 h5 o0 j2 n5 o2 l0 n7 s9 o5 n2 j1 j6 r1 g2:FuncData}
  {c:Addr}{k4 h0:Option Addr}{j0:Array (Option Value)}{k6 i1 j4 i8 b8 i9:Value}
  {e2:Addr}{p5:Value}{r0:Option Addr}{m4:Nat}{i0:Array (Option Value)}{M:Tok}
  {k1:Tok}
  (f8:nG K "CrystalError" a2)
  (s8:nG K "NoPlace" a4)
  (m9:nG K "NoDeed" O)
  (p4:nG K "TooMany" b)
  (p8:nG K "NoNumber" b9)
  (r2:nG K "Group" a)
  (g3:nG K "copied" u)
  (c9:Fun K "copied" "copied" bW u q0)
  (t1:findIn K (.ref b) "__init__"=some (some (.ref f)))
  (d8:Fun K "__init__" "TooMany.__init__" s_3 f h3)
  (l6:nG K "divisor" U)
  (b3:Fun K "divisor" "divisor" Cq U n0)
  (o9:nG K "place" W)
  (e0:Fun K "place" "place" bX W h7)
  (i6:nG K "rest_place" Y)
  (d1:Fun K "rest_place" "rest_place" bY Y q5)
  (f3:nG K "still_rows" m)
  (e6:Fun K "still_rows" "still_rows" bZ m f6)
  (l9:nG K "dot" Z)
  (d3:Fun K "dot" "dot" s_16 Z f9)
  (q7:nG K "turned" a3)
  (c3:Fun K "turned" "turned" aA a3 f5)
  (o3:nG K "without" r)
  (d6:Fun K "without" "without" aB r i5)
  (g6:nG K "determinant" V)
  (e4:Fun K "determinant" "determinant" s_5 V i7)
  (i3:nG K "joined" a6)
  (b4:Fun K "joined" "joined" aC a6 o1)
  (n8:nG K "deed" k)
  (a9:Fun K "deed" "deed" s_13 k h1)
  (r9:nG K "still" l)
  (a8:Fun K "still" "still" s_11 l o4)
  (l8:nG K "moved" a1)
  (e9:Fun K "moved" "moved" s_10 a1 l5)
  (o6:nG K "behind" q)
  (e5:Fun K "behind" "behind" aD q m8)
  (g0:nG K "rest" a7)
  (c1:Fun K "rest" "rest" s_14 a7 g9)
  (j5:nG K "check_most" J)
  (e3:Fun K "check_most" "check_most" Cp J h2)
  (i4:nG K "check_axes" y)
  (d9:Fun K "check_axes" "check_axes" Co y g5)
  (j8:nG K "closed" w)
  (c5:Fun K "closed" "closed" dF w k2)
  (t3:findIn K (.ref a) "__init__"=some (some (.ref c)))
  (s3:K.lookup c=some ⟨k6,k4,.func (fnOf "__init__" "Group.__init__" (kW s_0) (lR s_0) (oQ s_0) (.ref e2) i1 j4 i8 h0 b8 i9),j0⟩)
  (p0:K.lookup e2=some ⟨p5,r0,.seq #[.int 200 M] m4,i0⟩)
  (r6:codeIn K b8 "Group.__init__"=true)
  (s6:keepIn K (.ref c)=true)
  (t5:findIn K (.ref a) "makers"=some (some (.ref g)))
  (b0:Fun K "makers" "Group.makers" s_7 g p7)
  (t4:findIn K (.ref a) "members"=some (some (.ref d)))
  (f0:Fun K "members" "Group.members" s_1 d t0)
  (t2:findIn K (.ref a) "words"=some (some (.ref e)))
  (e8:Fun K "words" "Group.words" s_8 e k7)
  (s0:nG K "_law_cell_at" x)
  (d2:Fun K "_law_cell_at" "_law_cell_at" s_4 x n1)
  (o7:nG K "_law_common" a0)
  (b5:Fun K "_law_common" "_law_common" Cn a0 m7)
  (q8:nG K "_law_still" i)
  (c6:Fun K "_law_still" "_law_still" aE i g7)
  (m0:nG K "_law_times" p)
  (f1:Fun K "_law_times" "_law_times" aF p m2)
  (g8:nG K "_law_sixty" P)
  (d4:Fun K "_law_sixty" "_law_sixty" Cm P h5)
  (s4:nG K "_law_signed" N)
  (b2:Fun K "_law_signed" "_law_signed" aG N o0)
  (q2:nG K "_law_rows" t)
  (c8:Fun K "_law_rows" "_law_rows" Cl t j2)
  (l1:nG K "_law_based" T)
  (d5:Fun K "_law_based" "_law_based" aH T n5)
  (h9:nG K "_law_rest" D)
  (d7:Fun K "_law_rest" "_law_rest" dG D o2)
  (o8:nG K "_law_low" I)
  (d0:Fun K "_law_low" "_law_low" dH I l0)
  (f2:nG K "_law_maker" o)
  (c2:Fun K "_law_maker" "_law_maker" aI o n7)
  (r5:nG K "_law_makers" L)
  (e7:Fun K "_law_makers" "_law_makers" dI L s9)
  (s2:nG K "_law_product" j)
  (b7:Fun K "_law_product" "_law_product" aJ j o5)
  (s5:nG K "_law_group" C)
  (c4:Fun K "_law_group" "_law_group" Ck C n2)
  (p6:nG K "_law_wholly_moved" R)
  (b1:Fun K "_law_wholly_moved" "_law_wholly_moved" s_2 R j1)
  (n3:nG K "_law_by_all" z)
  (c0:Fun K "_law_by_all" "_law_by_all" Cj z j6)
  (p9:nG K "_law_by_fewer" n)
  (c7:Fun K "_law_by_fewer" "_law_by_fewer" s_6 n r1)
  (l2:nG K "law" a5)
  (F:Fun K "law" "law" s_17 a5 g2)
  (l7:nsIn K mainGlobals "MOST_MEMBERS"=some (some (.int 200 k1)))
  (m3:nsIn K mainGlobals "any"=some none)
  (j7:nsIn K mainGlobals "sum"=some none)
  (n4:nsIn K mainGlobals "zip"=some none)
  (m6:nsIn K mainGlobals "enumerate"=some none)
  (p2:nsIn K mainGlobals "range"=some none)
  (q3:nsIn K mainGlobals "len"=some none)
  (p3:nsIn K mainGlobals "abs"=some none)
  (p1:nsIn K mainGlobals "isinstance"=some none)
  (q4:nsIn K mainGlobals "int"=some none)
  (k8:nsIn K mainGlobals "list"=some none)
  (r4:nsIn K mainGlobals "tuple"=some none)
  (h6:nsIn K mainGlobals "sorted"=some none)
  (h4:nsIn K mainGlobals "dict"=some none)
  (q1:nsIn K mainGlobals "reversed"=some none)
  (r7:kitOne K (.type "list") (.type "list")=some true)
  (g4:PySem.W.excIn K a4 [.type "ValueError",.type "Exception",.type "BaseException",.type "object"] "ValueError.__new__"=true)
  (k9:PySem.W.excIn K O [.type "ValueError",.type "Exception",.type "BaseException",.type "object"] "ValueError.__new__"=true)
  (k5:L2.Cls K a)
  (f7:L2.Mk K a c)
  (f4:L2.Meth K a "members" d)
  (j9:findIn K (.ref a) "dimension"=some none)
  (n6:findIn K (.ref a) "given"=some none)
  (m1:findIn K (.ref a) "ordered"=some none)
  (g1:findIn K (.ref a) "shortest"=some none)
  (n9:findIn K (.ref a) "numbers"=some none)
  (h8:L2.Meth K a "makers" g)
  (r8:L2.Meth K a "words" e)
  (s7:kitOne K (.type "int") (.type "list")=some false)
  (l3:kitOne K (.type "int") (.type "tuple")=some false)
  (k3:L2.XIn K b a2 f)
  (m5:L2.XSt K b "apart")
  (s1:PySem.W.exmOne K (.ref b) (.ref b)=some true)
  :∃k0,Txt K b6 k0:=by
 have l4:=d8.binds (ps:=po') (by walk_at "2");have S:=Se (st:=s_0) (ds:=[.int 200 M]) s3 r6 s6 p0;have q9:=S.bindsA (ps:=pg') λ_ _ _ _ _ _ _ us hl=>by obtain⟨_,_,_,_,rfl⟩:=us4 hl;exact⟨_,rfl,rfl⟩
 have q6:=S.binds (ps:=pg') λ_ _ _ _ _ _ _ us hl=>by obtain⟨_,_,_,rfl⟩:=us3 (qQ hl);exact⟨_,rfl,rfl⟩
 have j3:=b0.binds (ps:=pv') (by walk_at "1");have r3:=f0.binds (ps:=pv') (by walk_at "1");have i2:=e8.binds (ps:=pv') (by walk_at "1");obtain⟨_,_,_,_,_,_,_,_,_,rfl,_,_⟩:=id F.ex;exact⟨⟨u,f,U,W,Y,m,Z,a3,r,V,a6,k,l,a1,q,a7,J,y,w,c,g,d,e,x,a0,i,p,P,N,t,T,D,I,o,L,j,C,R,z,n,a5,_,_,_,_,_,_,_,_,_,_,_,_,_,_,_,_,_,_,_,_,_,_,_,_,_,_,_,_,_,_,_,_,_,_,_,_,_,_,_,_,_,a2,a4,O,b,b9,a,M⟩,⟨⟨c9,yY X G g3,c9.binds (λ_ _ _ _ _ _ us hl=>by obtain⟨_,rfl⟩:=us1 hl;rfl)⟩,d8,l4,⟨b3,yY X G l6,b3.binds (λ_ _ _ _ _ _ us hl=>by obtain⟨_,_,rfl⟩:=us2 hl;rfl)⟩,⟨e0,yY X G o9,e0.binds (λ_ _ _ _ _ _ us hl=>by obtain⟨_,_,rfl⟩:=us2 hl;rfl)⟩,⟨d1,yY X G i6,d1.binds (λ_ _ _ _ _ _ us hl=>by obtain⟨_,rfl⟩:=us1 hl;rfl)⟩,⟨e6,yY X G f3,e6.binds (λ_ _ _ _ _ _ us hl=>by obtain⟨_,rfl⟩:=us1 hl;rfl)⟩,⟨d3,yY X G l9,d3.binds (λ_ _ _ _ _ _ us hl=>by obtain⟨_,_,rfl⟩:=us2 hl;rfl)⟩,⟨c3,yY X G q7,c3.binds (λ_ _ _ _ _ _ us hl=>by obtain⟨_,rfl⟩:=us1 hl;rfl)⟩,⟨d6,yY X G o3,d6.binds (λ_ _ _ _ _ _ us hl=>by obtain⟨_,_,_,rfl⟩:=us3 hl;rfl)⟩,⟨e4,yY X G g6,e4.binds (λ_ _ _ _ _ _ us hl=>by obtain⟨_,rfl⟩:=us1 hl;rfl)⟩,⟨b4,yY X G i3,b4.binds (λ_ _ _ _ _ _ us hl=>by obtain⟨_,_,rfl⟩:=us2 hl;rfl)⟩,⟨a9,yY X G n8,a9.binds (λ_ _ _ _ _ _ us hl=>by obtain⟨_,_,_,rfl⟩:=us3 hl;rfl)⟩,⟨a8,yY X G r9,a8.binds (λ_ _ _ _ _ _ us hl=>by obtain⟨_,rfl⟩:=us1 hl;rfl)⟩,⟨e9,yY X G l8,e9.binds (λ_ _ _ _ _ _ us hl=>by obtain⟨_,_,rfl⟩:=us2 hl;rfl)⟩,⟨e5,yY X G o6,e5.binds (λ_ _ _ _ _ _ us hl=>by obtain⟨_,_,rfl⟩:=us2 hl;rfl)⟩,⟨c1,yY X G g0,c1.binds (λ_ _ _ _ _ _ us hl=>by obtain⟨_,rfl⟩:=us1 hl;rfl)⟩,⟨e3,yY X G j5,e3.binds (λ_ _ _ _ _ _ us hl=>by obtain⟨_,rfl⟩:=us1 hl;rfl)⟩,⟨d9,yY X G i4,d9.binds (λ_ _ _ _ _ _ us hl=>by obtain⟨_,_,rfl⟩:=us2 hl;rfl)⟩,⟨c5,yY X G j8,c5.binds (λ_ _ _ _ _ _ us hl=>by obtain⟨_,_,_,rfl⟩:=us3 hl;rfl)⟩,S,q6,q9,b0,j3,f0,r3,e8,i2,⟨d2,yY X G s0,d2.binds (λ_ _ _ _ _ _ us hl=>by obtain⟨_,_,rfl⟩:=us2 hl;rfl)⟩,⟨b5,yY X G o7,b5.binds (λ_ _ _ _ _ _ us hl=>by obtain⟨_,_,rfl⟩:=us2 hl;rfl)⟩,⟨c6,yY X G q8,c6.binds (λ_ _ _ _ _ _ us hl=>by obtain⟨_,rfl⟩:=us1 hl;rfl)⟩,⟨f1,yY X G m0,f1.binds (λ_ _ _ _ _ _ us hl=>by obtain⟨_,_,rfl⟩:=us2 hl;rfl)⟩,⟨d4,yY X G g8,d4.binds (λ_ _ _ _ _ _ us hl=>by obtain⟨_,_,rfl⟩:=us2 hl;rfl)⟩,⟨b2,yY X G s4,b2.binds (λ_ _ _ _ _ _ us hl=>by obtain⟨_,_,rfl⟩:=us2 hl;rfl)⟩,⟨c8,yY X G q2,c8.binds (λ_ _ _ _ _ _ us hl=>by obtain⟨_,_,_,rfl⟩:=us3 hl;rfl)⟩,⟨d5,yY X G l1,d5.binds (λ_ _ _ _ _ _ us hl=>by obtain⟨_,_,rfl⟩:=us2 hl;rfl)⟩,⟨d7,yY X G h9,d7.binds (λ_ _ _ _ _ _ us hl=>by obtain⟨_,_,_,rfl⟩:=us3 hl;rfl)⟩,⟨d0,yY X G o8,d0.binds (λ_ _ _ _ _ _ us hl=>by obtain⟨_,_,_,rfl⟩:=us3 hl;rfl)⟩,⟨c2,yY X G f2,c2.binds (λ_ _ _ _ _ _ us hl=>by obtain⟨_,_,_,_,_,rfl⟩:=us5 hl;rfl)⟩,⟨e7,yY X G r5,e7.binds (λ_ _ _ _ _ _ us hl=>by obtain⟨_,rfl⟩:=us1 hl;rfl)⟩,⟨b7,yY X G s2,b7.binds (λ_ _ _ _ _ _ us hl=>by obtain⟨_,_,rfl⟩:=us2 hl;rfl)⟩,⟨c4,yY X G s5,c4.binds (λ_ _ _ _ _ _ us hl=>by obtain⟨_,_,rfl⟩:=us2 hl;rfl)⟩,⟨b1,yY X G p6,b1.binds (λ_ _ _ _ _ _ us hl=>by obtain⟨_,_,rfl⟩:=us2 hl;rfl)⟩,⟨c0,yY X G n3,c0.binds (λ_ _ _ _ _ _ us hl=>by obtain⟨_,_,rfl⟩:=us2 hl;rfl)⟩,⟨c7,yY X G p9,c7.binds (λ_ _ _ _ _ _ us hl=>by obtain⟨_,_,_,_,rfl⟩:=us4 hl;rfl)⟩,⟨F,yY X G l2,F.binds (λ_ _ _ _ _ _ us hl=>by obtain⟨_,rfl⟩:=us1 hl;rfl)⟩,yS X G m3,yS X G j7,yS X G n4,yS X G m6,yS X G p2,yS X G q3,yS X G p3,yS X G p1,yS X G q4,yS X G k8,yS X G r4,yS X G h6,yS X G h4,yS X G q1,yY X G f8,yY X G s8,yY X G m9,yY X G p4,yY X G p8,yY X G r2,⟨_,yY X G l7,_,rfl⟩,r7,g4,k9,k5,f7,f4,j9,n6,m1,g1,n9,h8,r8,s7,l3,k3,m5,s1,λs v=>.of_eq rfl⟩⟩
end Cw
end
open PySem PySem.W PyProof.Rows
/-! Names that the head would else lay equations under: the proof wants none of them. -/
namespace PySem.W.Fast
local macro_rules|`(command|include $x)=>`(def $x:ident:=Nat)|`(command|include $x $y $z*)=>`(def $x:ident:=Nat
include $y $z*)
include tw6110921904001236759 tw8183724032700678449 tw9545400792465912781 tw11015767681361091916 tw994236935025005659 tw15010562426853230652 tw4360169578197799029 tw8702501011039385750 tw8284446500011507798 tw13994063430013202730 tw6624055971594743842 tw6701510718017228090 tw1973699837796012747 tw402527836654981206 tw13194034178184219543 tw3923895001543608040 tw9547936315621296730 tw7791478790587525840 tw187002318263426817 tw16479623106076216412 tw11004214747905718117 tw11744858081952074542 tw15107183621985712611 tw14957140599667233340 tw9716646573846744331 tw2152040555322356292 tw7431789867215543522 tw3756670722660659408 tw6856373443169540681 tw9687769342201415657 tw8553348260645602988 tw17095392232797891866 tw17992760993871540300 tw17505180157620979437 tw10184504236369550976 tw29107618663053007 tw5277215725521994706 tw964605114056245634 tw14373056470134347764 tw9408214416775507863 tw17395904196774073334 tw62474637934654437 tw13379748035929152499 tw3186749606712179865 tw16939684529317865061 tw1465755111096889493 tw15963706527473627534 tw13068164670099789242 tw6718645733102385916 tw11569211994924772995 tw6373073380272930042 tw6956273914924132779 tw6269850657463947902 tw15401180959035839571 tw8448825304553802132 tw4509541321085353365 tw1757691671448197293 tw17655401886180894596 tw6323739685402583018 tw6184832529533535135 tw7556403244425509147 tw1858866807565773486 tw5154287538471741416 tw15415179615469597256 tw1892393375095827969 tw6315292591310958504 tw8921855335834676213 tw10077539373491944455 tw379576387923011953 tw552590678334470898 tw13178681835254806936 tw8477679579415735294 tw16275718945360363098 tw13435228719975638039 tw8497847096508142296 tw12028740775639495423 tw6339299383740872621 tw16603075404639566419 tw12768874459198961248 tw1653717990710889454 tw6570392798085948057 tw16920485086614747454 tw1110201479471668309 tw1320313205477380708 tw12977657664868902666 tw2650109521185993942 tw11052039316945879853 tw6629484176027518403 tw6684988337880197298 tw8785533282090690770 tw185414507968802631 tw1814656704753803680 tw16129550203559003207 tw12051231888334452744 tw1122497588919544761 tw5853382646716929789 tw10735268529839874497 tw8180955638520618829 tw5294534613091678801 tw6422747557217184993 tw8281466263673163213 tw4814529175817394101 tw3526224933650533329 tw12791624016708781541 tw9089131725094315400 tw6069077686935171860 tw14367499840744154838 tw12433819549137870330 tw6463713816513444424 tw13362277501355151271 tw2186309589221154370 tw3734124580554975228 tw13906567707409055933 tw11904363986585499272 tw4656137029174243569 tw1524912017771431342 tw4231991565143084092 tw9761160231371767554 tw11438387308723362107 tw1305997852698460316 tw16315553159279667632 tw10070556811628113510 tw7429659708799569456 tw9624930601563011667 tw18441068532408498976 tw17449225869775217639 tw8571610903990210091 tw2523130829538209557 tw5528408981905113782 tw5057067730986098468 tw7470305409929481087 tw12434747376097453589 tw2612549275590745618 tw16950277793054401916 tw8693191544529091453 tw5059948451226087857 tw8638530298345846078 tw8213089622448125129 tw5154529560429176700 tw523815511541020636 tw12556691529360569876 tw8298869049515538202 tw7589802563779197956 tw2867584679291274559 tw1429272790008500385 tw15511150601753721288 tw15135638060942390881 tw4162755136410541372 tw10426033647988668862 tw10290670345038031941 tw3214509759811933263 tw10912150824762317564 tw14264976987073843782 tw1536148964734277889 tw16356621407642584199 tw1457305580959416029 tw1692602543933134801 tw6235012626069381148 tw1959588458988971373 tw10763182437001770414 tw5685989759045667894 tw5712316927204613828 tw2086164329582398577 tw9683378656659569062 tw9249852788021713288 tw12805483179041082142 tw13294574717726129950 tw2760322334917072487 tw5759703126493277165 tw5194626865559098180 tw3103779782595439544 tw16596429424250401465 tw815912201191319666 tw2941037261443308933 tw14041871896818675992 tw17524275788720028678 tw16784971292406233623 tw2053363553343593870 tw15283364148224376023 tw6812899106528522320 tw4904445034673500103 tw441174084444112011 tw762710711622824210 tw420226201278011301 tw11965912049166892514 tw6761610721102095902 tw16979934269412238509 tw17475435462288091103 tw15831804304585370097 tw9775261679835975502 tw14042118806332515752 tw162576270041918307 tw18160117531725836323 tw17123152518285185933 tw4200796161600043854 tw4922082904305770932 tw14208370830949470307 tw4942905636696185377 tw15527777140833349961 tw11347676752348734927 tw680629981853375833 tw7767741317649843655 tw5242159365979012802 tw10702860243141032651 tw6181296100649470041 tw6263916492099551612 tw9426274374732670665 tw8146933625005743341 tw8790376664262834784 tw14049127896051802541 tw1224068172413035589 tw13141326586276607257 tw9478500726135754733 tw18247555795558370202 tw16084028365370165744 tw5839294136061596207 tw6017793103826588943 tw11303853501496270181 tw15629861165003783528 tw455602189171777724 tw7908447578867639905 tw15983609150454757615 tw16280302590364224664 tw4533138745261426783 tw12583630602564166452 tw11653395482133330419 tw7110087867197109858 tw3270393377104790029 tw1197129996383085361 tw15746571867637752066 tw16856479459294418299 tw7853801418014141411 tw8383068480660255647 tw15047886974532754899 tw13666057275319135061 tw12475156819814029371 tw14274129124173291276 tw18413016449367419997 tw16951187642061971524 tw17151266323628833215 tw4935863481219739074 tw8395723215639165893 tw5070077622227634818 tw4498997064945426373 tw7895191455791413945 tw1899748836802488565
end PySem.W.Fast
set_option maxRecDepth 100000 in
set_option maxHeartbeats 0 in
theorem PySem.Challenge.cw_crystalwords_k44_other_makers_holds : PySem.Challenge.rw_crystalwords_k44_other_makers.Holds := by
 w_on; o_law; k_head; (case hw=>w_witness2)
 k_fill
 refine L2.walkB (l:=PySem.Challenge.rw_crystalwords_k44_other_makers) (k:=18) (x := "_law_script") rfl rfl ⟨rfl,by decide,by decide⟩ (λ w h Y=>PySem.W.kIn_of Y) ?F
 case F =>
  intro w mg fa h KX G hmg
  have T:∃ t,Cw.Txt (L2.KOf KX) mg t:=by
   dsimp only [L2.KOf]
   refine' Cw.txt_mk KX G ?n_15 ?n_19 ?n_18 ?n_12 ?n_1a ?n_9 ?n_w ?F_w ?n_3 ?F_3 ?n_t ?F_t ?n_x ?F_x ?n_h ?F_h ?n_j ?F_j ?n_16 ?F_16 ?n_z ?F_z ?n_v ?F_v ?n_5 ?F_5 ?n_u ?F_u ?n_13 ?F_13 ?n_11 ?F_11 ?n_10 ?F_10 ?n_y ?F_y ?n_14 ?F_14 ?n_m ?F_m ?n_k ?F_k ?n_r ?F_r ?n_0 ?l_0 ?t_Group___init__ ?c_0 ?k_0 ?n_7 ?F_7 ?n_1 ?F_1 ?n_8 ?F_8 ?n_4 ?F_4 ?n_d ?F_d ?n_p ?F_p ?n_g ?F_g ?n_n ?F_n ?n_c ?F_c ?n_s ?F_s ?n_e ?F_e ?n_o ?F_o ?n_q ?F_q ?n_f ?F_f ?n_a ?F_a ?n_b ?F_b ?n_l ?F_l ?n_2 ?F_2 ?n_i ?F_i ?n_6 ?F_6 ?n_17 ?F_17 ?n_MOST_MEMBERS ?y_any ?y_sum ?y_zip ?y_enumerate ?y_range ?y_len ?y_abs ?y_isinstance ?y_int ?y_list ?y_tuple ?y_sorted ?y_dict ?y_reversed ?q_f ?q_9 ?q_b ?q_c ?q_d ?q_0 ?q_3 ?q_e ?q_5 ?q_4 ?q_6 ?q_1 ?q_2 ?q_g ?q_h ?q_7 ?q_8 ?q_a
   (case n_15 | n_19 | n_18 | n_12 | n_1a | n_9 | n_w | n_t | n_x | n_h | n_j | n_16 | n_z | n_v | n_5 | n_u | n_13 | n_11 | n_10 | n_y | n_14 | n_m | n_k | n_r | n_4 | n_d | n_p | n_g | n_n | n_c | n_s | n_e | n_o | n_q | n_f | n_a | n_b | n_l | n_2 | n_i | n_6 | n_17=>show _=_; k_is)
   (case n_3 | n_0 | l_0 | t_Group___init__ | c_0 | k_0 | n_7 | n_1 | n_8 | n_MOST_MEMBERS | y_any | y_sum | y_zip | y_enumerate | y_range | y_len | y_abs | y_isinstance | y_int | y_list | y_tuple | y_sorted | y_dict | y_reversed | q_3 | q_e | q_5 | q_4 | q_6=>k_is)
   (case F_w | F_3 | F_t | F_x | F_h | F_j | F_16 | F_z | F_v | F_5 | F_u | F_13 | F_11 | F_10 | F_y | F_14 | F_m | F_k | F_r | F_7 | F_1 | F_8 | F_4 | F_d | F_p | F_g | F_n | F_c | F_s | F_e | F_o | F_q | F_f | F_a | F_b | F_l | F_2 | F_i | F_6 | F_17=>refine' L2.fun_mk ?l ?c ?k; (case l=>k_is); (case c=>k_is); (case k=>k_is))
   (case q_f | q_g | q_h=>kit_is)
   (case q_9 | q_b=>k_exc)
   (case q_c | q_d=>exact ⟨by k_is,by k_is,by k_is,by k_is⟩)
   (case q_0 | q_1 | q_2=>exact ⟨by k_is,by k_is,by k_is⟩)
   (case q_7=>exact ⟨by kernel_rfl,by k_is,by kernel_rfl,by kernel_rfl⟩)
   (case q_8=>exact ⟨by k_is,by kernel_rfl,by k_is⟩)
   (case q_a=>kts_exm)
  obtain ⟨t,T⟩:=T
  have e0:=hmg.symm.trans T.F_17.m
  cases e0
  exact ⟨t.d_17,T.bl,λ base kb nb=>Cw.ok_17 T⟩
#print axioms PySem.Challenge.cw_crystalwords_k44_other_makers_holds